/- Own texts, merged (14 of 42). -/
import Derived.Test.YtddnnhfffmhpmaaGreatDoorSm2
import Derived.Test.YtddnnhfffmhpmaaGreatDoorSm6
import Derived.Test.YtddnnhfffmhpmaaGreatDoorSm13
import Derived.Deep.QuietTactic
import Derived.BigQuiet

/- Vectors: is it one? The program's answer and the document's. (Split off DenseMath, DenseA and DenseJ in round 9, for layers that ask no more of dense.) -/
namespace Go.Proofs.YtddnnhfffmhpmaaGreatDoor.DenM
def ok (n : Int) : Bool := decide (-127 ≤ n) && decide (n ≤ 127)
def vec (v : List Int) : Bool := decide (v.length = 8) && v.all ok
theorem ok_iff (n : Int) : ok n = true ↔ -127 ≤ n ∧ n ≤ 127 := by unfold ok; simp
theorem vec_iff (v : List Int) : vec v = true ↔ v.length = 8 ∧ ∀ n ∈ v, -127 ≤ n ∧ n ≤ 127 := by
  unfold vec
  simp [ok_iff]
end Go.Proofs.YtddnnhfffmhpmaaGreatDoor.DenM
namespace Go.Proofs.YtddnnhfffmhpmaaGreatDoor
open Go.RowKit

theorem vec_len {l : List Int} {n : Nat} (h : l.length = n) (hn : n ≠ 8) : DenM.vec l = false := by
  unfold DenM.vec
  rw [decide_eq_false (by omega)]
  rfl
theorem all_take {l : List Int} {k : Nat} (h : k < l.length) : (l.take (k + 1)).all DenM.ok = ((l.take k).all DenM.ok && DenM.ok l[k]) := by
  rw [List.take_succ_eq_append_getElem h, List.all_append]
  simp
theorem vec_not {l : List Int} {k : Nat} (h : k < l.length) (hk : DenM.ok l[k] = false) : DenM.vec l = false := by
  unfold DenM.vec
  rw [show l.all DenM.ok = false from List.all_eq_false.2 ⟨_, List.getElem_mem h, by simp [hk]⟩]
  simp
set_option maxHeartbeats 1000000 in
set_option maxRecDepth 100000 in
theorem dright_any (A : Option Addr) (n cp : Nat) (l : List Int) (w : World) (h : Ivs w A n l) :
    Calls Tryz.prog 163 #[.slice A n cp] w fun e w' => e = .returned (.bool (DenM.vec l)) ∧ w = w' := by
  by_cases hn : n = 8
  · subst hn
    have hlen := h.1
    have H := Lib.hid h
    have HL := Lib.hid hlen
    clear h hlen
    go_enter Tryz.func163, Tryz.ntmps163
    go_wp2
    go_loop [10] (fun x => ∃ k : Nat, x = .int .i64 k ∧ k ≤ 8 ∧ (l.take k).all DenM.ok = true) (fun x => 8 - (intOf x).toNat)
    case atStart => exact ⟨0, rfl, by omega, rfl⟩
    case round =>
      obtain ⟨k, rfl, hk, hall⟩ := hrel
      have HA := Lib.hid hall
      clear hall
      by_cases hlt : k < 8
      · have hmi : (k : Int) < 8 := by omega
        have hkl : k < l.length := by rw [HL.out]; exact hlt
        obtain ⟨b, o, rfl, hbl, hc⟩ := H.out.2 k hkl
        obtain ⟨x, hx⟩ : ∃ x, x = l[k] := ⟨_, rfl⟩
        rw [← hx] at hc
        have hnx := all_take hkl
        have HNX := Lib.hid hnx
        have HX := Lib.hid hx
        clear hnx hx
        by_cases h1 : x < -127
        · have hd : decide (x < -127) = true := decide_eq_true h1
          have HF := Lib.hid (show DenM.vec l = false from vec_not hkl (by rw [← HX.out]; unfold DenM.ok; simp; omega))
          go_wp2
          go_ret
          exact ⟨by rw [HF.out]; rfl, rfl⟩
        · have hd : decide (x < -127) = false := decide_eq_false h1
          by_cases h2 : 127 < x
          · have hd2 : decide (127 < x) = true := decide_eq_true h2
            have HF := Lib.hid (show DenM.vec l = false from vec_not hkl (by rw [← HX.out]; unfold DenM.ok; simp; omega))
            go_wp2
            go_ret
            exact ⟨by rw [HF.out]; rfl, rfl⟩
          · have hd2 : decide (127 < x) = false := decide_eq_false h2
            have hok : DenM.ok x = true := (DenM.ok_iff x).2 ⟨by omega, by omega⟩
            have HOK := Lib.hid hok
            clear hok
            go_wp2
            go_round
            case rel => exact ⟨k + 1, by go_num, by omega, by rw [HNX.out, HA.out, ← HX.out, HOK.out]; rfl⟩
            case measure => simp [intOf]; omega
      · have hmi : ¬ (k : Int) < 8 := by omega
        obtain rfl : k = 8 := by omega
        have HV : Hid (DenM.vec l = true) := Lib.hid (by
          unfold DenM.vec
          have := HA.out
          rw [List.take_of_length_le (by rw [HL.out]; exact Nat.le_refl _)] at this
          rw [this, HL.out]
          rfl)
        go_wp2
        go_ret
        exact ⟨by rw [HV.out]; rfl, rfl⟩
  · rw [vec_len h.1 hn]
    have hd : ((n : Int) != 8) = true := by simp; omega
    have hd2 : ((n : Int) == 8) = false := by simp; omega
    clear h
    go_enter Tryz.func163, Tryz.ntmps163
    go_wp2
    go_ret
    exact ⟨rfl, rfl⟩

set_option maxHeartbeats 1000000 in
set_option maxRecDepth 100000 in
theorem refright7_any (A : Option Addr) (n cp : Nat) (l : List Int) (w : World) (h : Ivs w A n l) (hn : n ≤ 1000000) :
    Calls Tryz.prog 60 #[.slice A n cp] w fun e w' => e = .returned (.bool (DenM.vec l)) ∧ w' = w := by
  have H := Lib.hid h
  have HL := Lib.hid h.1
  clear h
  go_enter Tryz.func60, Tryz.ntmps60
  go_wp2
  go_loop [3] (fun x => ∃ k : Nat, x = .int .i64 k ∧ k ≤ n ∧ (l.take k).all DenM.ok = true) (fun x => n - (intOf x).toNat)
  case atStart => exact ⟨0, rfl, by omega, rfl⟩
  case round =>
    obtain ⟨k, rfl, hk, hall⟩ := hrel
    have HA := Lib.hid hall
    clear hall
    by_cases hlt : k < n
    · have hmi : (k : Int) < (n : Int) := by omega
      have hkl : k < l.length := by rw [HL.out]; exact hlt
      obtain ⟨b, o, rfl, hbl, hc⟩ := H.out.2 k hkl
      obtain ⟨x, hx⟩ : ∃ x, x = l[k] := ⟨_, rfl⟩
      rw [← hx] at hc
      have hnx := all_take hkl
      have HNX := Lib.hid hnx
      have HX := Lib.hid hx
      clear hnx hx
      by_cases h1 : x < -127
      · have hd : decide (x < -127) = true := decide_eq_true h1
        have HF := Lib.hid (show DenM.vec l = false from vec_not hkl (by rw [← HX.out]; unfold DenM.ok; simp; omega))
        go_wp2
        go_ret
        exact ⟨by rw [HF.out]; rfl, rfl⟩
      · have hd : decide (x < -127) = false := decide_eq_false h1
        by_cases h2 : 127 < x
        · have hd2 : decide (127 < x) = true := decide_eq_true h2
          have HF := Lib.hid (show DenM.vec l = false from vec_not hkl (by rw [← HX.out]; unfold DenM.ok; simp; omega))
          go_wp2
          go_ret
          exact ⟨by rw [HF.out]; rfl, rfl⟩
        · have hd2 : decide (127 < x) = false := decide_eq_false h2
          have hok : DenM.ok x = true := (DenM.ok_iff x).2 ⟨by omega, by omega⟩
          have HOK := Lib.hid hok
          clear hok
          go_wp2
          go_round
          case rel => exact ⟨k + 1, by go_num, by omega, by rw [HNX.out, HA.out, ← HX.out, HOK.out]; rfl⟩
          case measure => simp [intOf]; omega
    · have hmi : ¬ (k : Int) < (n : Int) := by omega
      obtain rfl : k = n := by omega
      have HF : Hid (DenM.vec l = decide (k = 8)) := Lib.hid (by
        unfold DenM.vec
        have := HA.out
        rw [List.take_of_length_le (by rw [HL.out]; exact Nat.le_refl _)] at this
        rw [this, HL.out]
        simp)
      by_cases h8 : k = 8
      · subst h8
        go_wp2
        go_ret
        exact ⟨by rw [HF.out]; rfl, rfl⟩
      · have hd : ((k : Int) == 8) = false := by simp; omega
        have hd2 : decide ((k : Int) = 8) = false := decide_eq_false (by omega)
        have HF2 : Hid (DenM.vec l = false) := Lib.hid (by rw [HF.out]; exact decide_eq_false h8)
        clear h8
        go_wp2
        go_ret
        exact ⟨by rw [HF2.out]; rfl, rfl⟩
end Go.Proofs.YtddnnhfffmhpmaaGreatDoor
