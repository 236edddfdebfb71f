
/- Vectors in memory; is it one? What a number brings, by a measure. -/
import Derived.Test.YtjdlocmchmeipaaBaseW
import Derived.Test.YtjdlocmchmeipaaLin
import Derived.Test.YtjdlocmchmeipaaDenseMath
import Derived.Deep.QuietTactic
import Derived.BigQuiet
namespace Go.Proofs.Ytjdlocmchmeipaa
open Go.RowKit

/-- a slice that reads as ints -/
def Ivs (w : World) (A : Option Addr) (n : Nat) (l : List Int) : Prop :=
  l.length = n ∧ ∀ k (h : k < l.length), ∃ b o, A = some ⟨b, o, none⟩ ∧ b < w.heap.size ∧ w.cell? ⟨b, o + k, none⟩ = some (.int .i64 l[k])
theorem Ivs.later {w w' : World} {A : Option Addr} {n : Nat} {l : List Int} (h : Ivs w A n l) (hb : Below w.heap.size w w') : Ivs w' A n l :=
  ⟨h.1, fun k hk => by
    obtain ⟨b, o, e, hl, h0⟩ := h.2 k hk
    exact ⟨b, o, e, Nat.lt_of_lt_of_le hl hb.size, (hb.cell (p := ⟨b, o + k, none⟩) hl).trans h0⟩⟩
theorem Ivs.turned {S : Nat → Prop} {w w' : World} {A : Option Addr} {n : Nat} {l : List Int} (h : Ivs w A n l) (hT : Turned S w w') (hS : ∀ ad, A = some ad → ¬ S ad.block) : Ivs w' A n l :=
  ⟨h.1, fun k hk => by
    obtain ⟨b, o, e, hl, h0⟩ := h.2 k hk
    exact ⟨b, o, e, Nat.lt_of_lt_of_le hl hT.size, (hT.cell (p := ⟨b, o + k, none⟩) hl (hS ⟨b, o, none⟩ e)).trans h0⟩⟩

theorem vec_len {l : List Int} {n : Nat} (h : l.length = n) (hn : n ≠ 8) : DenM.vec l = false := by
  unfold DenM.vec
  rw [decide_eq_false (by omega)]
  rfl
theorem all_take {l : List Int} {k : Nat} (h : k < l.length) : (l.take (k + 1)).all DenM.ok = ((l.take k).all DenM.ok && DenM.ok l[k]) := by
  rw [List.take_succ_eq_append_getElem h, List.all_append]
  simp
theorem vec_not {l : List Int} {k : Nat} (h : k < l.length) (hk : DenM.ok l[k] = false) : DenM.vec l = false := by
  unfold DenM.vec
  rw [show l.all DenM.ok = false from List.all_eq_false.2 ⟨_, List.getElem_mem h, by simp [hk]⟩]
  simp
set_option maxHeartbeats 1000000 in
set_option maxRecDepth 100000 in
theorem dright_any (A : Option Addr) (n cp : Nat) (l : List Int) (w : World) (h : Ivs w A n l) :
    Calls Try.prog 15 #[.slice A n cp] w fun e w' => e = .returned (.bool (DenM.vec l)) ∧ w = w' := by
  by_cases hn : n = 8
  · subst hn
    have hlen := h.1
    have H := Lib.hid h
    have HL := Lib.hid hlen
    clear h hlen
    go_enter Try.func15, Try.ntmps15
    go_wp2
    go_loop [10] (fun x => ∃ k : Nat, x = .int .i64 k ∧ k ≤ 8 ∧ (l.take k).all DenM.ok = true) (fun x => 8 - (intOf x).toNat)
    case atStart => exact ⟨0, rfl, by omega, rfl⟩
    case round =>
      obtain ⟨k, rfl, hk, hall⟩ := hrel
      have HA := Lib.hid hall
      clear hall
      by_cases hlt : k < 8
      · have hmi : (k : Int) < 8 := by omega
        have hkl : k < l.length := by rw [HL.out]; exact hlt
        obtain ⟨b, o, rfl, hbl, hc⟩ := H.out.2 k hkl
        obtain ⟨x, hx⟩ : ∃ x, x = l[k] := ⟨_, rfl⟩
        rw [← hx] at hc
        have hnx := all_take hkl
        have HNX := Lib.hid hnx
        have HX := Lib.hid hx
        clear hnx hx
        by_cases h1 : x < -127
        · have hd : decide (x < -127) = true := decide_eq_true h1
          have HF := Lib.hid (show DenM.vec l = false from vec_not hkl (by rw [← HX.out]; unfold DenM.ok; simp; omega))
          go_wp2
          go_ret
          exact ⟨by rw [HF.out]; rfl, rfl⟩
        · have hd : decide (x < -127) = false := decide_eq_false h1
          by_cases h2 : 127 < x
          · have hd2 : decide (127 < x) = true := decide_eq_true h2
            have HF := Lib.hid (show DenM.vec l = false from vec_not hkl (by rw [← HX.out]; unfold DenM.ok; simp; omega))
            go_wp2
            go_ret
            exact ⟨by rw [HF.out]; rfl, rfl⟩
          · have hd2 : decide (127 < x) = false := decide_eq_false h2
            have hok : DenM.ok x = true := (DenM.ok_iff x).2 ⟨by omega, by omega⟩
            have HOK := Lib.hid hok
            clear hok
            go_wp2
            go_round
            case rel => exact ⟨k + 1, by go_num, by omega, by rw [HNX.out, HA.out, ← HX.out, HOK.out]; rfl⟩
            case measure => simp [intOf]; omega
      · have hmi : ¬ (k : Int) < 8 := by omega
        obtain rfl : k = 8 := by omega
        have HV : Hid (DenM.vec l = true) := Lib.hid (by
          unfold DenM.vec
          have := HA.out
          rw [List.take_of_length_le (by rw [HL.out]; exact Nat.le_refl _)] at this
          rw [this, HL.out]
          rfl)
        go_wp2
        go_ret
        exact ⟨by rw [HV.out]; rfl, rfl⟩
  · rw [vec_len h.1 hn]
    have hd : ((n : Int) != 8) = true := by simp; omega
    have hd2 : ((n : Int) == 8) = false := by simp; omega
    clear h
    go_enter Try.func15, Try.ntmps15
    go_wp2
    go_ret
    exact ⟨rfl, rfl⟩

set_option maxHeartbeats 1000000 in
set_option maxRecDepth 100000 in
theorem brings_prod (a n : Int) (w : World) (ha : -127 ≤ a ∧ a ≤ 127) (hn : -127 ≤ n ∧ n ≤ 127) :
    Calls Try.prog 40 #[.int .i64 a, .int .i64 n] w fun e w' => e = .returned (.int .i64 (DenM.brg false a n)) ∧ w = w' := by
  have hb := DenM.brg_bd false ha hn
  obtain ⟨p, hp⟩ : ∃ p, p = DenM.brg false a n := ⟨_, rfl⟩
  rw [← hp] at hb ⊢
  have hq : a * n = p := by rw [hp]; rfl
  obtain ⟨h1, _, h3⟩ := hb
  clear hp
  go_enter Try.func40, Try.ntmps40
  go_wp2
  go_ret
  exact ⟨rfl, rfl⟩
set_option maxHeartbeats 1000000 in
set_option maxRecDepth 100000 in
theorem brings_dist (a n : Int) (w : World) (ha : -127 ≤ a ∧ a ≤ 127) (hn : -127 ≤ n ∧ n ≤ 127) :
    Calls Try.prog 42 #[.int .i64 a, .int .i64 n] w fun e w' => e = .returned (.int .i64 (DenM.brg true a n)) ∧ w = w' := by
  have hb := DenM.brg_bd true ha hn
  obtain ⟨p, hp⟩ : ∃ p, p = DenM.brg true a n := ⟨_, rfl⟩
  rw [← hp] at hb ⊢
  have hd : ∃ d, d = a - n ∧ -254 ≤ d ∧ d ≤ 254 := ⟨_, rfl, by omega, by omega⟩
  obtain ⟨d, hd, hd1, hd2⟩ := hd
  have hq : -d * d = p := by rw [hp, hd]; unfold DenM.brg; simp; grind
  have hq2 : a - n = d := hd.symm
  obtain ⟨h1, _, h3⟩ := hb
  clear hp hd
  go_enter Try.func42, Try.ntmps42
  go_wp2
  go_ret
  exact ⟨rfl, rfl⟩
set_option maxHeartbeats 1000000 in
set_option maxRecDepth 100000 in
theorem most_prod (a : Int) (w : World) (ha : -127 ≤ a ∧ a ≤ 127) :
    Calls Try.prog 41 #[.int .i64 a] w fun e w' => e = .returned (.int .i64 (DenM.most false a)) ∧ w = w' := by
  obtain ⟨p, hp⟩ : ∃ p, p = DenM.most false a := ⟨_, rfl⟩
  rw [← hp]
  unfold DenM.most at hp
  simp only [Bool.false_eq_true, if_false] at hp
  by_cases c : a < 0
  · have hc : a < -a := by omega
    have hc2 : ¬ -a < a := by omega
    have hc3 : ¬ -a ≤ a := by omega
    have hq : 127 * -a = p := by rw [hp]; omega
    have hq2 : -(127 * a) = p := by omega
    clear hp
    go_enter Try.func41, Try.ntmps41
    go_wp2
    go_ret
    exact ⟨rfl, rfl⟩
  · have hc : -a ≤ a := by omega
    have hc2 : ¬ a < -a := by omega
    have hq : 127 * a = p := by rw [hp]; omega
    clear hp
    go_enter Try.func41, Try.ntmps41
    go_wp2
    go_ret
    exact ⟨rfl, rfl⟩
set_option maxHeartbeats 1000000 in
set_option maxRecDepth 100000 in
theorem most_dist (a : Int) (w : World) :
    Calls Try.prog 43 #[.int .i64 a] w fun e w' => e = .returned (.int .i64 (DenM.most true a)) ∧ w = w' := by
  have e0 : DenM.most true a = 0 := rfl
  rw [e0]
  go_enter Try.func43, Try.ntmps43
  go_wp2
  go_ret
  exact ⟨rfl, rfl⟩
end Go.Proofs.Ytjdlocmchmeipaa
