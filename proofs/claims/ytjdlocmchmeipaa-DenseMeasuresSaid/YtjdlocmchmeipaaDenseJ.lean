
/- The document's side: is it a vector, a score; rows as the document has them. -/
import Derived.Test.YtjdlocmchmeipaaDenseI
namespace Go.Proofs.Ytjdlocmchmeipaa
open Go.RowKit

set_option maxHeartbeats 1000000 in
set_option maxRecDepth 100000 in
theorem refright7_any (A : Option Addr) (n cp : Nat) (l : List Int) (w : World) (h : Ivs w A n l) (hn : n ≤ 1000000) :
    Calls Try.prog 16 #[.slice A n cp] w fun e w' => e = .returned (.bool (DenM.vec l)) ∧ w' = w := by
  have H := Lib.hid h
  have HL := Lib.hid h.1
  clear h
  go_enter Try.func16, Try.ntmps16
  go_wp2
  go_loop [3] (fun x => ∃ k : Nat, x = .int .i64 k ∧ k ≤ n ∧ (l.take k).all DenM.ok = true) (fun x => n - (intOf x).toNat)
  case atStart => exact ⟨0, rfl, by omega, rfl⟩
  case round =>
    obtain ⟨k, rfl, hk, hall⟩ := hrel
    have HA := Lib.hid hall
    clear hall
    by_cases hlt : k < n
    · have hmi : (k : Int) < (n : Int) := by omega
      have hkl : k < l.length := by rw [HL.out]; exact hlt
      obtain ⟨b, o, rfl, hbl, hc⟩ := H.out.2 k hkl
      obtain ⟨x, hx⟩ : ∃ x, x = l[k] := ⟨_, rfl⟩
      rw [← hx] at hc
      have hnx := all_take hkl
      have HNX := Lib.hid hnx
      have HX := Lib.hid hx
      clear hnx hx
      by_cases h1 : x < -127
      · have hd : decide (x < -127) = true := decide_eq_true h1
        have HF := Lib.hid (show DenM.vec l = false from vec_not hkl (by rw [← HX.out]; unfold DenM.ok; simp; omega))
        go_wp2
        go_ret
        exact ⟨by rw [HF.out]; rfl, rfl⟩
      · have hd : decide (x < -127) = false := decide_eq_false h1
        by_cases h2 : 127 < x
        · have hd2 : decide (127 < x) = true := decide_eq_true h2
          have HF := Lib.hid (show DenM.vec l = false from vec_not hkl (by rw [← HX.out]; unfold DenM.ok; simp; omega))
          go_wp2
          go_ret
          exact ⟨by rw [HF.out]; rfl, rfl⟩
        · have hd2 : decide (127 < x) = false := decide_eq_false h2
          have hok : DenM.ok x = true := (DenM.ok_iff x).2 ⟨by omega, by omega⟩
          have HOK := Lib.hid hok
          clear hok
          go_wp2
          go_round
          case rel => exact ⟨k + 1, by go_num, by omega, by rw [HNX.out, HA.out, ← HX.out, HOK.out]; rfl⟩
          case measure => simp [intOf]; omega
    · have hmi : ¬ (k : Int) < (n : Int) := by omega
      obtain rfl : k = n := by omega
      have HF : Hid (DenM.vec l = decide (k = 8)) := Lib.hid (by
        unfold DenM.vec
        have := HA.out
        rw [List.take_of_length_le (by rw [HL.out]; exact Nat.le_refl _)] at this
        rw [this, HL.out]
        simp)
      by_cases h8 : k = 8
      · subst h8
        go_wp2
        go_ret
        exact ⟨by rw [HF.out]; rfl, rfl⟩
      · have hd : ((k : Int) == 8) = false := by simp; omega
        have hd2 : decide ((k : Int) = 8) = false := decide_eq_false (by omega)
        have HF2 : Hid (DenM.vec l = false) := Lib.hid (by rw [HF.out]; exact decide_eq_false h8)
        clear h8
        go_wp2
        go_ret
        exact ⟨by rw [HF2.out]; rfl, rfl⟩
def scE (x : Int) (a b : List Int) : Int := if mOf x = none then 1 else if (DenM.vec a && DenM.vec b) = true then 0 else 2
def scV (x : Int) (a b : List Int) : Int := if scE x a b = 0 then DenM.score ((mOf x).getD false) a b else 0
theorem dscore_any (x : Int) (A1 A2 : Option Addr) (n1 n2 c1 c2 : Nat) (a b : List Int) (w : World) (h1 : Ivs w A1 n1 a) (h2 : Ivs w A2 n2 b) :
    Calls Try.prog 8 #[.int .i64 x, .slice A1 n1 c1, .slice A2 n2 c2] w fun e w' => e = .returned (.tuple #[.int .i64 (scV x a b), .int .i64 (scE x a b)]) ∧ Below w.heap.size w w' := by
  unfold scV
  cases h : mOf x with
  | none =>
    have e1 : scE x a b = 1 := by unfold scE; rw [if_pos h]
    rw [e1, if_neg (by decide)]
    exact dscore_range x _ _ w h
  | some m =>
    have hx := mOf_some h
    by_cases h3 : (DenM.vec a && DenM.vec b) = true
    · have e1 : scE x a b = 0 := by unfold scE; rw [if_neg (by rw [h]; simp), if_pos h3]
      rw [e1, if_pos rfl, hx]
      rw [Bool.and_eq_true] at h3
      exact dscore_ok m A1 A2 n1 n2 c1 c2 a b w h1 h2 h3.1 h3.2
    · have e1 : scE x a b = 2 := by unfold scE; rw [if_neg (by rw [h]; simp), if_neg h3]
      rw [e1, if_neg (by decide), hx]
      exact dscore_form m A1 A2 n1 n2 c1 c2 a b w h1 h2 (by simpa using h3)
set_option maxHeartbeats 2000000 in
set_option maxRecDepth 100000 in
theorem refscore7_ok (m : Bool) (A1 A2 : Option Addr) (c1 c2 : Nat) (a b : List Int) (w : World) (h1 : Ivs w A1 8 a) (h2 : Ivs w A2 8 b) (ha : DenM.vec a = true) (hb : DenM.vec b = true) :
    Calls Try.prog 9 #[.int .i64 (mI m), .slice A1 8 c1, .slice A2 8 c2] w fun e w' => e = .returned (.tuple #[.int .i64 (DenM.score m a b), .int .i64 0]) ∧ Below w.heap.size w w' := by
  have R1 := Lib.hid (fun W (hW : Ivs W A1 8 a) => refright7_any A1 8 c1 a W hW (by omega))
  have R2 := Lib.hid (fun W (hW : Ivs W A2 8 b) => refright7_any A2 8 c2 b W hW (by omega))
  rw [ha] at R1
  rw [hb] at R2
  obtain ⟨hal, hao⟩ := (DenM.vec_iff a).1 ha
  obtain ⟨hbl, hbo⟩ := (DenM.vec_iff b).1 hb
  have H1 := Lib.hid h1
  have H2 := Lib.hid h2
  have HA := Lib.hid ha
  have HB := Lib.hid hb
  have HAL := Lib.hid hal
  have HBL := Lib.hid hbl
  have HAO := Lib.hid hao
  have HBO := Lib.hid hbo
  clear h1 h2 ha hb hal hbl hao hbo
  cases m with
  | false =>
    unfold mI
    go_enter Try.func9, Try.ntmps9
    go_wp2_with fail
    refine (R1.out _ H1.out).mono ?_
    rintro e w3 ⟨rfl, hw3⟩
    have hw4 := hw3.symm
    subst hw4
    go_wp2_with fail
    refine (R2.out _ H2.out).mono ?_
    rintro e w3 ⟨rfl, hw3⟩
    have hw4 := hw3.symm
    subst hw4
    go_wp2_with fail
    go_loopw [8, 9] (fun x y wr => ∃ (j : Nat) (z : Int), x = .int .i64 z ∧ z = DenM.part false a b j ∧ y = .int .i64 j ∧ j ≤ 8 ∧ Below w.heap.size w wr) (fun _ y _ => 8 - (intOf y).toNat)
    case atStart => exact ⟨0, 0, rfl, rfl, rfl, by omega, Below.refl _ _⟩
    case round =>
      obtain ⟨j, z, rfl, hz, rfl, hj, hbw⟩ := hrel
      have HW := Lib.hid hbw
      by_cases hlt8 : j < 8
      · have hmi : (j : Int) < 8 := by omega
        obtain ⟨b1, o1, rfl, hl1, hc1⟩ := (H1.out.later hbw).2 j (by rw [HAL.out]; exact hlt8)
        obtain ⟨b2, o2, rfl, hl2, hc2⟩ := (H2.out.later hbw).2 j (by rw [HBL.out]; exact hlt8)
        have ha1 := HAO.out _ (List.getElem_mem (show j < a.length by rw [HAL.out]; exact hlt8))
        have hb1 := HBO.out _ (List.getElem_mem (show j < b.length by rw [HBL.out]; exact hlt8))
        have hnx := DenM.part_next (m := false) (a := a) (b := b) j (by rw [HAL.out]; exact hlt8) (by rw [HBL.out]; exact hlt8)
        have hpn := DenM.part_bd (m := false) HA.out HB.out (j + 1) (by omega)
        obtain ⟨x, hx⟩ : ∃ x, x = a[j]'(by rw [HAL.out]; exact hlt8) := ⟨_, rfl⟩
        obtain ⟨y, hy⟩ : ∃ y, y = b[j]'(by rw [HBL.out]; exact hlt8) := ⟨_, rfl⟩
        rw [← hx] at hc1 ha1 hnx
        rw [← hy] at hc2 hb1 hnx
        rw [← hz] at hnx
        obtain ⟨z2, hz2⟩ : ∃ z2, z2 = DenM.part false a b (j + 1) := ⟨_, rfl⟩
        rw [← hz2] at hnx hpn
        have hbd := DenM.brg_bd false ha1 hb1
        obtain ⟨r, hr⟩ : ∃ r, r = x * y := ⟨_, rfl⟩
        have hr2 : x * y = r := hr.symm
        have hq : DenM.brg false x y = r := hr.symm
        rw [hq] at hnx hbd
        have hs : z + r = z2 := hnx.symm
        obtain ⟨hbd1, _, hbd2⟩ := hbd
        clear hr hq
        have HZ2 := Lib.hid hz2
        have hzb : -600000 ≤ z2 ∧ z2 ≤ 600000 := by omega
        obtain ⟨hzb1, hzb2⟩ := hzb
        clear hz hbw hx hy hz2 hnx hpn hb1 ha1
        go_wp2_with fail
        go_quiet (fail)
        go_wp2
        go_roundw
        case rel => exact ⟨j + 1, z2, rfl, HZ2.out, by go_num, by omega, HW.out.trans ((below_drewN_p _ _).mono HW.out.size)⟩
        case measure => simp [intOf]; omega
      · have hmi : ¬ (j : Int) < 8 := by omega
        obtain rfl : j = 8 := by omega
        have HF := Lib.hid (show z = DenM.score false a b by rw [hz]; exact DenM.part_end HAL.out HBL.out)
        clear hz
        go_wp2
        go_ret2
        exact ⟨by rw [HF.out]; rfl, hbw⟩
  | true =>
    unfold mI
    go_enter Try.func9, Try.ntmps9
    go_wp2_with fail
    refine (R1.out _ H1.out).mono ?_
    rintro e w3 ⟨rfl, hw3⟩
    have hw4 := hw3.symm
    subst hw4
    go_wp2_with fail
    refine (R2.out _ H2.out).mono ?_
    rintro e w3 ⟨rfl, hw3⟩
    have hw4 := hw3.symm
    subst hw4
    go_wp2_with fail
    go_loopw [8, 9] (fun x y wr => ∃ (j : Nat) (z : Int), x = .int .i64 z ∧ z = DenM.part true a b j ∧ y = .int .i64 j ∧ j ≤ 8 ∧ Below w.heap.size w wr) (fun _ y _ => 8 - (intOf y).toNat)
    case atStart => exact ⟨0, 0, rfl, rfl, rfl, by omega, Below.refl _ _⟩
    case round =>
      obtain ⟨j, z, rfl, hz, rfl, hj, hbw⟩ := hrel
      have HW := Lib.hid hbw
      by_cases hlt8 : j < 8
      · have hmi : (j : Int) < 8 := by omega
        obtain ⟨b1, o1, rfl, hl1, hc1⟩ := (H1.out.later hbw).2 j (by rw [HAL.out]; exact hlt8)
        obtain ⟨b2, o2, rfl, hl2, hc2⟩ := (H2.out.later hbw).2 j (by rw [HBL.out]; exact hlt8)
        have ha1 := HAO.out _ (List.getElem_mem (show j < a.length by rw [HAL.out]; exact hlt8))
        have hb1 := HBO.out _ (List.getElem_mem (show j < b.length by rw [HBL.out]; exact hlt8))
        have hnx := DenM.part_next (m := true) (a := a) (b := b) j (by rw [HAL.out]; exact hlt8) (by rw [HBL.out]; exact hlt8)
        have hpn := DenM.part_bd (m := true) HA.out HB.out (j + 1) (by omega)
        obtain ⟨x, hx⟩ : ∃ x, x = a[j]'(by rw [HAL.out]; exact hlt8) := ⟨_, rfl⟩
        obtain ⟨y, hy⟩ : ∃ y, y = b[j]'(by rw [HBL.out]; exact hlt8) := ⟨_, rfl⟩
        rw [← hx] at hc1 ha1 hnx
        rw [← hy] at hc2 hb1 hnx
        rw [← hz] at hnx
        obtain ⟨z2, hz2⟩ : ∃ z2, z2 = DenM.part true a b (j + 1) := ⟨_, rfl⟩
        rw [← hz2] at hnx hpn
        have hbd := DenM.brg_bd true ha1 hb1
        have hdd : ∃ d, d = x - y ∧ -254 ≤ d ∧ d ≤ 254 := ⟨_, rfl, by omega, by omega⟩
        obtain ⟨d, hd, hd1, hd2⟩ := hdd
        obtain ⟨r, hr⟩ : ∃ r, r = d * d := ⟨_, rfl⟩
        have hq : DenM.brg true x y = -r := by rw [hr, hd]; rfl
        rw [hq] at hnx hbd
        have hr2 : d * d = r := hr.symm
        have hd3 : x - y = d := hd.symm
        have hs : z - r = z2 := by omega
        have hbd1 : -64516 ≤ r ∧ r ≤ 64516 := by
          have := DenM.sq_bd ha1 hb1
          rw [← hd, ← hr] at this
          omega
        obtain ⟨hbd2, hbd3⟩ := hbd1
        clear hr hq hd hbd
        have HZ2 := Lib.hid hz2
        have hzb : -600000 ≤ z2 ∧ z2 ≤ 600000 := by omega
        obtain ⟨hzb1, hzb2⟩ := hzb
        clear hz hbw hx hy hz2 hnx hpn hb1 ha1
        go_wp2_with fail
        go_quiet (fail)
        go_wp2
        go_roundw
        case rel => exact ⟨j + 1, z2, rfl, HZ2.out, by go_num, by omega, HW.out.trans ((below_drewN_p _ _).mono HW.out.size)⟩
        case measure => simp [intOf]; omega
      · have hmi : ¬ (j : Int) < 8 := by omega
        obtain rfl : j = 8 := by omega
        have HF := Lib.hid (show z = DenM.score true a b by rw [hz]; exact DenM.part_end HAL.out HBL.out)
        clear hz
        go_wp2
        go_ret2
        exact ⟨by rw [HF.out]; rfl, hbw⟩
end Go.Proofs.Ytjdlocmchmeipaa
