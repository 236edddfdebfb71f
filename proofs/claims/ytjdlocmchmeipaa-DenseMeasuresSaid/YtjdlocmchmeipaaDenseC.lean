
/- A score, as the program tells it. -/
import Derived.Test.YtjdlocmchmeipaaDenseB
import Derived.IntWalk
import Derived.Shelf.Abstract
namespace Go.Proofs.Ytjdlocmchmeipaa
open Go.RowKit

/-- a measure's number: whose it is -/
def mOf (k : Int) : Option Bool := if k = 0 then some false else if k = 1 then some true else none
theorem mOf_some {k : Int} {m : Bool} (h : mOf k = some m) : k = mI m := by
  unfold mOf at h
  split at h
  · injection h with h; subst h; assumption
  · split at h
    · injection h with h; subst h; assumption
    · cases h
theorem mOf_none {k : Int} (h : mOf k = none) : k ≠ 0 ∧ k ≠ 1 := by
  unfold mOf at h
  split at h
  · cases h
  · split at h
    · cases h
    · exact ⟨by assumption, by assumption⟩
theorem brings_any (m : Bool) : ∃ F, brV m = .func (.func F) #[] #[] ∧ (∀ args w, (callFunc F args).run Try.prog w = .ok (.enter F args) w) ∧ ∀ (a n : Int) (w : World), (-127 ≤ a ∧ a ≤ 127) → (-127 ≤ n ∧ n ≤ 127) → Calls Try.prog F #[.int .i64 a, .int .i64 n] w fun e w' => e = .returned (.int .i64 (DenM.brg m a n)) ∧ w' = w := by
  cases m with
  | false => exact ⟨_, rfl, enters_of Try.func40 (by kernel_rfl) rfl, fun a n w ha hn => (brings_prod a n w ha hn).mono (fun _ _ h => ⟨h.1, h.2.symm⟩)⟩
  | true => exact ⟨_, rfl, enters_of Try.func42 (by kernel_rfl) rfl, fun a n w ha hn => (brings_dist a n w ha hn).mono (fun _ _ h => ⟨h.1, h.2.symm⟩)⟩
theorem mosts_any (m : Bool) : ∃ F, moV m = .func (.func F) #[] #[] ∧ (∀ args w, (callFunc F args).run Try.prog w = .ok (.enter F args) w) ∧ ∀ (a : Int) (w : World), (-127 ≤ a ∧ a ≤ 127) → Calls Try.prog F #[.int .i64 a] w fun e w' => e = .returned (.int .i64 (DenM.most m a)) ∧ w' = w := by
  cases m with
  | false => exact ⟨_, rfl, enters_of Try.func41 (by kernel_rfl) rfl, fun a w ha => (most_prod a w ha).mono (fun _ _ h => ⟨h.1, h.2.symm⟩)⟩
  | true => exact ⟨_, rfl, enters_of Try.func43 (by kernel_rfl) rfl, fun a w _ => (most_dist a w).mono (fun _ _ h => ⟨h.1, h.2.symm⟩)⟩

set_option maxHeartbeats 1000000 in
set_option maxRecDepth 100000 in
theorem dscore_range (k : Int) (v1 v2 : Value) (w : World) (h : mOf k = none) :
    Calls Try.prog 8 #[.int .i64 k, v1, v2] w fun e w' => e = .returned (.tuple #[.int .i64 0, .int .i64 1]) ∧ Below w.heap.size w w' := by
  have HM := Lib.hid (fun w => mof_no k w (mOf_none h))
  clear h
  go_enter Try.func8, Try.ntmps8
  go_wp2_with fail
  refine (HM.out _).mono ?_
  rintro e w2 ⟨rfl, hb⟩
  go_wp2
  go_ret2
  exact ⟨rfl, hb.trans ((pl1 _ _).mono hb.size)⟩
set_option maxHeartbeats 1000000 in
set_option maxRecDepth 100000 in
theorem dscore_form (m : Bool) (A1 A2 : Option Addr) (n1 n2 c1 c2 : Nat) (a b : List Int) (w : World) (h1 : Ivs w A1 n1 a) (h2 : Ivs w A2 n2 b) (h : (DenM.vec a && DenM.vec b) = false) :
    Calls Try.prog 8 #[.int .i64 (mI m), .slice A1 n1 c1, .slice A2 n2 c2] w fun e w' => e = .returned (.tuple #[.int .i64 0, .int .i64 2]) ∧ Below w.heap.size w w' := by
  have HM := Lib.hid (fun w => mof_yes m w)
  have H1 := Lib.hid h1
  have H2 := Lib.hid h2
  obtain ⟨x, hx⟩ : ∃ x, x = DenM.vec a := ⟨_, rfl⟩
  obtain ⟨y, hy⟩ : ∃ y, y = DenM.vec b := ⟨_, rfl⟩
  have R1 := Lib.hid (fun w (hw : Ivs w A1 n1 a) => dright_any A1 n1 c1 a w hw)
  have R2 := Lib.hid (fun w (hw : Ivs w A2 n2 b) => dright_any A2 n2 c2 b w hw)
  rw [← hx] at R1 h
  rw [← hy] at R2 h
  obtain ⟨k, hk⟩ : ∃ k, k = mI m := ⟨_, rfl⟩
  rw [← hk] at HM ⊢
  obtain ⟨F, hF, _⟩ := brings_any m
  obtain ⟨G, hG, _⟩ := mosts_any m
  rw [hF, hG] at HM
  clear h1 h2 hx hy hk hF hG
  cases x with
  | false =>
    clear h
    go_enter Try.func8, Try.ntmps8
    go_wp2_with fail
    refine (HM.out _).mono ?_
    rintro e w2 ⟨rfl, hb⟩
    have hB := Lib.hid (hb.trans ((pl1 w2 (.cells #[.func (.func F) #[] #[], .func (.func G) #[] #[]] 60)).mono hb.size))
    clear hb
    go_wp2_with fail
    refine (R1.out _ (H1.out.later hB.out)).mono ?_
    rintro e w3 ⟨rfl, rfl⟩
    go_wp2
    go_ret2
    exact ⟨rfl, hB.out⟩
  | true =>
    obtain rfl : y = false := by simpa using h
    clear h
    go_enter Try.func8, Try.ntmps8
    go_wp2_with fail
    refine (HM.out _).mono ?_
    rintro e w2 ⟨rfl, hb⟩
    have hB := Lib.hid (hb.trans ((pl1 w2 (.cells #[.func (.func F) #[] #[], .func (.func G) #[] #[]] 60)).mono hb.size))
    clear hb
    go_wp2_with fail
    refine (R1.out _ (H1.out.later hB.out)).mono ?_
    rintro e w3 ⟨rfl, rfl⟩
    go_wp2_with fail
    refine (R2.out _ (H2.out.later hB.out)).mono ?_
    rintro e w3 ⟨rfl, rfl⟩
    go_wp2
    go_ret2
    exact ⟨rfl, hB.out⟩
set_option maxHeartbeats 1000000 in
set_option maxRecDepth 100000 in
theorem dscore_ok (m : Bool) (A1 A2 : Option Addr) (n1 n2 c1 c2 : Nat) (a b : List Int) (w : World) (h1 : Ivs w A1 n1 a) (h2 : Ivs w A2 n2 b) (ha : DenM.vec a = true) (hb : DenM.vec b = true) :
    Calls Try.prog 8 #[.int .i64 (mI m), .slice A1 n1 c1, .slice A2 n2 c2] w fun e w' => e = .returned (.tuple #[.int .i64 (DenM.score m a b), .int .i64 0]) ∧ Below w.heap.size w w' := by
  have HM := Lib.hid (fun w => mof_yes m w)
  have R1 := Lib.hid (fun w (hw : Ivs w A1 n1 a) => dright_any A1 n1 c1 a w hw)
  have R2 := Lib.hid (fun w (hw : Ivs w A2 n2 b) => dright_any A2 n2 c2 b w hw)
  rw [ha] at R1
  rw [hb] at R2
  obtain ⟨hal, hao⟩ := (DenM.vec_iff a).1 ha
  obtain ⟨hbl, hbo⟩ := (DenM.vec_iff b).1 hb
  obtain rfl : n1 = 8 := by rw [← h1.1]; exact hal
  obtain rfl : n2 = 8 := by rw [← h2.1]; exact hbl
  have H1 := Lib.hid h1
  have H2 := Lib.hid h2
  have HA := Lib.hid ha
  have HB := Lib.hid hb
  have HAL := Lib.hid hal
  have HBL := Lib.hid hbl
  have HAO := Lib.hid hao
  have HBO := Lib.hid hbo
  obtain ⟨k, hk⟩ : ∃ k, k = mI m := ⟨_, rfl⟩
  rw [← hk] at HM ⊢
  obtain ⟨F, hF, eF, hbr⟩ := brings_any m
  obtain ⟨G, hG, _, _⟩ := mosts_any m
  have HBR := Lib.hid hbr
  rw [hF, hG] at HM
  clear hbr h1 h2 ha hb hal hbl hao hbo hk hF hG
  go_enter Try.func8, Try.ntmps8
  go_wp2_with fail
  refine (HM.out _).mono ?_
  rintro e w2 ⟨rfl, hb⟩
  have hB := Lib.hid (hb.trans ((pl1 w2 (.cells #[.func (.func F) #[] #[], .func (.func G) #[] #[]] 60)).mono hb.size))
  have k0 := Lib.hid (cell_of_cells (i := 0) (heap_alloc_new w2 (.cells #[.func (.func F) #[] #[], .func (.func G) #[] #[]] 60)) rfl)
  have hlt := Lib.hid (World.block_lt_of_cell? _ _ k0.out)
  clear hb
  go_wp2_with fail
  generalize w2.alloc (.cells #[.func (.func F) #[] #[], .func (.func G) #[] #[]] 60) = U at hB k0 hlt ⊢
  refine (R1.out _ (H1.out.later hB.out)).mono ?_
  rintro e w3 ⟨rfl, rfl⟩
  go_wp2_with fail
  refine (R2.out _ (H2.out.later hB.out)).mono ?_
  rintro e w3 ⟨rfl, rfl⟩
  go_wp2
  go_loopw [10, 29] (fun x y wr => ∃ (j : Nat) (z : Int), x = .int .i64 z ∧ z = DenM.part m a b j ∧ y = .int .i64 j ∧ j ≤ 8 ∧ Below U.heap.size U wr) (fun _ y _ => 8 - (intOf y).toNat)
  case atStart => exact ⟨0, 0, rfl, rfl, rfl, by omega, Below.refl _ _⟩
  case round =>
    obtain ⟨j, z, rfl, hz, rfl, hj, hbw⟩ := hrel
    have HZ := Lib.hid hz
    have HW := Lib.hid hbw
    have hpb := DenM.part_bd (m := m) HA.out HB.out j hj
    have HPB := Lib.hid hpb
    by_cases hlt8 : j < 8
    · have hmi : (j : Int) < 8 := by omega
      obtain ⟨b1, o1, rfl, hl1, hc1⟩ := (H1.out.later (hB.out.trans (hbw.mono hB.out.size))).2 j (by rw [HAL.out]; exact hlt8)
      obtain ⟨b2, o2, rfl, hl2, hc2⟩ := (H2.out.later (hB.out.trans (hbw.mono hB.out.size))).2 j (by rw [HBL.out]; exact hlt8)
      have kU := (hbw.cell (p := ⟨w2.heap.size, 0, none⟩) hlt.out).trans k0.out
      have ha1 := HAO.out _ (List.getElem_mem (show j < a.length by rw [HAL.out]; exact hlt8))
      have hb1 := HBO.out _ (List.getElem_mem (show j < b.length by rw [HBL.out]; exact hlt8))
      have hnx := DenM.part_next (m := m) (a := a) (b := b) j (by rw [HAL.out]; exact hlt8) (by rw [HBL.out]; exact hlt8)
      have hpn := DenM.part_bd (m := m) HA.out HB.out (j + 1) (by omega)
      obtain ⟨x, hx⟩ : ∃ x, x = a[j]'(by rw [HAL.out]; exact hlt8) := ⟨_, rfl⟩
      obtain ⟨y, hy⟩ : ∃ y, y = b[j]'(by rw [HBL.out]; exact hlt8) := ⟨_, rfl⟩
      rw [← hx] at hc1 ha1 hnx
      rw [← hy] at hc2 hb1 hnx
      rw [← hz] at hnx hpb
      obtain ⟨z2, hz2⟩ : ∃ z2, z2 = DenM.part m a b (j + 1) := ⟨_, rfl⟩
      rw [← hz2] at hnx hpn
      have hbr := fun q => HBR.out x y (wr.drewN q) ha1 hb1
      obtain ⟨r, hr⟩ : ∃ r, r = DenM.brg m x y := ⟨_, rfl⟩
      rw [← hr] at hnx hbr
      have HC := Lib.hid hbr
      have HZ2 := Lib.hid hz2
      have hs : z + r = z2 := hnx.symm
      have hzb : -600000 ≤ z2 ∧ z2 ≤ 600000 := by omega
      obtain ⟨hzb1, hzb2⟩ := hzb
      simp only [List.getElem_toArray, List.getElem_cons_zero] at kU
      clear hz hbw hx hy hz2 hr hbr hnx hpn hpb ha1 hb1 hl1 hl2
      go_wp2_with fail
      go_quiet ((first | (exact Calls.quiet_of_same (HC.out _))))
      have hbq : Below U.heap.size U (wr.drewN nq) := HW.out.trans ((below_drewN_p _ _).mono HW.out.size)
      go_wp2
      go_roundw
      case rel => exact ⟨j + 1, z2, rfl, HZ2.out, by go_num, by omega, hbq⟩
      case measure => simp [intOf]; omega
    · have hmi : ¬ (j : Int) < 8 := by omega
      obtain rfl : j = 8 := by omega
      have HF := Lib.hid (show z = DenM.score m a b by rw [hz]; exact DenM.part_end HAL.out HBL.out)
      clear hz hpb
      go_wp2
      go_ret2
      exact ⟨by rw [HF.out]; rfl, hB.out.trans (hbw.mono hB.out.size)⟩
end Go.Proofs.Ytjdlocmchmeipaa
