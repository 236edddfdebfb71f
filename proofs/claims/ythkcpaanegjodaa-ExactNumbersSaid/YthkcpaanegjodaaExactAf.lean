
/- The document's sum of numbers, signs unlike, the first one lesser. -/
import Derived.Test.YthkcpaanegjodaaExactAe
namespace Go.Proofs.Ythkcpaanegjodaa
open Go.RowKit

set_option maxHeartbeats 4000000 in
set_option maxRecDepth 100000 in
theorem radd_less (A B : Value) (a b : Int) (w : World) (ha : (ExactM.ofN a.natAbs).length ≤ 200) (hb : (ExactM.ofN b.natAbs).length ≤ 200) (hs : decide (b < 0) = !decide (a < 0)) (hlt : a.natAbs < b.natAbs) (hA : Bg w A a) (hB : Bg w B b) :
    Calls Try.prog 11 #[A, B] w (RetBg (a + b) w) := by
  obtain ⟨va, rfl, ra⟩ := hA
  obtain ⟨vb, rfl, rb⟩ := hB
  obtain ⟨Aa, ca, rfl⟩ := ra.len
  obtain ⟨Ab, cb, rfl⟩ := rb.len
  have hna : (a + b).natAbs = b.natAbs - a.natAbs ∧ decide (a + b < 0) = decide (b < 0) := by
    by_cases h1 : a < 0
    · have h2 : ¬ b < 0 := of_decide_eq_false (by rw [hs, decide_eq_true h1]; rfl)
      exact ⟨by omega, by rw [decide_eq_false h2]; exact decide_eq_false (by omega)⟩
    · have h2 : b < 0 := of_decide_eq_true (by rw [hs, decide_eq_false h1]; rfl)
      exact ⟨by omega, by rw [decide_eq_true h2]; exact decide_eq_true (by omega)⟩
  have ht := fun W hW => rminus_any _ _ _ _ W (by omega) (ExactM.ofN_tr _) (by rw [ExactM.val_ofN, ExactM.val_ofN]; omega) (rb.below hW) (ra.below hW)
  rw [ExactM.val_ofN, ExactM.val_ofN, ← hna.1] at ht
  have hle := fun W hW => rless_any _ _ _ _ W (by omega) (by omega) (ExactM.ofN_tr _) (ExactM.ofN_tr _) (ra.below hW) (rb.below hW)
  rw [ExactM.val_ofN, ExactM.val_ofN, decide_eq_true hlt] at hle
  rw [hs] at hna ⊢
  obtain ⟨la, hla⟩ : ∃ n, n = (ExactM.ofN a.natAbs).length := ⟨_, rfl⟩
  obtain ⟨lb, hlb⟩ : ∃ n, n = (ExactM.ofN b.natAbs).length := ⟨_, rfl⟩
  rw [← hla] at ht hle ⊢
  rw [← hlb] at ht hle ⊢
  obtain ⟨s, hse⟩ : ∃ s, s = decide (a < 0) := ⟨_, rfl⟩
  rw [← hse] at hna ⊢
  have HSG := Lib.hid hna.2
  have HT := Lib.hid ht
  have HLE := Lib.hid hle
  clear hle hlt ht ra rb hla hlb ha hb hs hna hse
  have bX := bl3 w (.cells #[.slice Aa la ca, .bool s] 29) (.cells #[.slice Ab lb cb, .bool (!s)] 29) (.cells #[.slice none 0 0, .bool false] 29)
  have x0 : (((w.alloc (.cells #[.slice Aa la ca, .bool s] 29)).alloc (.cells #[.slice Ab lb cb, .bool (!s)] 29)).alloc (.cells #[.slice none 0 0, .bool false] 29)).cell? ⟨w.heap.size, 0, none⟩ = some (.slice Aa la ca) := by go_simp
  have x1 : (((w.alloc (.cells #[.slice Aa la ca, .bool s] 29)).alloc (.cells #[.slice Ab lb cb, .bool (!s)] 29)).alloc (.cells #[.slice none 0 0, .bool false] 29)).cell? ⟨w.heap.size, 1, none⟩ = some (.bool s) := by go_simp
  have y0 : (((w.alloc (.cells #[.slice Aa la ca, .bool s] 29)).alloc (.cells #[.slice Ab lb cb, .bool (!s)] 29)).alloc (.cells #[.slice none 0 0, .bool false] 29)).cell? ⟨w.heap.size + 1, 0, none⟩ = some (.slice Ab lb cb) := by go_simp
  have y1 : (((w.alloc (.cells #[.slice Aa la ca, .bool s] 29)).alloc (.cells #[.slice Ab lb cb, .bool (!s)] 29)).alloc (.cells #[.slice none 0 0, .bool false] 29)).cell? ⟨w.heap.size + 1, 1, none⟩ = some (.bool (!s)) := by go_simp
  have x3 : (((w.alloc (.cells #[.slice Aa la ca, .bool s] 29)).alloc (.cells #[.slice Ab lb cb, .bool (!s)] 29)).alloc (.cells #[.slice none 0 0, .bool false] 29)).cell? ⟨w.heap.size + 1 + 1, 0, none⟩ = some (.slice none 0 0) := by go_simp
  have x4 : (((w.alloc (.cells #[.slice Aa la ca, .bool s] 29)).alloc (.cells #[.slice Ab lb cb, .bool (!s)] 29)).alloc (.cells #[.slice none 0 0, .bool false] 29)).cell? ⟨w.heap.size + 1 + 1, 1, none⟩ = some (.bool false) := by go_simp
  have x5 : ∀ i, (((w.alloc (.cells #[.slice Aa la ca, .bool s] 29)).alloc (.cells #[.slice Ab lb cb, .bool (!s)] 29)).alloc (.cells #[.slice none 0 0, .bool false] 29)).frozen? ⟨w.heap.size + 1 + 1, i, none⟩ = false := fun i => by go_simp
  have xs : (((w.alloc (.cells #[.slice Aa la ca, .bool s] 29)).alloc (.cells #[.slice Ab lb cb, .bool (!s)] 29)).alloc (.cells #[.slice none 0 0, .bool false] 29)).heap.size = w.heap.size + 3 := by simp
  have f3 := x5 0
  have f4 := x5 1
  clear x5
  go_enter Try.func11, Try.ntmps11
  cases s
  · simp only [Bool.not_false] at x0 x1 y0 y1 x3 x4 f3 f4 xs bX HSG ⊢
    go_wp2_with fail
    generalize ((w.alloc (.cells #[.slice Aa la ca, .bool false] 29)).alloc (.cells #[.slice Ab lb cb, .bool true] 29)).alloc (.cells #[.slice none 0 0, .bool false] 29) = X at bX x0 x1 y0 y1 x3 x4 f3 f4 xs ⊢
    have h0 : w.heap.size < X.heap.size := by omega
    have h1 : w.heap.size + 1 < X.heap.size := by omega
    have h2 : w.heap.size + 1 + 1 < X.heap.size := by omega
    have hl := HLE.out X bX
    have HL := Lib.hid hl
    clear xs hl
    refine HL.out.mono ?_
    rintro e X2 ⟨rfl, cx⟩
    have bX := bX.trans (cx.mono bX.size)
    have x0 := keepB4 cx x0 h0
    have x1 := keepB4 cx x1 h0
    have y0 := keepB4 cx y0 h1
    have y1 := keepB4 cx y1 h1
    have x3 := keepB4 cx x3 h2
    have x4 := keepB4 cx x4 h2
    have f3 := keepF4 cx f3 h2
    have f4 := keepF4 cx f4 h2
    have h0 := Nat.lt_of_lt_of_le h0 cx.size
    have h1 := Nat.lt_of_lt_of_le h1 cx.size
    have h2 := Nat.lt_of_lt_of_le h2 cx.size
    have hT := HT.out X2.drew bX.drew
    have HT2 := Lib.hid hT
    clear cx hT HL
    go_upto_region 4 with fail
    go_region_held3 (fun w' => w'.cell? ⟨w.heap.size, 0, none⟩ = some (.slice Aa la ca) ∧ w'.cell? ⟨w.heap.size + 1, 1, none⟩ = some (.bool true) ∧ w'.cell? ⟨w.heap.size + 1, 0, none⟩ = some (.slice Ab lb cb))
      ((first | exact ⟨keepB4 hb x0 h0, keepB4 hb y1 h1, keepB4 hb y0 h1⟩ | exact ⟨far2 (keepB4 hb x0 h0) (by omega), far2 (keepB4 hb y1 h1) (by omega), far2 (keepB4 hb y0 h1) (by omega)⟩ | go_keep))
      ((first | ((with_reducible refine HT2.out.mono ?_); rintro e w4 ⟨v, rfl, hr, hb, hfr⟩; obtain ⟨Av, cv, rfl⟩ := hr.len; have k3 := keepB4 hb x3 h2; have k4 := keepB4 hb x4 h2; have k3f := keepF4 hb f3 h2; have k4f := keepF4 hb f4 h2)))
    have bz : Below w.heap.size w w4 := bX.drew.trans (hb.mono bX.size)
    have hne : (Value.slice Av (ExactM.ofN (a + b).natAbs).length cv).ownBlock ≠ some (w.heap.size + 1 + 1) := fun e => by
      have : X2.heap.size ≤ w.heap.size + 1 + 1 := hfr _ e
      omega
    have HNE := Lib.hid hne
    have HR := Lib.hid hr
    clear hne hr hfr hb
    go_wp2
    exact bodyPost_ret (v := .agg #[.slice Av (ExactM.ofN (a + b).natAbs).length cv, .bool true]) (by simp [results, Try.results11, go_sem, k3, k4]) rfl ⟨_, rfl, ⟨_, by rw [HSG.out], (HR.out.far HNE.out _ _).far HNE.out _ _⟩, (bz.setCell (by simp; omega) _).setCell (by simp; omega) _⟩
  · simp only [Bool.not_true] at x0 x1 y0 y1 x3 x4 f3 f4 xs bX HSG ⊢
    go_wp2_with fail
    generalize ((w.alloc (.cells #[.slice Aa la ca, .bool true] 29)).alloc (.cells #[.slice Ab lb cb, .bool false] 29)).alloc (.cells #[.slice none 0 0, .bool false] 29) = X at bX x0 x1 y0 y1 x3 x4 f3 f4 xs ⊢
    have h0 : w.heap.size < X.heap.size := by omega
    have h1 : w.heap.size + 1 < X.heap.size := by omega
    have h2 : w.heap.size + 1 + 1 < X.heap.size := by omega
    have hl := HLE.out X bX
    have HL := Lib.hid hl
    clear xs hl
    refine HL.out.mono ?_
    rintro e X2 ⟨rfl, cx⟩
    have bX := bX.trans (cx.mono bX.size)
    have x0 := keepB4 cx x0 h0
    have x1 := keepB4 cx x1 h0
    have y0 := keepB4 cx y0 h1
    have y1 := keepB4 cx y1 h1
    have x3 := keepB4 cx x3 h2
    have x4 := keepB4 cx x4 h2
    have f3 := keepF4 cx f3 h2
    have f4 := keepF4 cx f4 h2
    have h0 := Nat.lt_of_lt_of_le h0 cx.size
    have h1 := Nat.lt_of_lt_of_le h1 cx.size
    have h2 := Nat.lt_of_lt_of_le h2 cx.size
    have hT := HT.out X2.drew bX.drew
    have HT2 := Lib.hid hT
    clear cx hT HL
    go_upto_region 4 with fail
    go_region_held3 (fun w' => w'.cell? ⟨w.heap.size, 0, none⟩ = some (.slice Aa la ca) ∧ w'.cell? ⟨w.heap.size + 1, 1, none⟩ = some (.bool false) ∧ w'.cell? ⟨w.heap.size + 1, 0, none⟩ = some (.slice Ab lb cb))
      ((first | exact ⟨keepB4 hb x0 h0, keepB4 hb y1 h1, keepB4 hb y0 h1⟩ | exact ⟨far2 (keepB4 hb x0 h0) (by omega), far2 (keepB4 hb y1 h1) (by omega), far2 (keepB4 hb y0 h1) (by omega)⟩ | go_keep))
      ((first | ((with_reducible refine HT2.out.mono ?_); rintro e w4 ⟨v, rfl, hr, hb, hfr⟩; obtain ⟨Av, cv, rfl⟩ := hr.len; have k3 := keepB4 hb x3 h2; have k4 := keepB4 hb x4 h2; have k3f := keepF4 hb f3 h2; have k4f := keepF4 hb f4 h2)))
    have bz : Below w.heap.size w w4 := bX.drew.trans (hb.mono bX.size)
    have hne : (Value.slice Av (ExactM.ofN (a + b).natAbs).length cv).ownBlock ≠ some (w.heap.size + 1 + 1) := fun e => by
      have : X2.heap.size ≤ w.heap.size + 1 + 1 := hfr _ e
      omega
    have HNE := Lib.hid hne
    have HR := Lib.hid hr
    clear hne hr hfr hb
    go_wp2
    exact bodyPost_ret (v := .agg #[.slice Av (ExactM.ofN (a + b).natAbs).length cv, .bool false]) (by simp [results, Try.results11, go_sem, k3, k4]) rfl ⟨_, rfl, ⟨_, by rw [HSG.out], (HR.out.far HNE.out _ _).far HNE.out _ _⟩, (bz.setCell (by simp; omega) _).setCell (by simp; omega) _⟩
end Go.Proofs.Ythkcpaanegjodaa
