
/- awake of layer 3 answers true. -/
import Derived.Test.YthkcpaanegjodaaExactP
namespace Go.Proofs.Ythkcpaanegjodaa
open Go.RowKit

theorem blk_after {X w' : World} {o : Obj} (hb : Below (X.alloc o).heap.size (X.alloc o) w') : w'.heap[X.heap.size]? = some o := (hb.block _ (by simp)).trans (heap_alloc_new _ _)
theorem blk_on {X w' : World} {k : Nat} {o : Obj} (hb : Below X.heap.size X w') (h : X.heap[k]? = some o) : w'.heap[k]? = some o := (hb.block _ (Array.getElem?_eq_some_iff.1 h).1).trans h
theorem blk_past {X w' : World} {k : Nat} {o o' : Obj} (hb : Below (X.alloc o').heap.size (X.alloc o') w') (h : X.heap[k]? = some o) : w'.heap[k]? = some o := blk_on hb (blk_on (bl1 X o') h)
theorem below_past {w X w' : World} {o : Obj} (h : Below w.heap.size w X) (hb : Below (X.alloc o).heap.size (X.alloc o) w') : Below w.heap.size w w' := (h.alloc h.size o).trans (hb.mono (Nat.le_trans h.size (by simp)))
theorem below_on {w X w' : World} (h : Below w.heap.size w X) (hb : Below X.heap.size X w') : Below w.heap.size w w' := h.trans (hb.mono h.size)

theorem i64_lit (n : Int) (h : (decide (-9223372036854775808 ≤ n) && decide (n ≤ 9223372036854775807)) = true) : I64n n := by simpa [I64n] using h
theorem aw_add (w : World) : Calls Try.prog 9 #[.int .i64 4611686018427387904, .int .i64 4611686018427387904] w fun e w' => e = .returned (.tuple #[.int .i64 0, .bool false]) ∧ w = w' := by
  have h := add_any 4611686018427387904 4611686018427387904 w (i64_lit _ (by decide)) (i64_lit _ (by decide))
  rw [show fitV (4611686018427387904 + 4611686018427387904) = 0 by decide, show fitB (4611686018427387904 + 4611686018427387904) = false by decide] at h
  exact h
theorem aw_mul (w : World) : Calls Try.prog 13 #[.int .i64 (-3), .int .i64 4] w fun e w' => e = .returned (.tuple #[.int .i64 (-12), .bool true]) ∧ Below w.heap.size w w' := by
  have h := mul_any (-3) 4 w (i64_lit _ (by decide)) (i64_lit _ (by decide))
  rw [show fitV (-3 * 4) = -12 by decide, show fitB (-3 * 4) = true by decide] at h
  exact h
theorem aw_wide (w : World) : Calls Try.prog 15 #[.int .u64 9223372036854775808, .int .u64 6] w fun e w' => e = .returned (.tuple #[.int .u64 3, .int .u64 0]) ∧ w = w' :=
  wide_any 9223372036854775808 6 w (by decide) (by decide)
theorem aw_half (w : World) : Calls Try.prog 16 #[.int .i64 2, .int .i64 4] w fun e w' => e = .returned (.tuple #[.agg #[.int .i64 1, .int .i64 2], .int .i64 0]) ∧ Below w.heap.size w w' := by
  have h := ratio_any 2 4 w (i64_lit _ (by decide)) (i64_lit _ (by decide))
  rw [show ratV 2 4 = (1, 2) by decide +kernel, show ratC 4 = 0 by decide] at h
  exact h
theorem aw_third (w : World) : Calls Try.prog 16 #[.int .i64 1, .int .i64 3] w fun e w' => e = .returned (.tuple #[.agg #[.int .i64 1, .int .i64 3], .int .i64 0]) ∧ Below w.heap.size w w' := by
  have h := ratio_any 1 3 w (i64_lit _ (by decide)) (i64_lit _ (by decide))
  rw [show ratV 1 3 = (1, 3) by decide +kernel, show ratC 3 = 0 by decide] at h
  exact h
theorem aw_none (w : World) : Calls Try.prog 16 #[.int .i64 1, .int .i64 0] w fun e w' => e = .returned (.tuple #[.agg #[.int .i64 0, .int .i64 0], .int .i64 1]) ∧ Below w.heap.size w w' := by
  have h := ratio_any 1 0 w (i64_lit _ (by decide)) (i64_lit _ (by decide))
  rw [show ratV 1 0 = (0, 0) by decide +kernel, show ratC 0 = 1 by decide] at h
  exact h
theorem r64_lit (n d : Int) (h : (decide (-9223372036854775808 ≤ n) && decide (n ≤ 9223372036854775807)) = true) (h' : (decide (-9223372036854775808 ≤ d) && decide (d ≤ 9223372036854775807)) = true) : R64 (n, d) := ⟨i64_lit n h, i64_lit d h'⟩
theorem aw_sum (w : World) : Calls Try.prog 18 #[.agg #[.int .i64 1, .int .i64 2], .agg #[.int .i64 1, .int .i64 3]] w fun e w' => e = .returned (.tuple #[.agg #[.int .i64 5, .int .i64 6], .int .i64 0]) ∧ Below w.heap.size w w' := by
  have h := sum_any (1, 2) (1, 3) w (r64_lit _ _ (by decide) (by decide)) (r64_lit _ _ (by decide) (by decide))
  rw [show sumV (1, 2) (1, 3) = (5, 6) by decide +kernel, show sumC (1, 2) (1, 3) = 0 by decide +kernel] at h
  exact h
theorem aw_times (w : World) : Calls Try.prog 20 #[.agg #[.int .i64 1, .int .i64 3], .int .i64 6] w fun e w' => e = .returned (.tuple #[.agg #[.int .i64 2, .int .i64 1], .int .i64 0]) ∧ Below w.heap.size w w' := by
  have h := times_any (1, 3) 6 w (r64_lit _ _ (by decide) (by decide)) (i64_lit _ (by decide))
  rw [show timV (1, 3) 6 = (2, 1) by decide +kernel, show timC (1, 3) 6 = 0 by decide +kernel] at h
  exact h
theorem aw_cmp (w : World) : Calls Try.prog 24 #[.agg #[.int .i64 1, .int .i64 3], .agg #[.int .i64 1, .int .i64 2]] w fun e w' => e = .returned (.int .i64 (-1)) ∧ Below w.heap.size w w' := by
  have h := compare_any (1, 3) (1, 2) w (r64_lit _ _ (by decide) (by decide)) (r64_lit _ _ (by decide) (by decide))
  rw [show cmpV (1, 3) (1, 2) = -1 by decide +kernel] at h
  exact h
theorem aw_right (w : World) : Calls Try.prog 22 #[.agg #[.int .i64 1, .int .i64 2]] w fun e w' => e = .returned (.bool true) ∧ Below w.heap.size w w' := by
  have h := right_any (1, 2) w (r64_lit _ _ (by decide) (by decide))
  rw [show rtB (1, 2) = true by decide +kernel] at h
  exact h
theorem aw_wrong (w : World) : Calls Try.prog 22 #[.agg #[.int .i64 2, .int .i64 4]] w fun e w' => e = .returned (.bool false) ∧ Below w.heap.size w w' := by
  have h := right_any (2, 4) w (r64_lit _ _ (by decide) (by decide))
  rw [show rtB (2, 4) = false by decide +kernel] at h
  exact h

set_option maxHeartbeats 4000000 in
set_option maxRecDepth 100000 in
theorem awake3_any (w : World) :
    Calls Try.prog 8 #[] w fun e w' => e = .returned (.bool true) ∧ Below w.heap.size w w' := by
  go_enter Try.func8, Try.ntmps8
  go_wp2_with fail
  refine (aw_add _).mono ?_
  rintro e w0 ⟨rfl, rfl⟩
  go_wp2_with fail
  refine (aw_mul _).mono ?_
  rintro e w1 ⟨rfl, b1⟩
  go_wp2_with fail
  refine (aw_wide _).mono ?_
  rintro e w1' ⟨rfl, rfl⟩
  go_wp2_with fail
  refine (aw_half _).mono ?_
  rintro e w2 ⟨rfl, b2⟩
  have a2 := below_on b1 b2
  clear b1 b2
  go_wp2_with fail
  refine (aw_third _).mono ?_
  rintro e w3 ⟨rfl, b3⟩
  have a3 := below_past a2 b3
  have h3 := blk_after b3
  clear a2 b3
  obtain ⟨x0, x1⟩ := cell_pair h3
  have xl := (Array.getElem?_eq_some_iff.1 h3).1
  have H3 := Lib.hid h3
  clear h3
  go_wp2_with fail
  refine (aw_sum _).mono ?_
  rintro e w4 ⟨rfl, b4⟩
  have a4 := below_past a3 b4
  have h4 := blk_past b4 H3.out
  have t4 := blk_after b4
  clear a3 b4 x0 x1 xl H3
  obtain ⟨x0, x1⟩ := cell_pair h4
  have xl := (Array.getElem?_eq_some_iff.1 h4).1
  have H4 := Lib.hid h4
  obtain ⟨y0, y1⟩ := cell_pair t4
  have yl := (Array.getElem?_eq_some_iff.1 t4).1
  have T4 := Lib.hid t4
  clear h4 t4
  go_wp2_with fail
  refine (aw_times _).mono ?_
  rintro e w5 ⟨rfl, b5⟩
  have a5 := below_past a4 b5
  have h5 := blk_past b5 H4.out
  have t5 := blk_past b5 T4.out
  have s5 := blk_after b5
  clear a4 b5 x0 x1 xl H4 y0 y1 yl T4
  obtain ⟨x0, x1⟩ := cell_pair h5
  have xl := (Array.getElem?_eq_some_iff.1 h5).1
  have H5 := Lib.hid h5
  obtain ⟨y0, y1⟩ := cell_pair t5
  have yl := (Array.getElem?_eq_some_iff.1 t5).1
  have T5 := Lib.hid t5
  obtain ⟨z0, z1⟩ := cell_pair s5
  have zl := (Array.getElem?_eq_some_iff.1 s5).1
  have S5 := Lib.hid s5
  clear h5 t5 s5
  go_wp2_with fail
  refine (aw_none _).mono ?_
  rintro e w6 ⟨rfl, b6⟩
  have a6 := below_past a5 b6
  have h6 := blk_past b6 H5.out
  have t6 := blk_past b6 T5.out
  have s6 := blk_past b6 S5.out
  have m6 := blk_after b6
  clear a5 b6 x0 x1 xl H5 y0 y1 yl T5 z0 z1 zl S5
  obtain ⟨x0, x1⟩ := cell_pair h6
  have xl := (Array.getElem?_eq_some_iff.1 h6).1
  have H6 := Lib.hid h6
  obtain ⟨y0, y1⟩ := cell_pair t6
  have yl := (Array.getElem?_eq_some_iff.1 t6).1
  have T6 := Lib.hid t6
  obtain ⟨z0, z1⟩ := cell_pair s6
  have zl := (Array.getElem?_eq_some_iff.1 s6).1
  have S6 := Lib.hid s6
  obtain ⟨u0, u1⟩ := cell_pair m6
  have ul := (Array.getElem?_eq_some_iff.1 m6).1
  have M6 := Lib.hid m6
  clear h6 t6 s6 m6
  go_wp2_with fail
  refine (aw_cmp _).mono ?_
  rintro e w7 ⟨rfl, b7⟩
  have a7 := below_past a6 b7
  have h7 := blk_past b7 H6.out
  clear a6 b7 x0 x1 xl H6 y0 y1 yl T6 z0 z1 zl S6 u0 u1 ul M6
  obtain ⟨x0, x1⟩ := cell_pair h7
  have xl := (Array.getElem?_eq_some_iff.1 h7).1
  have H7 := Lib.hid h7
  clear h7
  go_wp2_with fail
  refine (aw_right _).mono ?_
  rintro e w8 ⟨rfl, b8⟩
  have a8 := below_on a7 b8
  clear a7 b8 x0 x1 xl H7
  go_wp2_with fail
  refine (aw_wrong _).mono ?_
  rintro e w9 ⟨rfl, b9⟩
  have a9 := below_on a8 b9
  clear a8 b9
  go_wp2_with fail
  go_ret
  exact ⟨rfl, a9⟩
end Go.Proofs.Ythkcpaanegjodaa
