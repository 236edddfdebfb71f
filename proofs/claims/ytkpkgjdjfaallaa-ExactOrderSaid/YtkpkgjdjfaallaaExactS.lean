/- ExactOrder answers true, whatever rationals it is handed. -/
import Derived.Test.YtkpkgjdjfaallaaExactR
namespace Go.Proofs.Ytkpkgjdjfaallaa
open Go.RowKit

theorem fitB_i64 {v : Int} (h : fitB v = true) : I64n v := by unfold fitB at h; simp at h; exact h
theorem ans_in {n d : Int} (h : ansC n d = 0) : ansB n d = true ∧ ansV n d = ExactM.low n d ∧ R64 (ExactM.low n d) := by
  unfold ansC at h
  have hb : ansB n d = true := by
    cases hb : ansB n d with
    | true => rfl
    | false => rw [hb] at h; simp at h
  refine ⟨hb, by unfold ansV; rw [hb]; rfl, ?_⟩
  unfold ansB at hb
  rw [Bool.and_eq_true] at hb
  exact ⟨fitB_i64 hb.1, fitB_i64 hb.2⟩
theorem ansC_two (n d : Int) : ansC n d = 0 ∨ ansC n d = 1 := by unfold ansC; split; exact .inl rfl; exact .inr rfl
theorem cmp_three (a b : Int × Int) : ExactM.cmp a b = -1 ∨ ExactM.cmp a b = 0 ∨ ExactM.cmp a b = 1 := by
  unfold ExactM.cmp
  (repeat' split) <;> simp

set_option maxHeartbeats 2000000 in
set_option maxRecDepth 100000 in
theorem order_not (p q r : Int × Int) (w : World) (hp : R64 p) (hq : R64 q) (hr : R64 r) (h : (rtB p && rtB q && rtB r) = false) :
    Calls Try.prog 5 #[rv p, rv q, rv r] w fun e w' => e = .returned (.bool true) ∧ Below w.heap.size w w' := by
  obtain ⟨n1, d1⟩ := p
  obtain ⟨n2, d2⟩ := q
  obtain ⟨n3, d3⟩ := r
  have R1 := fun w => right_any (n1, d1) w hp
  have R2 := fun w => right_any (n2, d2) w hq
  have R3 := fun w => right_any (n3, d3) w hr
  unfold rv at R1 R2 R3 ⊢
  simp only at R1 R2 R3 ⊢
  obtain ⟨V, hV, hB⟩ := bks3 w (.cells #[.int .i64 n1, .int .i64 d1] 37) (.cells #[.int .i64 n2, .int .i64 d2] 37) (.cells #[.int .i64 n3, .int .i64 d3] 37)
  have HV := Lib.hid hV
  obtain ⟨x, hx⟩ : ∃ x, x = rtB (n1, d1) := ⟨_, rfl⟩
  obtain ⟨y, hy⟩ : ∃ x, x = rtB (n2, d2) := ⟨_, rfl⟩
  obtain ⟨z, hz⟩ : ∃ x, x = rtB (n3, d3) := ⟨_, rfl⟩
  rw [← hx, ← hy, ← hz] at h
  rw [← hx] at R1
  rw [← hy] at R2
  rw [← hz] at R3
  have H := Lib.hid h
  clear hV hx hy hz h
  go_enter Try.func5, Try.ntmps5
  go_wp2_with fail
  rw [← HV.out]
  refine (awake3_any _).mono ?_
  rintro e V0 ⟨rfl, hb0⟩
  have hB0 := hB.later hb0
  obtain ⟨⟨c0, c1⟩, _, _⟩ := hB0.pair 0 rfl
  rw [Nat.add_zero] at c0 c1
  have HB0 := Lib.hid hB0
  clear hB hb0 hB0
  go_wp2_with fail
  refine (R1 _).mono ?_
  rintro e V1 ⟨rfl, hb1⟩
  clear c0 c1
  have hB1 := HB0.out.later hb1
  obtain ⟨⟨c2, c3⟩, _, _⟩ := hB1.pair 1 rfl
  have HB1 := Lib.hid hB1
  clear HB0 hb1 hB1
  cases x with
  | false =>
    go_wp2_with fail
    go_ret
    exact ⟨rfl, HB1.out.1⟩
  | true =>
    go_wp2_with fail
    refine (R2 _).mono ?_
    rintro e V2 ⟨rfl, hb2⟩
    clear c2 c3
    have hB2 := HB1.out.later hb2
    obtain ⟨⟨c4, c5⟩, _, _⟩ := hB2.pair 2 rfl
    have HB2 := Lib.hid hB2
    clear HB1 hb2 hB2
    cases y with
    | false =>
      go_wp2_with fail
      go_ret
      exact ⟨rfl, HB2.out.1⟩
    | true =>
      have hz : z = false := by simpa using H.out
      subst hz
      go_wp2_with fail
      refine (R3 _).mono ?_
      rintro e V3 ⟨rfl, hb3⟩
      have HB3 := Lib.hid (HB2.out.later hb3)
      clear c4 c5 hb3 HB2
      go_wp2_with fail
      go_ret
      exact ⟨rfl, HB3.out.1⟩
theorem order_yes (p q r : Int × Int) (w : World) (hp : R64 p) (hq : R64 q) (hr : R64 r) (h1 : rtB p = true) (h2 : rtB q = true) (h3 : rtB r = true) :
    Calls Try.prog 5 #[rv p, rv q, rv r] w fun e w' => e = .returned (.bool true) ∧ Below w.heap.size w w' := by
  have t1 := (rtB_iff p).1 h1
  have t2 := (rtB_iff q).1 h2
  have t3 := (rtB_iff r).1 h3
  have R1 := fun w => right_any p w hp
  have R2 := fun w => right_any q w hq
  have R3 := fun w => right_any r w hr
  rw [h1] at R1
  rw [h2] at R2
  rw [h3] at R3
  have sx := fun w => sum_any p r w hp hr
  have sy := fun w => sum_any q r w hq hr
  have sz := fun w => sum_any r p w hr hp
  have ex : sumV p r = ansV (p.1 * r.2 + r.1 * p.2) (p.2 * r.2) := by unfold sumV; rw [h1, h3]; rfl
  have ey : sumV q r = ansV (q.1 * r.2 + r.1 * q.2) (q.2 * r.2) := by unfold sumV; rw [h2, h3]; rfl
  have ez : sumV r p = sumV p r := by
    rw [ex]; unfold sumV; rw [h1, h3]
    show ansV (r.1 * p.2 + p.1 * r.2) (r.2 * p.2) = _
    rw [Int.add_comm, Int.mul_comm r.2]
  have cx : sumC p r = ansC (p.1 * r.2 + r.1 * p.2) (p.2 * r.2) := by unfold sumC; rw [h1, h3]; rfl
  have cy : sumC q r = ansC (q.1 * r.2 + r.1 * q.2) (q.2 * r.2) := by unfold sumC; rw [h2, h3]; rfl
  have cz : sumC r p = sumC p r := by
    rw [cx]; unfold sumC; rw [h1, h3]
    show ansC (r.1 * p.2 + p.1 * r.2) (r.2 * p.2) = _
    rw [Int.add_comm, Int.mul_comm r.2]
  rw [ez, cz] at sz
  have CM : ∀ a b : Int × Int, R64 a → R64 b → rtB a = true → rtB b = true → ∀ w, Calls Try.prog 22 #[rv a, rv b] w fun e w' => e = .returned (.int .i64 (ExactM.cmp a b)) ∧ Below w.heap.size w w' := fun a b ha hb h h' w => compare_yes a b w ha hb h h'
  have hx0 : sumC p r = 0 → sumV p r = ExactM.add p r ∧ R64 (sumV p r) ∧ rtB (sumV p r) = true := fun e => by
    obtain ⟨_, a2, a3⟩ := ans_in (cx.symm.trans e)
    rw [ex, a2]
    exact ⟨rfl, a3, (rtB_iff _).2 (ExactM.add_rt t1.1 t3.1)⟩
  have hy0 : sumC q r = 0 → sumV q r = ExactM.add q r ∧ R64 (sumV q r) ∧ rtB (sumV q r) = true := fun e => by
    obtain ⟨_, a2, a3⟩ := ans_in (cy.symm.trans e)
    rw [ey, a2]
    exact ⟨rfl, a3, (rtB_iff _).2 (ExactM.add_rt t2.1 t3.1)⟩
  refine order_walk p.1 p.2 q.1 q.2 r.1 r.2 (ExactM.cmp p q) (ExactM.cmp q r) (ExactM.cmp p r) (ExactM.cmp q p) (sumV p r).1 (sumV p r).2 (sumV q r).1 (sumV q r).2 (sumC p r) (sumC q r) (ExactM.cmp (sumV p r) (sumV q r)) (rtB (sumV p r)) w
    ⟨R1, R2, R3, CM p q hp hq h1 h2, CM q r hq hr h2 h3, CM p r hp hr h1 h3, CM q p hq hp h2 h1, sx, sy, sz, fun e f => CM _ _ (hx0 e).2.1 (hy0 f).2.1 (hx0 e).2.2 (hy0 f).2.2, fun e w => right_any _ w (hx0 e).2.1⟩
    (cmp_three p q) ?_ ?_ (fun k1 k2 => ExactM.cmp_trans t1.1 t2.1 t3.1 k1 k2) (by rw [cx]; exact ansC_two _ _) (by rw [cy]; exact ansC_two _ _) (fun e f => ?_) (fun e => (hx0 e).2.2)
  · rw [ExactM.cmp_turn q p]
  · rw [ExactM.rt_same t1 t2]
    exact ⟨fun e => by rw [e]; exact ⟨rfl, rfl⟩, fun e => Prod.ext e.1 e.2⟩
  · rw [(hx0 e).1, (hy0 f).1]
    exact ExactM.cmp_add t1.1 t2.1 t3.1
theorem order_main (p q r : Int × Int) (w : World) (hp : R64 p) (hq : R64 q) (hr : R64 r) :
    Calls Try.prog 5 #[rv p, rv q, rv r] w fun e w' => e = .returned (.bool true) ∧ Below w.heap.size w w' := by
  cases h : (rtB p && rtB q && rtB r) with
  | false => exact order_not p q r w hp hq hr h
  | true =>
    rw [Bool.and_eq_true, Bool.and_eq_true] at h
    exact order_yes p q r w hp hq hr h.1.1 h.1.2 h.2
end Go.Proofs.Ytkpkgjdjfaallaa
