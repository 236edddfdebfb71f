
/- exact: Sum. -/
import Derived.Test.YthkcpaanegjodaaExactI
namespace Go.Proofs.Ythkcpaanegjodaa
open Go.RowKit

theorem keepC {V X w1 : World} {p1 p2 : Addr} {v1 v2 : Value} (hb : Below X.heap.size X w1) (h : X.cell? p1 = some v1 ∧ X.cell? p2 = some v2 ∧ Below V.heap.size V X) : w1.cell? p1 = some v1 ∧ w1.cell? p2 = some v2 ∧ Below V.heap.size V w1 := ⟨cell_kept hb h.1, cell_kept hb h.2.1, h.2.2.trans (hb.mono h.2.2.size)⟩
theorem keepA {V X : World} {p1 p2 : Addr} {v1 v2 : Value} {o : Obj} (h : X.cell? p1 = some v1 ∧ X.cell? p2 = some v2 ∧ Below V.heap.size V X) : (X.alloc o).cell? p1 = some v1 ∧ (X.alloc o).cell? p2 = some v2 ∧ Below V.heap.size V (X.alloc o) := keepC (bl1 X o) h
theorem keepD {V : World} {p1 p2 : Addr} {v1 v2 : Value} (h1 : V.cell? p1 = some v1) (h2 : V.cell? p2 = some v2) : V.drew.cell? p1 = some v1 ∧ V.drew.cell? p2 = some v2 ∧ Below V.heap.size V V.drew := ⟨h1, h2, (Below.refl _ _).drew⟩

theorem keepSt {U X : World} {g : Nat} {p1 p2 : Addr} {v1 v2 a b : Value} (h : Below U.heap.size U X) (hg : U.heap.size ≤ g) (h1 : U.cell? p1 = some v1) (h2 : U.cell? p2 = some v2) :
    ((X.setCell ⟨g, 0, none⟩ a).setCell ⟨g, 1, none⟩ b).cell? p1 = some v1 ∧ ((X.setCell ⟨g, 0, none⟩ a).setCell ⟨g, 1, none⟩ b).cell? p2 = some v2 ∧ Below U.heap.size U ((X.setCell ⟨g, 0, none⟩ a).setCell ⟨g, 1, none⟩ b) := by
  have hb : Below U.heap.size U ((X.setCell ⟨g, 0, none⟩ a).setCell ⟨g, 1, none⟩ b) := (h.setCell hg _).setCell hg _
  exact ⟨cell_kept hb h1, cell_kept hb h2, hb⟩
/-- a new variable of two cells, made behind U -/
def Blk (U w : World) (t : TypeId) (x y : Value) (g : Nat) : Prop := U.heap.size ≤ g ∧ w.heap[g]? = some (.cells #[x, y] t (0, 0))
theorem blk_new {U X : World} {t : TypeId} {x y : Value} (h : U.heap.size ≤ X.heap.size) : Blk U (X.alloc (.cells #[x, y] t)) t x y X.heap.size := ⟨h, heap_alloc_new _ _⟩
theorem blk_kept {U X w1 : World} {t : TypeId} {x y : Value} {g : Nat} (hb : Below X.heap.size X w1) (h : Blk U X t x y g) : Blk U w1 t x y g := ⟨h.1, (hb.block g (Array.getElem?_eq_some_iff.1 h.2).1).trans h.2⟩
theorem Blk.cells {U w : World} {t : TypeId} {x y : Value} {g : Nat} (h : Blk U w t x y g) : (w.cell? ⟨g, 0, none⟩ = some x ∧ w.cell? ⟨g, 1, none⟩ = some y) ∧ (w.frozen? ⟨g, 0, none⟩ = false ∧ w.frozen? ⟨g, 1, none⟩ = false) :=
  ⟨cell_pair h.2, by simp [World.frozen?, h.2], by simp [World.frozen?, h.2]⟩
theorem Blk.done {U w : World} {t : TypeId} {x y : Value} {g : Nat} (h : Blk U w t x y g) (hb : Below U.heap.size U w) (a b : Value) : Below U.heap.size U ((w.setCell ⟨g, 0, none⟩ a).setCell ⟨g, 1, none⟩ b) ∧ ((w.setCell ⟨g, 0, none⟩ a).setCell ⟨g, 1, none⟩ b).heap[g]? = some (.cells #[a, b] t (0, 0)) := by
  refine ⟨(hb.setCell h.1 _).setCell h.1 _, ?_⟩
  rw [heap_setCell_row (heap_setCell_row h.2 0 a) 1 b]
  simp
set_option maxHeartbeats 1000000 in
set_option maxRecDepth 100000 in
theorem sum_not (p q : Int × Int) (w : World) (hp : R64 p) (hq : R64 q) (hr : (rtB p && rtB q) = false) :
    Calls Try.prog 18 #[rv p, rv q] w fun e w' => e = .returned (.tuple #[rv (0, 0), .int .i64 2]) ∧ Below w.heap.size w w' := by
  obtain ⟨n, d⟩ := p
  obtain ⟨m, f⟩ := q
  have hR1 := fun w => right_any (n, d) w hp
  have hR2 := fun w => right_any (m, f) w hq
  unfold rv at hR1 hR2 ⊢
  simp only at hR1 hR2 ⊢
  obtain ⟨V, hV, hB⟩ := bks3 w (.cells #[.int .i64 n, .int .i64 d] 37) (.cells #[.int .i64 m, .int .i64 f] 37) (.cells #[.int .i64 0, .int .i64 0] 37)
  have HV := Lib.hid hV
  clear hV
  cases h1 : rtB (n, d) with
  | false =>
    rw [h1] at hR1
    clear hr h1 hR2
    go_enter Try.func18, Try.ntmps18
    go_wp2_with fail
    rw [← HV.out]
    refine (hR1 _).mono ?_
    rintro e V1 ⟨rfl, hb1⟩
    have hB1 := hB.later hb1
    obtain ⟨⟨k1, k2⟩, ⟨k3, k4⟩, k5⟩ := hB1.pair 2 rfl
    have HB := Lib.hid hB1
    clear hB hb1 hB1
    go_wp2
    exact bodyPost_ret (v := .tuple #[.agg #[.int .i64 0, .int .i64 0], .int .i64 2]) (by simp [results, Try.results18, go_sem, k1, k2]) rfl ⟨rfl, (HB.out.1.setCell (by simp; omega) _).setCell (by simp; omega) _⟩
  | true =>
    rw [h1, Bool.true_and] at hr
    rw [h1] at hR1
    rw [hr] at hR2
    clear hr h1
    go_enter Try.func18, Try.ntmps18
    go_wp2_with fail
    rw [← HV.out]
    refine (hR1 _).mono ?_
    rintro e V1 ⟨rfl, hb1⟩
    have hB1 := hB.later hb1
    obtain ⟨⟨c0, c1⟩, _, _⟩ := hB1.pair 1 rfl
    have HB := Lib.hid hB1
    clear hB hb1 hB1
    go_wp2_with fail
    refine (hR2 _).mono ?_
    rintro e V2 ⟨rfl, hb2⟩
    have hB2 := HB.out.later hb2
    obtain ⟨⟨k1, k2⟩, ⟨k3, k4⟩, k5⟩ := hB2.pair 2 rfl
    have HB2 := Lib.hid hB2
    clear hB2 hb2 HB
    go_wp2
    exact bodyPost_ret (v := .tuple #[.agg #[.int .i64 0, .int .i64 0], .int .i64 2]) (by simp [results, Try.results18, go_sem, k1, k2]) rfl ⟨rfl, (HB2.out.1.setCell (by simp; omega) _).setCell (by simp; omega) _⟩
/-- what Sum reckons with -/
theorem sum_parts (n1 n2 : Int) (D1 D2 g e1 e2 x y s T f : Nat) (S : Bool) (h1 : I64n n1) (h2 : I64n n2) (hD1 : 0 < D1) (l1 : D1 ≤ 9223372036854775807) (l2 : D2 ≤ 9223372036854775807)
    (r1 : Nat.gcd n1.natAbs D1 = 1) (r2 : Nat.gcd n2.natAbs D2 = 1) (hg : g = Nat.gcd D1 D2) (he1 : e1 = D1 / g) (he2 : e2 = D2 / g) (hx : x = n1.natAbs * e2) (hy : y = n2.natAbs * e1)
    (hS : S = totS (decide (n1 < 0)) (decide (n2 < 0)) x y) (hT : T = totN (decide (n1 < 0)) (decide (n2 < 0)) x y) (hs : s = Nat.gcd (T % g) g) (hf : f = D2 / s) :
    ExactM.low (n1 * D2 + n2 * D1) ((D1 : Int) * D2) = (numV S (T / s), numV false (e1 * f)) ∧ 0 < s ∧ 0 < g ∧ s ≤ g ∧ g ≤ D1 ∧ e1 ≤ D1 ∧ e2 ≤ D2 ∧ f ≤ D2 ∧ x + y < 340282366920938463463374607431768211456 ∧ T ≤ x + y ∧ e1 * f < 340282366920938463463374607431768211456 ∧ T / s ≤ T := by
  have ht := tot_is (decide (n1 < 0)) (decide (n2 < 0)) x y
  rw [← hS, ← hT] at ht
  have en : ∀ (n : Int) (k : Nat), numV (decide (n < 0)) (n.natAbs * k) = n * k := by
    intro n k
    have := mul_sign n k
    rw [Int.natAbs_natCast] at this
    rw [← this]
    congr 1
    have hk : decide ((k : Int) < 0) = false := by simp
    rw [hk]
    simp
  rw [hx, hy, en, en] at ht
  have hTa : (n1 * e2 + n2 * e1).natAbs = T := by rw [← ht]; unfold numV; split <;> omega
  obtain ⟨L, s0, g0, sT, sg⟩ := ExactM.sum_low n1 n2 D1 D2 g e1 e2 s hD1 r1 r2 hg he1 he2 (by rw [hTa]; exact hs)
  rw [hTa] at sT
  have a1 := abs_lt n1 h1
  have a2 := abs_lt n2 h2
  have b1 : e1 ≤ D1 := by rw [he1]; exact Nat.div_le_self _ _
  have b2 : e2 ≤ D2 := by rw [he2]; exact Nat.div_le_self _ _
  have b3 : f ≤ D2 := by rw [hf]; exact Nat.div_le_self _ _
  have m1 : x ≤ 9223372036854775808 * 9223372036854775808 := by rw [hx]; exact Nat.mul_le_mul a1 (by omega)
  have m2 : y ≤ 9223372036854775808 * 9223372036854775808 := by rw [hy]; exact Nat.mul_le_mul a2 (by omega)
  have m3 : e1 * f ≤ 9223372036854775808 * 9223372036854775808 := Nat.mul_le_mul (by omega) (by omega)
  have hTl : T ≤ x + y := by rw [hT]; unfold totN; split; exact Nat.le_refl _; split <;> omega
  have gD : g ≤ D1 := by rw [hg]; exact Nat.le_of_dvd hD1 (Nat.gcd_dvd_left _ _)
  refine ⟨?_, s0, g0, sg, gD, b1, b2, b3, by omega, hTl, by omega, Nat.div_le_self _ _⟩
  rw [L]
  refine Prod.ext ?_ ?_
  · show (n1 * e2 + n2 * e1) / (s : Int) = numV S (T / s)
    rw [← ht]
    unfold numV
    cases S with
    | true =>
      simp only [if_true]
      rw [Int.neg_ediv_of_dvd (Int.natCast_dvd_natCast.2 sT)]
      simp
    | false => simp
  · show (e1 : Int) * ((D2 / s : Nat) : Int) = numV false (e1 * f)
    unfold numV
    rw [hf]
    simp
end Go.Proofs.Ythkcpaanegjodaa
