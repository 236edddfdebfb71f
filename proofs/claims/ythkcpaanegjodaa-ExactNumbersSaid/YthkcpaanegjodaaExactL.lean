
/- exact: Sum, whole. -/
import Derived.Test.YthkcpaanegjodaaExactK
namespace Go.Proofs.Ythkcpaanegjodaa
open Go.RowKit

theorem sum_yes (p q : Int × Int) (w : World) (hp : R64 p) (hq : R64 q) (h1 : rtB p = true) (h2 : rtB q = true) :
    Calls Try.prog 18 #[rv p, rv q] w fun e w' => e = .returned (.tuple #[rv (ansV (p.1 * q.2 + q.1 * p.2) (p.2 * q.2)), .int .i64 (ansC (p.1 * q.2 + q.1 * p.2) (p.2 * q.2))]) ∧ Below w.heap.size w w' := by
  have t1 := (rtB_iff p).1 h1
  have t2 := (rtB_iff q).1 h2
  have hR1 := fun w => right_any p w hp
  have hR2 := fun w => right_any q w hq
  rw [h1] at hR1
  rw [h2] at hR2
  obtain ⟨n1, d1⟩ := p
  obtain ⟨n2, d2⟩ := q
  obtain ⟨a1, a2⟩ := hp
  obtain ⟨b1, b2⟩ := hq
  obtain ⟨p1, r1⟩ := t1
  obtain ⟨p2, r2⟩ := t2
  simp only at a1 a2 b1 b2 p1 p2 r1 r2
  obtain ⟨D1, e⟩ : ∃ D : Nat, d1 = (D : Int) := ⟨d1.toNat, by omega⟩
  subst e
  obtain ⟨D2, e⟩ : ∃ D : Nat, d2 = (D : Int) := ⟨d2.toNat, by omega⟩
  subst e
  have r1' : Nat.gcd n1.natAbs D1 = 1 := r1
  have r2' : Nat.gcd n2.natAbs D2 = 1 := r2
  have l1 : D1 ≤ 9223372036854775807 := by unfold I64n at a2; omega
  have l2 : D2 ≤ 9223372036854775807 := by unfold I64n at b2; omega
  obtain ⟨g, hg⟩ : ∃ g, g = Nat.gcd D1 D2 := ⟨_, rfl⟩
  obtain ⟨e1, he1⟩ : ∃ e1, e1 = D1 / g := ⟨_, rfl⟩
  obtain ⟨e2, he2⟩ : ∃ e2, e2 = D2 / g := ⟨_, rfl⟩
  obtain ⟨x, hx⟩ : ∃ x, x = n1.natAbs * e2 := ⟨_, rfl⟩
  obtain ⟨y, hy⟩ : ∃ y, y = n2.natAbs * e1 := ⟨_, rfl⟩
  obtain ⟨S, hS⟩ : ∃ S, S = totS (decide (n1 < 0)) (decide (n2 < 0)) x y := ⟨_, rfl⟩
  obtain ⟨T, hT⟩ : ∃ T, T = totN (decide (n1 < 0)) (decide (n2 < 0)) x y := ⟨_, rfl⟩
  obtain ⟨s, hs⟩ : ∃ s, s = Nat.gcd (T % g) g := ⟨_, rfl⟩
  obtain ⟨f, hf⟩ : ∃ f, f = D2 / s := ⟨_, rfl⟩
  obtain ⟨L, s0, g0, sg, gD, be1, be2, bf, bxy, bT, bef, bTs⟩ := sum_parts n1 n2 D1 D2 g e1 e2 x y s T f S a1 b1 (by omega) l1 l2 r1' r2' hg he1 he2 hx hy hS hT hs hf
  have m1 := abs_lt n1 a1
  have m2 := abs_lt n2 b1
  have hrl := Nat.mod_lt T g0
  refine sum_walk n1 n2 D1 D2 n1.natAbs n2.natAbs g e1 e2 (T / 18446744073709551616) (T % 18446744073709551616) (T % g) s f (decide (n1 < 0)) (decide (n2 < 0)) S (fitB (numV S (T / s))) (fitB (numV false (e1 * f))) (wv x) (wv y) (wv (T / s)) (wv (e1 * f)) (fitV (numV S (T / s))) (fitV (numV false (e1 * f))) w
    l1 l2 g0 (by omega) s0 (by rw [he1]; simp) (by rw [he2]; simp) (by rw [hf]; simp) (by omega) (by omega) (by omega) rfl rfl hR1 hR2 (fun w => ?_) (fun w => size_any n1 w a1) (fun w => size_any n2 w b1) (fun w => ?_) (fun w => ?_) (fun w => ?_) (fun w => wrest_any T g w g0 (by omega) (by omega)) (fun w => ?_) (fun w => wover_any T s w s0 (by omega) (by omega)) (fun w => number_any S (T / s) w (by omega)) (fun w => product_any e1 f w (by omega) (by omega)) (fun w => number_any false (e1 * f) w bef) _ _ (fun h => ?_) (fun h => ?_)
  · rw [hg]; exact divisor_any D1 D2 w (by omega) (by omega)
  · rw [hx]; exact product_any n1.natAbs e2 w (by omega) (by omega)
  · rw [hy]; exact product_any n2.natAbs e1 w (by omega) (by omega)
  · have := total_any (decide (n1 < 0)) (decide (n2 < 0)) x y w bxy
    rw [← hS, ← hT] at this
    exact this
  · have := divisor_any (T % g) g w (by omega) (by omega)
    rw [← hs] at this
    exact this
  · have hb : ansB (n1 * (D2 : Int) + n2 * (D1 : Int)) ((D1 : Int) * (D2 : Int)) = true := by unfold ansB; rw [L]; exact h
    rw [Bool.and_eq_true] at h
    unfold ansV ansC fitV
    rw [h.1, h.2]
    simp only
    rw [hb, L]
    exact ⟨rfl, rfl⟩
  · have hb : ansB (n1 * (D2 : Int) + n2 * (D1 : Int)) ((D1 : Int) * (D2 : Int)) = false := by unfold ansB; rw [L]; exact h
    unfold ansV ansC
    simp only
    rw [hb]
    exact ⟨rfl, rfl⟩
theorem sum_any (p q : Int × Int) (w : World) (hp : R64 p) (hq : R64 q) :
    Calls Try.prog 18 #[rv p, rv q] w fun e w' => e = .returned (.tuple #[rv (sumV p q), .int .i64 (sumC p q)]) ∧ Below w.heap.size w w' := by
  unfold sumV sumC
  cases h : (rtB p && rtB q) with
  | true =>
    rw [Bool.and_eq_true] at h
    exact sum_yes p q w hp hq h.1 h.2
  | false => exact sum_not p q w hp hq h
end Go.Proofs.Ythkcpaanegjodaa
