
/- Sums and products of rationals in lowest terms by the greatest common divisor of the lower numbers. Plain numbers; nothing of the program. -/
import Derived.Test.YthkcpaanegjodaaExactRat
namespace ExactM

theorem natAbs_gcd (n d : Int) : Int.gcd n d = Nat.gcd n.natAbs d.natAbs := rfl
theorem nat_dvd {k : Nat} {z : Int} : (k : Int) ∣ z ↔ k ∣ z.natAbs := by
  rw [← Int.natAbs_dvd_natAbs, Int.natAbs_natCast]
/-- what both are multiplied by falls away -/
theorem low_scale (k n d : Int) (hk : 0 < k) : low (k * n) (k * d) = low n d := by
  unfold low
  have e : (Int.gcd (k * n) (k * d) : Int) = k * (Int.gcd n d : Int) := by
    rw [Int.gcd_mul_left, Int.natCast_mul]
    congr 1
    omega
  rw [e, Int.mul_ediv_mul_of_pos _ _ hk, Int.mul_ediv_mul_of_pos _ _ hk]
theorem cop_part (n1 n2 : Int) (d1 e1 e2 : Nat) (hr : Nat.gcd n1.natAbs d1 = 1) (hd : e1 ∣ d1) (hc : Nat.gcd e1 e2 = 1) : Nat.Coprime e1 (n1 * e2 + n2 * e1).natAbs := by
  have k1 : Nat.gcd e1 (n1 * e2 + n2 * e1).natAbs ∣ e1 := Nat.gcd_dvd_left _ _
  have k2 : Nat.gcd e1 (n1 * e2 + n2 * e1).natAbs ∣ (n1 * e2 + n2 * e1).natAbs := Nat.gcd_dvd_right _ _
  generalize hk : Nat.gcd e1 (n1 * e2 + n2 * e1).natAbs = k at *
  have k3 : (k : Int) ∣ n1 * e2 + n2 * e1 := nat_dvd.2 k2
  have k4 : (k : Int) ∣ n2 * e1 := Int.dvd_trans (Int.natCast_dvd_natCast.2 k1) (Int.dvd_mul_left _ _)
  have k5 : (k : Int) ∣ n1 * e2 := (Int.dvd_iff_dvd_of_dvd_add k3).2 k4
  have k6 : k ∣ n1.natAbs * e2 := by
    have := nat_dvd.1 k5
    rw [Int.natAbs_mul] at this
    simpa using this
  have k7 : Nat.Coprime k e2 := Nat.Coprime.coprime_dvd_left k1 hc
  have k8 : k ∣ n1.natAbs := k7.dvd_of_dvd_mul_right k6
  have k9 : k ∣ Nat.gcd n1.natAbs d1 := Nat.dvd_gcd k8 (Nat.dvd_trans k1 hd)
  rw [hr] at k9
  have : k = 1 := Nat.dvd_one.1 k9
  show Nat.gcd e1 (n1 * e2 + n2 * e1).natAbs = 1
  rw [hk]; exact this
/-- a sum's lowest terms -/
theorem sum_low (n1 n2 : Int) (d1 d2 g e1 e2 s : Nat) (h1 : 0 < d1) (r1 : Nat.gcd n1.natAbs d1 = 1) (r2 : Nat.gcd n2.natAbs d2 = 1) (hg : g = Nat.gcd d1 d2) (he1 : e1 = d1 / g) (he2 : e2 = d2 / g) (hs : s = Nat.gcd ((n1 * e2 + n2 * e1).natAbs % g) g) :
    low (n1 * d2 + n2 * d1) ((d1 : Int) * d2) = ((n1 * e2 + n2 * e1) / s, (e1 : Int) * ((d2 / s : Nat) : Int)) ∧ 0 < s ∧ 0 < g ∧ s ∣ (n1 * e2 + n2 * e1).natAbs ∧ s ≤ g := by
  have g0 : 0 < g := by rw [hg]; exact Nat.gcd_pos_of_pos_left _ h1
  have g1 : g ∣ d1 := by rw [hg]; exact Nat.gcd_dvd_left _ _
  have g2 : g ∣ d2 := by rw [hg]; exact Nat.gcd_dvd_right _ _
  have f1 : d1 = g * e1 := by rw [he1]; exact (Nat.mul_div_cancel' g1).symm
  have f2 : d2 = g * e2 := by rw [he2]; exact (Nat.mul_div_cancel' g2).symm
  have c12 : Nat.gcd e1 e2 = 1 := by rw [he1, he2, hg]; exact Nat.coprime_div_gcd_div_gcd (by rw [← hg]; exact g0)
  have hs' : s = Nat.gcd (n1 * e2 + n2 * e1).natAbs g := by rw [hs, ← Nat.gcd_rec, Nat.gcd_comm]
  have s0 : 0 < s := by rw [hs']; exact Nat.gcd_pos_of_pos_right _ g0
  have sT : s ∣ (n1 * e2 + n2 * e1).natAbs := by rw [hs']; exact Nat.gcd_dvd_left _ _
  have sg : s ∣ g := by rw [hs']; exact Nat.gcd_dvd_right _ _
  have p1 := cop_part n1 n2 d1 e1 e2 r1 (by rw [f1]; exact Nat.dvd_mul_left _ _) c12
  have p2 := cop_part n2 n1 d2 e2 e1 r2 (by rw [f2]; exact Nat.dvd_mul_left _ _) (by rw [Nat.gcd_comm]; exact c12)
  rw [Int.add_comm] at p2
  refine ⟨?_, s0, g0, sT, Nat.le_of_dvd g0 sg⟩
  have eN : n1 * d2 + n2 * d1 = (g : Int) * (n1 * e2 + n2 * e1) := by rw [f1, f2]; simp only [Int.natCast_mul]; grind
  have eD : (d1 : Int) * d2 = (g : Int) * ((e1 : Int) * d2) := by rw [f1]; simp only [Int.natCast_mul]; grind
  rw [eN, eD, low_scale _ _ _ (by omega)]
  have hgc : Int.gcd (n1 * e2 + n2 * e1) ((e1 : Int) * d2) = s := by
    rw [natAbs_gcd, Int.natAbs_mul, Int.natAbs_natCast, Int.natAbs_natCast, Nat.Coprime.gcd_mul_left_cancel_right _ p1, f2, Nat.mul_comm g, Nat.Coprime.gcd_mul_left_cancel_right _ p2]
    exact hs'.symm
  unfold low
  rw [hgc]
  refine Prod.ext rfl ?_
  show (e1 : Int) * d2 / s = _
  have sd : s ∣ d2 := Nat.dvd_trans sg g2
  rw [Int.mul_ediv_assoc _ (Int.natCast_dvd_natCast.2 sd)]
  simp
/-- a product's lowest terms -/
theorem times_low (n m : Int) (d g : Nat) (hd : 0 < d) (r : Nat.gcd n.natAbs d = 1) (hg : g = Nat.gcd m.natAbs d) : low (n * m) (d : Int) = (n * (m / (g : Int)), ((d / g : Nat) : Int)) ∧ 0 < g ∧ (g : Int) ∣ m ∧ g ∣ d := by
  have g0 : 0 < g := by rw [hg]; exact Nat.gcd_pos_of_pos_right _ hd
  have gm : (g : Int) ∣ m := nat_dvd.2 (by rw [hg]; exact Nat.gcd_dvd_left _ _)
  have gd : g ∣ d := by rw [hg]; exact Nat.gcd_dvd_right _ _
  refine ⟨?_, g0, gm, gd⟩
  have hgc : Int.gcd (n * m) (d : Int) = g := by
    rw [natAbs_gcd, Int.natAbs_mul, Int.natAbs_natCast, Nat.Coprime.gcd_mul_left_cancel _ r, hg]
  unfold low
  rw [hgc, Int.mul_ediv_assoc _ gm]
  simp
end ExactM
