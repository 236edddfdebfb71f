
/- Rationals of two whole numbers: lowest terms, sums, comparing; that comparing is an order. Plain numbers; nothing of the program. -/
namespace ExactM

def Rt (a : Int × Int) : Prop := 0 < a.2 ∧ Int.gcd a.1 a.2 = 1
/-- lowest terms of n / d -/
def low (n d : Int) : Int × Int := (n / (Int.gcd n d : Int), d / (Int.gcd n d : Int))
def cmp (a b : Int × Int) : Int := if a.1 * b.2 < b.1 * a.2 then -1 else if a.1 * b.2 = b.1 * a.2 then 0 else 1
def add (a b : Int × Int) : Int × Int := low (a.1 * b.2 + b.1 * a.2) (a.2 * b.2)

theorem gcd_pos {n d : Int} (h : 0 < d) : 0 < (Int.gcd n d : Int) := by
  have : 0 < Int.gcd n d := Int.gcd_pos_of_ne_zero_right n (by omega)
  omega
theorem low_num {n d : Int} : (Int.gcd n d : Int) * (low n d).1 = n := Int.mul_ediv_cancel' (Int.gcd_dvd_left ..)
theorem low_den {n d : Int} : (Int.gcd n d : Int) * (low n d).2 = d := Int.mul_ediv_cancel' (Int.gcd_dvd_right ..)
theorem low_rt {n d : Int} (h : 0 < d) : Rt (low n d) := by
  have hg := gcd_pos (n := n) h
  refine ⟨?_, ?_⟩
  · have := low_den (n := n) (d := d)
    rcases Int.lt_or_le 0 (low n d).2 with h1 | h1
    · exact h1
    · have := Int.mul_nonpos_of_nonneg_of_nonpos (Int.le_of_lt hg) h1
      omega
  · have : 0 < Int.gcd n d := by omega
    exact Int.gcd_ediv_gcd_ediv_gcd this

theorem cmp_turn (a b : Int × Int) : cmp a b = -cmp b a := by
  unfold cmp
  split <;> split <;> (try split) <;> (try split) <;> omega
theorem cmp_lt {a b : Int × Int} : cmp a b < 0 ↔ a.1 * b.2 < b.1 * a.2 := by
  unfold cmp
  split
  · exact ⟨fun _ => by assumption, fun _ => by omega⟩
  · split <;> omega
theorem cmp_eq {a b : Int × Int} : cmp a b = 0 ↔ a.1 * b.2 = b.1 * a.2 := by
  unfold cmp
  split
  · omega
  · split <;> omega
theorem den_dvd {a b : Int × Int} (ha : Rt a) (h : a.1 * b.2 = b.1 * a.2) : a.2 ∣ b.2 := by
  rw [← Int.natAbs_dvd_natAbs]
  have hc : Nat.Coprime a.2.natAbs a.1.natAbs := by
    have := ha.2
    rw [Int.gcd_eq_natAbs_gcd_natAbs] at this
    rw [Nat.coprime_comm]
    exact this
  refine hc.dvd_of_dvd_mul_left ?_
  rw [← Int.natAbs_mul, h, Int.natAbs_mul]
  exact Nat.dvd_mul_left _ _
/-- only the same ones are the same -/
theorem rt_same {a b : Int × Int} (ha : Rt a) (hb : Rt b) : cmp a b = 0 ↔ a = b := by
  rw [cmp_eq]
  constructor
  · intro h
    have d1 := den_dvd ha h
    have d2 := den_dvd hb h.symm
    have e2 : a.2 = b.2 := Int.dvd_antisymm (Int.le_of_lt ha.1) (Int.le_of_lt hb.1) d1 d2
    have e1 : a.1 = b.1 := by
      rw [← e2] at h
      exact Int.eq_of_mul_eq_mul_right (by have := ha.1; omega) h
    exact Prod.ext e1 e2
  · rintro rfl; rfl
/-- what is less than a less one is less -/
theorem cmp_trans {a b c : Int × Int} (ha : 0 < a.2) (hb : 0 < b.2) (hc : 0 < c.2) (h1 : cmp a b < 0) (h2 : cmp b c < 0) : cmp a c < 0 := by
  rw [cmp_lt] at *
  have k1 : a.1 * b.2 * c.2 < b.1 * a.2 * c.2 := Int.mul_lt_mul_of_pos_right h1 hc
  have k2 : b.1 * c.2 * a.2 < c.1 * b.2 * a.2 := Int.mul_lt_mul_of_pos_right h2 ha
  have e1 : b.1 * a.2 * c.2 = b.1 * c.2 * a.2 := by grind
  have k3 : a.1 * c.2 * b.2 < c.1 * a.2 * b.2 := by
    have e2 : a.1 * c.2 * b.2 = a.1 * b.2 * c.2 := by grind
    have e3 : c.1 * a.2 * b.2 = c.1 * b.2 * a.2 := by grind
    omega
  exact Int.lt_of_mul_lt_mul_right k3 (Int.le_of_lt hb)
/-- what both are multiplied by, above 0, plays no part -/
theorem cmp_scale {x y : Int} {p : Int} (hp : 0 < p) : (p * x < p * y ↔ x < y) ∧ (p * x = p * y ↔ x = y) :=
  ⟨⟨fun h => Int.lt_of_mul_lt_mul_left h (Int.le_of_lt hp), fun h => Int.mul_lt_mul_of_pos_left h hp⟩, ⟨fun h => Int.eq_of_mul_eq_mul_left (by omega) h, fun h => by rw [h]⟩⟩
theorem cmp_low {n1 d1 n2 d2 : Int} (h1 : 0 < d1) (h2 : 0 < d2) : cmp (low n1 d1) (low n2 d2) = cmp (n1, d1) (n2, d2) := by
  have g1 := gcd_pos (n := n1) h1
  have g2 := gcd_pos (n := n2) h2
  have a1 := low_num (n := n1) (d := d1)
  have a2 := low_den (n := n1) (d := d1)
  have b1 := low_num (n := n2) (d := d2)
  have b2 := low_den (n := n2) (d := d2)
  generalize (Int.gcd n1 d1 : Int) = g at *
  generalize (Int.gcd n2 d2 : Int) = k at *
  generalize (low n1 d1) = x at *
  generalize (low n2 d2) = y at *
  have hs := cmp_scale (x := x.1 * y.2) (y := y.1 * x.2) (p := g * k) (Int.mul_pos g1 g2)
  have e1 : n1 * d2 = g * k * (x.1 * y.2) := by rw [← a1, ← b2]; grind
  have e2 : n2 * d1 = g * k * (y.1 * x.2) := by rw [← a2, ← b1]; grind
  unfold cmp
  simp only [e1, e2, hs.1, hs.2]
/-- what is added leaves the order as it was -/
theorem cmp_add {a b c : Int × Int} (ha : 0 < a.2) (hb : 0 < b.2) (hc : 0 < c.2) : cmp (add a c) (add b c) = cmp a b := by
  unfold add
  rw [cmp_low (Int.mul_pos ha hc) (Int.mul_pos hb hc)]
  unfold cmp
  simp only
  have e : (a.1 * c.2 + c.1 * a.2) * (b.2 * c.2) - (b.1 * c.2 + c.1 * b.2) * (a.2 * c.2) = c.2 * c.2 * (a.1 * b.2 - b.1 * a.2) := by grind
  have hp := Int.mul_pos hc hc
  have hs := cmp_scale (x := a.1 * b.2 - b.1 * a.2) (y := 0) (p := c.2 * c.2) hp
  rw [Int.mul_zero, ← e] at hs
  have i1 : (a.1 * c.2 + c.1 * a.2) * (b.2 * c.2) < (b.1 * c.2 + c.1 * b.2) * (a.2 * c.2) ↔ a.1 * b.2 < b.1 * a.2 := by
    have := hs.1
    constructor
    · intro h; have := this.1 (by omega); omega
    · intro h; have := this.2 (by omega); omega
  have i2 : (a.1 * c.2 + c.1 * a.2) * (b.2 * c.2) = (b.1 * c.2 + c.1 * b.2) * (a.2 * c.2) ↔ a.1 * b.2 = b.1 * a.2 := by
    have := hs.2
    constructor
    · intro h; have := this.1 (by omega); omega
    · intro h; have := this.2 (by omega); omega
  simp only [i1, i2]
theorem add_turn (a b : Int × Int) : add a b = add b a := by
  unfold add
  rw [Int.add_comm, Int.mul_comm a.2 b.2]
theorem add_rt {a b : Int × Int} (ha : 0 < a.2) (hb : 0 < b.2) : Rt (add a b) := low_rt (Int.mul_pos ha hb)
end ExactM
