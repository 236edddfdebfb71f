
/- Two words by one, digit by digit of 32 bits: the guess of a digit and its mending. Plain numbers; nothing of the program. -/
namespace ExactM

/-- a guess q of a digit, with what it leaves of the upper word -/
def KI (u u1 y1 y0 q r : Nat) : Prop := u = q * y1 + r ∧ q ≤ 4294967297 ∧ r < 4294967296 ∧ u * 4294967296 + u1 < (q + 1) * (y1 * 4294967296 + y0)
/-- the digit -/
def KE (u u1 Y q : Nat) : Prop := q * Y ≤ u * 4294967296 + u1 ∧ u * 4294967296 + u1 < (q + 1) * Y
theorem ki_start (u u1 y1 y0 Y q p r : Nat) (hY : Y = y1 * 4294967296 + y0) (h0 : y0 < 4294967296) (h1 : 2147483648 ≤ y1) (h2 : y1 < 4294967296) (hu : u < Y) (hu1 : u1 < 4294967296) (hq : q = u / y1) (hp : p = q * y1) (hr : r = u - p) : p ≤ u ∧ KI u u1 y1 y0 q r := by
  have hm := Nat.div_add_mod u y1
  have hl := Nat.mod_lt u (show 0 < y1 by omega)
  rw [← hq, Nat.mul_comm, ← hp] at hm
  have hr' : r = u % y1 := by omega
  refine ⟨by omega, by omega, ?_, by omega, ?_⟩
  · have : u < 4294967298 * y1 := by omega
    have h3 : q < 4294967298 := by rw [hq]; exact Nat.div_lt_of_lt_mul (by omega)
    omega
  · have e1 : (q + 1) * (y1 * 4294967296 + y0) = (p + y1) * 4294967296 + (q + 1) * y0 := by rw [hp]; grind
    have e2 : (u + 1) * 4294967296 ≤ (p + y1) * 4294967296 := Nat.mul_le_mul_right _ (by omega)
    omega
theorem ki_more (u u1 y1 y0 Y q r p : Nat) (hY : Y = y1 * 4294967296 + y0) (hu : u < Y) (hu1 : u1 < 4294967296) (hp : p = q * y0) (h : KI u u1 y1 y0 q r) (hc : 4294967296 ≤ q ∨ 4294967296 * r + u1 < p) :
    1 ≤ q ∧ u = (q - 1) * y1 + (r + y1) ∧ u * 4294967296 + u1 < (q - 1 + 1) * Y := by
  obtain ⟨h1, h2, h3, h4⟩ := h
  have hlt : u * 4294967296 + u1 < q * Y := by
    rcases hc with hc | hc
    · have e : (u + 1) * 4294967296 ≤ Y * 4294967296 := Nat.mul_le_mul_right _ (by omega)
      have e2 : Y * 4294967296 ≤ Y * q := Nat.mul_le_mul_left _ hc
      have e3 : Y * q = q * Y := Nat.mul_comm _ _
      omega
    · have e : q * Y = q * y1 * 4294967296 + p := by rw [hY, hp]; grind
      omega
  have hq : 1 ≤ q := by
    rcases Nat.eq_zero_or_pos q with e | e
    · subst e; omega
    · exact e
  obtain ⟨k, rfl⟩ : ∃ k, q = k + 1 := ⟨q - 1, by omega⟩
  refine ⟨hq, ?_, by simpa using hlt⟩
  have e : (k + 1) * y1 = k * y1 + y1 := by grind
  simp only [Nat.add_sub_cancel]
  omega
theorem ki_on (u u1 y1 y0 Y q r : Nat) (hY : Y = y1 * 4294967296 + y0) (hu : u = (q - 1) * y1 + (r + y1)) (hq : q ≤ 4294967297) (hlt : u * 4294967296 + u1 < (q - 1 + 1) * Y) (hr : r + y1 < 4294967296) : KI u u1 y1 y0 (q - 1) (r + y1) :=
  ⟨hu, by omega, hr, by rw [← hY]; exact hlt⟩
theorem ki_break (u u1 y1 y0 Y q r : Nat) (hY : Y = y1 * 4294967296 + y0) (h0 : y0 < 4294967296) (hu : u = (q - 1) * y1 + (r + y1)) (hq : q ≤ 4294967297) (hlt : u * 4294967296 + u1 < (q - 1 + 1) * Y) (hr : 4294967296 ≤ r + y1) : KE u u1 Y (q - 1) := by
  refine ⟨?_, hlt⟩
  have e1 : (q - 1) * Y = (q - 1) * y1 * 4294967296 + (q - 1) * y0 := by rw [hY]; grind
  have e2 : (q - 1) * y0 ≤ 4294967296 * y0 := Nat.mul_le_mul_right _ (by omega)
  omega
theorem ki_end (u u1 y1 y0 Y q r p : Nat) (hY : Y = y1 * 4294967296 + y0) (hp : p = q * y0) (h : KI u u1 y1 y0 q r) (hc : ¬ 4294967296 * r + u1 < p) : KE u u1 Y q := by
  obtain ⟨h1, h2, h3, h4⟩ := h
  refine ⟨?_, by rw [hY]; exact h4⟩
  have e : q * Y = q * y1 * 4294967296 + p := by rw [hY, hp]; grind
  omega
theorem ke_rest {u u1 Y q : Nat} (h : KE u u1 Y q) : u * 4294967296 + u1 - q * Y < Y ∧ q * Y ≤ u * 4294967296 + u1 := by
  obtain ⟨h1, h2⟩ := h
  rw [Nat.add_mul, Nat.one_mul] at h2
  exact ⟨by omega, h1⟩
theorem ke_small {u u1 Y q : Nat} (h : KE u u1 Y q) (hu : u < Y) (hu1 : u1 < 4294967296) : q < 4294967296 := by
  obtain ⟨h1, _⟩ := h
  have e : (u + 1) * 4294967296 ≤ Y * 4294967296 := Nat.mul_le_mul_right _ (by omega)
  rcases Nat.lt_or_ge q 4294967296 with hq | hq
  · exact hq
  · have e2 : Y * 4294967296 ≤ Y * q := Nat.mul_le_mul_left _ hq
    have e3 : Y * q = q * Y := Nat.mul_comm _ _
    omega
/-- two digits make the quotient -/
theorem ke_two (u u1 u0 Y q1 t q0 : Nat) (h : KE u u1 Y q1) (ht : t = u * 4294967296 + u1 - q1 * Y) (h0 : KE t u0 Y q0) (hY : 0 < Y) :
    (u * 18446744073709551616 + (u1 * 4294967296 + u0)) / Y = q1 * 4294967296 + q0 ∧ (u * 18446744073709551616 + (u1 * 4294967296 + u0)) % Y = t * 4294967296 + u0 - q0 * Y := by
  obtain ⟨h1, h2⟩ := ke_rest h
  obtain ⟨h3, h4⟩ := ke_rest h0
  have e : u * 18446744073709551616 + (u1 * 4294967296 + u0) = (t * 4294967296 + u0 - q0 * Y) + Y * (q1 * 4294967296 + q0) := by
    have e1 : Y * (q1 * 4294967296 + q0) = q1 * Y * 4294967296 + q0 * Y := by grind
    omega
  rw [e, Nat.add_mul_div_left _ _ hY, Nat.div_eq_of_lt h3, Nat.add_mul_mod_self_left, Nat.mod_eq_of_lt h3]
  exact ⟨by omega, rfl⟩
/-- both multiplied by a power of two -/
theorem div_scaled (n y k : Nat) (hk : 0 < k) : n * k / (y * k) = n / y ∧ n * k % (y * k) = (n % y) * k := by
  rw [Nat.mul_comm n k, Nat.mul_comm y k, Nat.mul_div_mul_left _ _ hk, Nat.mul_mod_mul_left, Nat.mul_comm k]
  exact ⟨rfl, rfl⟩
/-- the upper word, shifted, with what comes up out of the lower one -/
theorem shifted (hi lo s y : Nat) (hs : s ≤ 63) (hlo : lo < 18446744073709551616) (hhi : hi < y) :
    (hi * 2 ^ s + lo / 2 ^ (64 - s)) * 18446744073709551616 + lo * 2 ^ s % 18446744073709551616 = (hi * 18446744073709551616 + lo) * 2 ^ s ∧ hi * 2 ^ s + lo / 2 ^ (64 - s) < y * 2 ^ s := by
  have hp : (18446744073709551616 : Nat) = 2 ^ (64 - s) * 2 ^ s := by rw [← Nat.pow_add, show 64 - s + s = 64 by omega]
  have e1 : lo * 2 ^ s % 18446744073709551616 = (lo % 2 ^ (64 - s)) * 2 ^ s := by rw [hp, Nat.mul_comm lo, Nat.mul_comm (2 ^ (64 - s)), Nat.mul_mod_mul_left, Nat.mul_comm]
  have e2 := Nat.div_add_mod lo (2 ^ (64 - s))
  have e3 : lo / 2 ^ (64 - s) < 2 ^ s := Nat.div_lt_of_lt_mul (by rw [← hp]; exact hlo)
  constructor
  · rw [e1, Nat.add_mul, Nat.add_mul, Nat.add_assoc]
    congr 1
    · grind
    · have : lo / 2 ^ (64 - s) * 18446744073709551616 = 2 ^ (64 - s) * (lo / 2 ^ (64 - s)) * 2 ^ s := by rw [hp]; grind
      rw [this, ← Nat.add_mul, e2]
  · have : (hi + 1) * 2 ^ s ≤ y * 2 ^ s := Nat.mul_le_mul_right _ (by omega)
    rw [Nat.add_mul, Nat.one_mul] at this
    omega
end ExactM
