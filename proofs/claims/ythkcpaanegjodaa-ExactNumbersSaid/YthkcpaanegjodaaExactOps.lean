
/- Rows of bits: the steps of a sum, a difference, a product, a division, and of a greatest common divisor. Plain lists; nothing of the program. -/
import Derived.Test.YthkcpaanegjodaaExactMath
namespace ExactM

theorem len_ofN (n : Nat) : ∀ k, n < 2 ^ k → (ofN n).length ≤ k := by
  induction n using Nat.strongRecOn with
  | _ n ih =>
    intro k hk
    by_cases h : n = 0
    · subst h; rw [ofN_zero]; simp
    · cases k with
      | zero => simp at hk; exact absurd hk h
      | succ k =>
        rw [ofN_pos h, List.length_cons]
        have := ih (n / 2) (by omega) k (by rw [Nat.pow_succ] at hk; omega)
        omega
theorem ofN_ne (n : Nat) : ofN n = [] ↔ n = 0 := by
  constructor
  · intro h
    have := val_ofN n
    rw [h] at this
    exact this.symm
  · rintro rfl; exact ofN_zero

/-- one step of a sum: the bit that comes out, what is carried -/
theorem plus_step (a b out : List Bool) (i c n : Nat) (hi : out.length = i) (h : val out + c * 2 ^ i = val (a.take i) + val (b.take i)) (hn : n = bitN a i + bitN b i + c) :
    val (out ++ [n % 2 == 1]) + n / 2 * 2 ^ (i + 1) = val (a.take (i + 1)) + val (b.take (i + 1)) := by
  rw [val_snoc, toNat_beq, val_take, val_take, hi, Nat.pow_succ]
  have e : n / 2 * (2 ^ i * 2) + n % 2 * 2 ^ i = n * 2 ^ i := by
    rw [Nat.mul_comm (2 ^ i) 2, ← Nat.mul_assoc, ← Nat.add_mul]
    congr 1
    omega
  have e2 : n * 2 ^ i = bitN a i * 2 ^ i + bitN b i * 2 ^ i + c * 2 ^ i := by rw [hn, Nat.add_mul, Nat.add_mul]
  omega
/-- behind a sum's last step nothing is carried -/
theorem plus_end (a b out : List Bool) (i c : Nat) (hi : i = a.length + b.length + 1) (ho : out.length = i) (hc : c ≤ 1) (h : val out + c * 2 ^ i = val (a.take i) + val (b.take i)) : val out = val a + val b := by
  rw [List.take_of_length_le (by omega), List.take_of_length_le (by omega)] at h
  have ha := val_lt a
  have hb := val_lt b
  have h1 : 2 ^ a.length ≤ 2 ^ (a.length + b.length) := Nat.pow_le_pow_right (by decide) (by omega)
  have h2 : 2 ^ b.length ≤ 2 ^ (a.length + b.length) := Nat.pow_le_pow_right (by decide) (by omega)
  have h3 : 2 ^ i = 2 * 2 ^ (a.length + b.length) := by rw [hi, Nat.pow_succ, Nat.mul_comm]
  rcases Nat.le_one_iff_eq_zero_or_eq_one.1 hc with e | e
  · subst e; omega
  · subst e; omega

/-- one step of a difference -/
theorem minus_step (a b out : List Bool) (i c : Nat) (n : Int) (hc : c ≤ 1) (hi : out.length = i) (h : val out + val (b.take i) = val (a.take i) + c * 2 ^ i) (hn : n = (bitN a i : Int) - (bitN b i : Int) - (c : Int)) :
    (n < 0 → val (out ++ [decide (n + 2 = 1)]) + val (b.take (i + 1)) = val (a.take (i + 1)) + 1 * 2 ^ (i + 1)) ∧ (¬ n < 0 → val (out ++ [decide (n = 1)]) + val (b.take (i + 1)) = val (a.take (i + 1)) + 0 * 2 ^ (i + 1)) := by
  have ha := bitN_le a i
  have hb := bitN_le b i
  rw [val_snoc, val_snoc, val_take, val_take, hi, Nat.pow_succ]
  generalize 2 ^ i = z at *
  generalize bitN a i = x at *
  generalize bitN b i = y at *
  have hx : x = 0 ∨ x = 1 := by omega
  have hy : y = 0 ∨ y = 1 := by omega
  have hcc : c = 0 ∨ c = 1 := by omega
  rcases hx with rfl | rfl <;> rcases hy with rfl | rfl <;> rcases hcc with rfl | rfl <;> subst hn <;> simp <;> omega
theorem minus_end (a b out : List Bool) (c : Nat) (hc : c ≤ 1) (ho : out.length = a.length) (hb : b.length ≤ a.length) (hle : val b ≤ val a) (h : val out + val (b.take a.length) = val (a.take a.length) + c * 2 ^ a.length) : val out = val a - val b := by
  rw [List.take_of_length_le (by omega), List.take_of_length_le (Nat.le_refl _)] at h
  have h1 := val_lt out
  rw [ho] at h1
  rcases Nat.le_one_iff_eq_zero_or_eq_one.1 hc with e | e
  · subst e; omega
  · subst e; omega
/-- one that is not greater is not longer -/
theorem len_le {a b : List Bool} (hb : Tr b) (h : val b ≤ val a) : b.length ≤ a.length := by
  by_cases hl : b.length ≤ a.length
  · exact hl
  · have := less_len (a := a) hb (by omega)
    omega

/-- a bit laid in front, and trimmed -/
theorem shift_is (b : Bool) (n : Nat) : val (b :: ofN n) = b.toNat + 2 * n := by rw [val, val_ofN]

/-- one step of a product, of a division: from the highest bit on -/
theorem times_step (x : Nat) (b : List Bool) (i : Nat) (h : i < b.length) : x * val (b.drop i) = 2 * (x * val (b.drop (i + 1))) + (if b[i] = true then x else 0) := by
  rw [val_drop b i h, Nat.mul_add]
  have e : x * (2 * val (b.drop (i + 1))) = 2 * (x * val (b.drop (i + 1))) := Nat.mul_left_comm _ _ _
  cases hb : b[i] with
  | true => simp only [Bool.toNat_true, if_true]; omega
  | false => simp only [Bool.toNat_false]; simp; omega
theorem over_step (a : List Bool) (y i : Nat) (hy : 0 < y) (h : i < a.length) :
    (2 * (val (a.drop (i + 1)) % y) + (a[i]).toNat < y → val (a.drop i) % y = 2 * (val (a.drop (i + 1)) % y) + (a[i]).toNat ∧ val (a.drop i) / y = 2 * (val (a.drop (i + 1)) / y)) ∧
    (¬ 2 * (val (a.drop (i + 1)) % y) + (a[i]).toNat < y → val (a.drop i) % y = 2 * (val (a.drop (i + 1)) % y) + (a[i]).toNat - y ∧ val (a.drop i) / y = 2 * (val (a.drop (i + 1)) / y) + 1) := by
  rw [val_drop a i h]
  have hb : (a[i]).toNat ≤ 1 := by cases a[i] <;> simp
  generalize (a[i]).toNat = t at *
  generalize val (a.drop (i + 1)) = z at *
  have hm := Nat.mod_add_div z y
  have hlt := Nat.mod_lt z hy
  generalize z % y = r at *
  generalize z / y = q at *
  have e : t + 2 * z = (2 * r + t) + y * (2 * q) := by
    have : y * (2 * q) = 2 * (y * q) := Nat.mul_left_comm _ _ _
    omega
  rw [e]
  constructor
  · intro hc
    rw [Nat.add_mul_mod_self_left, Nat.mod_eq_of_lt hc, Nat.add_mul_div_left _ _ hy, Nat.div_eq_of_lt hc, Nat.zero_add]
    exact ⟨rfl, rfl⟩
  · intro hc
    have e2 : 2 * r + t = (2 * r + t - y) + y * 1 := by omega
    have hl : 2 * r + t - y < y := by omega
    rw [Nat.add_mul_mod_self_left, Nat.add_mul_div_left _ _ hy]
    have e3 : (2 * r + t) % y = 2 * r + t - y := by rw [e2, Nat.add_mul_mod_self_left, Nat.mod_eq_of_lt hl]; omega
    have e4 : (2 * r + t) / y = 1 := by rw [e2, Nat.add_mul_div_left _ _ hy, Nat.div_eq_of_lt hl]
    rw [e3, e4]
    exact ⟨rfl, by omega⟩
end ExactM
