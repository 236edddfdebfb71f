
/- Varints, zigzags, rising rows and packed rows as plain lists: what is written, what is read, there and back. Nothing of the program. -/
namespace PackM

theorem u8_of (b : UInt8) : UInt8.ofNat b.toNat = b := by simp
theorem toNat_of (n : Nat) (h : n < 256) : (UInt8.ofNat n).toNat = n := by rw [UInt8.toNat_ofNat']; omega

/-- a varint -/
def vw (n : Nat) : List UInt8 := if n < 128 then [UInt8.ofNat n] else UInt8.ofNat (n % 128 + 128) :: vw (n / 128)
  termination_by n
theorem vw_lt {n : Nat} (h : n < 128) : vw n = [UInt8.ofNat n] := by rw [vw, if_pos h]
theorem vw_ge {n : Nat} (h : ¬ n < 128) : vw n = UInt8.ofNat (n % 128 + 128) :: vw (n / 128) := by rw [vw, if_neg h]
theorem vw_pos (n : Nat) : 0 < (vw n).length := by
  by_cases h : n < 128
  · rw [vw_lt h]; simp
  · rw [vw_ge h]; simp
theorem vw_len : ∀ (k n : Nat), n < 128 ^ (k + 1) → (vw n).length ≤ k + 1
  | 0, n, h => by rw [vw_lt (by simpa using h)]; simp
  | k + 1, n, h => by
    by_cases h1 : n < 128
    · rw [vw_lt h1]; simp
    · rw [vw_ge h1]
      have := vw_len k (n / 128) (by rw [Nat.div_lt_iff_lt_mul (by decide)]; rw [Nat.pow_succ] at h; exact h)
      simp; omega
theorem vw_len10 (n : Nat) (h : n < 18446744073709551616) : (vw n).length ≤ 10 := vw_len 9 n (by omega)

/-- the varint of a number up to most, off the front: place i, what is ahead is u -/
def num (most : Nat) : Nat → Nat → List UInt8 → Option (Nat × List UInt8)
  | _, _, [] => none
  | i, u, b :: t =>
    if most < u + b.toNat % 128 * 128 ^ i then none
    else if 128 ≤ b.toNat then num most (i + 1) (u + b.toNat % 128 * 128 ^ i) t
    else if b.toNat = 0 ∧ 0 < i then none
    else some (u + b.toNat % 128 * 128 ^ i, t)

theorem num_nil (most i u : Nat) : num most i u [] = none := rfl
theorem num_over {most i u : Nat} {b : UInt8} {t : List UInt8} (h : most < u + b.toNat % 128 * 128 ^ i) : num most i u (b :: t) = none := by
  rw [num, if_pos h]
theorem num_more {most i u : Nat} {b : UInt8} {t : List UInt8} (h : ¬ most < u + b.toNat % 128 * 128 ^ i) (h1 : 128 ≤ b.toNat) : num most i u (b :: t) = num most (i + 1) (u + b.toNat % 128 * 128 ^ i) t := by
  rw [num, if_neg h, if_pos h1]
theorem num_null {most i u : Nat} {b : UInt8} {t : List UInt8} (h : ¬ most < u + b.toNat % 128 * 128 ^ i) (h1 : b.toNat = 0) (h2 : 0 < i) : num most i u (b :: t) = none := by
  rw [num, if_neg h, if_neg (by omega), if_pos ⟨h1, h2⟩]
theorem num_end {most i u : Nat} {b : UInt8} {t : List UInt8} (h : ¬ most < u + b.toNat % 128 * 128 ^ i) (h1 : ¬ 128 ≤ b.toNat) (h2 : ¬ (b.toNat = 0 ∧ 0 < i)) : num most i u (b :: t) = some (u + b.toNat % 128 * 128 ^ i, t) := by
  rw [num, if_neg h, if_neg h1, if_neg h2]

theorem num_far {most : Nat} (hm : most < 18446744073709551616) : ∀ (s : List UInt8) (i u : Nat), 10 ≤ i → num most i u s = none
  | [], _, _, _ => rfl
  | b :: t, i, u, hi => by
    by_cases h : most < u + b.toNat % 128 * 128 ^ i
    · exact num_over h
    · by_cases h1 : 128 ≤ b.toNat
      · rw [num_more h h1]; exact num_far hm t _ _ (by omega)
      · have h0 : b.toNat % 128 = 0 := by
          rcases Nat.eq_zero_or_pos (b.toNat % 128) with e | e
          · exact e
          · exfalso
            apply h
            have h2 : 128 ^ 10 ≤ 128 ^ i := Nat.pow_le_pow_right (by decide) hi
            have h3 : 1 * 128 ^ i ≤ b.toNat % 128 * 128 ^ i := Nat.mul_le_mul_right _ e
            omega
        exact num_null h (by omega) (by omega)

theorem num_ge {most : Nat} : ∀ (s : List UInt8) (i u v : Nat) (t : List UInt8), num most i u s = some (v, t) → u ≤ v ∧ v ≤ most
  | [], _, _, _, _, h => by cases h
  | b :: r, i, u, v, t, h => by
    by_cases h0 : most < u + b.toNat % 128 * 128 ^ i
    · rw [num_over h0] at h; cases h
    · by_cases h1 : 128 ≤ b.toNat
      · rw [num_more h0 h1] at h
        have := num_ge r _ _ _ _ h
        omega
      · by_cases h2 : b.toNat = 0 ∧ 0 < i
        · rw [num_null h0 h2.1 h2.2] at h; cases h
        · rw [num_end h0 h1 h2] at h
          injection h with h
          injection h with h3 h4
          omega

/-- what is read by a greater bound, and goes into a less one, is read by this too -/
theorem num_less {m M : Nat} (hmM : m ≤ M) : ∀ (s : List UInt8) (i u : Nat), num m i u s = (num M i u s).bind fun x => if x.1 ≤ m then some x else none
  | [], _, _ => rfl
  | b :: r, i, u => by
    by_cases h0 : m < u + b.toNat % 128 * 128 ^ i
    · rw [num_over h0]
      cases hN : num M i u (b :: r) with
      | none => rfl
      | some x =>
        obtain ⟨v, t⟩ := x
        have hv : m < v := by
          by_cases h0' : M < u + b.toNat % 128 * 128 ^ i
          · rw [num_over h0'] at hN; cases hN
          · by_cases h1 : 128 ≤ b.toNat
            · rw [num_more h0' h1] at hN
              have := num_ge r _ _ _ _ hN
              omega
            · by_cases h2 : b.toNat = 0 ∧ 0 < i
              · rw [num_null h0' h2.1 h2.2] at hN; cases hN
              · rw [num_end h0' h1 h2] at hN
                injection hN with h
                injection h with h3 h4
                omega
        simp [Option.bind]; omega
    · have h0' : ¬ M < u + b.toNat % 128 * 128 ^ i := by omega
      by_cases h1 : 128 ≤ b.toNat
      · rw [num_more h0 h1, num_more h0' h1]; exact num_less hmM r _ _
      · by_cases h2 : b.toNat = 0 ∧ 0 < i
        · rw [num_null h0 h2.1 h2.2, num_null h0' h2.1 h2.2]; rfl
        · rw [num_end h0 h1 h2, num_end h0' h1 h2]
          simp [Option.bind]; omega

/-- there and back -/
theorem num_vw {most : Nat} (s : List UInt8) : ∀ (n i u : Nat), u + n * 128 ^ i ≤ most → (0 < i → 0 < n) → num most i u (vw n ++ s) = some (u + n * 128 ^ i, s) := by
  intro n
  induction n using Nat.strongRecOn with
  | _ n ih =>
    intro i u hb hp
    by_cases h : n < 128
    · rw [vw_lt h]
      have e : (UInt8.ofNat n).toNat = n := toNat_of n (by omega)
      have e2 : n % 128 = n := Nat.mod_eq_of_lt h
      rw [List.singleton_append, num_end (by rw [e, e2]; omega) (by rw [e]; omega) (by rw [e]; omega), e, e2]
    · rw [vw_ge h]
      have e : (UInt8.ofNat (n % 128 + 128)).toNat = n % 128 + 128 := toNat_of _ (by omega)
      have e2 : (n % 128 + 128) % 128 = n % 128 := by omega
      have e3 : n / 128 * 128 ^ (i + 1) + n % 128 * 128 ^ i = n * 128 ^ i := by
        rw [Nat.pow_succ, Nat.mul_comm (128 ^ i) 128, ← Nat.mul_assoc, ← Nat.add_mul]
        congr 1
        omega
      have hle : u + n % 128 * 128 ^ i ≤ most := by omega
      rw [List.cons_append, num_more (by rw [e, e2]; omega) (by rw [e]; omega), e, e2, ih (n / 128) (by omega) (i + 1) _ (by omega) (by omega)]
      congr 2
      omega
theorem num_back {most : Nat} : ∀ (s : List UInt8) (i u v : Nat) (t : List UInt8), num most i u s = some (v, t) → ∃ n, s = vw n ++ t ∧ v = u + n * 128 ^ i ∧ (0 < i → 0 < n)
  | [], _, _, _, _, h => by cases h
  | b :: r, i, u, v, t, h => by
    have hb := b.toNat_lt
    by_cases h0 : most < u + b.toNat % 128 * 128 ^ i
    · rw [num_over h0] at h; cases h
    · by_cases h1 : 128 ≤ b.toNat
      · rw [num_more h0 h1] at h
        obtain ⟨n, rfl, hv, hn⟩ := num_back r _ _ _ _ h
        have hn' := hn (by omega)
        refine ⟨b.toNat % 128 + 128 * n, ?_, ?_, fun _ => by omega⟩
        · rw [vw_ge (n := b.toNat % 128 + 128 * n) (by omega), show (b.toNat % 128 + 128 * n) / 128 = n from by omega, show (b.toNat % 128 + 128 * n) % 128 + 128 = b.toNat from by omega, u8_of]
          rfl
        · rw [hv, Nat.pow_succ, Nat.add_mul, Nat.mul_comm 128 n, Nat.mul_assoc, Nat.mul_comm 128 (128 ^ i)]
          omega
      · by_cases h2 : b.toNat = 0 ∧ 0 < i
        · rw [num_null h0 h2.1 h2.2] at h; cases h
        · rw [num_end h0 h1 h2] at h
          injection h with h
          injection h with h3 h4
          subst h4
          refine ⟨b.toNat, ?_, ?_, by omega⟩
          · rw [vw_lt (by omega), u8_of]; rfl
          · rw [Nat.mod_eq_of_lt (by omega)] at h3; omega

theorem num_there (most n : Nat) (s : List UInt8) (h : n ≤ most) : num most 0 0 (vw n ++ s) = some (n, s) := by
  have := num_vw (most := most) s n 0 0 (by simpa using h) (by omega)
  simpa using this
theorem num_here {most : Nat} {s : List UInt8} {v : Nat} {t : List UInt8} (h : num most 0 0 s = some (v, t)) : s = vw v ++ t := by
  obtain ⟨n, h1, h2, _⟩ := num_back s 0 0 v t h
  simp at h2
  rw [h2]; exact h1
theorem num_short {most : Nat} {s : List UInt8} {v : Nat} {t : List UInt8} (h : num most 0 0 s = some (v, t)) : t.length < s.length := by
  have := num_here h
  have h2 := vw_pos v
  rw [this, List.length_append]; omega

/-- a zigzag -/
def zz (v : Int) : Nat := if 0 ≤ v then (2 * v).toNat else (-(2 * v) - 1).toNat
def unzz (u : Nat) : Int := if u % 2 = 0 then ((u / 2 : Nat) : Int) else -((u / 2 : Nat) : Int) - 1
theorem unzz_zz (v : Int) : unzz (zz v) = v := by
  unfold zz
  by_cases h : 0 ≤ v
  · rw [if_pos h]; unfold unzz; rw [if_pos (by omega)]; omega
  · rw [if_neg h]; unfold unzz; rw [if_neg (by omega)]; omega
theorem zz_unzz (u : Nat) : zz (unzz u) = u := by
  unfold unzz
  by_cases h : u % 2 = 0
  · rw [if_pos h]; unfold zz; rw [if_pos (by omega)]; omega
  · rw [if_neg h]; unfold zz; rw [if_neg (by omega)]; omega
theorem zz_lt (v : Int) (h1 : -9223372036854775808 ≤ v) (h2 : v ≤ 9223372036854775807) : zz v < 18446744073709551616 := by
  unfold zz; split <;> omega

/-- a rising row -/
def rises : Int → List Int → Bool
  | _, [] => true
  | last, v :: t => decide (last < v) && rises v t
def diffs : Int → List Int → List UInt8
  | _, [] => []
  | last, v :: t => vw (v - 1 - last).toNat ++ diffs v t
def risB (l : List Int) : List UInt8 := vw l.length ++ diffs (-1) l

def MAXI : Nat := 9223372036854775807
def MAXU : Nat := 18446744073709551615

/-- n numbers of a rising row, behind last -/
def ris : Int → Nat → List UInt8 → Option (List Int × List UInt8)
  | _, 0, s => some ([], s)
  | last, n + 1, s => (num MAXI 0 0 s).bind fun x => if (MAXI : Int) - 1 - last < (x.1 : Int) then none else (ris (last + 1 + x.1) n x.2).bind fun y => some ((last + 1 + x.1) :: y.1, y.2)
def rRis (most : Int) (s : List UInt8) : Option (List Int × List UInt8) := (num MAXI 0 0 s).bind fun x => if most < (x.1 : Int) then none else ris (-1) x.1 x.2

theorem ris_short : ∀ (n : Nat) (last : Int) (s : List UInt8) (l : List Int) (t : List UInt8), ris last n s = some (l, t) → n + t.length ≤ s.length ∧ l.length = n
  | 0, last, s, l, t, h => by
    simp only [ris] at h
    injection h with h; injection h with h1 h2
    subst h1; subst h2
    simp
  | n + 1, last, s, l, t, h => by
    simp only [ris] at h
    cases hN : num MAXI 0 0 s with
    | none => rw [hN] at h; cases h
    | some x =>
      rw [hN] at h
      simp only [Option.bind] at h
      have hsh := num_short (v := x.1) (t := x.2) hN
      split at h
      · cases h
      · cases hR : ris (last + 1 + x.1) n x.2 with
        | none => rw [hR] at h; cases h
        | some y =>
          rw [hR] at h
          simp only at h
          injection h with h; injection h with h1 h2
          have := ris_short n _ _ y.1 y.2 hR
          subst h1; subst h2
          simp; omega

theorem ris_there : ∀ (l : List Int) (last : Int) (s : List UInt8), -1 ≤ last → rises last l = true → (∀ v ∈ l, v ≤ 9223372036854775807) → ris last l.length (diffs last l ++ s) = some (l, s)
  | [], _, _, _, _, _ => rfl
  | v :: t, last, s, hl, hr, hm => by
    simp only [rises, Bool.and_eq_true, decide_eq_true_eq] at hr
    have hv := hm v (by simp)
    simp only [List.length_cons, ris, diffs, List.append_assoc]
    rw [num_there MAXI _ _ (by unfold MAXI; omega)]
    simp only [Option.bind]
    rw [if_neg (by unfold MAXI; omega), show last + 1 + ((v - 1 - last).toNat : Int) = v from by omega, ris_there t v s (by omega) hr.2 (fun x hx => hm x (by simp [hx]))]
theorem rRis_there (l : List Int) (s : List UInt8) (hl : l.length ≤ 1000000) (hr : rises (-1) l = true) (hm : ∀ v ∈ l, v ≤ 9223372036854775807) : rRis l.length (risB l ++ s) = some (l, s) := by
  unfold rRis risB
  rw [List.append_assoc, num_there MAXI _ _ (by unfold MAXI; omega)]
  simp only [Option.bind]
  rw [if_neg (by omega), ris_there l (-1) s (by omega) hr hm]
end PackM
