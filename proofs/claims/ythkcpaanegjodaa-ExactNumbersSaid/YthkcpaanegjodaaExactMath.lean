
/- Whole numbers as rows of bits, the lowest first: what a row tells, sums, differences, products, division. Plain lists; nothing of the program. -/
namespace ExactM

def val : List Bool → Nat
  | [] => 0
  | b :: t => b.toNat + 2 * val t
/-- no bit 0 behind the highest -/
def Tr (l : List Bool) : Prop := ∀ x, l.getLast? = some x → x = true
/-- the row of a number -/
def ofN (n : Nat) : List Bool := if n = 0 then [] else (n % 2 == 1) :: ofN (n / 2)
  termination_by n
  decreasing_by omega

theorem ofN_zero : ofN 0 = [] := by rw [ofN, if_pos rfl]
theorem ofN_pos {n : Nat} (h : n ≠ 0) : ofN n = (n % 2 == 1) :: ofN (n / 2) := by rw [ofN, if_neg h]
theorem toNat_beq (n : Nat) : (n % 2 == 1).toNat = n % 2 := by
  rcases Nat.mod_two_eq_zero_or_one n with h | h <;> rw [h] <;> rfl
theorem val_ofN (n : Nat) : val (ofN n) = n := by
  induction n using Nat.strongRecOn with
  | _ n ih =>
    by_cases h : n = 0
    · subst h; rw [ofN_zero]; rfl
    · rw [ofN_pos h, val, toNat_beq, ih (n / 2) (by omega)]; omega
theorem tr_nil : Tr [] := fun x h => by simp at h
theorem tr_cons {b : Bool} {t : List Bool} (h : Tr t) (hne : t ≠ [] ∨ b = true) : Tr (b :: t) := by
  intro x hx
  cases t with
  | nil =>
    simp at hx
    rcases hne with h1 | h1
    · exact absurd rfl h1
    · rw [← hx]; exact h1
  | cons c t =>
    rw [List.getLast?_cons_cons] at hx
    exact h x hx
theorem tr_tail {b : Bool} {t : List Bool} (h : Tr (b :: t)) : Tr t := by
  intro x hx
  cases t with
  | nil => simp at hx
  | cons c t => exact h x (by rw [List.getLast?_cons_cons]; exact hx)
theorem ofN_tr (n : Nat) : Tr (ofN n) := by
  induction n using Nat.strongRecOn with
  | _ n ih =>
    by_cases h : n = 0
    · subst h; rw [ofN_zero]; exact tr_nil
    · rw [ofN_pos h]
      refine tr_cons (ih _ (by omega)) ?_
      by_cases h1 : n / 2 = 0
      · right
        have : n = 1 := by omega
        subst this; rfl
      · left
        rw [ofN_pos h1]
        simp
theorem tr_ne {l : List Bool} (h : Tr l) (hne : l ≠ []) : val l ≠ 0 := by
  induction l with
  | nil => exact absurd rfl hne
  | cons b t ih =>
    rw [val]
    by_cases ht : t = []
    · subst ht
      have := h b (by simp)
      subst this
      simp [val]
    · have := ih (tr_tail h) ht
      omega
/-- a row without such bits is its number's row -/
theorem tr_eq {l : List Bool} (h : Tr l) : l = ofN (val l) := by
  induction l with
  | nil => rw [val, ofN_zero]
  | cons b t ih =>
    have hz := tr_ne h (by simp)
    rw [ofN_pos hz]
    have e1 : val (b :: t) % 2 = b.toNat := by
      have : b.toNat ≤ 1 := by cases b <;> simp
      rw [val]; omega
    have e2 : val (b :: t) / 2 = val t := by
      have : b.toNat ≤ 1 := by cases b <;> simp
      rw [val]; omega
    rw [e1, e2, ← ih (tr_tail h)]
    cases b <;> rfl
theorem tr_same {a b : List Bool} (ha : Tr a) (hb : Tr b) (h : val a = val b) : a = b := by rw [tr_eq ha, tr_eq hb, h]
theorem val_lt (l : List Bool) : val l < 2 ^ l.length := by
  induction l with
  | nil => simp [val]
  | cons b t ih =>
    have : b.toNat ≤ 1 := by cases b <;> simp
    rw [val, List.length_cons, Nat.pow_succ]; omega
theorem val_append (a b : List Bool) : val (a ++ b) = val a + 2 ^ a.length * val b := by
  induction a with
  | nil => simp [val]
  | cons c t ih => rw [List.cons_append, val, val, ih, List.length_cons, Nat.pow_succ, Nat.mul_add, Nat.mul_comm (2 ^ t.length) 2, Nat.mul_assoc, Nat.add_assoc]
theorem val_snoc (l : List Bool) (b : Bool) : val (l ++ [b]) = val l + b.toNat * 2 ^ l.length := by rw [val_append, val, val, Nat.mul_zero, Nat.add_zero, Nat.mul_comm]

/-- the bit at a place, 0 behind the row's end -/
def bitN (l : List Bool) (i : Nat) : Nat := (l.getD i false).toNat
theorem bitN_le (l : List Bool) (i : Nat) : bitN l i ≤ 1 := by unfold bitN; cases l.getD i false <;> simp
theorem val_take (l : List Bool) (i : Nat) : val (l.take (i + 1)) = val (l.take i) + bitN l i * 2 ^ i := by
  unfold bitN
  by_cases h : i < l.length
  · rw [List.take_succ_eq_append_getElem h, val_snoc, List.length_take, Nat.min_eq_left (by omega), List.getD_eq_getElem?_getD, List.getElem?_eq_getElem h]
    rfl
  · rw [List.take_of_length_le (by omega), List.take_of_length_le (by omega), List.getD_eq_getElem?_getD, List.getElem?_eq_none (by omega)]
    simp
theorem val_drop (l : List Bool) (i : Nat) (h : i < l.length) : val (l.drop i) = (l[i]).toNat + 2 * val (l.drop (i + 1)) := by
  rw [List.drop_eq_getElem_cons h, val]

/-- trim: the first n of l, where behind them there are only bits 0 -/
theorem val_zeros {l : List Bool} (h : ∀ x ∈ l, x = false) : val l = 0 := by
  induction l with
  | nil => rfl
  | cons b t ih =>
    have hb := h b (by simp)
    subst hb
    rw [val, ih (fun x hx => h x (by simp [hx]))]
    rfl
theorem val_cut (l : List Bool) (n : Nat) (h : ∀ i, n ≤ i → i < l.length → l.getD i false = false) : val (l.take n) = val l := by
  have hz : val (l.drop n) = 0 := val_zeros (fun x hx => by
    obtain ⟨k, hk, e⟩ := List.getElem_of_mem hx
    rw [List.getElem_drop] at e
    rw [List.length_drop] at hk
    have := h (n + k) (by omega) (by omega)
    rw [List.getD_eq_getElem?_getD, List.getElem?_eq_getElem (by omega)] at this
    simp only [Option.getD_some] at this
    rw [← e, this])
  have := val_append (l.take n) (l.drop n)
  rw [List.take_append_drop, hz, Nat.mul_zero, Nat.add_zero] at this
  exact this.symm
theorem tr_take (l : List Bool) (n : Nat) (hn : n ≤ l.length) (h : ∀ m, n = m + 1 → l.getD m false = true) : Tr (l.take n) := by
  intro x hx
  cases n with
  | zero => simp at hx
  | succ m =>
    have h1 := h m rfl
    rw [List.getD_eq_getElem?_getD, List.getElem?_eq_getElem (by omega)] at h1
    simp only [Option.getD_some] at h1
    rw [List.take_succ_eq_append_getElem (by omega), List.getLast?_append] at hx
    simp at hx
    rw [← hx]; exact h1
/-- so what trim answers is the number's row -/
theorem trim_is (l : List Bool) (n : Nat) (hn : n ≤ l.length) (h1 : ∀ i, n ≤ i → i < l.length → l.getD i false = false) (h2 : ∀ m, n = m + 1 → l.getD m false = true) : l.take n = ofN (val l) := by
  rw [tr_eq (tr_take l n hn h2), val_cut l n h1]

/-- less -/
theorem tr_len {l : List Bool} (h : Tr l) (hne : l ≠ []) : 2 ^ (l.length - 1) ≤ val l := by
  induction l with
  | nil => exact absurd rfl hne
  | cons b t ih =>
    by_cases ht : t = []
    · subst ht
      have := h b (by simp)
      subst this
      simp [val]
    · have h1 := ih (tr_tail h) ht
      have hp : 0 < t.length := List.length_pos_iff.2 ht
      rw [val, List.length_cons, Nat.add_sub_cancel]
      have e : 2 ^ t.length = 2 * 2 ^ (t.length - 1) := by rw [← Nat.pow_succ']; congr 1; omega
      omega
theorem less_len {a b : List Bool} (hb : Tr b) (h : a.length < b.length) : val a < val b := by
  have h1 := val_lt a
  have h2 := tr_len hb (fun e => by subst e; simp at h)
  have h3 : 2 ^ a.length ≤ 2 ^ (b.length - 1) := Nat.pow_le_pow_right (by decide) (by omega)
  omega
theorem less_at {a b : List Bool} (hl : a.length = b.length) (i : Nat) (hi : i < a.length) (hd : a.drop (i + 1) = b.drop (i + 1)) (hne : a[i] ≠ b[i]) : decide (val a < val b) = b[i] := by
  have ea := val_append (a.take i) (a.drop i)
  have eb := val_append (b.take i) (b.drop i)
  rw [List.take_append_drop, val_drop a i hi, List.length_take, Nat.min_eq_left (by omega)] at ea
  rw [List.take_append_drop, val_drop b i (by omega), List.length_take, Nat.min_eq_left (by omega), ← hd] at eb
  have la := val_lt (a.take i)
  have lb := val_lt (b.take i)
  rw [List.length_take, Nat.min_eq_left (by omega)] at la lb
  rw [ea, eb, Nat.mul_add, Nat.mul_add]
  generalize 2 ^ i * (2 * val (a.drop (i + 1))) = z
  generalize val (a.take i) = x at la
  generalize val (b.take i) = y at lb
  cases ha : a[i] <;> cases hb : b[i] <;> simp_all <;> omega
end ExactM
