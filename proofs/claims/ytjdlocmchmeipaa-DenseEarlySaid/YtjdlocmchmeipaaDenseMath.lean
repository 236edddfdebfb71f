
/- Vectors, in plain words: scores, what is left at most, and giving up early. -/
import Derived.Test.YtjdlocmchmeipaaTopPass
namespace Go.Proofs.Ytjdlocmchmeipaa.DenM

def sumD (l : List Int) : Int := l.foldl (· + ·) 0
theorem foldl_addD (l : List Int) : ∀ m : Int, l.foldl (· + ·) m = m + l.foldl (· + ·) 0 := by
  induction l with
  | nil => intro m; simp
  | cons a t ih => intro m; rw [List.foldl_cons, List.foldl_cons, ih (m + a), ih (0 + a)]; omega
theorem sumD_cons (a : Int) (l : List Int) : sumD (a :: l) = a + sumD l := by unfold sumD; rw [List.foldl_cons, foldl_addD]; omega
theorem sumD_append (a b : List Int) : sumD (a ++ b) = sumD a + sumD b := by unfold sumD; rw [List.foldl_append, foldl_addD]
/-- what a number brings, by a measure (true: by distance) -/
def brg (m : Bool) (a n : Int) : Int := if m then -((a - n) * (a - n)) else a * n
def most (m : Bool) (a : Int) : Int := if m then 0 else 127 * max a (-a)
def ok (n : Int) : Bool := decide (-127 ≤ n) && decide (n ≤ 127)
def vec (v : List Int) : Bool := decide (v.length = 8) && v.all ok
theorem ok_iff (n : Int) : ok n = true ↔ -127 ≤ n ∧ n ≤ 127 := by unfold ok; simp
theorem vec_iff (v : List Int) : vec v = true ↔ v.length = 8 ∧ ∀ n ∈ v, -127 ≤ n ∧ n ≤ 127 := by
  unfold vec
  simp [ok_iff]
theorem mul_bd {a n : Int} (ha : -127 ≤ a ∧ a ≤ 127) (hn : -127 ≤ n ∧ n ≤ 127) : -16129 ≤ a * n ∧ a * n ≤ 127 * max a (-a) ∧ a * n ≤ 16129 := by
  have h1 := Int.mul_le_mul_of_nonneg_left hn.2 (show 0 ≤ max a (-a) by omega)
  have h2 := Int.mul_le_mul_of_nonneg_left (show -n ≤ 127 by omega) (show 0 ≤ max a (-a) by omega)
  by_cases c : 0 ≤ a
  · have e : max a (-a) = a := by omega
    rw [e] at h1 h2 ⊢
    have h3 : a * -n = -(a * n) := by grind
    omega
  · have e : max a (-a) = -a := by omega
    rw [e] at h1 h2 ⊢
    have h3 : -a * -n = a * n := by grind
    have h4 : -a * n = -(a * n) := by grind
    omega
theorem sq_bd {a n : Int} (ha : -127 ≤ a ∧ a ≤ 127) (hn : -127 ≤ n ∧ n ≤ 127) : 0 ≤ (a - n) * (a - n) ∧ (a - n) * (a - n) ≤ 64516 := by
  obtain ⟨d, hd⟩ : ∃ d, d = a - n := ⟨_, rfl⟩
  rw [← hd]
  by_cases c : 0 ≤ d
  · have h1 := Int.mul_nonneg c c
    have h2 := Int.mul_le_mul (show d ≤ 254 by omega) (show d ≤ 254 by omega) c (by omega)
    omega
  · have h1 := Int.mul_nonneg (show 0 ≤ -d by omega) (show 0 ≤ -d by omega)
    have h2 := Int.mul_le_mul (show -d ≤ 254 by omega) (show -d ≤ 254 by omega) (show 0 ≤ -d by omega) (by omega)
    have h3 : -d * -d = d * d := by grind
    omega
theorem brg_bd (m : Bool) {a n : Int} (ha : -127 ≤ a ∧ a ≤ 127) (hn : -127 ≤ n ∧ n ≤ 127) : -64516 ≤ brg m a n ∧ brg m a n ≤ most m a ∧ brg m a n ≤ 16129 := by
  have h1 := mul_bd ha hn
  have h2 := sq_bd ha hn
  unfold brg most
  cases m <;> simp <;> omega
theorem most_bd (m : Bool) {a : Int} (ha : -127 ≤ a ∧ a ≤ 127) : 0 ≤ most m a ∧ most m a ≤ 16129 := by
  unfold most
  cases m <;> simp <;> omega
/-- the numbers' parts, and their sum -/
def prts (m : Bool) (a b : List Int) : List Int := List.zipWith (brg m) a b
def score (m : Bool) (a b : List Int) : Int := sumD (prts m a b)
def part (m : Bool) (a b : List Int) (k : Nat) : Int := sumD ((prts m a b).take k)
/-- the most that the numbers behind number i bring -/
def left (m : Bool) (a : List Int) (i : Nat) : Int := sumD ((a.drop (i + 1)).map (most m))
theorem prts_len {m : Bool} {a b : List Int} (ha : a.length = 8) (hb : b.length = 8) : (prts m a b).length = 8 := by unfold prts; rw [List.length_zipWith]; omega
theorem prts_get {m : Bool} {a b : List Int} {i : Nat} (h : i < (prts m a b).length) (ha : i < a.length) (hb : i < b.length) : (prts m a b)[i] = brg m a[i] b[i] := by
  exact List.getElem_zipWith
theorem part_zero (m : Bool) (a b : List Int) : part m a b 0 = 0 := rfl
theorem part_next {m : Bool} {a b : List Int} (k : Nat) (ha : k < a.length) (hb : k < b.length) : part m a b (k + 1) = part m a b k + brg m a[k] b[k] := by
  have h : k < (prts m a b).length := by unfold prts; rw [List.length_zipWith]; omega
  unfold part
  rw [List.take_succ_eq_append_getElem h, sumD_append, prts_get h ha hb]
  simp [sumD]
theorem part_end {m : Bool} {a b : List Int} (ha : a.length = 8) (hb : b.length = 8) : part m a b 8 = score m a b := by
  unfold part score
  rw [List.take_of_length_le (by rw [prts_len ha hb]; exact Nat.le_refl _)]
theorem part_bd {m : Bool} {a b : List Int} (ha : vec a = true) (hb : vec b = true) : ∀ k : Nat, k ≤ 8 → -(k : Int) * 64516 ≤ part m a b k ∧ part m a b k ≤ (k : Int) * 16129 := by
  obtain ⟨hal, ha⟩ := (vec_iff a).1 ha
  obtain ⟨hbl, hb⟩ := (vec_iff b).1 hb
  intro k
  induction k with
  | zero => intro _; rw [part_zero]; omega
  | succ k ih =>
    intro hk
    have h1 := ih (by omega)
    rw [part_next k (by omega) (by omega)]
    have h2 := brg_bd m (ha _ (List.getElem_mem (show k < a.length by omega))) (hb _ (List.getElem_mem (show k < b.length by omega)))
    omega
theorem left_last {m : Bool} {a : List Int} (ha : a.length = 8) : left m a 7 = 0 := by
  unfold left
  rw [List.drop_of_length_le (by omega)]
  rfl
theorem left_next {m : Bool} {a : List Int} (i : Nat) (h : i + 1 < a.length) : left m a i = left m a (i + 1) + most m a[i + 1] := by
  unfold left
  rw [List.drop_eq_getElem_cons h, List.map_cons, sumD_cons]
  omega
theorem left_bd {m : Bool} {a : List Int} (ha : vec a = true) : ∀ j : Nat, j ≤ 7 → 0 ≤ left m a (7 - j) ∧ left m a (7 - j) ≤ (j : Int) * 16129 := by
  obtain ⟨hal, ha⟩ := (vec_iff a).1 ha
  intro j
  induction j with
  | zero => intro _; rw [left_last hal]; omega
  | succ j ih =>
    intro hj
    have h1 := ih (by omega)
    have e := left_next (m := m) (a := a) (7 - (j + 1)) (by omega)
    have h2 := most_bd m (ha _ (List.getElem_mem (show 7 - (j + 1) + 1 < a.length by omega)))
    rw [e]
    simp only [show 7 - (j + 1) + 1 = 7 - j by omega] at h2 ⊢
    omega
theorem left_bd' {m : Bool} {a : List Int} (ha : vec a = true) {i : Nat} (hi : i < 8) : 0 ≤ left m a i ∧ left m a i ≤ 112903 := by
  have h := left_bd (m := m) ha (7 - i) (by omega)
  rw [show 7 - (7 - i) = i by omega] at h
  omega
/-- a score is no more than what is there, and what the numbers behind can bring -/
theorem score_most {m : Bool} {a b : List Int} (ha : vec a = true) (hb : vec b = true) : ∀ j : Nat, j ≤ 7 → score m a b ≤ part m a b (7 - j + 1) + left m a (7 - j) := by
  have ha0 := ha
  have hb0 := hb
  obtain ⟨hal, ha⟩ := (vec_iff a).1 ha
  obtain ⟨hbl, hb⟩ := (vec_iff b).1 hb
  intro j
  induction j with
  | zero =>
    intro _
    rw [left_last hal, show 7 - 0 + 1 = 8 from rfl, part_end hal hbl]
    omega
  | succ j ih =>
    intro hj
    have h1 := ih (by omega)
    have e := left_next (m := m) (a := a) (7 - (j + 1)) (by omega)
    rw [e]
    have e2 := part_next (m := m) (a := a) (b := b) (7 - j) (by omega) (by omega)
    have h2 := (brg_bd m (ha _ (List.getElem_mem (show 7 - j < a.length by omega))) (hb _ (List.getElem_mem (show 7 - j < b.length by omega)))).2.1
    simp only [show 7 - (j + 1) + 1 = 7 - j by omega] at h2 ⊢
    omega
theorem score_le {m : Bool} {a b : List Int} (ha : vec a = true) (hb : vec b = true) {i : Nat} (hi : i < 8) : score m a b ≤ part m a b (i + 1) + left m a i := by
  have h := score_most (m := m) ha hb (7 - i) (by omega)
  rw [show 7 - (7 - i) = i by omega] at h
  exact h
theorem score_bd {m : Bool} {a b : List Int} (ha : vec a = true) (hb : vec b = true) : -516128 ≤ score m a b ∧ score m a b ≤ 129032 := by
  have h := part_bd (m := m) ha hb 8 (by omega)
  rw [part_end ((vec_iff a).1 ha).1 ((vec_iff b).1 hb).1] at h
  omega
/-! ### rows, and what is found of them -/
/-- rows' documents and vectors are right, and rise -/
def rowsB : List (Int × List Int) → Int → Bool
  | [], _ => true
  | r :: t, last => decide (last < r.1) && decide (r.1 ≤ 2147483647) && vec r.2 && rowsB t r.1
theorem rowsB_parts : ∀ (l : List (Int × List Int)) (last : Int), rowsB l last = true ↔ (∀ r ∈ l, last < r.1 ∧ r.1 ≤ 2147483647 ∧ vec r.2 = true) ∧ l.Pairwise (fun a b => a.1 < b.1)
  | [], _ => by simp [rowsB]
  | r :: t, last => by
    unfold rowsB
    rw [Bool.and_eq_true, Bool.and_eq_true, Bool.and_eq_true, decide_eq_true_eq, decide_eq_true_eq, rowsB_parts t r.1, List.pairwise_cons]
    constructor
    · rintro ⟨⟨⟨h1, h2⟩, h3⟩, h4, h5⟩
      refine ⟨fun x hx => ?_, fun x hx => (h4 x hx).1, h5⟩
      rcases List.mem_cons.1 hx with e | e
      · subst e; exact ⟨h1, h2, h3⟩
      · have := h4 x e; exact ⟨by omega, this.2⟩
    · rintro ⟨h1, h2, h3⟩
      have h0 := h1 r (by simp)
      exact ⟨⟨⟨h0.1, h0.2.1⟩, h0.2.2⟩, fun x hx => ⟨h2 x hx, (h1 x (by simp [hx])).2⟩, h3⟩
/-- what may be, with scores -/
def vis (m : Bool) (q : List Int) (may : Int → Bool) (l : List (Int × List Int)) : List (Int × Int) := (l.filter fun r => may r.1).map fun r => (r.1, score m q r.2)
theorem vis_snoc (m : Bool) (q : List Int) (may : Int → Bool) (l : List (Int × List Int)) (r : Int × List Int) : vis m q may (l ++ [r]) = if may r.1 = true then vis m q may l ++ [(r.1, score m q r.2)] else vis m q may l := by
  unfold vis
  rw [List.filter_append, List.filter_cons]
  split <;> simp
/-- what was offered stands for all that may be -/
structure Std (k : Nat) (off all : List (Int × Int)) : Prop where
  best : TopM.best k off = TopM.best k all
  len : off.length ≤ all.length
  full : k ≤ all.length → k ≤ off.length
  sub : ∀ p ∈ off, p ∈ all
theorem Std.nil_ (k : Nat) : Std k [] [] := ⟨rfl, Nat.le_refl _, id, fun _ h => h⟩
theorem Std.keep {k : Nat} {off all : List (Int × Int)} (h : Std k off all) (x : Int × Int) : Std k (off ++ [x]) (all ++ [x]) := by
  refine ⟨best_cong h.best x, by have := h.len; simp; omega, fun hk => ?_, fun p hp => ?_⟩
  · have h1 := h.len
    have h2 := congrArg List.length h.best
    rw [TopM.best_len, TopM.best_len] at h2
    simp at hk ⊢
    omega
  · rcases List.mem_append.1 hp with e | e
    · exact List.mem_append.2 (.inl (h.sub p e))
    · exact List.mem_append.2 (.inr e)
/-- one that comes behind all, and isn't above the last that is kept, is passed over -/
theorem Std.pass {k : Nat} {off all : List (Int × Int)} (h : Std k off all) (x w : Int × Int) (hk : k ≤ off.length) (hw : (TopM.best k off).getLast? = some w) (hx : x.2 ≤ w.2) (hl : ∀ p ∈ all, p.1 < x.1) : Std k off (all ++ [x]) := by
  have hk2 : k ≤ all.length := Nat.le_trans hk h.len
  refine ⟨?_, by have := h.len; simp; omega, fun _ => hk, fun p hp => List.mem_append.2 (.inl (h.sub p hp))⟩
  rw [best_pass hk2 hl (fun w' hw' => ?_)]
  · exact h.best
  · rw [← h.best, hw] at hw'
    injection hw' with e
    rw [← e]
    exact hx
end Go.Proofs.Ytjdlocmchmeipaa.DenM
