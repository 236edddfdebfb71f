
/- The best of many, bounded: an order of documents with scores, a list in order, a heap whose first is the worst. Plain lists; nothing of the program. -/
namespace TopM

/-- is a better than b? Each is a document and its score. -/
def bet (a b : Int × Int) : Bool := if a.2 = b.2 then decide (a.1 < b.1) else decide (b.2 < a.2)
theorem bet_iff (a b : Int × Int) : bet a b = true ↔ (a.2 = b.2 ∧ a.1 < b.1) ∨ b.2 < a.2 := by
  unfold bet
  split <;> simp <;> omega
theorem bet_not (a b : Int × Int) : bet a b = false ↔ ¬ ((a.2 = b.2 ∧ a.1 < b.1) ∨ b.2 < a.2) := by
  rw [← bet_iff]; simp
theorem irr (a : Int × Int) : bet a a = false := by rw [bet_not]; omega
theorem asy {a b : Int × Int} (h : bet a b = true) : bet b a = false := by rw [bet_iff] at h; rw [bet_not]; omega
theorem tr {a b c : Int × Int} (h1 : bet a b = true) (h2 : bet b c = true) : bet a c = true := by rw [bet_iff] at *; omega
theorem ntr {a b c : Int × Int} (h1 : bet a b = false) (h2 : bet b c = false) : bet a c = false := by rw [bet_not] at *; omega
theorem same_of {a b : Int × Int} (h1 : bet a b = false) (h2 : bet b a = false) : a = b := by
  rw [bet_not] at *
  obtain ⟨a1, a2⟩ := a
  obtain ⟨b1, b2⟩ := b
  simp at *
  omega

/-- no later one is better than an earlier one -/
def Srt (l : List (Int × Int)) : Prop := l.Pairwise fun a b => bet b a = false
/-- all in order, the best first -/
def srt (l : List (Int × Int)) : List (Int × Int) := l.mergeSort fun a b => !bet b a
theorem srt_perm (l : List (Int × Int)) : (srt l).Perm l := List.mergeSort_perm _ _
theorem srt_srt (l : List (Int × Int)) : Srt (srt l) := by
  have h := List.pairwise_mergeSort (le := fun a b => !bet b a) (fun a b c h1 h2 => by
    simp only [Bool.not_eq_true'] at *
    exact ntr h2 h1) (fun a b => by
    cases h : bet a b with
    | true => simp [asy h]
    | false => simp) l
  refine h.imp ?_
  intro a b h
  simpa using h
theorem srt_eq {a b : List (Int × Int)} (ha : Srt a) (hb : Srt b) (hp : a.Perm b) : a = b :=
  List.Perm.eq_of_pairwise (fun _ _ _ _ h1 h2 => same_of h2 h1) ha hb hp
theorem srt_is {a l : List (Int × Int)} (ha : Srt a) (hp : a.Perm l) : srt l = a := srt_eq (srt_srt l) ha ((srt_perm l).trans hp.symm)
theorem srt_congr {l l' : List (Int × Int)} (hp : l.Perm l') : srt l = srt l' := srt_is (srt_srt l') ((srt_perm l').trans hp.symm)
theorem srt_nil : srt [] = [] := List.eq_nil_of_length_eq_zero (by rw [(srt_perm []).length_eq]; rfl)
theorem srt_len (l : List (Int × Int)) : (srt l).length = l.length := (srt_perm l).length_eq

/-- the best k of l, the best first -/
def best (k : Nat) (l : List (Int × Int)) : List (Int × Int) := (srt l).take k
theorem best_len (k : Nat) (l : List (Int × Int)) : (best k l).length = min k l.length := by unfold best; rw [List.length_take, srt_len]
theorem best_srt (k : Nat) (l : List (Int × Int)) : Srt (best k l) := (srt_srt l).sublist (List.take_sublist _ _)
theorem best_zero (l : List (Int × Int)) : best 0 l = [] := rfl
theorem best_nil (k : Nat) : best k [] = [] := by unfold best; rw [srt_nil]; simp
theorem best_all {k : Nat} {l : List (Int × Int)} (h : l.length ≤ k) : best k l = srt l := by unfold best; rw [List.take_of_length_le (by rw [srt_len]; exact h)]

theorem srt_append {a b : List (Int × Int)} (ha : Srt a) (hb : Srt b) (h : ∀ x ∈ a, ∀ y ∈ b, bet y x = false) : Srt (a ++ b) := List.pairwise_append.2 ⟨ha, hb, h⟩
theorem srt_parts {a b : List (Int × Int)} (h : Srt (a ++ b)) : Srt a ∧ Srt b ∧ ∀ x ∈ a, ∀ y ∈ b, bet y x = false := List.pairwise_append.1 h

/-- x is put where none behind it is as good -/
theorem ins_srt {l : List (Int × Int)} (x : Int × Int) (k : Nat) (hl : Srt l) (h1 : ∀ j, k ≤ j → ∀ hj : j < l.length, bet x l[j] = true) (h2 : ∀ j, k = j + 1 → ∀ hj : j < l.length, bet x l[j] = false) (hk : k ≤ l.length) :
    l.take k ++ x :: l.drop k = srt (x :: l) := by
  refine (srt_is ?_ ?_).symm
  · have hs : Srt (l.take k ++ l.drop k) := by rw [List.take_append_drop]; exact hl
    obtain ⟨p1, p2, p3⟩ := srt_parts hs
    refine srt_append p1 (List.pairwise_cons.2 ⟨fun y hy => ?_, p2⟩) (fun u hu y hy => ?_)
    · obtain ⟨i, hi, rfl⟩ := List.mem_iff_getElem.1 hy
      rw [List.getElem_drop]
      exact asy (h1 _ (by omega) _)
    · rcases List.mem_cons.1 hy with rfl | hy
      · cases k with
        | zero => simp at hu
        | succ k =>
          have hb := h2 k rfl (by omega)
          obtain ⟨i, hi, rfl⟩ := List.mem_iff_getElem.1 hu
          rw [List.length_take] at hi
          rw [List.getElem_take]
          by_cases e : i = k
          · subst e; exact hb
          · have := List.pairwise_iff_getElem.1 hl i k (by omega) (by omega) (by omega)
            exact ntr hb this
      · exact p3 u hu y hy
  · have : (l.take k ++ x :: l.drop k).Perm (x :: (l.take k ++ l.drop k)) := List.perm_middle
    rwa [List.take_append_drop] at this

/-- the beginning is kept: of a worst one that is as good, nothing turns -/
theorem best_keep {k : Nat} {l : List (Int × Int)} {x w : Int × Int} (hk : k ≤ l.length) (hw : (best k l).getLast? = some w) (hx : bet x w = false) : best k (l ++ [x]) = best k l := by
  unfold best at *
  have hs := srt_srt l
  rw [← List.take_append_drop k (srt l)] at hs
  obtain ⟨p1, p2, p3⟩ := srt_parts hs
  have hwm : ∀ u ∈ (srt l).take k, bet w u = false := by
    obtain ⟨A, hA⟩ := List.getLast?_eq_some_iff.1 hw
    rw [hA] at p1 ⊢
    obtain ⟨_, _, q⟩ := srt_parts p1
    intro u hu
    rcases List.mem_append.1 hu with h | h
    · exact q u h w (by simp)
    · simp at h; subst h; exact irr _
  have e : srt (l ++ [x]) = (srt l).take k ++ srt (x :: (srt l).drop k) := by
    refine srt_is (srt_append p1 (srt_srt _) (fun u hu y hy => ?_)) ?_
    · rcases List.mem_cons.1 ((srt_perm _).mem_iff.1 hy) with rfl | hy
      · exact ntr hx (hwm u hu)
      · exact p3 u hu y hy
    · have q1 : ((srt l).take k ++ srt (x :: (srt l).drop k)).Perm ((srt l).take k ++ (x :: (srt l).drop k)) := (List.Perm.refl _).append (srt_perm _)
      have q2 : ((srt l).take k ++ (x :: (srt l).drop k)).Perm (x :: ((srt l).take k ++ (srt l).drop k)) := List.perm_middle
      rw [List.take_append_drop] at q2
      exact q1.trans (q2.trans (((srt_perm l).cons x).trans (List.perm_append_singleton x l).symm))
  rw [e, List.take_append_of_le_length (by rw [List.length_take, srt_len]; omega), List.take_of_length_le (by rw [List.length_take]; omega)]

/-- a better one than the worst: the worst goes -/
theorem best_turn {k : Nat} {l A : List (Int × Int)} {x w : Int × Int} (hk : k ≤ l.length) (hA : best k l = A ++ [w]) (hx : bet x w = true) : (best k (l ++ [x])).Perm (x :: A) := by
  have hlen : A.length + 1 = k := by have := best_len k l; rw [hA] at this; simp at this; omega
  unfold best at *
  have hs := srt_srt l
  have hsl : srt l = A ++ w :: (srt l).drop k := by
    have h := List.take_append_drop k (srt l)
    rw [hA, List.append_assoc] at h
    exact h.symm
  obtain ⟨B, hB⟩ : ∃ B, B = (srt l).drop k := ⟨_, rfl⟩
  rw [← hB] at hsl
  rw [hsl] at hs
  obtain ⟨p1, p2, p3⟩ := srt_parts hs
  have hwB : ∀ v ∈ w :: B, bet v w = false := by
    intro v hv
    rcases List.mem_cons.1 hv with rfl | hv
    · exact irr _
    · exact (List.pairwise_cons.1 p2).1 v hv
  have e : srt (l ++ [x]) = srt (x :: A) ++ w :: B := by
    refine srt_is (srt_append (srt_srt _) p2 (fun u hu y hy => ?_)) ?_
    · rcases List.mem_cons.1 ((srt_perm _).mem_iff.1 hu) with rfl | hu
      · cases h : bet y u with
        | false => rfl
        | true => have := tr h hx; rw [hwB y hy] at this; cases this
      · exact p3 u hu y hy
    · have q1 : (srt (x :: A) ++ w :: B).Perm ((x :: A) ++ w :: B) := (srt_perm _).append (List.Perm.refl _)
      rw [List.cons_append, ← hsl] at q1
      exact q1.trans (((srt_perm l).cons x).trans (List.perm_append_singleton x l).symm)
  rw [e, List.take_append_of_le_length (by rw [srt_len]; simp; omega), List.take_of_length_le (by rw [srt_len]; simp; omega)]
  exact srt_perm _

/-! ## a heap -/
def at_ (h : List (Int × Int)) (i : Nat) : Int × Int := h.getD i (0, 0)
theorem at_get {h : List (Int × Int)} {i : Nat} (hi : i < h.length) : at_ h i = h[i] := by unfold at_; rw [List.getD_eq_getElem?_getD, List.getElem?_eq_getElem hi]; rfl
def par (i : Nat) : Nat := (i - 1) / 2
/-- of two on one path the worse one stands above -/
def Heap (h : List (Int × Int)) : Prop := ∀ i, 0 < i → i < h.length → bet (at_ h (par i)) (at_ h i) = false
def swp (h : List (Int × Int)) (i j : Nat) : List (Int × Int) := (h.set i (at_ h j)).set j (at_ h i)
theorem swp_len (h : List (Int × Int)) (i j : Nat) : (swp h i j).length = h.length := by simp [swp]
theorem at_set (h : List (Int × Int)) (i j : Nat) (x : Int × Int) (hi : i < h.length) : at_ (h.set i x) j = if i = j then x else at_ h j := by
  unfold at_
  simp only [List.getD_eq_getElem?_getD, List.getElem?_set]
  by_cases e : i = j
  · subst e; simp [hi]
  · simp [e]
theorem at_swp (h : List (Int × Int)) (i j k : Nat) (hi : i < h.length) (hj : j < h.length) : at_ (swp h i j) k = if k = j then at_ h i else if k = i then at_ h j else at_ h k := by
  unfold swp
  rw [at_set _ _ _ _ (by simpa using hj), at_set _ _ _ _ hi]
  by_cases e : k = j
  · simp [e]
  · by_cases e2 : k = i
    · subst e2
      rw [if_neg e, if_pos rfl, if_neg (fun h => e h.symm)]
    · rw [if_neg (fun h => e h.symm), if_neg (fun h => e2 h.symm), if_neg e, if_neg e2]
theorem swp_perm (h : List (Int × Int)) (i j : Nat) (hi : i < h.length) (hj : j < h.length) : (swp h i j).Perm h := by
  have := Array.swap_perm (xs := h.toArray) (i := i) (j := j) (by simpa using hi) (by simpa using hj)
  rw [Array.perm_iff_toList_perm, Array.toList_swap] at this
  unfold swp
  rw [at_get hi, at_get hj]
  simpa using this

theorem heap_first {h : List (Int × Int)} (hh : Heap h) (i : Nat) (hi : i < h.length) : bet (at_ h 0) (at_ h i) = false := by
  induction i using Nat.strongRecOn with
  | _ i ih =>
    by_cases e : i = 0
    · subst e; exact irr _
    · have h1 := hh i (by omega) hi
      have h2 := ih (par i) (by unfold par; omega) (by unfold par; omega)
      exact ntr h2 h1

/-- a heap but for the way up from i -/
def Up (h : List (Int × Int)) (i : Nat) : Prop :=
  (∀ j, 0 < j → j < h.length → j ≠ i → bet (at_ h (par j)) (at_ h j) = false) ∧ ∀ j, 0 < j → j < h.length → par j = i → 0 < i → bet (at_ h (par i)) (at_ h j) = false
theorem up_end {h : List (Int × Int)} {i : Nat} (hu : Up h i) (he : i = 0 ∨ bet (at_ h (par i)) (at_ h i) = false) : Heap h := by
  intro j h0 hj
  by_cases e : j = i
  · subst e
    rcases he with rfl | he
    · omega
    · exact he
  · exact hu.1 j h0 hj e
theorem up_start {h : List (Int × Int)} (hh : Heap h) (x : Int × Int) : Up (h ++ [x]) h.length := by
  have ha : ∀ j, j < h.length → at_ (h ++ [x]) j = at_ h j := by
    intro j hj
    rw [at_get (by simp; omega), at_get hj, List.getElem_append_left hj]
  refine ⟨fun j h0 hj hne => ?_, fun j h0 hj hp h1 => ?_⟩
  · have hj' : j < h.length := by simp at hj; omega
    rw [ha j hj', ha (par j) (by unfold par; omega)]
    exact hh j h0 hj'
  · simp at hj
    unfold par at hp
    omega
theorem up_step {h : List (Int × Int)} {i : Nat} (hu : Up h i) (h0 : 0 < i) (hi : i < h.length) (hb : bet (at_ h (par i)) (at_ h i) = true) : Up (swp h (par i) i) (par i) := by
  have hp : par i < h.length := by unfold par; omega
  have hpi : par i < i := by unfold par; omega
  have hni := asy hb
  refine ⟨fun j j0 hj hne => ?_, fun j j0 hj hpj hp0 => ?_⟩
  · rw [swp_len] at hj
    rw [at_swp _ _ _ _ hp hi, at_swp _ _ _ _ hp hi]
    have hpj : par j < j := by unfold par; omega
    by_cases e : j = i
    · subst e
      rw [if_neg (by omega), if_pos rfl, if_pos rfl]
      exact hni
    · rw [if_neg e, if_neg hne]
      by_cases e2 : par j = i
      · rw [if_pos e2]
        exact hu.2 j j0 hj e2 h0
      · rw [if_neg e2]
        by_cases e3 : par j = par i
        · rw [if_pos e3]
          have := hu.1 j j0 hj e
          rw [e3] at this
          exact ntr hni this
        · rw [if_neg e3]
          exact hu.1 j j0 hj e
  · rw [swp_len] at hj
    have hpp : par (par i) < par i := by generalize par i = p at hp0; unfold par; omega
    rw [at_swp _ _ _ _ hp hi, at_swp _ _ _ _ hp hi, if_neg (show par (par i) ≠ i by omega), if_neg (show par (par i) ≠ par i by omega)]
    have h1 := hu.1 (par i) hp0 hp (by omega)
    by_cases e : j = i
    · rw [if_pos e]
      exact h1
    · rw [if_neg e, if_neg (show j ≠ par i by intro e; rw [e] at hpj; omega)]
      have h2 := hu.1 j j0 hj e
      rw [hpj] at h2
      exact ntr h1 h2

/-- a heap but for the way down from i -/
def Dn (h : List (Int × Int)) (i : Nat) : Prop :=
  (∀ j, 0 < j → j < h.length → par j ≠ i → bet (at_ h (par j)) (at_ h j) = false) ∧ ∀ j, 0 < j → j < h.length → par j = i → 0 < i → bet (at_ h (par i)) (at_ h j) = false
theorem dn_end {h : List (Int × Int)} {i : Nat} (hd : Dn h i) (he : ∀ j, 0 < j → j < h.length → par j = i → bet (at_ h i) (at_ h j) = false) : Heap h := by
  intro j h0 hj
  by_cases e : par j = i
  · rw [e]; exact he j h0 hj e
  · exact hd.1 j h0 hj e
theorem dn_start {h : List (Int × Int)} (hh : Heap h) (x : Int × Int) (hl : 0 < h.length) : Dn (h.set 0 x) 0 := by
  refine ⟨fun j h0 hj hne => ?_, fun j h0 hj hp h1 => by omega⟩
  rw [at_set _ _ _ _ hl, at_set _ _ _ _ hl, if_neg (by omega), if_neg (by omega)]
  exact hh j h0 (by simpa using hj)
theorem dn_step {h : List (Int × Int)} {i c : Nat} (hd : Dn h i) (hi : i < h.length) (hc : c < h.length) (hc0 : 0 < c) (hpc : par c = i) (hb : bet (at_ h c) (at_ h i) = false) (hw : ∀ j, 0 < j → j < h.length → par j = i → bet (at_ h c) (at_ h j) = false) : Dn (swp h i c) c := by
  have hci : i < c := by unfold par at hpc; omega
  refine ⟨fun j j0 hj hne => ?_, fun j j0 hj hpj hp0 => ?_⟩
  · rw [swp_len] at hj
    have hpj : par j < j := by unfold par; omega
    rw [at_swp _ _ _ _ hi hc, at_swp _ _ _ _ hi hc, if_neg hne]
    by_cases e : par j = i
    · rw [if_pos e]
      by_cases e2 : j = c
      · rw [if_pos e2]; exact hb
      · rw [if_neg e2, if_neg (by omega)]
        exact hw j j0 hj e
    · rw [if_neg e]
      have e2 : j ≠ c := fun x => e (by rw [x]; exact hpc)
      rw [if_neg e2]
      by_cases e3 : j = i
      · rw [if_pos e3]
        subst e3
        exact hd.2 c hc0 hc hpc j0
      · rw [if_neg e3]
        exact hd.1 j j0 hj e
  · rw [swp_len] at hj
    have hjc : c < j := by unfold par at hpj; omega
    rw [at_swp _ _ _ _ hi hc, at_swp _ _ _ _ hi hc, hpc, if_neg (by omega), if_pos rfl, if_neg (by omega), if_neg (by omega)]
    have := hd.1 j j0 hj (by omega)
    rwa [hpj] at this

/-! ## a bound -/
/-- the heap h of a bound of k that was offered all of l -/
def Bnd (k : Nat) (l h : List (Int × Int)) : Prop := Heap h ∧ h.Perm (best k l)
theorem bnd_nil (k : Nat) : Bnd k [] [] := ⟨fun i _ hi => by simp at hi, by rw [best_nil]⟩
theorem bnd_len {k : Nat} {l h : List (Int × Int)} (hb : Bnd k l h) : h.length = min k l.length := by rw [hb.2.length_eq, best_len]
theorem bnd_srt {k : Nat} {l h : List (Int × Int)} (hb : Bnd k l h) : srt h = best k l := srt_is (best_srt k l) hb.2.symm
/-- the first one of a heap is the worst of all -/
theorem bnd_worst {k : Nat} {l h : List (Int × Int)} (hb : Bnd k l h) (hl : 0 < h.length) : (best k l).getLast? = some (at_ h 0) := by
  have hne : best k l ≠ [] := by
    intro e
    have := hb.2.length_eq
    rw [e] at this
    simp at this
    rw [this] at hl
    simp at hl
  rw [List.getLast?_eq_some_getLast hne]
  congr 1
  have hm : (best k l).getLast hne ∈ h := hb.2.mem_iff.2 (List.getLast_mem _)
  obtain ⟨i, hi, he⟩ := List.mem_iff_getElem.1 hm
  have h1 := heap_first hb.1 i hi
  rw [at_get hi, he] at h1
  have h0m : at_ h 0 ∈ best k l := hb.2.mem_iff.1 (by rw [at_get hl]; exact List.getElem_mem _)
  have hs := best_srt k l
  obtain ⟨A, hA⟩ : ∃ A, best k l = A ++ [(best k l).getLast hne] := ⟨_, (List.dropLast_concat_getLast hne).symm⟩
  generalize (best k l).getLast hne = z at *
  rw [hA] at hs h0m
  obtain ⟨_, _, q⟩ := srt_parts hs
  rcases List.mem_append.1 h0m with hh | hh
  · exact same_of (q _ hh z (by simp)) h1
  · simp at hh; exact hh.symm
theorem bnd_room {k : Nat} {l h h' : List (Int × Int)} {x : Int × Int} (hb : Bnd k l h) (hlt : h.length < k) (hh : Heap h') (hp : h'.Perm (h ++ [x])) : Bnd k (l ++ [x]) h' := by
  have hl := bnd_len hb
  refine ⟨hh, hp.trans ?_⟩
  rw [best_all (by simp; omega)]
  have h1 := hb.2
  rw [best_all (by omega)] at h1
  exact ((h1.trans (srt_perm l)).append (List.Perm.refl [x])).trans (srt_perm _).symm
theorem bnd_keep {k : Nat} {l h : List (Int × Int)} {x : Int × Int} (hb : Bnd k l h) (hge : k ≤ h.length) (hx : k = 0 ∨ bet x (at_ h 0) = false) : Bnd k (l ++ [x]) h := by
  refine ⟨hb.1, ?_⟩
  by_cases e : k = 0
  · subst e; exact hb.2
  · have hl := bnd_len hb
    rw [best_keep (by omega) (bnd_worst hb (by omega)) (by rcases hx with h | h; exact absurd h e; exact h)]
    exact hb.2
theorem bnd_turn {k : Nat} {l h h' : List (Int × Int)} {x : Int × Int} (hb : Bnd k l h) (hge : k ≤ h.length) (hk : 0 < k) (hx : bet x (at_ h 0) = true) (hh : Heap h') (hp : h'.Perm (h.set 0 x)) : Bnd k (l ++ [x]) h' := by
  have hl := bnd_len hb
  refine ⟨hh, hp.trans ?_⟩
  obtain ⟨A, hA⟩ := List.getLast?_eq_some_iff.1 (bnd_worst hb (by omega))
  refine List.Perm.trans ?_ (best_turn (by omega) hA hx).symm
  cases h with
  | nil => simp at hge; omega
  | cons h0 t =>
    rw [List.set_cons_zero]
    refine List.Perm.cons x ?_
    have h1 := hb.2
    rw [hA, show at_ (h0 :: t) 0 = h0 from rfl] at h1
    have h2 : (A ++ [h0]).Perm (h0 :: A) := List.perm_append_singleton h0 A
    exact (List.Perm.cons_inv (h1.trans h2))
/-- is x kept? -/
def kept (k : Nat) (l : List (Int × Int)) (x : Int × Int) : Bool := decide (0 < k) && (decide ((best k l).length < k) || match (best k l).getLast? with | some w => bet x w | none => false)
end TopM
