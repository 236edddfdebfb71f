
/- A disk by the words: files by rising names. -/
namespace Go.Proofs.Yteigkmeenokfoaa.VdM

abbrev Name := List UInt8
/-- a file: its bytes, how many first ones are synced -/
structure Fil where
  bytes : List UInt8
  syn : Nat
abbrev Fils := List (Name × Fil)
def lkF : Fils → Name → Option Fil
  | [], _ => none
  | x :: t, n => if x.1 = n then some x.2 else lkF t n
def ptF (n : Name) (f : Fil) : Fils → Fils
  | [] => [(n, f)]
  | x :: t => if n < x.1 then (n, f) :: x :: t else if x.1 = n then (n, f) :: t else x :: ptF n f t
def dlF (n : Name) : Fils → Fils
  | [] => []
  | x :: t => if x.1 = n then dlF n t else x :: dlF n t
def usF : Fils → Nat
  | [] => 0
  | x :: t => x.2.bytes.length + usF t
def Rising (l : Fils) : Prop := l.Pairwise (fun x y => x.1 < y.1)
theorem lt_irr (n : Name) : ¬ n < n := List.lt_irrefl n
theorem lt_tr {a b c : Name} (h : a < b) (h' : b < c) : a < c := List.lt_trans h h'
theorem lt_tri {a b : Name} (h : ¬ a < b) (hne : b ≠ a) : b < a := by
  have h2 : b ≤ a := List.not_lt.1 h
  exact List.not_le.1 fun h4 => hne (List.le_antisymm h2 h4)
theorem look_put_same (n : Name) (f : Fil) : ∀ l : Fils, lkF (ptF n f l) n = some f
  | [] => by simp [ptF, lkF]
  | x :: t => by
    unfold ptF
    split
    · simp [lkF]
    · split
      · simp [lkF]
      · rename_i h
        rw [lkF, if_neg h]
        exact look_put_same n f t
theorem look_put_other {n m : Name} (f : Fil) (hne : m ≠ n) : ∀ l : Fils, lkF (ptF n f l) m = lkF l m
  | [] => by simp [ptF, lkF, Ne.symm hne]
  | x :: t => by
    unfold ptF
    split
    · rw [lkF, if_neg (Ne.symm hne)]
    · split
      · rename_i h
        rw [lkF, if_neg (Ne.symm hne), lkF, h, if_neg (Ne.symm hne)]
      · rw [lkF, lkF, look_put_other f hne t]
theorem look_del_same (n : Name) : ∀ l : Fils, lkF (dlF n l) n = none
  | [] => rfl
  | x :: t => by
    unfold dlF
    split
    · exact look_del_same n t
    · rename_i h
      rw [lkF, if_neg h]
      exact look_del_same n t
theorem look_del_other {n m : Name} (hne : m ≠ n) : ∀ l : Fils, lkF (dlF n l) m = lkF l m
  | [] => rfl
  | x :: t => by
    unfold dlF
    split
    · rename_i h
      rw [lkF, h, if_neg (Ne.symm hne)]
      exact look_del_other hne t
    · rw [lkF, lkF, look_del_other hne t]
theorem mem_put {n : Name} {f : Fil} {x : Name × Fil} : ∀ {l : Fils}, x ∈ ptF n f l → x = (n, f) ∨ x ∈ l
  | [], h => by
    left
    simpa [ptF] using h
  | y :: t, h => by
    unfold ptF at h
    split at h
    · rcases List.mem_cons.1 h with h | h
      · exact .inl h
      · exact .inr h
    · split at h
      · rcases List.mem_cons.1 h with h | h
        · exact .inl h
        · exact .inr (List.mem_cons_of_mem _ h)
      · rcases List.mem_cons.1 h with h | h
        · exact .inr (h ▸ List.mem_cons_self)
        · rcases mem_put h with h | h
          · exact .inl h
          · exact .inr (List.mem_cons_of_mem _ h)
theorem mem_del {n : Name} {x : Name × Fil} : ∀ {l : Fils}, x ∈ dlF n l → x ∈ l ∧ x.1 ≠ n
  | [], h => by simp [dlF] at h
  | y :: t, h => by
    unfold dlF at h
    split at h
    · exact ⟨List.mem_cons_of_mem _ (mem_del h).1, (mem_del h).2⟩
    · rename_i hy
      rcases List.mem_cons.1 h with h | h
      · subst h
        exact ⟨List.mem_cons_self, hy⟩
      · exact ⟨List.mem_cons_of_mem _ (mem_del h).1, (mem_del h).2⟩
theorem rising_put (n : Name) (f : Fil) : ∀ {l : Fils}, Rising l → Rising (ptF n f l)
  | [], _ => by simp [ptF, Rising]
  | x :: t, h => by
    obtain ⟨h1, h2⟩ := List.pairwise_cons.1 h
    unfold ptF
    split
    · rename_i hlt
      refine List.pairwise_cons.2 ⟨fun y hy => ?_, h⟩
      rcases List.mem_cons.1 hy with hy | hy
      · rw [hy]; exact hlt
      · exact lt_tr hlt (h1 y hy)
    · split
      · rename_i he
        exact List.pairwise_cons.2 ⟨fun y hy => by rw [← he]; exact h1 y hy, h2⟩
      · rename_i hlt hne
        refine List.pairwise_cons.2 ⟨fun y hy => ?_, rising_put n f h2⟩
        rcases mem_put hy with hy | hy
        · rw [hy]; exact lt_tri hlt hne
        · exact h1 y hy
theorem rising_del (n : Name) : ∀ {l : Fils}, Rising l → Rising (dlF n l)
  | [], _ => by simp [dlF, Rising]
  | x :: t, h => by
    obtain ⟨h1, h2⟩ := List.pairwise_cons.1 h
    unfold dlF
    split
    · exact rising_del n h2
    · exact List.pairwise_cons.2 ⟨fun y hy => h1 y (mem_del hy).1, rising_del n h2⟩
theorem look_some {n : Name} {f : Fil} : ∀ {l : Fils}, lkF l n = some f → (n, f) ∈ l
  | [], h => by cases h
  | x :: t, h => by
    rw [lkF] at h
    split at h
    · rename_i he
      injection h with h
      rw [← he, ← h]
      exact List.mem_cons_self
    · exact List.mem_cons_of_mem _ (look_some h)
theorem look_of_mem {n : Name} {f : Fil} : ∀ {l : Fils}, Rising l → (n, f) ∈ l → lkF l n = some f
  | [], _, h => by simp at h
  | x :: t, hr, h => by
    obtain ⟨h1, h2⟩ := List.pairwise_cons.1 hr
    rw [lkF]
    rcases List.mem_cons.1 h with h | h
    · rw [← h, if_pos rfl]
    · have : x.1 ≠ n := fun e => by
        have := h1 _ h
        rw [e] at this
        exact lt_irr _ this
      rw [if_neg this]
      exact look_of_mem h2 h
theorem look_none {n : Name} : ∀ {l : Fils}, lkF l n = none ↔ n ∉ l.map (·.1)
  | [] => by simp [lkF]
  | x :: t => by
    rw [lkF]
    by_cases e : x.1 = n
    · rw [if_pos e]
      simp [e]
    · rw [if_neg e, look_none]
      simp [Ne.symm e]
theorem names_nodup {l : Fils} (h : Rising l) : (l.map (·.1)).Nodup := by
  refine List.pairwise_map.2 (h.imp fun hlt e => ?_)
  rw [e] at hlt
  exact lt_irr _ hlt
theorem del_none {n : Name} : ∀ {l : Fils}, lkF l n = none → dlF n l = l
  | [], _ => rfl
  | x :: t, h => by
    rw [lkF] at h
    split at h
    · cases h
    · rename_i e
      rw [dlF, if_neg e, del_none h]
def lenOf : Option Fil → Nat
  | none => 0
  | some f => f.bytes.length
theorem used_put {n : Name} (f : Fil) : ∀ {l : Fils}, Rising l → usF (ptF n f l) + lenOf (lkF l n) = usF l + f.bytes.length
  | [], _ => by simp [ptF, usF, lkF, lenOf]
  | x :: t, h => by
    obtain ⟨h1, h2⟩ := List.pairwise_cons.1 h
    unfold ptF
    split
    · rename_i hlt
      have hn : lkF (x :: t) n = none := look_none.2 (fun hm => by
        obtain ⟨y, hy, e⟩ := List.mem_map.1 hm
        rcases List.mem_cons.1 hy with hy | hy
        · rw [← e, hy] at hlt
          exact lt_irr _ hlt
        · have := h1 y hy
          rw [e] at this
          exact lt_irr _ (lt_tr hlt this))
      rw [hn]
      simp [usF, lenOf]
      omega
    · split
      · rename_i he
        rw [lkF, if_pos he]
        simp [usF, lenOf]
        omega
      · rename_i hne
        rw [lkF, if_neg hne, usF, usF]
        have := used_put f h2 (n := n)
        omega
theorem used_del {n : Name} : ∀ {l : Fils}, Rising l → usF (dlF n l) + lenOf (lkF l n) = usF l
  | [], _ => rfl
  | x :: t, h => by
    obtain ⟨h1, h2⟩ := List.pairwise_cons.1 h
    unfold dlF
    split
    · rename_i he
      have hn : lkF t n = none := look_none.2 (fun hm => by
        obtain ⟨y, hy, e⟩ := List.mem_map.1 hm
        have := h1 y hy
        rw [he, ← e] at this
        exact lt_irr _ this)
      rw [del_none hn, lkF, if_pos he]
      simp [usF, lenOf]
      omega
    · rename_i hne
      rw [lkF, if_neg hne, usF, usF]
      have := used_del h2 (n := n)
      omega
theorem length_put {n : Name} (f : Fil) : ∀ {l : Fils}, Rising l → (ptF n f l).length = l.length + if (lkF l n).isSome then 0 else 1
  | [], _ => by simp [ptF, lkF]
  | x :: t, h => by
    obtain ⟨h1, h2⟩ := List.pairwise_cons.1 h
    unfold ptF
    split
    · rename_i hlt
      have hn : lkF (x :: t) n = none := look_none.2 (fun hm => by
        obtain ⟨y, hy, e⟩ := List.mem_map.1 hm
        rcases List.mem_cons.1 hy with hy | hy
        · rw [← e, hy] at hlt
          exact lt_irr _ hlt
        · have := h1 y hy
          rw [e] at this
          exact lt_irr _ (lt_tr hlt this))
      rw [hn]
      simp
    · split
      · rename_i he
        rw [lkF, if_pos he]
        simp
      · rename_i hne
        rw [lkF, if_neg hne, List.length_cons, List.length_cons, length_put f h2 (n := n)]
        omega
theorem length_del (n : Name) : ∀ l : Fils, (dlF n l).length ≤ l.length
  | [] => Nat.le_refl _
  | x :: t => by
    unfold dlF
    have := length_del n t
    split
    · rw [List.length_cons]; omega
    · rw [List.length_cons, List.length_cons]; omega
theorem names_put {n : Name} (f : Fil) : ∀ {l : Fils}, Rising l → (lkF l n).isSome → (ptF n f l).map (·.1) = l.map (·.1)
  | [], _, h => by simp [lkF] at h
  | x :: t, hr, h => by
    obtain ⟨h1, h2⟩ := List.pairwise_cons.1 hr
    unfold ptF
    split
    · rename_i hlt
      exfalso
      have hn : lkF (x :: t) n = none := look_none.2 (fun hm => by
        obtain ⟨y, hy, e⟩ := List.mem_map.1 hm
        rcases List.mem_cons.1 hy with hy | hy
        · rw [← e, hy] at hlt
          exact lt_irr _ hlt
        · have := h1 y hy
          rw [e] at this
          exact lt_irr _ (lt_tr hlt this))
      rw [hn] at h
      cases h
    · split
      · rename_i he
        simp [he]
      · rename_i hne
        rw [lkF, if_neg hne] at h
        rw [List.map_cons, List.map_cons, names_put f h2 h]
/-- two rising rows of names that hold the same names are one -/
theorem names_sorted {l : Fils} (h : Rising l) : (l.map (·.1)).Pairwise (fun x y => (decide (x ≤ y)) = true) :=
  List.pairwise_map.2 (h.imp fun hlt => decide_eq_true (List.le_of_lt hlt))
theorem sorted_names {l : Fils} (h : Rising l) {ss : List Name} (hp : ss.Perm (l.map (·.1))) : ss.mergeSort (fun x y => decide (x ≤ y)) = l.map (·.1) := by
  have h1 : (ss.mergeSort (fun x y => decide (x ≤ y))).Pairwise (fun x y => (decide (x ≤ y)) = true) :=
    List.pairwise_mergeSort (le := fun x y : Name => decide (x ≤ y)) (fun a b c h1 h2 => decide_eq_true (List.le_trans (of_decide_eq_true h1) (of_decide_eq_true h2))) (fun a b => by
      rcases List.le_total a b with h | h
      · simp [h]
      · simp [h]) ss
  exact List.Perm.eq_of_pairwise (fun a b _ _ h1 h2 => List.le_antisymm (of_decide_eq_true h1) (of_decide_eq_true h2)) h1 (names_sorted h) ((List.mergeSort_perm ss _).trans hp)
/-! ### the disk -/
structure Dsk where
  quota : Nat
  fs : Fils
  down : Bool
  at_ : Int
  keep : Int
  eff : Nat
structure Ok (s : Dsk) : Prop where
  q1 : 1 ≤ s.quota
  q2 : s.quota ≤ 1048576
  rise : Rising s.fs
  names : ∀ x ∈ s.fs, 1 ≤ x.1.length ∧ x.1.length ≤ 32
  syn : ∀ x ∈ s.fs, x.2.syn ≤ x.2.bytes.length
  fits : usF s.fs ≤ s.quota
  most : s.fs.length ≤ 64
  at0 : 0 ≤ s.at_ ∧ s.at_ ≤ 9223372036854775807
theorem len_used {n : Name} {f : Fil} : ∀ {l : Fils}, (n, f) ∈ l → f.bytes.length ≤ usF l
  | [], h => by simp at h
  | x :: t, h => by
    rw [usF]
    rcases List.mem_cons.1 h with h | h
    · rw [← h]; exact Nat.le_add_right _ _
    · have := len_used h; omega
theorem Ok.one {s : Dsk} (h : Ok s) {n : Name} {f : Fil} (hl : lkF s.fs n = some f) : f.syn ≤ f.bytes.length ∧ f.bytes.length ≤ 1048576 ∧ 1 ≤ n.length ∧ n.length ≤ 32 := by
  have hm := look_some hl
  have h1 := len_used hm
  have h2 := h.fits
  have h3 := h.q2
  exact ⟨h.syn _ hm, by omega, (h.names _ hm).1, (h.names _ hm).2⟩
/-- what lasts of a file -/
def cutF (keep : Int) (f : Fil) : Fil := ⟨f.bytes.take (f.syn + min keep.toNat (f.bytes.length - f.syn)), f.syn + min keep.toNat (f.bytes.length - f.syn)⟩
def cutAll (keep : Int) (l : Fils) : Fils := l.map fun x => (x.1, cutF keep x.2)
def crash (s : Dsk) (keep : Int) : Dsk := if s.down then s else { s with fs := cutAll keep s.fs, down := true, at_ := 0, keep := 0 }
theorem look_map (g : Fil → Fil) (n : Name) : ∀ l : Fils, lkF (l.map fun x => (x.1, g x.2)) n = (lkF l n).map g
  | [] => rfl
  | x :: t => by
    rw [List.map_cons, lkF, lkF]
    by_cases e : x.1 = n
    · rw [if_pos e, if_pos e]; rfl
    · rw [if_neg e, if_neg e, look_map g n t]
theorem rising_map (g : Fil → Fil) {l : Fils} (h : Rising l) : Rising (l.map fun x => (x.1, g x.2)) := List.pairwise_map.2 h
theorem names_map (g : Fil → Fil) (l : Fils) : (l.map fun x => (x.1, g x.2)).map (·.1) = l.map (·.1) := by simp [List.map_map, Function.comp_def]
theorem used_cut (keep : Int) : ∀ l : Fils, usF (cutAll keep l) ≤ usF l
  | [] => Nat.le_refl _
  | x :: t => by
    have := used_cut keep t
    unfold cutAll at this ⊢
    rw [List.map_cons, usF, usF]
    have h1 : (cutF keep x.2).bytes.length ≤ x.2.bytes.length := by simp [cutF]; omega
    show (cutF keep x.2).bytes.length + _ ≤ _
    omega
theorem Ok.crash {s : Dsk} (h : Ok s) (keep : Int) : Ok (crash s keep) := by
  unfold VdM.crash
  split
  · exact h
  · refine ⟨h.q1, h.q2, rising_map _ h.rise, fun x hx => ?_, fun x hx => ?_, Nat.le_trans (used_cut keep s.fs) h.fits, by simpa [cutAll] using h.most, by simp⟩
    · obtain ⟨y, hy, rfl⟩ := List.mem_map.1 hx
      exact h.names y hy
    · obtain ⟨y, hy, rfl⟩ := List.mem_map.1 hx
      have := h.syn y hy
      simp [cutF]
      omega
/-- an effect: what would be, what is even so -/
def eff (s would even : Dsk) : Dsk := if s.at_ = 1 then crash even s.keep else { would with at_ := max (s.at_ - 1) 0, eff := s.eff + 1 }
def effE (s : Dsk) : Int := if s.at_ = 1 then 7 else 0
def nameB (n : Name) : Bool := decide (1 ≤ n.length) && decide (n.length ≤ 32)
def roomB (s : Dsk) (n : Name) (k : Nat) : Bool := (decide ((lkF s.fs n).isSome = true) || decide (s.fs.length < 64)) && decide (usF s.fs + k ≤ s.quota)
def grow (o : Option Fil) (x : List UInt8) : Fil :=
  match o with
  | none => ⟨x, 0⟩
  | some f => ⟨f.bytes ++ x, f.syn⟩
def added (s : Dsk) (n : Name) (x : List UInt8) : Dsk := { s with fs := ptF n (grow (lkF s.fs n) x) s.fs }
def append (s : Dsk) (n : Name) (x : List UInt8) : Dsk × Int :=
  if s.down then (s, 7) else if nameB n = false then (s, 2) else if roomB s n x.length = false then (s, 6) else (eff s (added s n x) (added s n x), effE s)
def synced (f : Fil) : Fil := ⟨f.bytes, f.bytes.length⟩
def findE (s : Dsk) (n : Name) : Int := if s.down then 7 else if (lkF s.fs n).isSome then 0 else 4
def getF (s : Dsk) (n : Name) : Fil := if s.down then ⟨[], 0⟩ else (lkF s.fs n).getD ⟨[], 0⟩
def syncD (s : Dsk) (n : Name) : Dsk := { s with fs := ptF n (synced ((lkF s.fs n).getD ⟨[], 0⟩)) s.fs }
def sync (s : Dsk) (n : Name) : Dsk × Int := if findE s n = 0 then (eff s (syncD s n) s, effE s) else (s, findE s n)
def renD (s : Dsk) (n m : Name) : Dsk := { s with fs := ptF m ((lkF s.fs n).getD ⟨[], 0⟩) (dlF n s.fs) }
def rename (s : Dsk) (n m : Name) : Dsk × Int := if findE s n = 0 then (if nameB m then (eff s (renD s n m) s, effE s) else (s, 2)) else (s, findE s n)
def remD (s : Dsk) (n : Name) : Dsk := { s with fs := dlF n s.fs }
def remove (s : Dsk) (n : Name) : Dsk × Int := if findE s n = 0 then (eff s (remD s n) s, effE s) else (s, findE s n)
def flipB (l : List UInt8) (bit : Nat) : List UInt8 := l.set (bit / 8) (l.getD (bit / 8) 0 ^^^ ((1 : UInt8) <<< UInt8.ofNat (bit % 8)))
def flip (s : Dsk) (n : Name) (bit : Int) : Dsk × Int :=
  match lkF s.fs n with
  | none => (s, 4)
  | some f => if 0 ≤ bit ∧ bit.toNat / 8 < f.bytes.length then ({ s with fs := ptF n ⟨flipB f.bytes bit.toNat, f.syn⟩ s.fs }, 0) else (s, 1)
/-! ### it stays a disk -/
theorem Ok.eff {s a b : Dsk} (ha : Ok a) (hb : Ok b) (h : Ok s) : Ok (eff s a b) := by
  unfold VdM.eff
  have := h.at0
  split
  · exact hb.crash _
  · exact ⟨ha.q1, ha.q2, ha.rise, ha.names, ha.syn, ha.fits, ha.most, by show 0 ≤ max (s.at_ - 1) 0 ∧ max (s.at_ - 1) 0 ≤ _; omega⟩
theorem Ok.put {s : Dsk} (h : Ok s) {n : Name} {f : Fil} (hn : 1 ≤ n.length ∧ n.length ≤ 32) (hs : f.syn ≤ f.bytes.length) (hu : usF s.fs + f.bytes.length ≤ s.quota + lenOf (lkF s.fs n)) (hm : (lkF s.fs n).isSome ∨ s.fs.length < 64) : Ok { s with fs := ptF n f s.fs } := by
  have h1 := used_put f h.rise (n := n)
  have h2 := length_put f h.rise (n := n)
  have h3 := h.most
  refine ⟨h.q1, h.q2, rising_put n f h.rise, fun x hx => ?_, fun x hx => ?_, ?_, ?_, h.at0⟩
  · rcases mem_put hx with rfl | hx
    · exact hn
    · exact h.names x hx
  · rcases mem_put hx with rfl | hx
    · exact hs
    · exact h.syn x hx
  · show usF (VdM.ptF n f s.fs) ≤ s.quota
    omega
  · show (VdM.ptF n f s.fs).length ≤ 64
    rw [h2]
    rcases hm with hm | hm
    · rw [if_pos hm]; omega
    · split <;> omega
theorem Ok.del {s : Dsk} (h : Ok s) (n : Name) : Ok { s with fs := dlF n s.fs } := by
  have h1 := used_del h.rise (n := n)
  have h2 := length_del n s.fs
  have h3 := h.most
  have h4 := h.fits
  refine ⟨h.q1, h.q2, rising_del n h.rise, fun x hx => h.names x (mem_del hx).1, fun x hx => h.syn x (mem_del hx).1, ?_, ?_, h.at0⟩
  · show usF (VdM.dlF n s.fs) ≤ s.quota
    omega
  · show (VdM.dlF n s.fs).length ≤ 64
    omega
end Go.Proofs.Yteigkmeenokfoaa.VdM
