
/- What was synced lasts: the plain part; a disk beside other memory. -/
import Derived.Test.YteigkmeenokfoaaVdQ
namespace Go.Proofs.Yteigkmeenokfoaa.Vd
open Go.RowKit Go.Proofs.Yteigkmeenokfoaa VdM Go.Maps

/-- the power is on, nothing is armed; at most k effects were done -/
structure Calm (k : Nat) (s : Dsk) : Prop where
  ok : Ok s
  down : s.down = false
  at_ : s.at_ = 0
  eff : s.eff ≤ k
theorem calm_fresh : Calm 0 (fresh 1048576) :=
  ⟨⟨by decide, by decide, List.Pairwise.nil, fun x h => by simp [fresh] at h, fun x h => by simp [fresh] at h, Nat.zero_le _, Nat.zero_le _, by simp [fresh]⟩, rfl, rfl, Nat.le_refl _⟩
theorem Calm.mono {k k' : Nat} {s : Dsk} (h : Calm k s) (hk : k ≤ k') : Calm k' s := ⟨h.ok, h.down, h.at_, Nat.le_trans h.eff hk⟩
theorem calm_eff {s : Dsk} (h : s.at_ = 0) (a b : Dsk) : eff s a b = { a with at_ := 0, eff := s.eff + 1 } := by
  unfold eff
  rw [h]
  rfl
theorem calm_append {k : Nat} {s : Dsk} (h : Calm k s) (n : Name) (x : List UInt8) : Calm (k + 1) (append s n x).1 ∧ ((append s n x).1.fs = s.fs ∨ (append s n x).1.fs = ptF n (grow (lkF s.fs n) x) s.fs) := by
  unfold append
  rw [h.down, if_neg (by simp)]
  cases hn : nameB n with
  | false =>
    rw [if_pos rfl]
    exact ⟨h.mono (by omega), .inl rfl⟩
  | true =>
    rw [if_neg (by simp)]
    cases hr : roomB s n x.length with
    | false =>
      rw [if_pos rfl]
      exact ⟨h.mono (by omega), .inl rfl⟩
    | true =>
      rw [if_neg (by simp)]
      show Calm (k + 1) (eff s (added s n x) (added s n x)) ∧ ((eff s (added s n x) (added s n x)).fs = _ ∨ (eff s (added s n x) (added s n x)).fs = _)
      rw [calm_eff h.at_]
      have ho := added_ok n x hn hr s h.ok rfl rfl
      exact ⟨⟨⟨ho.q1, ho.q2, ho.rise, ho.names, ho.syn, ho.fits, ho.most, by simp⟩, h.down, rfl, by have := h.eff; show s.eff + 1 ≤ k + 1; omega⟩, .inr rfl⟩
theorem calm_sync {k : Nat} {s : Dsk} (h : Calm k s) {n : Name} {f : Fil} (hl : lkF s.fs n = some f) : ∃ s', sync s n = (s', 0) ∧ Calm (k + 1) s' ∧ s'.fs = ptF n (synced f) s.fs := by
  have hf : findE s n = 0 := by unfold findE; rw [h.down, hl]; rfl
  have hs : syncD s n = { s with fs := ptF n (synced f) s.fs } := by unfold syncD; rw [hl]; rfl
  have he : effE s = 0 := by unfold effE; rw [h.at_]; rfl
  have ho := synced_ok h.ok hl
  refine ⟨{ s with fs := ptF n (synced f) s.fs, at_ := 0, eff := s.eff + 1 }, ?_, ⟨⟨ho.q1, ho.q2, ho.rise, ho.names, ho.syn, ho.fits, ho.most, by simp⟩, h.down, rfl, by have := h.eff; show s.eff + 1 ≤ k + 1; omega⟩, rfl⟩
  unfold sync
  rw [if_pos hf, hs, he, calm_eff h.at_]
/-- fs has come of fs0 by appends alone -/
def Over (fs0 fs : Fils) : Prop := (∀ n f0, lkF fs0 n = some f0 → ∃ f, lkF fs n = some f ∧ f.syn = f0.syn ∧ ∃ x, f.bytes = f0.bytes ++ x) ∧ ∀ n f, lkF fs n = some f → lkF fs0 n = none → f.syn = 0
theorem Over.refl (fs : Fils) : Over fs fs := ⟨fun n f0 h => ⟨f0, h, rfl, [], by simp⟩, fun n f h h' => by rw [h] at h'; cases h'⟩
theorem Over.grow {fs0 fs : Fils} (h : Over fs0 fs) (n : Name) (x : List UInt8) : Over fs0 (ptF n (grow (lkF fs n) x) fs) := by
  refine ⟨fun m f0 hm => ?_, fun m f hm h0 => ?_⟩
  · obtain ⟨f, hf, hs, y, hy⟩ := h.1 m f0 hm
    by_cases e : m = n
    · subst e
      rw [look_put_same, hf]
      exact ⟨_, rfl, hs, y ++ x, by simp [VdM.grow, hy]⟩
    · rw [look_put_other _ e]
      exact ⟨f, hf, hs, y, hy⟩
  · by_cases e : m = n
    · subst e
      rw [look_put_same] at hm
      injection hm with hm
      subst hm
      cases hl : lkF fs m with
      | none => rfl
      | some g => exact h.2 m g hl h0
    · rw [look_put_other _ e] at hm
      exact h.2 m f hm h0
/-- the texts of the first i files -/
def upto (fs : Fils) (i : Nat) : Name → Option (List UInt8) := fun n => if n ∈ (fs.map (·.1)).take i then (lkF fs n).map (·.bytes) else none
def updT (M : Name → Option (List UInt8)) (n : Name) (x : List UInt8) : Name → Option (List UInt8) := fun m => if m = n then some x else M m
theorem upto_zero (fs : Fils) : upto fs 0 = fun _ => none := by
  funext n
  unfold upto
  rw [List.take_zero, if_neg (by simp)]
theorem upto_all (fs : Fils) : upto fs (fs.map (·.1)).length = fun n => (lkF fs n).map (·.bytes) := by
  funext n
  unfold upto
  rw [List.take_length]
  by_cases h : n ∈ fs.map (·.1)
  · rw [if_pos h]
  · rw [if_neg h, look_none.2 h]
    rfl
theorem name_at {fs : Fils} (hr : Rising fs) {i : Nat} (h : i < (fs.map (·.1)).length) : ∃ f, lkF fs (fs.map (·.1))[i] = some f := by
  have h' : i < fs.length := by simpa using h
  refine ⟨fs[i].2, look_of_mem hr ?_⟩
  have e : (fs.map (·.1))[i] = fs[i].1 := by simp
  rw [e]
  exact List.getElem_mem h'
theorem upto_next {fs : Fils} {i : Nat} (h : i < (fs.map (·.1)).length) {f : Fil} (hl : lkF fs (fs.map (·.1))[i] = some f) : upto fs (i + 1) = updT (upto fs i) (fs.map (·.1))[i] f.bytes := by
  funext n
  unfold upto updT
  rw [List.take_succ_eq_append_getElem h]
  by_cases e : n = (fs.map (·.1))[i]
  · rw [if_pos e, if_pos (by rw [e]; exact List.mem_append_right _ List.mem_cons_self), e, hl]
    rfl
  · rw [if_neg e]
    have h1 : n ∈ (fs.map (·.1)).take i ++ [(fs.map (·.1))[i]] ↔ n ∈ (fs.map (·.1)).take i := ⟨fun hh => by
      rcases List.mem_append.1 hh with hh | hh
      · exact hh
      · exact absurd (by simpa using hh) e, List.mem_append_left _⟩
    simp only [h1]
/-- the first i files are synced, the others as they were -/
def SynTo (fs0 fs : Fils) (i : Nat) : Prop := fs.map (·.1) = fs0.map (·.1) ∧ ∀ n, lkF fs n = (lkF fs0 n).map fun f => if n ∈ (fs0.map (·.1)).take i then synced f else f
theorem SynTo.zero (fs : Fils) : SynTo fs fs 0 := ⟨rfl, fun n => by
  rw [List.take_zero]
  cases lkF fs n <;> simp⟩
theorem SynTo.next {fs0 fs : Fils} {i : Nat} (h : SynTo fs0 fs i) (hr0 : Rising fs0) (hr : Rising fs) (hi : i < (fs0.map (·.1)).length) {f : Fil} (hl : lkF fs (fs0.map (·.1))[i] = some f) : SynTo fs0 (ptF (fs0.map (·.1))[i] (synced f) fs) (i + 1) := by
  refine ⟨by rw [names_put _ hr (by rw [hl]; rfl)]; exact h.1, fun n => ?_⟩
  have hsyn : ∀ g : Fil, synced (synced g) = synced g := fun g => rfl
  rw [List.take_succ_eq_append_getElem hi]
  by_cases e : n = (fs0.map (·.1))[i]
  · rw [e, look_put_same]
    have h2 := h.2 (fs0.map (·.1))[i]
    rw [hl] at h2
    obtain ⟨f0, hf0⟩ := name_at hr0 hi
    rw [hf0] at h2 ⊢
    simp only [Option.map_some, Option.some.injEq] at h2 ⊢
    rw [if_pos (List.mem_append_right _ List.mem_cons_self), h2]
    split
    · exact (hsyn f0)
    · rfl
  · rw [look_put_other _ e, h.2 n]
    congr 1
    funext g
    by_cases hm : n ∈ (fs0.map (·.1)).take i
    · rw [if_pos hm, if_pos (List.mem_append_left _ hm)]
    · rw [if_neg hm, if_neg (fun hh => by
        rcases List.mem_append.1 hh with hh | hh
        · exact hm hh
        · exact e (by simpa using hh))]
theorem SynTo.look {fs0 fs : Fils} {i : Nat} (h : SynTo fs0 fs i) {n : Name} {f0 : Fil} (hl : lkF fs0 n = some f0) : ∃ f, lkF fs n = some f ∧ f.bytes = f0.bytes := by
  rw [h.2 n, hl]
  refine ⟨_, rfl, ?_⟩
  split <;> rfl
theorem SynTo.all {fs0 fs : Fils} (h : SynTo fs0 fs (fs0.map (·.1)).length) : ∀ n, lkF fs n = (lkF fs0 n).map synced := fun n => by
  rw [h.2 n, List.take_length]
  cases hl : lkF fs0 n with
  | none => rfl
  | some f =>
    have : n ∈ fs0.map (·.1) := List.mem_map.2 ⟨(n, f), look_some hl, rfl⟩
    rw [Option.map_some, Option.map_some, if_pos this]
/-- what the law asks of a file at the end -/
theorem lasts {fs1 fs2 fs : Fils} (h1 : ∀ n, lkF fs2 n = (lkF fs1 n).map synced) (h2 : Over fs2 fs) {n : Name} {f : Fil} (hl : lkF fs n = some f) (hs : f.syn ≤ f.bytes.length) (keep : Int) :
    ∃ a : List UInt8, ((lkF fs1 n).map (·.bytes)).getD [] = a ∧ a.length ≤ (cutF keep f).bytes.length ∧ (cutF keep f).bytes.length ≤ f.bytes.length ∧ f.bytes.take (cutF keep f).bytes.length = (cutF keep f).bytes ∧
      ((cutF keep f).bytes.length : Int) = min (f.bytes.length : Int) ((a.length : Int) + max 0 (min keep (f.bytes.length : Int))) := by
  have hlen := cut_len keep f hs
  have hb : (cutF keep f).bytes = f.bytes.take (f.syn + min keep.toNat (f.bytes.length - f.syn)) := rfl
  have ha : (((lkF fs1 n).map (·.bytes)).getD []).length = f.syn := by
    cases h : lkF fs1 n with
    | none =>
      have e : lkF fs2 n = none := by rw [h1, h]; rfl
      rw [h2.2 n f hl e]
      rfl
    | some f1 =>
      have e : lkF fs2 n = some (synced f1) := by rw [h1, h]; rfl
      obtain ⟨g, hg, hgs, _⟩ := h2.1 n _ e
      rw [hl] at hg
      injection hg with hg
      rw [hg, hgs]
      rfl
  refine ⟨_, rfl, by rw [ha, hlen]; omega, by rw [hlen]; omega, by rw [hlen]; exact hb.symm, ?_⟩
  rw [ha, hlen]
  omega
/-! ### a disk beside other memory -/
/-- as Here; E: other memory, which is there -/
def Held (w0 w : World) (E : Nat → Prop) (d : Nat) (s : Dsk) : Prop := ∃ F, Is w F d s ∧ (∀ b, F b → w0.heap.size ≤ b) ∧ Below w0.heap.size w0 w ∧ ∀ b, E b → ¬ F b ∧ b < w.heap.size
def Kept (E : Nat → Prop) (w w' : World) : Prop := w.heap.size ≤ w'.heap.size ∧ ∀ b, E b → w'.heap[b]? = w.heap[b]?
section
variable {w0 w w' : World} {E : Nat → Prop} {d : Nat} {s s' : Dsk}
theorem Held.below (h : Held w0 w E d s) : Below w0.heap.size w0 w := by
  obtain ⟨F, _, _, hB, _⟩ := h
  exact hB
theorem Held.later (h : Held w0 w E d s) (hb : Below w.heap.size w w') : Held w0 w' E d s ∧ Kept E w w' := by
  obtain ⟨F, hI, hF, hB, hE⟩ := h
  exact ⟨⟨F, hI.later hb, hF, hB.trans (hb.mono hB.size), fun b he => ⟨(hE b he).1, Nat.lt_of_lt_of_le (hE b he).2 hb.size⟩⟩, hb.size, fun b he => hb.block b (hE b he).2⟩
theorem Held.with_ (h : Held w0 w E d s) (hb : Below w.heap.size w w') (E' : Nat → Prop) (hE' : ∀ b, E' b → E b ∨ (w.heap.size ≤ b ∧ b < w'.heap.size)) : Held w0 w' E' d s := by
  obtain ⟨F, hI, hF, hB, hE⟩ := h
  refine ⟨F, hI.later hb, hF, hB.trans (hb.mono hB.size), fun b he => ?_⟩
  rcases hE' b he with h1 | ⟨h1, h2⟩
  · exact ⟨(hE b h1).1, Nat.lt_of_lt_of_le (hE b h1).2 hb.size⟩
  · exact ⟨fun hf => by have := hI.lt b hf; omega, h2⟩
theorem held_went {F : Nat → Prop} (hF : ∀ b, F b → w0.heap.size ≤ b) (hB : Below w0.heap.size w0 w) (hE : ∀ b, E b → ¬ F b ∧ b < w.heap.size) (h : Went w w' F d s') : Held w0 w' E d s' ∧ Kept E w w' := by
  obtain ⟨hT, F', hI, hF'⟩ := h
  have hz := hB.size
  refine ⟨⟨F', hI, fun b hb => (hF' b hb).elim (hF b) (fun x => Nat.le_trans hz x), hT.below hB hF, fun b he => ⟨fun hf => ?_, Nat.lt_of_lt_of_le (hE b he).2 hT.size⟩⟩, hT.size, fun b he => hT.block b (hE b he).2 (hE b he).1⟩
  rcases hF' b hf with x | x
  · exact (hE b he).1 x
  · have := (hE b he).2; omega
/-- a block of that other memory has turned -/
theorem Held.turn (h : Held w0 w E d s) {m : Nat} (hm : E m) (hm0 : w0.heap.size ≤ m) (hg : w.grownBy w' (some m)) : Held w0 w' E d s ∧ Kept (fun b => E b ∧ b ≠ m) w w' := by
  obtain ⟨F, hI, hF, hB, hE⟩ := h
  have hT : Turned (fun b => b = m) w w' := Turned.of_grown hg rfl
  refine ⟨⟨F, hI.turned hT (fun b hb e => (hE m hm).1 (e ▸ hb)), hF, hT.below hB (fun b e => by rw [e]; exact hm0), fun b he => ⟨(hE b he).1, Nat.lt_of_lt_of_le (hE b he).2 hT.size⟩⟩, hT.size, fun b he => hT.block b (hE b he.1).2 he.2⟩
theorem held_append (h : Held w0 w E d s) (nm x : ByteArray) (he : s.eff + 1 ≤ 1000000000) :
    Calls Try.prog 7 #[.pointer (some ⟨d, 0, none⟩), .string nm, .string x] w fun e w' => (∃ e', e = .returned (.int .i64 e')) ∧ Held w0 w' E d (append s nm.data.toList x.data.toList).1 ∧ Kept E w w' := by
  obtain ⟨F, hI, hF, hB, hE⟩ := h
  refine (append_any w F d s hI nm x he).mono ?_
  rintro e w' ⟨rfl, hw⟩
  exact ⟨⟨_, rfl⟩, held_went hF hB hE hw⟩
theorem held_sync (h : Held w0 w E d s) (nm : ByteArray) (hn : nm.size ≤ 1000000) (he : s.eff + 1 ≤ 1000000000) (s' : Dsk) (e' : Int) (hs : sync s nm.data.toList = (s', e')) :
    Calls Try.prog 9 #[.pointer (some ⟨d, 0, none⟩), .string nm] w fun e w' => e = .returned (.int .i64 e') ∧ Held w0 w' E d s' ∧ Kept E w w' := by
  obtain ⟨F, hI, hF, hB, hE⟩ := h
  have hc := sync_any w F d s hI nm hn he
  rw [hs] at hc
  refine hc.mono ?_
  rintro e w' ⟨rfl, hw⟩
  exact ⟨rfl, held_went hF hB hE hw⟩
theorem held_crash (h : Held w0 w E d s) (keep : Int) (s' : Dsk) (hs : crash s keep = s') :
    Calls Try.prog 11 #[.pointer (some ⟨d, 0, none⟩), .int .i64 keep] w fun e w' => e = .returned (.tuple #[]) ∧ Held w0 w' E d s' ∧ Kept E w w' := by
  obtain ⟨F, hI, hF, hB, hE⟩ := h
  have hc := crash_any w F d s hI keep
  rw [hs] at hc
  refine hc.mono ?_
  rintro e w' ⟨rfl, hT, hI'⟩
  exact ⟨rfl, held_went hF hB hE ⟨hT, F, hI', fun b hb => .inl hb⟩⟩
theorem held_start (h : Held w0 w E d s) (s' : Dsk) (hs : { s with down := false } = s') :
    Calls Try.prog 12 #[.pointer (some ⟨d, 0, none⟩)] w fun e w' => e = .returned (.tuple #[]) ∧ Held w0 w' E d s' ∧ Kept E w w' := by
  obtain ⟨F, hI, hF, hB, hE⟩ := h
  have hc := start_any w F d s hI
  rw [hs] at hc
  refine hc.mono ?_
  rintro e w' ⟨rfl, hT, hI'⟩
  exact ⟨rfl, held_went hF hB hE ⟨hT, F, hI', fun b hb => .inl hb⟩⟩
theorem held_read (h : Held w0 w E d s) (nm : ByteArray) (hn : nm.size ≤ 1000000000) (hd : s.down = false) (f : Fil) (hl : lkF s.fs nm.data.toList = some f) :
    Calls Try.prog 10 #[.pointer (some ⟨d, 0, none⟩), .string nm] w fun e w' => e = .returned (.tuple #[.string (ofBytes f.bytes), .int .i64 0]) ∧ Below w.heap.size w w' := by
  obtain ⟨F, hI, hF, hB, hE⟩ := h
  have hc := read_any w F d s hI nm hn
  rw [show getF s nm.data.toList = f from by unfold getF; rw [hd, hl]; rfl, show findE s nm.data.toList = 0 from by unfold findE; rw [hd, hl]; rfl] at hc
  exact hc
/-- the names l lie in block g, if there are any -/
def Names (w : World) (g : Nat) (p : Option Addr) (l : List Name) : Prop := ∀ i (h : i < l.length), p = some ⟨g, 0, none⟩ ∧ w.cell? ⟨g, i, none⟩ = some (.string (ofBytes l[i]))
theorem Names.stay {g : Nat} {p : Option Addr} {l : List Name} (h : Names w g p l) (hb : w'.heap[g]? = w.heap[g]?) : Names w' g p l :=
  fun i hh => ⟨(h i hh).1, (World.cell?_of_block (w := w) (a := ⟨g, i, none⟩) hb).trans (h i hh).2⟩
theorem held_list (h : Held w0 w E d s) (g0 : Nat) :
    Calls Try.prog 8 #[.pointer (some ⟨d, 0, none⟩)] w fun e w' => ∃ p c g, e = .returned (.slice p s.fs.length c) ∧ Names w' g p (s.fs.map (·.1)) ∧ (g = g0 ∨ (w.heap.size ≤ g ∧ g < w'.heap.size)) ∧ Below w.heap.size w w' := by
  obtain ⟨F, hI, hF, hB, hE⟩ := h
  refine (list_any w F d s hI).mono ?_
  rintro e w' ⟨v, rfl, hr, hb⟩
  obtain ⟨p, c, rfl, hp⟩ := hr.at_
  by_cases h0 : 0 < (s.fs.map (·.1)).length
  · obtain ⟨g, e1, h1, h2, _⟩ := hp 0 h0
    refine ⟨p, c, g, by rw [List.length_map], fun i hi => ?_, .inr ⟨h1, h2⟩, hb⟩
    obtain ⟨g', e1', _, _, h3⟩ := hp i hi
    have e2 : g' = g := by rw [e1] at e1'; injection e1' with e1'; injection e1' with e1'; exact e1'.symm
    subst e2
    exact ⟨e1', h3⟩
  · exact ⟨p, c, g0, by rw [List.length_map], fun i hi => by omega, .inl rfl, hb⟩
end
/-! ### a map of texts of the law's own -/
abbrev TD := DataW Value
abbrev OwnT (w : World) (m n : Nat) (D : TD) : Prop := w.ownsMap Try.prog 9 (plainElem Try.prog 9) m n D
structure RepT (D : TD) (M : Name → Option (List UInt8)) : Prop where
  map : IsMap D
  has : ∀ n, Maps.has D (keyS n) = (M n).isSome
  at_ : ∀ n x, M n = some x → ∀ z, D.atKey (keyS n) z = .lit (.string x)
theorem RepT.none_ : RepT (.map []) (fun _ => none) := ⟨⟨[], rfl⟩, fun _ => rfl, fun n x h => by cases h⟩
theorem RepT.put {D : TD} {M : Name → Option (List UInt8)} (h : RepT D M) (n : Name) (x : List UInt8) : RepT (D.put (keyS n) (.lit (.string x))) (updT M n x) := by
  refine ⟨h.map.put _ _, fun m => ?_, fun m y hy z => ?_⟩
  · unfold updT
    by_cases c : m = n
    · subst c
      rw [if_pos rfl, has_put_same h.map (show WideAt.IsKeyLit (keyS m) from trivial)]
      rfl
    · rw [if_neg c, has_put_other (keyS_ne c)]
      exact h.has m
  · unfold updT at hy
    by_cases c : m = n
    · subst c
      rw [if_pos rfl] at hy
      injection hy with hy
      subst hy
      exact atKey_put_same h.map (show WideAt.IsKeyLit (keyS m) from trivial) _ _
    · rw [if_neg c] at hy
      rw [atKey_put_other (keyS_ne c)]
      exact h.at_ m y hy z
theorem OwnT.stay {w w' : World} {b n : Nat} {D : TD} (h : OwnT w b n D) (hb : w'.heap[b]? = w.heap[b]?) : OwnT w' b n D := by
  obtain ⟨es, clock, h1, r⟩ := h
  exact ⟨es, clock, hb.trans h1, r⟩
theorem mk_texts (w : World) : (Instr.makeMap 34 none).run Try.prog w = .ok (.map (some w.heap.size)) (w.alloc (.map #[] 0)) := by
  simp [Instr.makeMap, Result.andThen]
theorem str_zero (w : World) : (zeroValue 9).run Try.prog w = .ok (.string ⟨#[]⟩) w := by kernel_rfl
theorem text_put {w : World} {m nn : Nat} {D : TD} (h : OwnT w m nn D) (hn : nn < 1000000) (nm : ByteArray) (hk : nm.size ≤ 1000000000) (x : List UInt8) (hx : x.length ≤ 1000000000) :
    ∃ w', (Instr.mapUpdate 34 (.map (some m)) (.string nm) (.string (ofBytes x))).run Try.prog w = .ok () w' ∧ OwnT w' m (nn + 1) (D.put (keyS nm.data.toList) (.lit (.string x))) ∧ w.grownBy w' (some m) := by
  have hv : plainElem (H := Value) Try.prog 9 (.string (ofBytes x)) = some (.lit (.string x), []) := by
    have := plainElem_string (H := Value) Try.underlying9 (s := ofBytes x) (by rw [size_ofBytes]; unfold maxLen; omega)
    rw [ofBytes_list] at this
    exact this
  obtain ⟨w', h1, h2, h3⟩ := World.ownsMap.store h key_law Try.underlying34 (by unfold maxLen; omega) (key_is nm hk) hv
  exact ⟨w', h1, h2, h3.grown⟩
theorem text_look {w : World} {m nn : Nat} {D : TD} {M : Name → Option (List UInt8)} (h : OwnT w m nn D) (hr : RepT D M) (nm : ByteArray) (hk : nm.size ≤ 1000000000) :
    (Instr.lookup 34 (.map (some m)) (.string nm) false).run Try.prog w = .ok (.string (ofBytes ((M nm.data.toList).getD []))) w := by
  have hz : plainElem (H := Value) Try.prog 9 (.string ⟨#[]⟩) = some (.lit (.string []), []) := plainElem_string Try.underlying9 (s := ⟨#[]⟩) (by decide)
  obtain ⟨v, ps, hrun, hv⟩ := World.ownsMap.lookup h key_law Try.underlying34 (str_zero w) hz (key_is nm hk)
  obtain ⟨s, rfl, e, _⟩ := plainElem_string_inv Try.underlying9 hv
  injection e with e _
  have hb : s.data.toList = (M nm.data.toList).getD [] := by
    cases hm : M nm.data.toList with
    | none =>
      have hn : Maps.has D (keyS nm.data.toList) = false := by rw [hr.has, hm]; rfl
      rw [atKey_of_not_has hn] at e
      injection e with e
      injection e with e
      exact e.symm
    | some x =>
      rw [hr.at_ _ x hm] at e
      injection e with e
      injection e with e
      exact e.symm
  rw [hrun, ← hb, ofBytes_self]
end Go.Proofs.Yteigkmeenokfoaa.Vd
