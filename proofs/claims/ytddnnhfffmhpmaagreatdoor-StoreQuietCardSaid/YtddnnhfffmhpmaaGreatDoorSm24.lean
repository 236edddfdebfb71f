/- Own texts, merged (24 of 42). -/
import Derived.Test.YtddnnhfffmhpmaaGreatDoorSm15
import Derived.Test.YtddnnhfffmhpmaaGreatDoorSm23
import Derived.Test.YtddnnhfffmhpmaaGreatDoorSm18
import Derived.Test.YtddnnhfffmhpmaaGreatDoorSm6
import Derived.Lib.SlKeysI
import Derived.Deep.RegionHeld3
import Derived.Test.YtddnnhfffmhpmaaGreatDoorSm5

/- Documents in memory: a change's slices; a map of changes. -/
namespace Go.Proofs.YtddnnhfffmhpmaaGreatDoor.St
open Go.RowKit Go.Proofs.YtddnnhfffmhpmaaGreatDoor DocM StoM Do Go.Maps

/-- what the slice v holds lies apart from F -/
def Away (F : Nat → Prop) (v : Value) : Prop := ∀ A n cp, v = .slice A n cp → 0 < n → ∀ a, A = some a → ¬ F a.block
theorem Away.nil_ (F : Nat → Prop) : Away F (.slice none 0 0) := fun A n cp e hn => by
  injection e with _ e
  omega
theorem Away.new {F : Nat → Prop} {N : Nat} {v : Value} (h : NewS N v) (hF : ∀ b, F b → b < N) : Away F v := fun A n cp e _ a ha hb => by
  have := h A n cp e a ha
  have := hF _ hb
  omega
theorem Away.less {F F' : Nat → Prop} {v : Value} (h : Away F v) (hF : ∀ b, F' b → F b) : Away F' v := fun A n cp e hn a ha hb => h A n cp e hn a ha (hF _ hb)
theorem prd_turned {S : Nat → Prop} {w w' : World} {v : Value} {l : List (Int × Int)} (h : Prd w v l) (hT : Turned S w w') (ha : Away S v) : Prd w' v l := by
  obtain ⟨A, cp, e, h1, h2, h3⟩ := h
  refine ⟨A, cp, e, h1, h2, h3.1, fun k hk => ?_⟩
  obtain ⟨b, o, e', hl, c0, c1⟩ := h3.2 k hk
  have hn := ha _ _ _ e (by omega) _ e'
  exact ⟨b, o, e', Nat.lt_of_lt_of_le hl hT.size, (hT.cell (p := ⟨b, o + k * 2, none⟩) hl hn).trans c0, (hT.cell (p := ⟨b, o + k * 2 + 1, none⟩) hl hn).trans c1⟩
theorem vrd_turned {S : Nat → Prop} {w w' : World} {v : Value} {l : List Int} (h : Vrd w v l) (hT : Turned S w w') (ha : Away S v) : Vrd w' v l := by
  obtain ⟨A, cp, e, h3⟩ := h
  refine ⟨A, cp, e, h3.1, fun k hk => ?_⟩
  obtain ⟨b, o, e', hl, c0⟩ := h3.2 k hk
  have hn := ha _ _ _ e (by omega) _ e'
  exact ⟨b, o, e', Nat.lt_of_lt_of_le hl hT.size, (hT.cell (p := ⟨b, o + k, none⟩) hl hn).trans c0⟩
theorem prd_lt {w : World} {v : Value} {l : List (Int × Int)} (h : Prd w v l) {A : Option Addr} {n cp : Nat} (e : v = .slice A n cp) (hn : 0 < n) {a : Addr} (ha : A = some a) : a.block < w.heap.size := by
  obtain ⟨A', cp', e', _, _, h3⟩ := h
  rw [e] at e'
  injection e' with e1 e2
  obtain ⟨b, o, e4, hl, _⟩ := h3.2 0 (by omega)
  rw [← e1, ha] at e4
  injection e4 with e4
  rw [e4]
  exact hl
theorem vrd_lt {w : World} {v : Value} {l : List Int} (h : Vrd w v l) {A : Option Addr} {n cp : Nat} (e : v = .slice A n cp) (hn : 0 < n) {a : Addr} (ha : A = some a) : a.block < w.heap.size := by
  obtain ⟨A', cp', e', h3⟩ := h
  rw [e] at e'
  injection e' with e1 e2
  obtain ⟨b, o, e4, hl, _⟩ := h3.2 0 (by omega)
  rw [← e1, ha] at e4
  injection e4 with e4
  rw [e4]
  exact hl
/-- the slices T and V are the change's terms and vector, apart from F -/
structure Ct (w : World) (F : Nat → Prop) (c : Ch) (T V : Value) : Prop where
  t : Prd w T c.ts
  v : Vrd w V c.v
  at_ : Away F T
  av : Away F V
theorem Ct.turned {S : Nat → Prop} {w w' : World} {F F' : Nat → Prop} {c : Ch} {T V : Value} (h : Ct w F c T V) (hT : Turned S w w') (hS : ∀ b, S b → F b) (hF : ∀ b, F' b → F b ∨ w.heap.size ≤ b) : Ct w' F' c T V :=
  ⟨prd_turned h.t hT (h.at_.less hS), vrd_turned h.v hT (h.av.less hS), fun A n cp e hn a ha hb => by
    rcases hF _ hb with hb | hb
    · exact h.at_ A n cp e hn a ha hb
    · have := prd_lt h.t e hn ha; omega, fun A n cp e hn a ha hb => by
    rcases hF _ hb with hb | hb
    · exact h.av A n cp e hn a ha hb
    · have := vrd_lt h.v e hn ha; omega⟩
theorem Ct.later {w w' : World} {F : Nat → Prop} {c : Ch} {T V : Value} (h : Ct w F c T V) (hb : Below w.heap.size w w') : Ct w' F c T V := h.turned (Turned.of_below (S := fun _ => False) hb) (fun _ h => h.elim) (fun _ h => .inl h)
theorem Ct.shape {w : World} {F : Nat → Prop} {c : Ch} {T V : Value} (h : Ct w F c T V) : ∃ p n k q m j, T = .slice p n k ∧ V = .slice q m j := by
  obtain ⟨A, cp, e, _⟩ := h.t
  obtain ⟨B, cq, e2, _⟩ := h.v
  exact ⟨_, _, _, _, _, _, e, e2⟩
/-! ### a change as a map's element -/
abbrev SD := DataW Value
def chElem (v : Value) : Option (SD × List MemPlace) :=
  match v with
  | .agg cs => match cs.toList with
    | [.int .i64 d, .slice p n c, .slice q m e, .int .i64 t, .bool g] => some (.held (.agg #[.int .i64 d, .slice p n c, .slice q m e, .int .i64 t, .bool g]), [])
    | _ => none
  | _ => none
theorem chElem_mk (c : Ch) (p q : Option Addr) (n k m j : Nat) : chElem (chV c (.slice p n k) (.slice q m j)) = some (.held (chV c (.slice p n k) (.slice q m j)), []) := rfl
theorem chElem_inv {v : Value} {y : SD × List MemPlace} (h : chElem v = some y) : y = (.held v, []) ∧ ∃ d p n c q m e t g, v = .agg #[.int .i64 d, .slice p n c, .slice q m e, .int .i64 t, .bool g] := by
  unfold chElem at h
  split at h
  · rename_i cs
    split at h
    · rename_i d p n c q m e t g he
      injection h with h
      have hcs : cs = #[.int .i64 d, .slice p n c, .slice q m e, .int .i64 t, .bool g] := by
        cases cs
        simp at he
        simp [he]
      rw [hcs]
      exact ⟨h.symm, _, _, _, _, _, _, _, _, _, rfl⟩
    · cases h
  · cases h
abbrev Own (w : World) (b n : Nat) (D : SD) : Prop := w.ownsMap Tryz.prog 3 chElem b n D
theorem Own.stay {w w' : World} {b n : Nat} {D : SD} (h : Own w b n D) (hb : w'.heap[b]? = w.heap[b]?) : Own w' b n D := by
  obtain ⟨es, clock, h1, r⟩ := h
  exact ⟨es, clock, hb.trans h1, r⟩
theorem own_exact {w : World} {m nn : Nat} {D : SD} (ho : Own w m nn D) : Own w m (Maps.size D) D := by
  obtain ⟨es, clock, hb, F, hs, hD⟩ := ho
  refine ⟨es, clock, hb, F, ?_, hD⟩
  rw [hD]
  simp [Maps.size, length_sorted]
/-- the map's datum D is the changes l; T: their slices -/
structure Rep (D : SD) (T : Int → Value × Value) (l : Chs) : Prop where
  map : IsMap D
  has : ∀ n, Maps.has D (Ks.keyL n) = (lkC l n).isSome
  at_ : ∀ n c, lkC l n = some c → ∀ z, D.atKey (Ks.keyL n) z = .held (chV c (T n).1 (T n).2)
theorem Rep.none_ (T : Int → Value × Value) : Rep (.map []) T [] := ⟨⟨[], rfl⟩, fun _ => rfl, fun n c h => by cases h⟩
def updT (T : Int → Value × Value) (n : Int) (v : Value × Value) : Int → Value × Value := fun m => if m = n then v else T m
theorem updT_same (T : Int → Value × Value) (n : Int) (v : Value × Value) : updT T n v n = v := if_pos rfl
theorem updT_other (T : Int → Value × Value) {n m : Int} (v : Value × Value) (h : m ≠ n) : updT T n v m = T m := if_neg h
theorem Rep.put {D : SD} {T : Int → Value × Value} {l : Chs} (h : Rep D T l) (c : Ch) (t v : Value) : Rep (D.put (Ks.keyL c.doc) (.held (chV c t v))) (updT T c.doc (t, v)) (ptC c l) := by
  refine ⟨h.map.put _ _, fun m => ?_, fun m g hg z => ?_⟩
  · by_cases e : m = c.doc
    · subst e
      rw [has_put_same h.map (show WideAt.IsKeyLit (Ks.keyL c.doc) from trivial), lk_put_same]
      rfl
    · rw [has_put_other (Ks.keyL_ne e), lk_put_other c e]
      exact h.has m
  · by_cases e : m = c.doc
    · subst e
      rw [lk_put_same] at hg
      injection hg with hg
      subst hg
      rw [updT_same]
      exact atKey_put_same h.map (show WideAt.IsKeyLit (Ks.keyL c.doc) from trivial) _ _
    · rw [lk_put_other c e] at hg
      rw [atKey_put_other (Ks.keyL_ne e), updT_other T _ e]
      exact h.at_ m g hg z
theorem Rep.del {D : SD} {T : Int → Value × Value} {l : Chs} (h : Rep D T l) (n : Int) : Rep (D.del (Ks.keyL n)) T (dlC n l) := by
  refine ⟨h.map.del _, fun m => ?_, fun m g hg z => ?_⟩
  · by_cases e : m = n
    · subst e
      rw [has_del_same, lk_del_same]
      rfl
    · rw [has_del_other (Ks.keyL_ne e), lk_del_other e]
      exact h.has m
  · by_cases e : m = n
    · subst e
      rw [lk_del_same] at hg
      cases hg
    · rw [lk_del_other e] at hg
      rw [atKey_del_other (Ks.keyL_ne e)]
      exact h.at_ m g hg z
/-- a document's number -/
def DocOk (d : Int) : Prop := 0 ≤ d ∧ d ≤ 2147483647
theorem docs_perm {w : World} {m nn : Nat} {D : SD} {T : Int → Value × Value} {l : Chs} (ho : Own w m nn D) (h : Rep D T l) (hr : RiseC l) : (l.map (·.doc)).Perm (intKeys D) := by
  obtain ⟨es, rfl, hp, _⟩ := ho.entries Ks.key_law
  obtain ⟨es', e, hk⟩ := ho.keysOf
  injection e with e
  subst e
  refine perm_intKeys hp (fun p hp => ?_) (docs_nodup hr) (fun x => ?_)
  · obtain ⟨v, hv⟩ := hk p hp
    obtain ⟨x, _, e, _⟩ := Maps.keyOf_i64 Tryz.underlying3 hv
    exact ⟨x, e⟩
  · show _ ↔ Maps.has _ (Ks.keyL x) = true
    rw [h.has x]
    cases hl : lkC l x with
    | none => simp only [Option.isSome_none, Bool.false_eq_true, iff_false]; exact lk_none.1 hl
    | some f => simp only [Option.isSome_some, iff_true]; exact List.mem_map.2 ⟨f, (lk_doc hl).2, (lk_doc hl).1⟩
theorem size_rep {w : World} {m nn : Nat} {D : SD} {T : Int → Value × Value} {l : Chs} (ho : Own w m nn D) (h : Rep D T l) (hr : RiseC l) : Maps.size D = l.length := by
  have e : Maps.size D = (intKeys D).length := by
    obtain ⟨es, rfl⟩ := h.map
    simp [Maps.size, intKeys]
  rw [e, ← (docs_perm ho h hr).length_eq, List.length_map]
/-- block b is a map of the changes l; their slices lie apart from F -/
def MapAt (w : World) (F : Nat → Prop) (b : Nat) (l : Chs) : Prop := ∃ D T, Own w b l.length D ∧ Rep D T l ∧ RiseC l ∧ ∀ n c, lkC l n = some c → Ct w F c (T n).1 (T n).2
section
variable {w w' : World} {F F' : Nat → Prop} {b : Nat} {l : Chs}
theorem MapAt.lt (h : MapAt w F b l) : b < w.heap.size := by
  obtain ⟨D, T, ho, _⟩ := h
  exact World.ownsMap.lt ho
theorem MapAt.rise (h : MapAt w F b l) : RiseC l := by
  obtain ⟨D, T, _, _, hr, _⟩ := h
  exact hr
theorem MapAt.turned {S : Nat → Prop} (h : MapAt w F b l) (hT : Turned S w w') (hb : ¬ S b) (hS : ∀ x, S x → F x) (hF : ∀ x, F' x → F x ∨ w.heap.size ≤ x) : MapAt w' F' b l := by
  have hl := h.lt
  obtain ⟨D, T, ho, hr, hri, hc⟩ := h
  exact ⟨D, T, ho.stay (hT.block b hl hb), hr, hri, fun n c hn => (hc n c hn).turned hT hS hF⟩
theorem MapAt.later (h : MapAt w F b l) (hb : Below w.heap.size w w') : MapAt w' F b l := h.turned (S := fun _ => False) (Turned.of_below hb) (fun h => h) (fun _ h => h.elim) (fun _ h => .inl h)
theorem made_at (w : World) (F : Nat → Prop) : MapAt (w.alloc (.map #[] 0)) F w.heap.size [] :=
  ⟨.map [], fun _ => (.slice none 0 0, .slice none 0 0), World.ownsMap_made w Tryz.prog 3 chElem, Rep.none_ _, rise_nil, fun n c h => by cases h⟩
theorem mk_changes (w : World) : (Instr.makeMap 74 none).run Tryz.prog w = .ok (.map (some w.heap.size)) (w.alloc (.map #[] 0)) := by
  simp [Instr.makeMap, Result.andThen]
/-- what a look-up answers -/
def lkV (T : Int → Value × Value) (l : Chs) (n : Int) : Value :=
  match lkC l n with
  | none => chV ch0 (.slice none 0 0) (.slice none 0 0)
  | some c => chV c (T n).1 (T n).2
theorem change_zero (w : World) : (zeroValue 35).run Tryz.prog w = .ok (chV ch0 (.slice none 0 0) (.slice none 0 0)) w := by kernel_rfl
theorem held_inj {u v : Value} (h : (.held u : SD) = .held v) : u = v := by injection h
theorem lk_val {D : SD} {T : Int → Value × Value} (hr : Rep D T l) {n : Int} {v : Value} {ps : List MemPlace} (hv : chElem v = some (D.atKey (Ks.keyL n) (.held (chV ch0 (.slice none 0 0) (.slice none 0 0))), ps)) : v = lkV T l n := by
  obtain ⟨e, _⟩ := chElem_inv hv
  injection e with e _
  unfold lkV
  cases hl : lkC l n with
  | none =>
    have hn : Maps.has D (Ks.keyL n) = false := by rw [hr.has n, hl]; rfl
    rw [atKey_of_not_has hn] at e
    exact (held_inj e).symm
  | some c =>
    rw [hr.at_ n c hl] at e
    exact (held_inj e).symm
theorem look_run_ok {D : SD} {T : Int → Value × Value} {m nn : Nat} (hown : Own w m nn D) (hr : Rep D T l) {n : Int} (hn : -9223372036854775808 ≤ n ∧ n ≤ 9223372036854775807) :
    (Instr.lookup 74 (.map (some m)) (.int .i64 n) true).run Tryz.prog w = .ok (.tuple #[lkV T l n, .bool (lkC l n).isSome]) w := by
  obtain ⟨v, ps, hrun, hv⟩ := hown.look_ok Ks.key_law Tryz.underlying74 (change_zero w) (rfl : chElem (chV ch0 (.slice none 0 0) (.slice none 0 0)) = some (.held (chV ch0 (.slice none 0 0) (.slice none 0 0)), [])) (Ks.key_is hn)
  rw [hrun, lk_val hr hv, hr.has n]
theorem look_run {D : SD} {T : Int → Value × Value} {m nn : Nat} (hown : Own w m nn D) (hr : Rep D T l) {n : Int} (hn : -9223372036854775808 ≤ n ∧ n ≤ 9223372036854775807) :
    (Instr.lookup 74 (.map (some m)) (.int .i64 n) false).run Tryz.prog w = .ok (lkV T l n) w := by
  obtain ⟨v, ps, hrun, hv⟩ := hown.lookup Ks.key_law Tryz.underlying74 (change_zero w) (rfl : chElem (chV ch0 (.slice none 0 0) (.slice none 0 0)) = some (.held (chV ch0 (.slice none 0 0) (.slice none 0 0)), [])) (Ks.key_is hn)
  rw [hrun, lk_val hr hv]
/-- a change is put, or taken away -/
theorem put_run (h : MapAt w F b l) (hF : F b) {c : Ch} {p q : Option Addr} {n k m j : Nat} (hc : Ct w F c (.slice p n k) (.slice q m j)) (hd : DocOk c.doc) (hl : l.length ≤ 1000000) :
    ∃ w', (Instr.mapUpdate 74 (.map (some b)) (.int .i64 c.doc) (chV c (.slice p n k) (.slice q m j))).run Tryz.prog w = .ok () w' ∧ MapAt w' F b (ptC c l) ∧ w.grownBy w' (some b) := by
  obtain ⟨D, T, ho, hr, hri, hct⟩ := h
  obtain ⟨w', h1, h2, h3⟩ := World.ownsMap.store ho Ks.key_law Tryz.underlying74 (by unfold maxLen; omega) (Ks.key_is (d := c.doc) ⟨by have := hd.1; omega, by have := hd.2; omega⟩) (chElem_mk c p q n k m j)
  have hT : Turned (fun x => x = b) w w' := Turned.of_grown h3.grown rfl
  have hrep := hr.put c (.slice p n k) (.slice q m j)
  refine ⟨w', h1, ⟨_, _, ?_, hrep, rise_put _ hri, fun x y hx => ?_⟩, h3.grown⟩
  · have := own_exact h2
    rw [size_rep h2 hrep (rise_put _ hri)] at this
    exact this
  · by_cases e : x = c.doc
    · subst e
      rw [lk_put_same] at hx
      injection hx with hx
      subst hx
      rw [updT_same]
      exact hc.turned hT (fun _ hx => by rw [hx]; exact hF) (fun _ h => .inl h)
    · rw [lk_put_other c e] at hx
      rw [updT_other T _ e]
      exact (hct x y hx).turned hT (fun _ hx => by rw [hx]; exact hF) (fun _ h => .inl h)
theorem del_run (h : MapAt w F b l) (hF : F b) {n : Int} (hn : -9223372036854775808 ≤ n ∧ n ≤ 9223372036854775807) :
    ∃ w', (∀ ty, (Builtin.delete_ #[74, 3] ty #[.map (some b), .int .i64 n]).run Tryz.prog w = .ok (.tuple #[]) w') ∧ MapAt w' F b (dlC n l) ∧ w.grownBy w' (some b) := by
  obtain ⟨D, T, ho, hr, hri, hct⟩ := h
  obtain ⟨w', h1, h2, h3⟩ := World.ownsMap.drop ho Ks.key_law Tryz.underlying74 (Ks.key_is hn) 0
  have hT : Turned (fun x => x = b) w w' := Turned.of_grown h3.grown rfl
  have hrep := hr.del n
  refine ⟨w', fun ty => h1, ⟨_, _, ?_, hrep, rise_del _ hri, fun x y hx => ?_⟩, h3.grown⟩
  · have := own_exact h2
    rw [size_rep h2 hrep (rise_del _ hri)] at this
    exact this
  · have hx' : lkC l x = some y := by
      by_cases e : x = n
      · subst e
        rw [lk_del_same] at hx
        cases hx
      · rw [← lk_del_other e]; exact hx
    exact (hct x y hx').turned hT (fun _ hx => by rw [hx]; exact hF) (fun _ h => .inl h)
theorem clear_run (h : MapAt w F b l) : ∃ w', (∀ ty, (Builtin.clear_ #[74] ty #[.map (some b)]).run Tryz.prog w = .ok (.tuple #[]) w') ∧ MapAt w' F b [] ∧ w.grownBy w' (some b) := by
  obtain ⟨D, T, ⟨es, clock, hb, _⟩, _⟩ := h
  have hg : w.grownBy { w with heap := w.heap.setIfInBounds b (.map #[] clock) } (some b) := ⟨rfl, rfl, rfl, by simp, fun i hi hne => by
    have : b ≠ i := fun e => hne (by rw [e])
    simp [Array.getElem?_setIfInBounds_ne this]⟩
  refine ⟨{ w with heap := w.heap.setIfInBounds b (.map #[] clock) }, fun ty => ?_, ⟨.map [], fun _ => (.slice none 0 0, .slice none 0 0), ⟨#[], clock, ?_, ⟨by simp, MapKept.stamped_empty clock, by simp⟩, Nat.le_refl _, rfl⟩, Rep.none_ _, rise_nil, fun n c h => (by cases h)⟩, hg⟩
  · simp [Builtin.clear_, run_underlying Tryz.underlying74, MapKept.run_getObj_map hb, MapKept.run_setObj_map _ hb, Result.andThen]
  · have hl : b < w.heap.size := (Array.getElem?_eq_some_iff.1 hb).1
    simp [hl]
theorem len_run (h : MapAt w F b l) : ∀ ty, (Builtin.len_ #[74] ty #[.map (some b)]).run Tryz.prog w = .ok (.int .i64 (l.length : Int)) w := fun ty => by
  obtain ⟨D, T, ho, hr, hri, _⟩ := h
  rw [World.ownsMap.len ho Tryz.underlying74 ty, size_rep ho hr hri]
end
end Go.Proofs.YtddnnhfffmhpmaaGreatDoor.St

/- A change is done to a map. -/
namespace Go.Proofs.YtddnnhfffmhpmaaGreatDoor.St
open Go.RowKit Go.Proofs.YtddnnhfffmhpmaaGreatDoor DocM StoM Do Go.Maps

theorem docok {c : Ch} (h : rightC c = 0) : DocOk c.doc := by
  have g := rgt_of h
  have := g.doc
  unfold DocOk
  omega
set_option maxHeartbeats 4000000 in
set_option maxRecDepth 100000 in
theorem do_any (w : World) (F : Nat → Prop) (b : Nat) (l : Chs) (c : Ch) (T V : Value) (h : MapAt w F b l) (hF : F b) (hc : Ct w F c T V) (hd : DocOk c.doc) (hl : l.length ≤ 1000000) :
    Calls Tryz.prog 43 #[.map (some b), chV c T V] w fun e w' => e = .returned (.tuple #[]) ∧ MapAt w' F b (doC c l) ∧ Turned (fun x => x = b) w w' := by
  obtain ⟨p, n, k, q, m, j, rfl, rfl⟩ := hc.shape
  have hb0 := pl1 w (.cells #[.int .i64 c.doc, .slice p n k, .slice q m j, .int .i64 c.tags, .bool c.gone] 35)
  have h1 := h.later hb0
  have hc1 := hc.later hb0
  unfold doC
  cases hg : c.gone with
  | true =>
    rw [hg] at hb0 h1
    rw [if_pos rfl]
    obtain ⟨w', hrun, hm, hgr⟩ := del_run h1 hF (n := c.doc) ⟨by have := hd.1; omega, by have := hd.2; omega⟩
    have HM := Lib.hid hm
    have HT : Hid (Turned (fun x => x = b) w w') := Lib.hid ((Turned.of_below hb0).trans (Turned.of_grown hgr rfl))
    unfold chV
    rw [hg]
    clear h hF hc hd hl hb0 h1 hc1 hg hm hgr
    go_enter Tryz.func43, Tryz.ntmps43
    go_wp2
    refine bodyPost_ret (v := .tuple #[]) (by simp [results, Tryz.results43, go_sem]) rfl ⟨rfl, HM.out, HT.out⟩
  | false =>
    rw [hg] at hb0 h1 hc1
    rw [if_neg (by simp)]
    obtain ⟨w', hrun, hm, hgr⟩ := put_run h1 hF hc1 hd hl
    have HM := Lib.hid hm
    have HT : Hid (Turned (fun x => x = b) w w') := Lib.hid ((Turned.of_below hb0).trans (Turned.of_grown hgr rfl))
    unfold chV at hrun ⊢
    rw [hg] at hrun ⊢
    clear h hF hc hd hl hb0 h1 hc1 hg hm hgr
    go_enter Tryz.func43, Tryz.ntmps43
    go_wp2
    go_end0
    exact ⟨rfl, HM.out, HT.out⟩
end Go.Proofs.YtddnnhfffmhpmaaGreatDoor.St

/- slices.Clone at terms and at numbers. -/
namespace Go.Proofs.YtddnnhfffmhpmaaGreatDoor.St
open Go.RowKit Go.Proofs.YtddnnhfffmhpmaaGreatDoor DocM StoM Do Go.Maps

theorem termTy : PairTy 109 30 := ⟨by kernel_rfl, Tryz.underlying30⟩
set_option maxHeartbeats 1000000 in
set_option maxRecDepth 100000 in
theorem cloneT_any (v : Value) (l : List (Int × Int)) (w : World) (h : Prd w v l) (hl : l.length ≤ 1000000) :
    Calls Tryz.prog 62 #[v] w fun e w' => ∃ A n cp, e = .returned (.slice A n cp) ∧ (Prd w' (.slice A n cp) l ∧ NewS w.heap.size (.slice A n cp)) ∧ Below w.heap.size w w' := by
  obtain ⟨A, cp, rfl, hc, hA, hp⟩ := h
  rcases A with _ | ad
  · have hl0 : l = [] := by
      match l, hp with
      | [], _ => rfl
      | a :: t, hp =>
        obtain ⟨b, o, e, _⟩ := hp.2 0 (by simp)
        cases e
    subst hl0
    have := hA rfl
    subst this
    have hq : ∀ w, (binOp .eql 30 (.slice none 0 0) (.slice none 0 0)).run Tryz.prog w = .ok (.bool true) w := fun w => run_eql_sl_nil w _ _ none 0 0 Tryz.underlying30
    go_enter Tryz.func62, Tryz.ntmps62
    go_wp2
    go_ret
    exact ⟨_, _, _, rfl, ⟨prd_nil _, NewS.nil_ _⟩, Below.refl _ _⟩
  · obtain ⟨n, hn⟩ : ∃ n, n = l.length := ⟨_, rfl⟩
    rw [← hn] at hc hp ⊢
    have hq : ∀ w, (binOp .eql 30 (.slice (some ad) n cp) (.slice none 0 0)).run Tryz.prog w = .ok (.bool false) w := fun w => run_eql_sl_nil w _ _ (some ad) n cp Tryz.underlying30
    have hp1 := hp.later ((Below.refl _ w).alloc (Nat.le_refl _) (.cells #[] 109))
    have HP := Lib.hid hp1
    have hln : n ≤ 1000000 := by omega
    clear hp hp1 hn
    go_enter Tryz.func62, Tryz.ntmps62
    go_wp2_with (at_builtin; refine wpList_append_ps termTy rfl _ _ rfl w.heap.size _ [] rfl ⟨rfl, .inr ⟨w.heap.size, 0, #[], rfl, Nat.le_refl _, heap_alloc_new w _, Nat.le_refl _, by simp [maxLen], rfl, rfl⟩⟩ (by simp) (some ad) n cp l rfl HP.out hA (by simp; omega) ?_; intro v' w1 hown' hg1)
    obtain ⟨A', c', rfl, _, _⟩ := hown'.form
    go_ret
    refine ⟨_, _, _, rfl, ⟨hown'.prd, NewS.row hown' (Nat.le_refl _)⟩, ?_⟩
    exact ((Below.refl _ w).alloc (Nat.le_refl _) _).grown hg1 (by simp) (fun k hk => by
      have e : w.heap.size = k := Option.some.inj hk
      omega)
theorem row_news {w : World} {base : Nat} {v : Value} {l : List Int} (h : IvRow w base v l) : NewS base v := by
  rcases h.form2 with ⟨rfl, _⟩ | ⟨g, cap, rfl, _, hb, _, _⟩
  · exact NewS.nil_ _
  · exact NewS.at_ hb
set_option maxHeartbeats 1000000 in
set_option maxRecDepth 100000 in
theorem cloneI_any (v : Value) (l : List Int) (w : World) (h : Vrd w v l) (hl : l.length ≤ 1000000) :
    Calls Tryz.prog 40 #[v] w fun e w' => ∃ A n cp, e = .returned (.slice A n cp) ∧ IvRow w' w.heap.size (.slice A n cp) l ∧ Below w.heap.size w w' := by
  obtain ⟨A, cp, rfl, hp⟩ := h
  rcases A with _ | ad
  · have hl0 : l = [] := by
      match l, hp with
      | [], _ => rfl
      | a :: t, hp =>
        obtain ⟨b, o, e, _⟩ := hp.2 0 (by simp)
        cases e
    subst hl0
    have hq : ∀ w, (binOp .eql 31 (.slice none 0 cp) (.slice none 0 0)).run Tryz.prog w = .ok (.bool true) w := fun w => run_eql_sl_nil w _ _ none 0 cp Tryz.underlying31
    go_enter Tryz.func40, Tryz.ntmps40
    go_wp2
    go_ret
    exact ⟨_, _, _, rfl, IvRow.nil_ _ _, Below.refl _ _⟩
  · obtain ⟨n, hn⟩ : ∃ n, n = l.length := ⟨_, rfl⟩
    rw [← hn] at hp ⊢
    have hq : ∀ w, (binOp .eql 31 (.slice (some ad) n cp) (.slice none 0 0)).run Tryz.prog w = .ok (.bool false) w := fun w => run_eql_sl_nil w _ _ (some ad) n cp Tryz.underlying31
    have hp1 := hp.later ((Below.refl _ w).alloc (Nat.le_refl _) (.cells #[] 3))
    have HP := Lib.hid hp1
    have hln : n ≤ 1000000 := by omega
    clear hp hp1 hn
    go_enter Tryz.func40, Tryz.ntmps40
    go_wp2_with (at_builtin; refine wpList_append_ivs rfl _ _ rfl w.heap.size _ [] rfl ⟨rfl, .inr ⟨w.heap.size, 0, #[], rfl, Nat.le_refl _, heap_alloc_new w _, Nat.le_refl _, by simp [maxLen], rfl, rfl⟩⟩ (by simp) (some ad) n cp l rfl HP.out (by simp) (by simp; omega) ?_; intro v' w1 hown' hg1)
    obtain ⟨A', c', rfl, _⟩ := hown'.ivs
    go_ret
    refine ⟨_, _, _, rfl, hown', ?_⟩
    exact ((Below.refl _ w).alloc (Nat.le_refl _) _).grown hg1 (by simp) (fun k hk => by
      have e : w.heap.size = k := Option.some.inj hk
      omega)
end Go.Proofs.YtddnnhfffmhpmaaGreatDoor.St

/- A change, copied to memory of its own. -/
namespace Go.Proofs.YtddnnhfffmhpmaaGreatDoor.St
open Go.RowKit Go.Proofs.YtddnnhfffmhpmaaGreatDoor DocM StoM Do Go.Maps

theorem vrd_row {w : World} {base : Nat} {v : Value} {l : List Int} (h : IvRow w base v l) : Vrd w v l := by
  obtain ⟨A, cp, e, _, _, hI⟩ := h.ivs
  exact ⟨A, cp, e, hI⟩
set_option maxHeartbeats 8000000 in
set_option maxRecDepth 100000 in
theorem cloned_any (w : World) (c : Ch) (p q : Option Addr) (n k m j : Nat) (hT : Prd w (.slice p n k) c.ts) (hV : Vrd w (.slice q m j) c.v) (h1 : c.ts.length ≤ 1000000) (h2 : c.v.length ≤ 1000000) :
    Calls Tryz.prog 36 #[chV c (.slice p n k) (.slice q m j)] w fun e w' => ∃ p' n' k' q' m' j', e = .returned (chV c (.slice p' n' k') (.slice q' m' j')) ∧ Prd w' (.slice p' n' k') c.ts ∧ Vrd w' (.slice q' m' j') c.v ∧ NewS w.heap.size (.slice p' n' k') ∧ NewS w.heap.size (.slice q' m' j') ∧ Below w.heap.size w w' := by
  obtain ⟨d, ts, v, tags, gone⟩ := c
  unfold chV
  simp only at *
  have HT := Lib.hid (fun W hW => cloneT_any (.slice p n k) ts W hW h1)
  have HV := Lib.hid (fun W hW => cloneI_any (.slice q m j) v W hW h2)
  have KT := Lib.hid hT
  have KV := Lib.hid hV
  clear hT hV h1 h2
  go_enter Tryz.func36, Tryz.ntmps36
  go_wp2
  obtain ⟨B, hB⟩ : ∃ B, B = w.heap.size := ⟨_, rfl⟩
  have A0 : Hid (Bx ((w.alloc (.cells #[.int .i64 d, .slice p n k, .slice q m j, .int .i64 tags, .bool gone] 35)).alloc (.cells #[.int .i64 0, .slice none 0 0, .slice none 0 0, .int .i64 0, .bool false] 35)) B #[.int .i64 d, .slice p n k, .slice q m j, .int .i64 tags, .bool gone]) := Lib.hid (by
    subst hB
    exact Bx.later (heap_alloc_new w _) (pl1 _ _))
  have A1 : Hid (Below w.heap.size w ((w.alloc (.cells #[.int .i64 d, .slice p n k, .slice q m j, .int .i64 tags, .bool gone] 35)).alloc (.cells #[.int .i64 0, .slice none 0 0, .slice none 0 0, .int .i64 0, .bool false] 35))) := Lib.hid (((Below.refl _ _).alloc (Nat.le_refl _) _).alloc (by simp) _)
  have A2 : Hid (Bx ((w.alloc (.cells #[.int .i64 d, .slice p n k, .slice q m j, .int .i64 tags, .bool gone] 35)).alloc (.cells #[.int .i64 0, .slice none 0 0, .slice none 0 0, .int .i64 0, .bool false] 35)) (B + 1) #[.int .i64 0, .slice none 0 0, .slice none 0 0, .int .i64 0, .bool false]) := Lib.hid (by
    have e : B + 1 = (w.alloc (.cells #[.int .i64 d, .slice p n k, .slice q m j, .int .i64 tags, .bool gone] 35)).heap.size := by simp [hB]
    rw [e]
    exact heap_alloc_new _ _)
  rw [← hB]
  generalize ((w.alloc (.cells #[.int .i64 d, .slice p n k, .slice q m j, .int .i64 tags, .bool gone] 35)).alloc (.cells #[.int .i64 0, .slice none 0 0, .slice none 0 0, .int .i64 0, .bool false] 35)) = U at A0 A1 A2 ⊢
  have c1 : U.cell? ⟨B, 1, none⟩ = some (.slice p n k) := A0.out.at_ 1 rfl
  have c2 : U.cell? ⟨B, 2, none⟩ = some (.slice q m j) := A0.out.at_ 2 rfl
  have HB := Lib.hid hB
  clear hB
  have f1 := A0.out.free 1
  have f2 := A0.out.free 2
  have hBU := A0.out.lt
  have HTU := Lib.hid (fun W (hW : Below U.heap.size U W) => HT.out W (KT.out.later (A1.out.trans (hW.mono A1.out.size))))
  have HVU := Lib.hid (fun W (hW : Below U.heap.size U W) => HV.out W (KV.out.later (A1.out.trans (hW.mono A1.out.size))))
  have HU0 : Hid (Below U.heap.size U U.drew) := Lib.hid (Below.refl _ _).drew
  clear HT HV KT KV
  go_region_with (first
    | (go_at_call 62; ((with_reducible refine (HTU.out _ HU0.out).mono ?_); rintro e w2 ⟨p1, n1, k1, rfl, hpr, hb⟩; have HU1 := Lib.hid (HU0.out.trans (hb.mono HU0.out.size)); have c1' := (HU1.out.cell (p := ⟨B, 1, none⟩) hBU).trans c1; have c2' := (HU1.out.cell (p := ⟨B, 2, none⟩) hBU).trans c2; have f1' := (HU1.out.frozen (p := ⟨B, 1, none⟩) hBU).trans f1; have f2' := (HU1.out.frozen (p := ⟨B, 2, none⟩) hBU).trans f2; have HPR := Lib.hid hpr; clear hpr hb))
    | (go_at_call 40; ((with_reducible refine (HVU.out _ HU1.out).mono ?_); rintro e w3 ⟨q1, m1, j1, rfl, hvr, hb⟩; have HB3 := Lib.hid hb; have HU2 := Lib.hid (HU1.out.trans (hb.mono HU1.out.size)); have c1'' := (HU2.out.cell (p := ⟨B, 1, none⟩) hBU).trans c1; have c2'' := (HU2.out.cell (p := ⟨B, 2, none⟩) hBU).trans c2; have f1'' := (HU2.out.frozen (p := ⟨B, 1, none⟩) hBU).trans f1; have f2'' := (HU2.out.frozen (p := ⟨B, 2, none⟩) hBU).trans f2; have HVR := Lib.hid hvr; clear hvr hb)))
  all_goals
    have W0 : Hid (Bx ((w3.setCell ⟨B, 1, none⟩ (.slice p1 n1 k1)).setCell ⟨B, 2, none⟩ (.slice q1 m1 j1)) B #[.int .i64 d, .slice p1 n1 k1, .slice q1 m1 j1, .int .i64 tags, .bool gone]) := Lib.hid (by
      have := ((A0.out.later HU2.out).set_ 1 (.slice p1 n1 k1)).set_ 2 (.slice q1 m1 j1)
      simpa using this)
    have W1 : Hid (Bx ((w3.setCell ⟨B, 1, none⟩ (.slice p1 n1 k1)).setCell ⟨B, 2, none⟩ (.slice q1 m1 j1)) (B + 1) #[.int .i64 0, .slice none 0 0, .slice none 0 0, .int .i64 0, .bool false]) := Lib.hid (((A2.out.later HU2.out).away (by omega) 1 _).away (by omega) 2 _)
    have hBw : w.heap.size ≤ B := by have := HB.out; omega
    have W2 : Hid (Below w.heap.size w ((w3.setCell ⟨B, 1, none⟩ (.slice p1 n1 k1)).setCell ⟨B, 2, none⟩ (.slice q1 m1 j1))) := Lib.hid (((A1.out.trans (HU2.out.mono A1.out.size)).setCell hBw _).setCell hBw _)
    have hU2 : U.heap.size ≤ w2.heap.size := HU1.out.size
    have hU0 : w.heap.size ≤ U.heap.size := A1.out.size
    have hTB : Turned (fun b => b = B) w3 ((w3.setCell ⟨B, 1, none⟩ (.slice p1 n1 k1)).setCell ⟨B, 2, none⟩ (.slice q1 m1 j1)) := ((Turned.refl (fun b => b = B) w3).set_ rfl 1 _).set_ rfl 2 _
    have W3 : Hid (Prd ((w3.setCell ⟨B, 1, none⟩ (.slice p1 n1 k1)).setCell ⟨B, 2, none⟩ (.slice q1 m1 j1)) (.slice p1 n1 k1) ts ∧ NewS w.heap.size (.slice p1 n1 k1)) := Lib.hid ⟨prd_turned (HPR.out.1.later HB3.out) hTB (Away.new HPR.out.2 fun b hb => by simp at *; omega), fun A n cp e a ha => by have := HPR.out.2 A n cp e a ha; simp at *; omega⟩
    have W4 : Hid (Vrd ((w3.setCell ⟨B, 1, none⟩ (.slice p1 n1 k1)).setCell ⟨B, 2, none⟩ (.slice q1 m1 j1)) (.slice q1 m1 j1) v ∧ NewS w.heap.size (.slice q1 m1 j1)) := Lib.hid ⟨vrd_turned (vrd_row HVR.out) hTB (Away.new (row_news HVR.out) fun b hb => by simp at *; omega), fun A n cp e a ha => by have := (row_news HVR.out) A n cp e a ha; simp at *; omega⟩
    have AW1 : Hid (Away (fun b => b = B + 1) (.slice p1 n1 k1)) := Lib.hid (fun A n cp e hn a ha hb => by
      have h1 := HPR.out.2 A n cp e a ha
      have h2 := A2.out.lt
      have h3 := HU1.out.size
      simp at *
      omega)
    have AW2 : Hid (Away (fun b => b = B + 1) (.slice q1 m1 j1)) := Lib.hid (fun A n cp e hn a ha hb => by
      have h1 := (row_news HVR.out) A n cp e a ha
      have h2 := A2.out.lt
      have h3 := HU1.out.size
      simp at *
      omega)
    clear A0 A1 A2 HU0 HU1 HU2 HPR HVR HB3 hU2 hU0 hTB
    generalize (w3.setCell ⟨B, 1, none⟩ (.slice p1 n1 k1)).setCell ⟨B, 2, none⟩ (.slice q1 m1 j1) = X at W0 W1 W2 W3 W4 ⊢
    have e0 : X.cell? ⟨B, 0, none⟩ = some (.int .i64 d) := W0.out.at_ 0 rfl
    have e1 : X.cell? ⟨B, 1, none⟩ = some (.slice p1 n1 k1) := W0.out.at_ 1 rfl
    have e2 : X.cell? ⟨B, 2, none⟩ = some (.slice q1 m1 j1) := W0.out.at_ 2 rfl
    have e3 : X.cell? ⟨B, 3, none⟩ = some (.int .i64 tags) := W0.out.at_ 3 rfl
    have e4 : X.cell? ⟨B, 4, none⟩ = some (.bool gone) := W0.out.at_ 4 rfl
    have z0 := W1.out.free 0
    have z1 := W1.out.free 1
    have z2 := W1.out.free 2
    have z3 := W1.out.free 3
    have z4 := W1.out.free 4
    have HE := Lib.hid (W1.out.fill (.int .i64 d) (.slice p1 n1 k1) (.slice q1 m1 j1) (.int .i64 tags) (.bool gone))
    have y0 : X.cell? ⟨B + 1, 0, none⟩ = some (.int .i64 0) := W1.out.at_ 0 rfl
    have y1 : X.cell? ⟨B + 1, 1, none⟩ = some (.slice none 0 0) := W1.out.at_ 1 rfl
    have y2 : X.cell? ⟨B + 1, 2, none⟩ = some (.slice none 0 0) := W1.out.at_ 2 rfl
    have y3 : X.cell? ⟨B + 1, 3, none⟩ = some (.int .i64 0) := W1.out.at_ 3 rfl
    have y4 : X.cell? ⟨B + 1, 4, none⟩ = some (.bool false) := W1.out.at_ 4 rfl
    go_wp2
    have W5 := Lib.hid (below_fill W2.out (show w.heap.size ≤ B + 1 by omega) (.int .i64 d) (.slice p1 n1 k1) (.slice q1 m1 j1) (.int .i64 tags) (.bool gone))
    have hTR : Turned (fun b => b = B + 1) X (((((X.setCell ⟨B + 1, 0, none⟩ (.int .i64 d)).setCell ⟨B + 1, 1, none⟩ (.slice p1 n1 k1)).setCell ⟨B + 1, 2, none⟩ (.slice q1 m1 j1)).setCell ⟨B + 1, 3, none⟩ (.int .i64 tags)).setCell ⟨B + 1, 4, none⟩ (.bool gone)) := (((((Turned.refl (fun b => b = B + 1) X).set_ rfl 0 _).set_ rfl 1 _).set_ rfl 2 _).set_ rfl 3 _).set_ rfl 4 _
    have W6 := Lib.hid (prd_turned W3.out.1 hTR AW1.out)
    have W7 := Lib.hid (vrd_turned W4.out.1 hTR AW2.out)
    clear hTR
    generalize (((((X.setCell ⟨B + 1, 0, none⟩ (.int .i64 d)).setCell ⟨B + 1, 1, none⟩ (.slice p1 n1 k1)).setCell ⟨B + 1, 2, none⟩ (.slice q1 m1 j1)).setCell ⟨B + 1, 3, none⟩ (.int .i64 tags)).setCell ⟨B + 1, 4, none⟩ (.bool gone)) = Y at HE W5 W6 W7 ⊢
    have r0 : Y.cell? ⟨B + 1, 0, none⟩ = some (.int .i64 d) := HE.out.at_ 0 rfl
    have r1 : Y.cell? ⟨B + 1, 1, none⟩ = some (.slice p1 n1 k1) := HE.out.at_ 1 rfl
    have r2 : Y.cell? ⟨B + 1, 2, none⟩ = some (.slice q1 m1 j1) := HE.out.at_ 2 rfl
    have r3 : Y.cell? ⟨B + 1, 3, none⟩ = some (.int .i64 tags) := HE.out.at_ 3 rfl
    have r4 : Y.cell? ⟨B + 1, 4, none⟩ = some (.bool gone) := HE.out.at_ 4 rfl
    exact bodyPost_ret (v := .agg #[.int .i64 d, .slice p1 n1 k1, .slice q1 m1 j1, .int .i64 tags, .bool gone]) (by simp [results, Tryz.results36, go_sem, r0, r1, r2, r3, r4]) rfl ⟨p1, n1, k1, q1, m1, j1, rfl, W6.out, W7.out, W3.out.2, W4.out.2, W5.out⟩
end Go.Proofs.YtddnnhfffmhpmaaGreatDoor.St

/- A reader at its end; a frame taken off. -/
namespace Go.Proofs.YtddnnhfffmhpmaaGreatDoor.St
open Go.RowKit Go.Proofs.YtddnnhfffmhpmaaGreatDoor DocM StoM Do

set_option maxHeartbeats 2000000 in
set_option maxRecDepth 100000 in
theorem isatend_any (w : World) (b : Nat) (s : List UInt8) (bad : Bool) (h : RD w b s bad) :
    Calls Tryz.prog 92 #[.pointer (some ⟨b, 0, none⟩)] w fun e w' => e = .returned (.bool (!bad && decide (s.length = 0))) ∧ w = w' := by
  have HB := Lib.hid (rbad_any w b s bad h)
  have HL := Lib.hid (rleft_any w b s bad h)
  obtain ⟨n, hn⟩ : ∃ n, n = s.length := ⟨_, rfl⟩
  rw [← hn] at HL ⊢
  clear h hn
  cases bad with
  | true =>
    go_enter Tryz.func92, Tryz.ntmps92
    go_wp2_with fail
    refine HB.out.mono ?_
    rintro e w2 ⟨rfl, rfl⟩
    go_wp2
    go_ret
    exact ⟨rfl, rfl⟩
  | false =>
    have hq : ((n : Int) == 0) = decide (n = 0) := n_eq0 n
    obtain ⟨q, hqq⟩ : ∃ q, q = decide (n = 0) := ⟨_, rfl⟩
    rw [← hqq] at hq ⊢
    clear hqq
    go_enter Tryz.func92, Tryz.ntmps92
    go_wp2_with fail
    refine HB.out.mono ?_
    rintro e w2 ⟨rfl, rfl⟩
    go_wp2_with fail
    refine HL.out.mono ?_
    rintro e w3 ⟨rfl, rfl⟩
    go_wp2
    go_ret
    exact ⟨by simp [go_sem], rfl⟩
def opL (x : List UInt8) : List UInt8 := if x.length < 4 then [] else if x = CrcM.sealed (x.take (x.length - 4)) then x.take (x.length - 4) else []
def opC (x : List UInt8) : Int := if x.length < 4 then 2 else if x = CrcM.sealed (x.take (x.length - 4)) then 0 else 8
theorem open_list (x : List UInt8) (w : World) (h : x.length ≤ 100000000) :
    Calls Tryz.prog 88 #[.string (ofBytes x)] w fun e w' => e = .returned (.tuple #[.string (ofBytes (opL x)), .int .i64 (opC x)]) ∧ Below w.heap.size w w' := by
  have hs : (ofBytes x).size = x.length := size_ofBytes x
  unfold opL opC
  by_cases h4 : x.length < 4
  · rw [if_pos h4, if_pos h4]
    exact (open_short _ w (by omega)).mono fun e w' ⟨he, hw⟩ => ⟨he, by subst hw; exact Below.refl _ _⟩
  · rw [if_neg h4, if_neg h4]
    by_cases hb : x = CrcM.sealed (x.take (x.length - 4))
    · rw [if_pos hb, if_pos hb]
      have := open_good (ofBytes x) (x.length - 4) w (by omega) (by omega) (by rw [ofBytes_list]; exact hb)
      rw [ofBytes_list] at this
      exact this
    · rw [if_neg hb, if_neg hb]
      exact open_bad (ofBytes x) (x.length - 4) w (by omega) (by omega) (by rw [ofBytes_list]; exact hb)
/-- what a reader's next frame is -/
def tfX (s : List UInt8) : List UInt8 := byV (nV PackM.MAXI s : Nat) (nS PackM.MAXI s)
def tfS (s : List UInt8) : List UInt8 := byS (nV PackM.MAXI s : Nat) (nS PackM.MAXI s)
def tfB (s : List UInt8) (bad : Bool) : Bool := byB (nV PackM.MAXI s : Nat) (nS PackM.MAXI s) (nB PackM.MAXI s bad)
theorem nS_len (s : List UInt8) : (nS PackM.MAXI s).length ≤ s.length := by
  unfold nS
  cases h : PackM.num PackM.MAXI 0 0 s with
  | none => simp
  | some x => exact Nat.le_of_lt (PackM.num_short (v := x.1) (t := x.2) h)
theorem tfX_len (s : List UInt8) : (tfX s).length ≤ s.length := by
  have := nS_len s
  unfold tfX byV
  split
  · rw [List.length_take]; omega
  · simp
end Go.Proofs.YtddnnhfffmhpmaaGreatDoor.St

/- A frame taken off a reader. -/
namespace Go.Proofs.YtddnnhfffmhpmaaGreatDoor.St
open Go.RowKit Go.Proofs.YtddnnhfffmhpmaaGreatDoor DocM StoM Do

def chO (c : Ch) (T V : Value) : Obj := .cells #[.int .i64 c.doc, T, V, .int .i64 c.tags, .bool c.gone] 35
def tfK (s : List UInt8) : Bool := decide (opC (tfX s) = 0) && decide (paC (opL (tfX s)) = 0)
def tfC (s : List UInt8) : Ch := if opC (tfX s) = 0 then paV (opL (tfX s)) else ch0
theorem grown_behind {U w w' : World} {r : Option Nat} (hU : Below U.heap.size U w) (h : w.grownBy w' r) : U.grownBy w' r :=
  ⟨h.os.trans hU.os, h.tape.trans hU.tape, h.output.trans hU.output, Nat.le_trans hU.size h.size, fun j hj hne => (h.block j (Nat.lt_of_lt_of_le hj hU.size) hne).trans (hU.block j hj)⟩
theorem grown_fill {w W : World} {b N : Nat} {a0 a1 a2 a3 a4 : Value} (h : w.grownBy W (some b)) (hN : w.heap.size ≤ N) : w.grownBy (((((W.setCell ⟨N, 0, none⟩ a0).setCell ⟨N, 1, none⟩ a1).setCell ⟨N, 2, none⟩ a2).setCell ⟨N, 3, none⟩ a3).setCell ⟨N, 4, none⟩ a4) (some b) :=
  grown_put (grown_put (grown_put (grown_put (grown_put h hN 0 a0) hN 1 a1) hN 2 a2) hN 3 a3) hN 4 a4
theorem rd_fill {W : World} {b N : Nat} {s : List UInt8} {bad : Bool} {a0 a1 a2 a3 a4 : Value} (h : RD W b s bad) (hN : b ≠ N) : RD (((((W.setCell ⟨N, 0, none⟩ a0).setCell ⟨N, 1, none⟩ a1).setCell ⟨N, 2, none⟩ a2).setCell ⟨N, 3, none⟩ a3).setCell ⟨N, 4, none⟩ a4) b s bad :=
  rd_away (rd_away (rd_away (rd_away (rd_away h hN 0 a0) hN 1 a1) hN 2 a2) hN 3 a3) hN 4 a4
theorem turned_fill (W : World) (N : Nat) (a0 a1 a2 a3 a4 : Value) : Turned (fun b => b = N) W (((((W.setCell ⟨N, 0, none⟩ a0).setCell ⟨N, 1, none⟩ a1).setCell ⟨N, 2, none⟩ a2).setCell ⟨N, 3, none⟩ a3).setCell ⟨N, 4, none⟩ a4) := (((((Turned.refl (fun b => b = N) W).set_ rfl 0 _).set_ rfl 1 _).set_ rfl 2 _).set_ rfl 3 _).set_ rfl 4 _
set_option maxHeartbeats 4000000 in
set_option maxRecDepth 100000 in
theorem takeframe_any (w : World) (b : Nat) (s : List UInt8) (bad : Bool) (hl : s.length ≤ 100000000) (h : RD w b s bad) :
    Calls Tryz.prog 94 #[.pointer (some ⟨b, 0, none⟩)] w fun e w' => (∃ T V, e = .returned (.tuple #[chV (tfC s) T V, .bool (tfK s)]) ∧ Prd w' T (tfC s).ts ∧ Vrd w' V (tfC s).v ∧ NewS w.heap.size T ∧ NewS w.heap.size V) ∧ RD w' b (tfS s) (tfB s bad) ∧ w.grownBy w' (some b) := by
  obtain ⟨N, hN⟩ : ∃ N, N = w.heap.size := ⟨_, rfl⟩
  have hbN : b < N := by rw [hN]; exact h.lt
  have hnl := nS_len s
  have hxl := tfX_len s
  have RV := Lib.hid (fun W (hW : RD W b s bad) => rvarint_any W b s bad hl hW)
  have RB := Lib.hid (fun W (hW : RD W b (nS PackM.MAXI s) (nB PackM.MAXI s bad)) => rbytes_any W b (nS PackM.MAXI s) (nB PackM.MAXI s bad) (nV PackM.MAXI s : Nat) (by omega) hW)
  have OL := Lib.hid (fun W => open_list (tfX s) W (by omega))
  have PA : Hid ((opL (tfX s)).length ≤ 100000000) := Lib.hid (by
    unfold opL
    split
    · simp
    · split
      · rw [List.length_take]; omega
      · simp)
  have HPA := Lib.hid (fun W => parse_any' W (opL (tfX s)) PA.out)
  change Hid (∀ W, RD W b (nS PackM.MAXI s) (nB PackM.MAXI s bad) → Calls _ _ _ W fun e w' => e = .returned (.string (ofBytes (tfX s))) ∧ RD w' b (tfS s) (tfB s bad) ∧ _) at RB
  unfold tfK tfC
  obtain ⟨xs, hxs⟩ : ∃ x, x = tfX s := ⟨_, rfl⟩
  rw [← hxs] at RB OL HPA ⊢
  obtain ⟨oc, hoc⟩ : ∃ x, x = opC xs := ⟨_, rfl⟩
  rw [← hoc] at OL ⊢
  obtain ⟨ol, hol⟩ : ∃ x, x = opL xs := ⟨_, rfl⟩
  rw [← hol] at OL HPA ⊢
  obtain ⟨pc, hpc⟩ : ∃ x, x = paC ol := ⟨_, rfl⟩
  obtain ⟨pv, hpv⟩ : ∃ x, x = paV ol := ⟨_, rfl⟩
  rw [← hpc, ← hpv] at HPA ⊢
  obtain ⟨rc, hrc⟩ : ∃ x, x = (if oc = 0 then pv else ch0) := ⟨_, rfl⟩
  obtain ⟨rk, hrk⟩ : ∃ x, x = (decide (oc = 0) && decide (pc = 0)) := ⟨_, rfl⟩
  rw [← hrc, ← hrk]
  have HRC := Lib.hid hrc
  have HRK := Lib.hid hrk
  clear hrc hrk
  have hb0 := pl1 w (.cells #[.int .i64 0, .slice none 0 0, .slice none 0 0, .int .i64 0, .bool false] 35)
  have HBX : Hid (Bx (w.alloc (.cells #[.int .i64 0, .slice none 0 0, .slice none 0 0, .int .i64 0, .bool false] 35)) N #[.int .i64 0, .slice none 0 0, .slice none 0 0, .int .i64 0, .bool false]) := Lib.hid (by rw [hN]; exact heap_alloc_new w _)
  have HRD := Lib.hid (h.alloc (.cells #[.int .i64 0, .slice none 0 0, .slice none 0 0, .int .i64 0, .bool false] 35))
  have HB0 := Lib.hid hb0
  have HNE := Lib.hid hN
  have HNB : Hid (N ≠ b) := Lib.hid (by omega)
  clear h hl hnl hxl hxs hoc hol hpc hpv hb0 hN PA hbN
  generalize (nV PackM.MAXI s : Nat) = nv at RV RB
  generalize nS PackM.MAXI s = ns at RV RB
  generalize nB PackM.MAXI s bad = nb at RV RB
  go_enter Tryz.func94, Tryz.ntmps94
  go_wp2_with fail
  rw [← HNE.out]
  generalize w.alloc (.cells #[.int .i64 0, .slice none 0 0, .slice none 0 0, .int .i64 0, .bool false] 35) = X at HBX HRD HB0 ⊢
  refine (RV.out _ HRD.out).mono ?_
  rintro e w1 ⟨rfl, rd1, g1⟩
  have B1 := Lib.hid (HBX.out.grown g1 HNB.out)
  have R1 := Lib.hid rd1
  have G1 : Hid (w.grownBy w1 (some b)) := Lib.hid (grown_behind HB0.out g1)
  clear rd1 g1
  go_wp2_with fail
  refine (RB.out _ R1.out).mono ?_
  rintro e w2 ⟨rfl, rd2, g2⟩
  have B2 := Lib.hid (B1.out.grown g2 HNB.out)
  have R2 := Lib.hid rd2
  have G2 : Hid (w.grownBy w2 (some b)) := Lib.hid (G1.out.trans g2)
  clear rd2 g2
  go_wp2_with fail
  refine (OL.out _).mono ?_
  rintro e w3 ⟨rfl, hb3⟩
  have B3 := Lib.hid (B2.out.later hb3)
  have R3 := Lib.hid (R2.out.later hb3)
  have G3 := Lib.hid (only_below G2.out hb3)
  have HNw : Hid (w.heap.size ≤ N) := Lib.hid (by rw [HNE.out]; exact Nat.le_refl _)
  clear hb3
  by_cases hoc : oc = 0
  rotate_left
  · have hob : (oc != 0) = true := by simpa using hoc
    have HC0 : Hid (rc = ch0 ∧ rk = false) := Lib.hid ⟨by rw [HRC.out, if_neg hoc], by rw [HRK.out, decide_eq_false hoc]; rfl⟩
    have e0 : w3.cell? ⟨N, 0, none⟩ = some (.int .i64 0) := B3.out.at_ 0 rfl
    have e1 : w3.cell? ⟨N, 1, none⟩ = some (.slice none 0 0) := B3.out.at_ 1 rfl
    have e2 : w3.cell? ⟨N, 2, none⟩ = some (.slice none 0 0) := B3.out.at_ 2 rfl
    have e3 : w3.cell? ⟨N, 3, none⟩ = some (.int .i64 0) := B3.out.at_ 3 rfl
    have e4 : w3.cell? ⟨N, 4, none⟩ = some (.bool false) := B3.out.at_ 4 rfl
    have k0 : w3.frozen? ⟨N, 0, none⟩ = false := B3.out.free 0
    have k1 : w3.frozen? ⟨N, 1, none⟩ = false := B3.out.free 1
    have k2 : w3.frozen? ⟨N, 2, none⟩ = false := B3.out.free 2
    have k3 : w3.frozen? ⟨N, 3, none⟩ = false := B3.out.free 3
    have k4 : w3.frozen? ⟨N, 4, none⟩ = false := B3.out.free 4
    have F0 := Lib.hid (B3.out.fill (.int .i64 0) (.slice none 0 0) (.slice none 0 0) (.int .i64 0) (.bool false))
    have F1 := Lib.hid (rd_fill (a0 := .int .i64 0) (a1 := .slice none 0 0) (a2 := .slice none 0 0) (a3 := .int .i64 0) (a4 := .bool false) R3.out (Ne.symm HNB.out))
    have F2 := Lib.hid (grown_fill (a0 := .int .i64 0) (a1 := .slice none 0 0) (a2 := .slice none 0 0) (a3 := .int .i64 0) (a4 := .bool false) G3.out HNw.out)
    clear hoc
    go_wp2
    generalize ((((w3.setCell ⟨N, 0, none⟩ (.int .i64 0)).setCell ⟨N, 1, none⟩ (.slice none 0 0)).setCell ⟨N, 2, none⟩ (.slice none 0 0)).setCell ⟨N, 3, none⟩ (.int .i64 0)).setCell ⟨N, 4, none⟩ (.bool false) = Z at F0 F1 F2 ⊢
    have z0 : Z.cell? ⟨N, 0, none⟩ = some (.int .i64 0) := F0.out.at_ 0 rfl
    have z1 : Z.cell? ⟨N, 1, none⟩ = some (.slice none 0 0) := F0.out.at_ 1 rfl
    have z2 : Z.cell? ⟨N, 2, none⟩ = some (.slice none 0 0) := F0.out.at_ 2 rfl
    have z3 : Z.cell? ⟨N, 3, none⟩ = some (.int .i64 0) := F0.out.at_ 3 rfl
    have z4 : Z.cell? ⟨N, 4, none⟩ = some (.bool false) := F0.out.at_ 4 rfl
    exact bodyPost_ret (v := .tuple #[chV ch0 (.slice none 0 0) (.slice none 0 0), .bool false]) (by simp [results, Tryz.results94, go_sem, z0, z1, z2, z3, z4, chV, ch0]) rfl ⟨⟨_, _, by rw [HC0.out.1, HC0.out.2], by rw [HC0.out.1]; exact prd_nil _, by rw [HC0.out.1]; exact Vrd.nil_ _, NewS.nil_ _, NewS.nil_ _⟩, F1.out, F2.out⟩
  subst hoc
  have HC0 : Hid (rc = pv ∧ rk = decide (pc = 0)) := Lib.hid ⟨by rw [HRC.out, if_pos rfl], by rw [HRK.out, decide_eq_true rfl, Bool.true_and]⟩
  go_wp2_with fail
  refine (HPA.out _).mono ?_
  rintro e w4 ⟨⟨T, V, rfl, hT, hV, nT, nV⟩, hb4⟩
  obtain ⟨A1, c1, e1, g1, g1', g1''⟩ := id hT
  obtain ⟨A2, c2, e2, g2⟩ := id hV
  obtain ⟨n1, hn1⟩ : ∃ n, n = pv.ts.length := ⟨_, rfl⟩
  obtain ⟨n2, hn2⟩ : ∃ n, n = pv.v.length := ⟨_, rfl⟩
  rw [← hn1] at e1
  rw [← hn2] at e2
  subst e1 e2
  obtain ⟨q, hq⟩ : ∃ q, q = decide (pc = 0) := ⟨_, rfl⟩
  rw [← hq] at HC0
  have hpq : (pc == 0) = q := by rw [hq]; by_cases hz : pc = 0 <;> simp [hz]
  have hbm := pl1 w4 (chO pv (.slice A1 n1 c1) (.slice A2 n2 c2))
  have hb5 := hb4.trans (hbm.mono hb4.size)
  have B5 := Lib.hid (B3.out.later hb5)
  have R5 := Lib.hid (R3.out.later hb5)
  have G5 := Lib.hid (only_below G3.out hb5)
  have HT5 := Lib.hid (hT.later hbm)
  have HV5 := Lib.hid (hV.later hbm)
  have hw3 : N < w3.heap.size := B3.out.lt
  have NT := Lib.hid (show NewS w3.heap.size (.slice A1 n1 c1) ∧ NewS w3.heap.size (.slice A2 n2 c2) from ⟨nT, nV⟩)
  unfold chO at hbm B5 R5 G5 HT5 HV5
  unfold chV
  have e0 : (w4.alloc (.cells #[.int .i64 pv.doc, .slice A1 n1 c1, .slice A2 n2 c2, .int .i64 pv.tags, .bool pv.gone] 35)).cell? ⟨N, 0, none⟩ = some (.int .i64 0) := B5.out.at_ 0 rfl
  have e1 : (w4.alloc (.cells #[.int .i64 pv.doc, .slice A1 n1 c1, .slice A2 n2 c2, .int .i64 pv.tags, .bool pv.gone] 35)).cell? ⟨N, 1, none⟩ = some (.slice none 0 0) := B5.out.at_ 1 rfl
  have e2 : (w4.alloc (.cells #[.int .i64 pv.doc, .slice A1 n1 c1, .slice A2 n2 c2, .int .i64 pv.tags, .bool pv.gone] 35)).cell? ⟨N, 2, none⟩ = some (.slice none 0 0) := B5.out.at_ 2 rfl
  have e3 : (w4.alloc (.cells #[.int .i64 pv.doc, .slice A1 n1 c1, .slice A2 n2 c2, .int .i64 pv.tags, .bool pv.gone] 35)).cell? ⟨N, 3, none⟩ = some (.int .i64 0) := B5.out.at_ 3 rfl
  have e4 : (w4.alloc (.cells #[.int .i64 pv.doc, .slice A1 n1 c1, .slice A2 n2 c2, .int .i64 pv.tags, .bool pv.gone] 35)).cell? ⟨N, 4, none⟩ = some (.bool false) := B5.out.at_ 4 rfl
  have k0 : (w4.alloc (.cells #[.int .i64 pv.doc, .slice A1 n1 c1, .slice A2 n2 c2, .int .i64 pv.tags, .bool pv.gone] 35)).frozen? ⟨N, 0, none⟩ = false := B5.out.free 0
  have k1 : (w4.alloc (.cells #[.int .i64 pv.doc, .slice A1 n1 c1, .slice A2 n2 c2, .int .i64 pv.tags, .bool pv.gone] 35)).frozen? ⟨N, 1, none⟩ = false := B5.out.free 1
  have k2 : (w4.alloc (.cells #[.int .i64 pv.doc, .slice A1 n1 c1, .slice A2 n2 c2, .int .i64 pv.tags, .bool pv.gone] 35)).frozen? ⟨N, 2, none⟩ = false := B5.out.free 2
  have k3 : (w4.alloc (.cells #[.int .i64 pv.doc, .slice A1 n1 c1, .slice A2 n2 c2, .int .i64 pv.tags, .bool pv.gone] 35)).frozen? ⟨N, 3, none⟩ = false := B5.out.free 3
  have k4 : (w4.alloc (.cells #[.int .i64 pv.doc, .slice A1 n1 c1, .slice A2 n2 c2, .int .i64 pv.tags, .bool pv.gone] 35)).frozen? ⟨N, 4, none⟩ = false := B5.out.free 4
  have F0 := Lib.hid (B5.out.fill (.int .i64 pv.doc) (.slice A1 n1 c1) (.slice A2 n2 c2) (.int .i64 pv.tags) (.bool pv.gone))
  have F1 := Lib.hid (rd_fill (a0 := .int .i64 pv.doc) (a1 := .slice A1 n1 c1) (a2 := .slice A2 n2 c2) (a3 := .int .i64 pv.tags) (a4 := .bool pv.gone) R5.out (Ne.symm HNB.out))
  have F2 := Lib.hid (grown_fill (a0 := .int .i64 pv.doc) (a1 := .slice A1 n1 c1) (a2 := .slice A2 n2 c2) (a3 := .int .i64 pv.tags) (a4 := .bool pv.gone) G5.out HNw.out)
  have hTF := turned_fill (w4.alloc (.cells #[.int .i64 pv.doc, .slice A1 n1 c1, .slice A2 n2 c2, .int .i64 pv.tags, .bool pv.gone] 35)) N (.int .i64 pv.doc) (.slice A1 n1 c1) (.slice A2 n2 c2) (.int .i64 pv.tags) (.bool pv.gone)
  have F3 := Lib.hid (prd_turned HT5.out hTF (fun A n cp e hn a ha hb => by have := NT.out.1 A n cp e a ha; omega))
  have F4 := Lib.hid (vrd_turned HV5.out hTF (fun A n cp e hn a ha hb => by have := NT.out.2 A n cp e a ha; omega))
  have NW : Hid (NewS w.heap.size (.slice A1 n1 c1) ∧ NewS w.heap.size (.slice A2 n2 c2)) := Lib.hid ⟨fun A n cp e a ha => by have := NT.out.1 A n cp e a ha; have := HNw.out; omega, fun A n cp e a ha => by have := NT.out.2 A n cp e a ha; have := HNw.out; omega⟩
  clear hT hV nT nV hb4 g1 g1' g1'' g2 hn1 hn2 hq hbm hb5 hw3 hTF
  go_wp2
  generalize (((((w4.alloc (.cells #[.int .i64 pv.doc, .slice A1 n1 c1, .slice A2 n2 c2, .int .i64 pv.tags, .bool pv.gone] 35)).setCell ⟨N, 0, none⟩ (.int .i64 pv.doc)).setCell ⟨N, 1, none⟩ (.slice A1 n1 c1)).setCell ⟨N, 2, none⟩ (.slice A2 n2 c2)).setCell ⟨N, 3, none⟩ (.int .i64 pv.tags)).setCell ⟨N, 4, none⟩ (.bool pv.gone) = Z at F0 F1 F2 F3 F4 ⊢
  have z0 : Z.cell? ⟨N, 0, none⟩ = some (.int .i64 pv.doc) := F0.out.at_ 0 rfl
  have z1 : Z.cell? ⟨N, 1, none⟩ = some (.slice A1 n1 c1) := F0.out.at_ 1 rfl
  have z2 : Z.cell? ⟨N, 2, none⟩ = some (.slice A2 n2 c2) := F0.out.at_ 2 rfl
  have z3 : Z.cell? ⟨N, 3, none⟩ = some (.int .i64 pv.tags) := F0.out.at_ 3 rfl
  have z4 : Z.cell? ⟨N, 4, none⟩ = some (.bool pv.gone) := F0.out.at_ 4 rfl
  exact bodyPost_ret (v := .tuple #[chV pv (.slice A1 n1 c1) (.slice A2 n2 c2), .bool q]) (by simp [results, Tryz.results94, go_sem, z0, z1, z2, z3, z4, chV]) rfl ⟨⟨.slice A1 n1 c1, .slice A2 n2 c2, by rw [HC0.out.1, HC0.out.2], by rw [HC0.out.1]; exact F3.out, by rw [HC0.out.1]; exact F4.out, NW.out.1, NW.out.2⟩, F1.out, F2.out⟩
end Go.Proofs.YtddnnhfffmhpmaaGreatDoor.St

/- Frames read back: plain. -/
namespace Go.Proofs.YtddnnhfffmhpmaaGreatDoor.St
open Go.RowKit Go.Proofs.YtddnnhfffmhpmaaGreatDoor DocM StoM Do

theorem op_sealed (t : List UInt8) : opC (CrcM.sealed t) = 0 ∧ opL (CrcM.sealed t) = t := by
  have hl : (CrcM.sealed t).length = t.length + 4 := by simp [CrcM.sealed, CrcM.le4]
  have ht : (CrcM.sealed t).take ((CrcM.sealed t).length - 4) = t := by
    rw [hl, Nat.add_sub_cancel]
    unfold CrcM.sealed
    rw [List.take_append, List.take_length, Nat.sub_self, List.take_zero, List.append_nil]
  unfold opC opL
  have h4 : ¬ (CrcM.sealed t).length < 4 := by omega
  exact ⟨by rw [if_neg h4, ht, if_pos rfl], by rw [if_neg h4, ht, if_pos rfl]⟩
theorem pa_there {c : Ch} (h : rightC c = 0) : paV (prB c) = c ∧ paC (prB c) = 0 := by
  have h1 := rd_there h []
  rw [List.append_nil] at h1
  obtain ⟨h2, h3, h4⟩ := rd_some h1
  have hk : paK (prB c) = true := by unfold paK; rw [h3, h4]; rfl
  obtain ⟨h5, h6⟩ := pa_yes hk
  exact ⟨h5.trans h2, h6⟩
theorem frame_vw (c : Ch) : frameB c = PackM.vw (CrcM.sealed (prB c)).length ++ CrcM.sealed (prB c) := by
  unfold frameB varB
  rw [if_neg (by omega), Int.toNat_natCast]
theorem frame_num {c : Ch} (h : rightC c = 0) (rest : List UInt8) : PackM.num PackM.MAXI 0 0 (frameB c ++ rest) = some ((CrcM.sealed (prB c)).length, CrcM.sealed (prB c) ++ rest) := by
  rw [frame_vw, List.append_assoc]
  refine PackM.num_there PackM.MAXI _ _ ?_
  have h1 := prB_len h
  have h2 : (CrcM.sealed (prB c)).length = (prB c).length + 4 := by simp [CrcM.sealed, CrcM.le4]
  have h3 : PackM.MAXI = 9223372036854775807 := rfl
  omega
theorem frame_there {c : Ch} (h : rightC c = 0) (rest : List UInt8) (bad : Bool) : tfK (frameB c ++ rest) = true ∧ tfC (frameB c ++ rest) = c ∧ tfS (frameB c ++ rest) = rest ∧ tfB (frameB c ++ rest) bad = bad := by
  have hn := frame_num h rest
  have h1 : nV PackM.MAXI (frameB c ++ rest) = (CrcM.sealed (prB c)).length := by unfold nV; rw [hn]
  have h2 : nS PackM.MAXI (frameB c ++ rest) = CrcM.sealed (prB c) ++ rest := by unfold nS; rw [hn]
  have h3 : nB PackM.MAXI (frameB c ++ rest) bad = bad := by unfold nB; rw [hn]
  have hle : (0 : Int) ≤ ((CrcM.sealed (prB c)).length : Int) ∧ ((CrcM.sealed (prB c)).length : Int) ≤ ((CrcM.sealed (prB c) ++ rest).length : Int) := by rw [List.length_append]; omega
  have hx : tfX (frameB c ++ rest) = CrcM.sealed (prB c) := by
    unfold tfX byV
    rw [h1, h2, if_pos hle, Int.toNat_natCast, List.take_append, List.take_length, Nat.sub_self, List.take_zero, List.append_nil]
  obtain ⟨o1, o2⟩ := op_sealed (prB c)
  obtain ⟨p1, p2⟩ := pa_there h
  refine ⟨?_, ?_, ?_, ?_⟩
  · unfold tfK; rw [hx, o1, o2, p2]; rfl
  · unfold tfC; rw [hx, o1, o2, if_pos rfl, p1]
  · unfold tfS byS
    rw [h1, h2, if_pos hle, Int.toNat_natCast, List.drop_append, List.drop_length, Nat.sub_self, List.drop_zero, List.nil_append]
  · unfold tfB byB
    rw [h1, h2, h3, if_pos hle]
theorem tf_none {t : List UInt8} (h : tfX t = []) : tfK t = false := by
  unfold tfK
  rw [h]
  rfl
theorem torn_none {t : List UInt8} (h : Torn t) : tfK t = false := by
  refine tf_none ?_
  unfold tfX
  cases hn : PackM.num PackM.MAXI 0 0 t with
  | none =>
    have h1 : nV PackM.MAXI t = 0 := by unfold nV; rw [hn]
    have h2 : nS PackM.MAXI t = [] := by unfold nS; rw [hn]
    rw [h1, h2]
    rfl
  | some x =>
    obtain ⟨v, r⟩ := x
    have h1 : nV PackM.MAXI t = v := by unfold nV; rw [hn]
    have h2 : nS PackM.MAXI t = r := by unfold nS; rw [hn]
    have hv := nV_le PackM.MAXI t
    rw [h1] at hv
    rw [h1, h2]
    have ht := PackM.num_here hn
    have hlt : (r.length : Int) < (v : Int) := by
      rcases h with rfl | ⟨c, hc, n, hl, rfl⟩
      · have := PackM.num_short hn
        simp at this
      · have hf := frame_num hc []
        rw [List.append_nil] at hf
        have hsplit : frameB c = PackM.vw v ++ (r ++ (frameB c).drop n) := by
          rw [← List.append_assoc, ← ht, List.take_append_drop]
        rw [hsplit, PackM.num_there PackM.MAXI v _ hv] at hf
        injection hf with hf
        injection hf with e1 e2
        have e3 := congrArg List.length e2
        rw [List.append_nil, List.length_append, List.length_drop] at e3
        omega
    unfold byV
    rw [if_neg (by omega)]
end Go.Proofs.YtddnnhfffmhpmaaGreatDoor.St
