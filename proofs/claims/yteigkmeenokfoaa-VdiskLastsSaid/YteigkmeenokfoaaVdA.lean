
/- A disk in memory: its object, its map of files, their rows of bytes. -/
import Derived.Test.YteigkmeenokfoaaBase
import Derived.Test.YteigkmeenokfoaaLin
import Derived.Test.YteigkmeenokfoaaVdMath
import Derived.Maps.OwnSet
import Derived.Maps.RangeWalk
import Derived.Sort.KeysCollected
import Derived.Lib.AppendStr
namespace Go.Proofs.Yteigkmeenokfoaa.Vd
open Go.RowKit Go.Proofs.Yteigkmeenokfoaa VdM Go.Maps

abbrev MD := DataW Value
abbrev keyS (n : Name) : Lit := .string n
theorem keyS_ne {n m : Name} (h : n ≠ m) : keyS n ≠ keyS m := fun e => h (by injection e)
theorem key_law : Keyed Try.prog 9 := string_keyed Try.underlying9
theorem key_is (s : ByteArray) (h : s.size ≤ 1000000000) : keyOf Try.prog 9 (.string s) = some (keyS s.data.toList) := by
  have : s.size ≤ maxLen := by unfold maxLen; omega
  simp [keyOf, Try.underlying9, mapKey, this]
theorem sameKey_s (n m : Name) : (keyS n).sameKey (keyS m) = decide (n = m) := by
  by_cases h : n = m
  · subst h
    simp [Lit.sameKey]
  · rw [decide_eq_false h]
    exact sameKey_ne (keyS_ne h)
/-- a file as a value -/
abbrev fileV (sl : Value) (s : Int) : Value := .agg #[sl, .int .i64 s]
def fileElem (v : Value) : Option (MD × List MemPlace) :=
  match v with
  | .agg cs => match cs.toList with
    | [.slice p n c, .int .i64 s] => some (.held (fileV (.slice p n c) s), [])
    | _ => none
  | _ => none
theorem fileElem_mk (p : Option Addr) (n c : Nat) (s : Int) : fileElem (fileV (.slice p n c) s) = some (.held (fileV (.slice p n c) s), []) := rfl
theorem fileElem_inv {v : Value} {y : MD × List MemPlace} (h : fileElem v = some y) : ∃ p n c s, v = fileV (.slice p n c) s ∧ y = (.held (fileV (.slice p n c) s), []) := by
  unfold fileElem at h
  split at h
  · rename_i cs
    split at h
    · rename_i p n c s he
      injection h with h
      refine ⟨p, n, c, s, ?_, h.symm⟩
      rw [show cs = #[.slice p n c, .int .i64 s] from by
        cases cs
        simp at he
        simp [he]]
    · cases h
  · cases h
abbrev Own (w : World) (m n : Nat) (D : MD) : Prop := w.ownsMap Try.prog 9 fileElem m n D
theorem grown_of {w w' : World} (h : Below w.heap.size w w') : w.grownBy w' none := ⟨h.os, h.tape, h.output, h.size, fun k hk _ => h.block k hk⟩
theorem Own.stay {w w' : World} {b n : Nat} {D : MD} (h : Own w b n D) (hb : w'.heap[b]? = w.heap[b]?) : Own w' b n D := by
  obtain ⟨es, clock, h1, r⟩ := h
  exact ⟨es, clock, hb.trans h1, r⟩
/-- the map's datum D is the files fs; V: their rows -/
structure Rep (D : MD) (V : Name → Value) (fs : Fils) : Prop where
  map : IsMap D
  has : ∀ n, Maps.has D (keyS n) = (lkF fs n).isSome
  at_ : ∀ n f, lkF fs n = some f → ∀ z, D.atKey (keyS n) z = .held (fileV (V n) f.syn)
theorem Rep.none_ (V : Name → Value) : Rep (.map []) V [] := ⟨⟨[], rfl⟩, fun _ => rfl, fun n f h => by cases h⟩
def updV (V : Name → Value) (n : Name) (v : Value) : Name → Value := fun m => if m = n then v else V m
theorem updV_same (V : Name → Value) (n : Name) (v : Value) : updV V n v n = v := if_pos rfl
theorem updV_other (V : Name → Value) {n m : Name} (v : Value) (h : m ≠ n) : updV V n v m = V m := if_neg h
theorem Rep.put {D : MD} {V : Name → Value} {fs : Fils} (h : Rep D V fs) (n : Name) (v : Value) (f : Fil) : Rep (D.put (keyS n) (.held (fileV v f.syn))) (updV V n v) (ptF n f fs) := by
  refine ⟨h.map.put _ _, fun m => ?_, fun m g hg z => ?_⟩
  · by_cases c : m = n
    · subst c
      rw [has_put_same h.map (show WideAt.IsKeyLit (keyS m) from trivial), look_put_same]
      rfl
    · rw [has_put_other (keyS_ne c), look_put_other f c]
      exact h.has m
  · by_cases c : m = n
    · subst c
      rw [look_put_same] at hg
      injection hg with hg
      subst hg
      rw [updV_same]
      exact atKey_put_same h.map (show WideAt.IsKeyLit (keyS m) from trivial) _ _
    · rw [look_put_other f c] at hg
      rw [atKey_put_other (keyS_ne c), updV_other V v c]
      exact h.at_ m g hg z
theorem Rep.del {D : MD} {V : Name → Value} {fs : Fils} (h : Rep D V fs) (n : Name) : Rep (D.del (keyS n)) V (dlF n fs) := by
  refine ⟨h.map.del _, fun m => ?_, fun m g hg z => ?_⟩
  · by_cases c : m = n
    · subst c
      rw [has_del_same, look_del_same]
      rfl
    · rw [has_del_other (keyS_ne c), look_del_other c]
      exact h.has m
  · by_cases c : m = n
    · subst c
      rw [look_del_same] at hg
      cases hg
    · rw [look_del_other c] at hg
      rw [atKey_del_other (keyS_ne c)]
      exact h.at_ m g hg z
theorem keys_perm {w : World} {m nn : Nat} {D : MD} {V : Name → Value} {fs : Fils} (ho : Own w m nn D) (h : Rep D V fs) (hr : Rising fs) : (fs.map (·.1)).Perm (strKeys D) := by
  obtain ⟨es, rfl, hp, _⟩ := ho.entries key_law
  obtain ⟨es', e, hk⟩ := ho.keysOf
  injection e with e
  subst e
  refine perm_strKeys hp (fun p hp => ?_) (names_nodup hr) (fun x => ?_)
  · obtain ⟨v, hv⟩ := hk p hp
    obtain ⟨x, _, e, _⟩ := Maps.keyOf_str Try.underlying9 hv
    exact ⟨x, e⟩
  · show _ ↔ Maps.has _ (keyS x) = true
    rw [h.has x]
    cases hl : lkF fs x with
    | none => simp only [Option.isSome_none, Bool.false_eq_true, iff_false]; exact look_none.1 hl
    | some f => simp only [Option.isSome_some, iff_true]; exact List.mem_map.2 ⟨(x, f), look_some hl, rfl⟩
theorem size_keys {D : MD} (h : IsMap D) : Maps.size D = (strKeys D).length := by
  obtain ⟨es, rfl⟩ := h
  simp [Maps.size, strKeys]
theorem size_rep {w : World} {m nn : Nat} {D : MD} {V : Name → Value} {fs : Fils} (ho : Own w m nn D) (h : Rep D V fs) (hr : Rising fs) : Maps.size D = fs.length := by
  rw [size_keys h.map, ← (keys_perm ho h hr).length_eq, List.length_map]
theorem own_exact {w : World} {m nn : Nat} {D : MD} (ho : Own w m nn D) : Own w m (Maps.size D) D := by
  obtain ⟨es, clock, hb, F, hs, hD⟩ := ho
  refine ⟨es, clock, hb, F, ?_, hD⟩
  rw [hD]
  simp [Maps.size, length_sorted]
/-! ### bytes of one's own -/
def byteV (b : UInt8) : Value := .int .u8 (b.toNat : Int)
/-- the slice v is a row of bytes l of its own -/
def ByteRow (w : World) (v : Value) (l : List UInt8) : Prop := w.ownsRow 0 5 1 v l.length (l.map byteV)
theorem ByteRow.nil_ (w : World) : ByteRow w (.slice none 0 0) [] := World.ownsRow_nil _ _ _ _
theorem ByteRow.stay {w w' : World} {v : Value} {l : List UInt8} (h : ByteRow w v l) (hb : ∀ g, v.ownBlock = some g → w'.heap[g]? = w.heap[g]?) : ByteRow w' v l := by
  refine ⟨h.1, ?_⟩
  rcases h.2 with hn | ⟨g, cap, cur, rfl, hbg, hgg, rest⟩
  · exact .inl hn
  · exact .inr ⟨g, cap, cur, rfl, hbg, (hb g rfl).trans hgg, rest⟩
theorem ByteRow.blk {w : World} {v : Value} {l : List UInt8} (h : ByteRow w v l) {g : Nat} (hg : v.ownBlock = some g) : ∃ cur, w.heap[g]? = some (.cells cur 5 (0, 0)) := by
  rcases h.2 with ⟨e, _⟩ | ⟨g', cap, cur, e, _, hgg, _⟩
  · rw [e] at hg; simp [Value.ownBlock] at hg
  · rw [e] at hg
    have e2 : g' = g := by simpa [Value.ownBlock] using hg
    subst e2
    exact ⟨_, hgg⟩
theorem ByteRow.lt {w : World} {v : Value} {l : List UInt8} (h : ByteRow w v l) {g : Nat} (hg : v.ownBlock = some g) : g < w.heap.size := (World.ownsRow.lt h g hg).2
theorem ByteRow.shape {w : World} {v : Value} {l : List UInt8} (h : ByteRow w v l) : ∃ p c, v = .slice p l.length c := by
  rcases h.2 with ⟨e, e2⟩ | ⟨g', cap, cur, e, _⟩
  · exact ⟨none, 0, by rw [e, e2]⟩
  · exact ⟨_, _, e⟩
/-! ### the disk -/
/-- block d of w is a disk, whose map is block m; F: the blocks that it may turn -/
structure At (w : World) (F : Nat → Prop) (d m : Nat) (D : MD) (V : Name → Value) (s : Dsk) : Prop where
  ob : w.heap[d]? = some (.cells #[.int .i64 (s.quota : Int), .map (some m), .bool s.down, .int .i64 s.at_, .int .i64 s.keep, .int .i64 (s.eff : Int)] 51 (0, 0))
  own : Own w m s.fs.length D
  rep : Rep D V s.fs
  row : ∀ n f, lkF s.fs n = some f → ByteRow w (V n) f.bytes
  apart : ∀ n f n' f', lkF s.fs n = some f → lkF s.fs n' = some f' → n ≠ n' → ∀ g, (V n).ownBlock = some g → (V n').ownBlock ≠ some g
  fd : F d
  fm : F m
  fv : ∀ n f, lkF s.fs n = some f → ∀ g, (V n).ownBlock = some g → F g
  lt : ∀ b, F b → b < w.heap.size
  ok : Ok s
def Is (w : World) (F : Nat → Prop) (d : Nat) (s : Dsk) : Prop := ∃ m D V, At w F d m D V s
/-- the disk has become s', by blocks of its own alone -/
def Went (w w' : World) (F : Nat → Prop) (d : Nat) (s' : Dsk) : Prop := Turned F w w' ∧ ∃ F', Is w' F' d s' ∧ ∀ b, F' b → F b ∨ w.heap.size ≤ b
section
variable {w w' : World} {F : Nat → Prop} {d m : Nat} {D : MD} {V : Name → Value} {s : Dsk}
theorem At.md (h : At w F d m D V s) : m ≠ d := fun e => by
  obtain ⟨es, clock, hb, _⟩ := h.own
  rw [e, h.ob] at hb
  cases hb
theorem At.gd (h : At w F d m D V s) {n : Name} {f : Fil} (hl : lkF s.fs n = some f) {g : Nat} (hg : (V n).ownBlock = some g) : g ≠ d ∧ g ≠ m := by
  obtain ⟨cur, hc⟩ := (h.row n f hl).blk hg
  constructor
  · intro e
    rw [e, h.ob] at hc
    injection hc with hc
    injection hc with _ hc
    cases hc
  · intro e
    obtain ⟨es, clock, hb, _⟩ := h.own
    rw [e, hb] at hc
    cases hc
theorem At.stay (h : At w F d m D V s) (hz : w.heap.size ≤ w'.heap.size) (hb : ∀ b, F b → w'.heap[b]? = w.heap[b]?) : At w' F d m D V s :=
  ⟨(hb d h.fd).trans h.ob, Own.stay h.own (hb m h.fm), h.rep, fun n f hl => (h.row n f hl).stay fun g hg => hb g (h.fv n f hl g hg), h.apart, h.fd, h.fm, h.fv, fun b hF => Nat.lt_of_lt_of_le (h.lt b hF) hz, h.ok⟩
theorem At.later (h : At w F d m D V s) (hb : Below w.heap.size w w') : At w' F d m D V s := h.stay hb.size fun b hF => hb.block b (h.lt b hF)
theorem Is.later (h : Is w F d s) (hb : Below w.heap.size w w') : Is w' F d s := by
  obtain ⟨m, D, V, h⟩ := h
  exact ⟨m, D, V, h.later hb⟩
theorem Is.turned {S : Nat → Prop} (h : Is w F d s) (hT : Turned S w w') (hS : ∀ b, F b → ¬ S b) : Is w' F d s := by
  obtain ⟨m, D, V, h⟩ := h
  exact ⟨m, D, V, h.stay hT.size fun b hF => hT.block b (h.lt b hF) (hS b hF)⟩
theorem Is.lt (h : Is w F d s) : ∀ b, F b → b < w.heap.size := by
  obtain ⟨m, D, V, h⟩ := h
  exact h.lt
theorem Is.ok (h : Is w F d s) : Ok s := by
  obtain ⟨m, D, V, h⟩ := h
  exact h.ok
theorem Went.same (h : Is w F d s) (hb : Below w.heap.size w w') : Went w w' F d s := ⟨Turned.of_below hb, F, h.later hb, fun _ h => .inl h⟩
theorem Went.step {w'' : World} {s s' : Dsk} (h : Went w w' F d s) (h' : ∀ F', Is w' F' d s → (∀ b, F' b → F b ∨ w.heap.size ≤ b) → Went w' w'' F' d s') : Went w w'' F d s' := by
  obtain ⟨hT, F', hI, hF⟩ := h
  obtain ⟨hT', F'', hI', hF'⟩ := h' F' hI hF
  exact ⟨hT.from_new (hT'.wide hF), F'', hI', fun b hb => (hF' b hb).elim (hF b) (fun h => .inr (Nat.le_trans hT.size h))⟩
/-- cells of the disk -/
theorem At.cells (h : At w F d m D V s) : w.cell? ⟨d, 0, none⟩ = some (.int .i64 (s.quota : Int)) ∧ w.cell? ⟨d, 1, none⟩ = some (.map (some m)) ∧ w.cell? ⟨d, 2, none⟩ = some (.bool s.down) ∧ w.cell? ⟨d, 3, none⟩ = some (.int .i64 s.at_) ∧ w.cell? ⟨d, 4, none⟩ = some (.int .i64 s.keep) ∧ w.cell? ⟨d, 5, none⟩ = some (.int .i64 (s.eff : Int)) :=
  ⟨cell_of_cells h.ob rfl, cell_of_cells h.ob rfl, cell_of_cells h.ob rfl, cell_of_cells h.ob rfl, cell_of_cells h.ob rfl, cell_of_cells h.ob rfl⟩
theorem At.free (h : At w F d m D V s) (i : Nat) : w.frozen? ⟨d, i, none⟩ = false := frozen_of_cells h.ob
theorem At.dlt (h : At w F d m D V s) : d < w.heap.size := h.lt d h.fd
end
end Go.Proofs.Yteigkmeenokfoaa.Vd
