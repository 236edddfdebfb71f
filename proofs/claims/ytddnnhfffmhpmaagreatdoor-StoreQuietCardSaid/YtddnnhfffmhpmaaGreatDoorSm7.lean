/- Own texts, merged (7 of 42). -/
import Derived.Test.YtddnnhfffmhpmaaGreatDoorSm3
import Derived.Test.YtddnnhfffmhpmaaGreatDoorSm6
import Derived.Test.YtddnnhfffmhpmaaGreatDoorSm1
import Derived.Maps.OwnSet
import Derived.Maps.RangeWalk
import Derived.Sort.KeysCollected
import Derived.Lib.AppendStr

/- A disk in memory: its object, its map of files, their rows of bytes. -/
namespace Go.Proofs.YtddnnhfffmhpmaaGreatDoor.Vd
open Go.RowKit Go.Proofs.YtddnnhfffmhpmaaGreatDoor VdM Go.Maps

abbrev MD := DataW Value
abbrev keyS (n : Name) : Lit := .string n
theorem keyS_ne {n m : Name} (h : n ≠ m) : keyS n ≠ keyS m := fun e => h (by injection e)
theorem key_law : Keyed Tryz.prog 9 := string_keyed Tryz.underlying9
theorem key_is (s : ByteArray) (h : s.size ≤ 1000000000) : keyOf Tryz.prog 9 (.string s) = some (keyS s.data.toList) := by
  have : s.size ≤ maxLen := by unfold maxLen; omega
  simp [keyOf, Tryz.underlying9, mapKey, this]
theorem sameKey_s (n m : Name) : (keyS n).sameKey (keyS m) = decide (n = m) := by
  by_cases h : n = m
  · subst h
    simp [Lit.sameKey]
  · rw [decide_eq_false h]
    exact sameKey_ne (keyS_ne h)
/-- a file as a value -/
abbrev fileV (sl : Value) (s : Int) : Value := .agg #[sl, .int .i64 s]
def fileElem (v : Value) : Option (MD × List MemPlace) :=
  match v with
  | .agg cs => match cs.toList with
    | [.slice p n c, .int .i64 s] => some (.held (fileV (.slice p n c) s), [])
    | _ => none
  | _ => none
theorem fileElem_mk (p : Option Addr) (n c : Nat) (s : Int) : fileElem (fileV (.slice p n c) s) = some (.held (fileV (.slice p n c) s), []) := rfl
theorem fileElem_inv {v : Value} {y : MD × List MemPlace} (h : fileElem v = some y) : ∃ p n c s, v = fileV (.slice p n c) s ∧ y = (.held (fileV (.slice p n c) s), []) := by
  unfold fileElem at h
  split at h
  · rename_i cs
    split at h
    · rename_i p n c s he
      injection h with h
      refine ⟨p, n, c, s, ?_, h.symm⟩
      rw [show cs = #[.slice p n c, .int .i64 s] from by
        cases cs
        simp at he
        simp [he]]
    · cases h
  · cases h
abbrev Own (w : World) (m n : Nat) (D : MD) : Prop := w.ownsMap Tryz.prog 9 fileElem m n D
theorem Own.stay {w w' : World} {b n : Nat} {D : MD} (h : Own w b n D) (hb : w'.heap[b]? = w.heap[b]?) : Own w' b n D := by
  obtain ⟨es, clock, h1, r⟩ := h
  exact ⟨es, clock, hb.trans h1, r⟩
/-- the map's datum D is the files fs; V: their rows -/
structure Rep (D : MD) (V : Name → Value) (fs : Fils) : Prop where
  map : IsMap D
  has : ∀ n, Maps.has D (keyS n) = (lkF fs n).isSome
  at_ : ∀ n f, lkF fs n = some f → ∀ z, D.atKey (keyS n) z = .held (fileV (V n) f.syn)
theorem Rep.none_ (V : Name → Value) : Rep (.map []) V [] := ⟨⟨[], rfl⟩, fun _ => rfl, fun n f h => by cases h⟩
def updV (V : Name → Value) (n : Name) (v : Value) : Name → Value := fun m => if m = n then v else V m
theorem updV_same (V : Name → Value) (n : Name) (v : Value) : updV V n v n = v := if_pos rfl
theorem updV_other (V : Name → Value) {n m : Name} (v : Value) (h : m ≠ n) : updV V n v m = V m := if_neg h
theorem Rep.put {D : MD} {V : Name → Value} {fs : Fils} (h : Rep D V fs) (n : Name) (v : Value) (f : Fil) : Rep (D.put (keyS n) (.held (fileV v f.syn))) (updV V n v) (ptF n f fs) := by
  refine ⟨h.map.put _ _, fun m => ?_, fun m g hg z => ?_⟩
  · by_cases c : m = n
    · subst c
      rw [has_put_same h.map (show WideAt.IsKeyLit (keyS m) from trivial), look_put_same]
      rfl
    · rw [has_put_other (keyS_ne c), look_put_other f c]
      exact h.has m
  · by_cases c : m = n
    · subst c
      rw [look_put_same] at hg
      injection hg with hg
      subst hg
      rw [updV_same]
      exact atKey_put_same h.map (show WideAt.IsKeyLit (keyS m) from trivial) _ _
    · rw [look_put_other f c] at hg
      rw [atKey_put_other (keyS_ne c), updV_other V v c]
      exact h.at_ m g hg z
theorem Rep.del {D : MD} {V : Name → Value} {fs : Fils} (h : Rep D V fs) (n : Name) : Rep (D.del (keyS n)) V (dlF n fs) := by
  refine ⟨h.map.del _, fun m => ?_, fun m g hg z => ?_⟩
  · by_cases c : m = n
    · subst c
      rw [has_del_same, look_del_same]
      rfl
    · rw [has_del_other (keyS_ne c), look_del_other c]
      exact h.has m
  · by_cases c : m = n
    · subst c
      rw [look_del_same] at hg
      cases hg
    · rw [look_del_other c] at hg
      rw [atKey_del_other (keyS_ne c)]
      exact h.at_ m g hg z
theorem keys_perm {w : World} {m nn : Nat} {D : MD} {V : Name → Value} {fs : Fils} (ho : Own w m nn D) (h : Rep D V fs) (hr : Rising fs) : (fs.map (·.1)).Perm (strKeys D) := by
  obtain ⟨es, rfl, hp, _⟩ := ho.entries key_law
  obtain ⟨es', e, hk⟩ := ho.keysOf
  injection e with e
  subst e
  refine perm_strKeys hp (fun p hp => ?_) (names_nodup hr) (fun x => ?_)
  · obtain ⟨v, hv⟩ := hk p hp
    obtain ⟨x, _, e, _⟩ := Maps.keyOf_str Tryz.underlying9 hv
    exact ⟨x, e⟩
  · show _ ↔ Maps.has _ (keyS x) = true
    rw [h.has x]
    cases hl : lkF fs x with
    | none => simp only [Option.isSome_none, Bool.false_eq_true, iff_false]; exact look_none.1 hl
    | some f => simp only [Option.isSome_some, iff_true]; exact List.mem_map.2 ⟨(x, f), look_some hl, rfl⟩
theorem size_keys {D : MD} (h : IsMap D) : Maps.size D = (strKeys D).length := by
  obtain ⟨es, rfl⟩ := h
  simp [Maps.size, strKeys]
theorem size_rep {w : World} {m nn : Nat} {D : MD} {V : Name → Value} {fs : Fils} (ho : Own w m nn D) (h : Rep D V fs) (hr : Rising fs) : Maps.size D = fs.length := by
  rw [size_keys h.map, ← (keys_perm ho h hr).length_eq, List.length_map]
theorem own_exact {w : World} {m nn : Nat} {D : MD} (ho : Own w m nn D) : Own w m (Maps.size D) D := by
  obtain ⟨es, clock, hb, F, hs, hD⟩ := ho
  refine ⟨es, clock, hb, F, ?_, hD⟩
  rw [hD]
  simp [Maps.size, length_sorted]
/-! ### bytes of one's own -/
def byteV (b : UInt8) : Value := .int .u8 (b.toNat : Int)
/-- the slice v is a row of bytes l of its own -/
def ByteRow (w : World) (v : Value) (l : List UInt8) : Prop := w.ownsRow 0 5 1 v l.length (l.map byteV)
theorem ByteRow.nil_ (w : World) : ByteRow w (.slice none 0 0) [] := World.ownsRow_nil _ _ _ _
theorem ByteRow.stay {w w' : World} {v : Value} {l : List UInt8} (h : ByteRow w v l) (hb : ∀ g, v.ownBlock = some g → w'.heap[g]? = w.heap[g]?) : ByteRow w' v l := by
  refine ⟨h.1, ?_⟩
  rcases h.2 with hn | ⟨g, cap, cur, rfl, hbg, hgg, rest⟩
  · exact .inl hn
  · exact .inr ⟨g, cap, cur, rfl, hbg, (hb g rfl).trans hgg, rest⟩
theorem ByteRow.blk {w : World} {v : Value} {l : List UInt8} (h : ByteRow w v l) {g : Nat} (hg : v.ownBlock = some g) : ∃ cur, w.heap[g]? = some (.cells cur 5 (0, 0)) := by
  rcases h.2 with ⟨e, _⟩ | ⟨g', cap, cur, e, _, hgg, _⟩
  · rw [e] at hg; simp [Value.ownBlock] at hg
  · rw [e] at hg
    have e2 : g' = g := by simpa [Value.ownBlock] using hg
    subst e2
    exact ⟨_, hgg⟩
theorem ByteRow.lt {w : World} {v : Value} {l : List UInt8} (h : ByteRow w v l) {g : Nat} (hg : v.ownBlock = some g) : g < w.heap.size := (World.ownsRow.lt h g hg).2
theorem ByteRow.shape {w : World} {v : Value} {l : List UInt8} (h : ByteRow w v l) : ∃ p c, v = .slice p l.length c := by
  rcases h.2 with ⟨e, e2⟩ | ⟨g', cap, cur, e, _⟩
  · exact ⟨none, 0, by rw [e, e2]⟩
  · exact ⟨_, _, e⟩
/-! ### the disk -/
/-- block d of w is a disk, whose map is block m; F: the blocks that it may turn -/
structure At (w : World) (F : Nat → Prop) (d m : Nat) (D : MD) (V : Name → Value) (s : Dsk) : Prop where
  ob : w.heap[d]? = some (.cells #[.int .i64 (s.quota : Int), .map (some m), .bool s.down, .int .i64 s.at_, .int .i64 s.keep, .int .i64 (s.eff : Int)] 69 (0, 0))
  own : Own w m s.fs.length D
  rep : Rep D V s.fs
  row : ∀ n f, lkF s.fs n = some f → ByteRow w (V n) f.bytes
  apart : ∀ n f n' f', lkF s.fs n = some f → lkF s.fs n' = some f' → n ≠ n' → ∀ g, (V n).ownBlock = some g → (V n').ownBlock ≠ some g
  fd : F d
  fm : F m
  fv : ∀ n f, lkF s.fs n = some f → ∀ g, (V n).ownBlock = some g → F g
  lt : ∀ b, F b → b < w.heap.size
  ok : Ok s
def Is (w : World) (F : Nat → Prop) (d : Nat) (s : Dsk) : Prop := ∃ m D V, At w F d m D V s
/-- the disk has become s', by blocks of its own alone -/
def Went (w w' : World) (F : Nat → Prop) (d : Nat) (s' : Dsk) : Prop := Turned F w w' ∧ ∃ F', Is w' F' d s' ∧ ∀ b, F' b → F b ∨ w.heap.size ≤ b
section
variable {w w' : World} {F : Nat → Prop} {d m : Nat} {D : MD} {V : Name → Value} {s : Dsk}
theorem At.md (h : At w F d m D V s) : m ≠ d := fun e => by
  obtain ⟨es, clock, hb, _⟩ := h.own
  rw [e, h.ob] at hb
  cases hb
theorem At.gd (h : At w F d m D V s) {n : Name} {f : Fil} (hl : lkF s.fs n = some f) {g : Nat} (hg : (V n).ownBlock = some g) : g ≠ d ∧ g ≠ m := by
  obtain ⟨cur, hc⟩ := (h.row n f hl).blk hg
  constructor
  · intro e
    rw [e, h.ob] at hc
    injection hc with hc
    injection hc with _ hc
    cases hc
  · intro e
    obtain ⟨es, clock, hb, _⟩ := h.own
    rw [e, hb] at hc
    cases hc
theorem At.stay (h : At w F d m D V s) (hz : w.heap.size ≤ w'.heap.size) (hb : ∀ b, F b → w'.heap[b]? = w.heap[b]?) : At w' F d m D V s :=
  ⟨(hb d h.fd).trans h.ob, Own.stay h.own (hb m h.fm), h.rep, fun n f hl => (h.row n f hl).stay fun g hg => hb g (h.fv n f hl g hg), h.apart, h.fd, h.fm, h.fv, fun b hF => Nat.lt_of_lt_of_le (h.lt b hF) hz, h.ok⟩
theorem At.later (h : At w F d m D V s) (hb : Below w.heap.size w w') : At w' F d m D V s := h.stay hb.size fun b hF => hb.block b (h.lt b hF)
theorem Is.later (h : Is w F d s) (hb : Below w.heap.size w w') : Is w' F d s := by
  obtain ⟨m, D, V, h⟩ := h
  exact ⟨m, D, V, h.later hb⟩
theorem Is.turned {S : Nat → Prop} (h : Is w F d s) (hT : Turned S w w') (hS : ∀ b, F b → ¬ S b) : Is w' F d s := by
  obtain ⟨m, D, V, h⟩ := h
  exact ⟨m, D, V, h.stay hT.size fun b hF => hT.block b (h.lt b hF) (hS b hF)⟩
theorem Is.lt (h : Is w F d s) : ∀ b, F b → b < w.heap.size := by
  obtain ⟨m, D, V, h⟩ := h
  exact h.lt
theorem Is.ok (h : Is w F d s) : Ok s := by
  obtain ⟨m, D, V, h⟩ := h
  exact h.ok
theorem Went.same (h : Is w F d s) (hb : Below w.heap.size w w') : Went w w' F d s := ⟨Turned.of_below hb, F, h.later hb, fun _ h => .inl h⟩
/-- cells of the disk -/
theorem At.cells (h : At w F d m D V s) : w.cell? ⟨d, 0, none⟩ = some (.int .i64 (s.quota : Int)) ∧ w.cell? ⟨d, 1, none⟩ = some (.map (some m)) ∧ w.cell? ⟨d, 2, none⟩ = some (.bool s.down) ∧ w.cell? ⟨d, 3, none⟩ = some (.int .i64 s.at_) ∧ w.cell? ⟨d, 4, none⟩ = some (.int .i64 s.keep) ∧ w.cell? ⟨d, 5, none⟩ = some (.int .i64 (s.eff : Int)) :=
  ⟨cell_of_cells h.ob rfl, cell_of_cells h.ob rfl, cell_of_cells h.ob rfl, cell_of_cells h.ob rfl, cell_of_cells h.ob rfl, cell_of_cells h.ob rfl⟩
theorem At.free (h : At w F d m D V s) (i : Nat) : w.frozen? ⟨d, i, none⟩ = false := frozen_of_cells h.ob
theorem At.dlt (h : At w F d m D V s) : d < w.heap.size := h.lt d h.fd
end
end Go.Proofs.YtddnnhfffmhpmaaGreatDoor.Vd

/- A new disk; what only reads or turns one cell. -/
namespace Go.Proofs.YtddnnhfffmhpmaaGreatDoor.Vd
open Go.RowKit Go.Proofs.YtddnnhfffmhpmaaGreatDoor VdM Go.Maps

def fresh (q : Nat) : Dsk := ⟨q, [], false, 0, 0, 0⟩
theorem mk_files (w : World) : (Instr.makeMap 62 none).run Tryz.prog w = .ok (.map (some w.heap.size)) (w.alloc (.map #[] 0)) := by
  simp [Instr.makeMap, Result.andThen]
theorem fresh_at (w : World) (q : Nat) (h1 : 1 ≤ q) (h2 : q ≤ 1048576) :
    Is ((w.alloc (.map #[] 0)).alloc (.cells #[.int .i64 (q : Int), .map (some w.heap.size), .bool false, .int .i64 0, .int .i64 0, .int .i64 0] 69)) (fun b => b = w.heap.size ∨ b = w.heap.size + 1) (w.heap.size + 1) (fresh q) := by
  refine ⟨w.heap.size, .map [], fun _ => .slice none 0 0, ?_, ?_, Rep.none_ _, fun n f h => (by cases h), fun n f n' f' h => (by cases h), .inr rfl, .inl rfl, fun n f h => (by cases h), fun b hb => ?_, ?_⟩
  · have := heap_alloc_new (w.alloc (.map #[] 0)) (.cells #[.int .i64 (q : Int), .map (some w.heap.size), .bool false, .int .i64 0, .int .i64 0, .int .i64 0] 69)
    rw [show (w.alloc (.map #[] 0)).heap.size = w.heap.size + 1 from by simp] at this
    exact this
  · exact (World.ownsMap_made w Tryz.prog 9 fileElem).alloc _
  · have : ((w.alloc (.map #[] 0)).alloc (.cells #[.int .i64 (q : Int), .map (some w.heap.size), .bool false, .int .i64 0, .int .i64 0, .int .i64 0] 69)).heap.size = w.heap.size + 2 := by simp
    rw [this]
    rcases hb with rfl | rfl <;> omega
  · exact ⟨h1, h2, List.Pairwise.nil, fun x h => by simp [fresh] at h, fun x h => by simp [fresh] at h, Nat.zero_le _, Nat.zero_le _, by simp [fresh]⟩
set_option maxRecDepth 100000 in
theorem new_yes (q : Nat) (w : World) (h1 : 1 ≤ q) (h2 : q ≤ 1048576) : Calls Tryz.prog 27 #[.int .i64 (q : Int)] w fun e w' => e = .returned (.tuple #[.pointer (some ⟨w.heap.size + 1, 0, none⟩), .int .i64 0]) ∧ Is w' (fun b => b = w.heap.size ∨ b = w.heap.size + 1) (w.heap.size + 1) (fresh q) ∧ Below w.heap.size w w' := by
  have d1 : decide ((q : Int) < 1) = false := decide_eq_false (by omega)
  have d2 : decide ((1048576 : Int) < (q : Int)) = false := decide_eq_false (by omega)
  have HF := Lib.hid (fresh_at w q h1 h2)
  have hmk := mk_files w
  go_enter Tryz.func27, Tryz.ntmps27
  go_wp2
  go_ret2
  exact ⟨rfl, HF.out, ((Below.refl _ _).alloc (Nat.le_refl _) _).alloc (by simp) _⟩
set_option maxRecDepth 100000 in
theorem nothing_any (w : World) : Calls Tryz.prog 124 #[] w fun e w' => e = .returned (.tuple #[]) ∧ w = w' := by
  go_enter Tryz.func124, Tryz.ntmps124
  go_wp2
  go_end0
  exact ⟨rfl, rfl⟩
theorem size_list (s : ByteArray) : s.data.toList.length = s.size := Array.length_toList
set_option maxRecDepth 100000 in
theorem isname_any (s : ByteArray) (w : World) : Calls Tryz.prog 117 #[.string s] w fun e w' => e = .returned (.bool (nameB s.data.toList)) ∧ w = w' := by
  unfold nameB
  rw [size_list]
  by_cases h1 : 1 ≤ s.size
  · rw [decide_eq_true h1]
    have e1 : decide ((1 : Int) ≤ (s.size : Int)) = true := decide_eq_true (by omega)
    have e1' : decide (0 < s.size) = true := decide_eq_true (by omega)
    obtain ⟨b, hb⟩ : ∃ b, decide (s.size ≤ 32) = b := ⟨_, rfl⟩
    have e2 : decide ((s.size : Int) ≤ 32) = b := by rw [← hb]; exact decide_eq_decide.2 (by omega)
    rw [hb]
    clear h1 hb
    go_enter Tryz.func117, Tryz.ntmps117
    go_wp2
    go_ret
    exact ⟨rfl, rfl⟩
  · have e1 : decide ((1 : Int) ≤ (s.size : Int)) = false := decide_eq_false (by omega)
    have e1' : decide (0 < s.size) = false := decide_eq_false (by omega)
    rw [decide_eq_false h1]
    clear h1
    go_enter Tryz.func117, Tryz.ntmps117
    go_wp2
    go_ret
    exact ⟨rfl, rfl⟩
theorem run_add_9 {P : Program} {w : World} (x n : Nat) (hn : x + n ≤ 1000000000) : (Op.intArith .add .i64 (x : Int) (n : Int)).run P w = .ok (.int .i64 ((x + n : Nat) : Int)) w := by
  have h : IntKind.i64.wrap ((x : Int) + n) = ((x + n : Nat) : Int) := by rw [IntKind.wrap_i64]; omega
  simp [go_sem, h]
set_option maxHeartbeats 400000 in
set_option maxRecDepth 100000 in
theorem iadd9_any (b i : Nat) (x : Nat) (w : World) (hn : x + 1 ≤ 1000000000) (h : w.cell? ⟨b, i, none⟩ = some (.int .i64 x)) (hz : w.frozen? ⟨b, i, none⟩ = false) :
    Calls Tryz.prog 169 #[.pointer (some ⟨b, i, none⟩), .int .i64 1] w fun e w' => e = .returned (.int .i64 ((x + 1 : Nat) : Int)) ∧ w' = w.setCell ⟨b, i, none⟩ (.int .i64 ((x + 1 : Nat) : Int)) := by
  have hadd := run_call_add (P := Tryz.prog) Tryz.func193 (by kernel_rfl) (by kernel_rfl) (by kernel_rfl) .i64 (by kernel_rfl) (y := 1) (s := ((x + 1 : Nat) : Int)) h hz (run_add_9 x 1 hn)
  go_enter Tryz.func169, Tryz.ntmps169
  go_wp2
  go_ret
  exact ⟨rfl, rfl⟩
set_option maxHeartbeats 400000 in
set_option maxRecDepth 100000 in
theorem iload9_any (b i : Nat) (n : Int) (w : World) (h : w.cell? ⟨b, i, none⟩ = some (.int .i64 n)) :
    Calls Tryz.prog 44 #[.pointer (some ⟨b, i, none⟩)] w fun e w' => e = .returned (.int .i64 n) ∧ w = w' := by
  have hl := run_call_load (P := Tryz.prog) Tryz.func74 (by kernel_rfl) (by kernel_rfl) (by kernel_rfl) .i64 (by kernel_rfl) h
  go_enter Tryz.func44, Tryz.ntmps44
  go_wp2
  go_ret
  exact ⟨rfl, rfl⟩
theorem At.set {w : World} {F : Nat → Prop} {d m : Nat} {D : MD} {V : Name → Value} {s : Dsk} (h : At w F d m D V s) (i : Nat) (u : Value) (s' : Dsk) (hf : s'.fs = s.fs) (hok : Ok s')
    (hc : #[.int .i64 (s.quota : Int), .map (some m), .bool s.down, .int .i64 s.at_, .int .i64 s.keep, .int .i64 (s.eff : Int)].setIfInBounds i u = #[.int .i64 (s'.quota : Int), .map (some m), .bool s'.down, .int .i64 s'.at_, .int .i64 s'.keep, .int .i64 (s'.eff : Int)]) : At (w.setCell ⟨d, i, none⟩ u) F d m D V s' := by
  have hne : ∀ b, b ≠ d → (w.setCell ⟨d, i, none⟩ u).heap[b]? = w.heap[b]? := fun b hb => Below.heap_setCell w _ u b (fun e => hb e)
  refine ⟨?_, ?_, ?_, fun n f hl => ?_, fun n f n' f' hl hl' => ?_, h.fd, h.fm, fun n f hl => ?_, fun b hb => ?_, hok⟩
  · rw [heap_setCell_row h.ob, hc]
  · rw [hf]
    exact Own.stay h.own (hne m h.md)
  · rw [hf]
    exact h.rep
  · rw [hf] at hl
    exact (h.row n f hl).stay fun g hg => hne g (h.gd hl hg).1
  · rw [hf] at hl hl'
    exact h.apart n f n' f' hl hl'
  · rw [hf] at hl
    exact h.fv n f hl
  · have := h.lt b hb
    simpa [World.setCell] using this
theorem Turned.setc {F : Nat → Prop} {w : World} {d : Nat} (hF : F d) (i : Nat) (u : Value) : Turned F w (w.setCell ⟨d, i, none⟩ u) := (Turned.refl F w).set_ hF i u
set_option maxRecDepth 100000 in
theorem start_any (w : World) (F : Nat → Prop) (d : Nat) (s : Dsk) (h : Is w F d s) : Calls Tryz.prog 10 #[.pointer (some ⟨d, 0, none⟩)] w fun e w' => e = .returned (.tuple #[]) ∧ Turned F w w' ∧ Is w' F d { s with down := false } := by
  obtain ⟨m, D, V, h⟩ := h
  obtain ⟨c0, c1, c2, c3, c4, c5⟩ := h.cells
  have f2 := h.free 2
  have H2 := Lib.hid (h.set 2 (.bool false) { s with down := false } rfl ⟨h.ok.q1, h.ok.q2, h.ok.rise, h.ok.names, h.ok.syn, h.ok.fits, h.ok.most, h.ok.at0⟩ rfl)
  have HF := Lib.hid h.fd
  clear h c0 c1 c3 c4 c5
  go_enter Tryz.func10, Tryz.ntmps10
  go_wp2
  go_end0
  exact ⟨rfl, Turned.setc HF.out _ _, m, D, V, H2.out⟩
set_option maxRecDepth 100000 in
theorem effects_any (w : World) (F : Nat → Prop) (d : Nat) (s : Dsk) (h : Is w F d s) : Calls Tryz.prog 23 #[.pointer (some ⟨d, 0, none⟩)] w fun e w' => e = .returned (.int .i64 (s.eff : Int)) ∧ w = w' := by
  obtain ⟨m, D, V, h⟩ := h
  have HL := Lib.hid (iload9_any d 5 _ w h.cells.2.2.2.2.2)
  clear h
  go_enter Tryz.func23, Tryz.ntmps23
  go_wp2_with fail
  refine HL.out.mono ?_
  rintro e w1 ⟨rfl, rfl⟩
  go_wp2
  go_ret
  exact ⟨rfl, rfl⟩
end Go.Proofs.YtddnnhfffmhpmaaGreatDoor.Vd

/- What looks a file up. -/
namespace Go.Proofs.YtddnnhfffmhpmaaGreatDoor.Vd
open Go.RowKit Go.Proofs.YtddnnhfffmhpmaaGreatDoor VdM Go.Maps

abbrev nilS : Value := .slice none 0 0
/-- the row, and the number of synced bytes, of what a look-up answers -/
def rowOf (V : Name → Value) (n : Name) : Option Fil → Value
  | none => nilS
  | some _ => V n
def synOf : Option Fil → Int
  | none => 0
  | some f => f.syn
theorem file_zero (w : World) : (zeroValue 72).run Tryz.prog w = .ok (fileV nilS 0) w := by kernel_rfl
theorem held_inj {u v : Value} (h : (.held u : MD) = .held v) : u = v := by injection h
theorem look_val {D : MD} {V : Name → Value} {fs : Fils} (hr : Rep D V fs) {n : Name} {v : Value} {ps : List MemPlace} (hv : fileElem v = some (D.atKey (keyS n) (.held (fileV nilS 0)), ps)) : v = fileV (rowOf V n (lkF fs n)) (synOf (lkF fs n)) := by
  obtain ⟨p, k, c, x, rfl, e⟩ := fileElem_inv hv
  injection e with e _
  cases hl : lkF fs n with
  | none =>
    have hn : Maps.has D (keyS n) = false := by rw [hr.has n, hl]; rfl
    rw [atKey_of_not_has hn] at e
    exact (held_inj e).symm
  | some f =>
    rw [hr.at_ n f hl] at e
    exact (held_inj e).symm
theorem look_run {w : World} {m nn : Nat} {D : MD} {V : Name → Value} {fs : Fils} (hown : Own w m nn D) (hr : Rep D V fs) (nm : ByteArray) (hkey : keyOf Tryz.prog 9 (.string nm) = some (keyS nm.data.toList)) (q : Option Fil) (hq : lkF fs nm.data.toList = q) :
    (Instr.lookup 62 (.map (some m)) (.string nm) false).run Tryz.prog w = .ok (fileV (rowOf V nm.data.toList q) (synOf q)) w := by
  obtain ⟨v, ps, hrun, hv⟩ := hown.lookup key_law Tryz.underlying62 (file_zero w) (rfl : fileElem (fileV nilS 0) = some (.held (fileV nilS 0), [])) hkey
  have e := look_val hr hv
  rw [hq] at e
  rw [hrun, e]
theorem look_run_ok {w : World} {m nn : Nat} {D : MD} {V : Name → Value} {fs : Fils} (hown : Own w m nn D) (hr : Rep D V fs) (nm : ByteArray) (hkey : keyOf Tryz.prog 9 (.string nm) = some (keyS nm.data.toList)) (q : Option Fil) (hq : lkF fs nm.data.toList = q) :
    (Instr.lookup 62 (.map (some m)) (.string nm) true).run Tryz.prog w = .ok (.tuple #[fileV (rowOf V nm.data.toList q) (synOf q), .bool q.isSome]) w := by
  obtain ⟨v, ps, hrun, hv⟩ := hown.look_ok key_law Tryz.underlying62 (file_zero w) (rfl : fileElem (fileV nilS 0) = some (.held (fileV nilS 0), [])) hkey
  have e := look_val hr hv
  rw [hq] at e
  rw [hrun, e, hr.has nm.data.toList, hq]
theorem At.shape {w : World} {F : Nat → Prop} {d m : Nat} {D : MD} {V : Name → Value} {s : Dsk} (h : At w F d m D V s) (n : Name) : ∃ p k c, rowOf V n (lkF s.fs n) = .slice p k c := by
  cases hl : lkF s.fs n with
  | none => exact ⟨_, _, _, rfl⟩
  | some f =>
    obtain ⟨p, c, e⟩ := (h.row n f hl).shape
    exact ⟨p, _, c, e⟩
/-- what find answers -/
def findV (V : Name → Value) (s : Dsk) (n : Name) : Value := if s.down then nilS else rowOf V n (lkF s.fs n)
def findS (s : Dsk) (n : Name) : Int := if s.down then 0 else synOf (lkF s.fs n)
set_option maxHeartbeats 2000000 in
set_option maxRecDepth 100000 in
theorem find_any (w : World) (F : Nat → Prop) (d m : Nat) (D : MD) (V : Name → Value) (s : Dsk) (h : At w F d m D V s) (nm : ByteArray) (hn : nm.size ≤ 1000000000) :
    Calls Tryz.prog 87 #[.pointer (some ⟨d, 0, none⟩), .string nm] w fun e w' => e = .returned (.tuple #[fileV (findV V s nm.data.toList) (findS s nm.data.toList), .int .i64 (findE s nm.data.toList)]) ∧ Below w.heap.size w w' := by
  obtain ⟨c0, c1, c2, c3, c4, c5⟩ := h.cells
  have hdl := h.dlt
  have hB0 := pl1 w (.cells #[nilS, .int .i64 0] 72)
  have hX0 := heap_alloc_new w (.cells #[nilS, .int .i64 0] 72)
  have HX0 := Lib.hid hX0
  have g0 := cell_of_cells (i := 0) hX0 rfl
  have g1 := cell_of_cells (i := 1) hX0 rfl
  have f0 := frozen_of_cells (i := 0) hX0
  have f1 := frozen_of_cells (i := 1) hX0
  have y1 := (hB0.cell (p := ⟨d, 1, none⟩) hdl).trans c1
  have y2 := (hB0.cell (p := ⟨d, 2, none⟩) hdl).trans c2
  have HB0 := Lib.hid hB0
  have HO := Lib.hid ((h.later hB0).own)
  have HR := Lib.hid h.rep
  have hkey := key_is nm hn
  have HK := Lib.hid hkey
  clear c0 c3 c4 c5 hX0 hB0 hkey
  cases hd : s.down with
  | true =>
    rw [hd] at y2 c2
    have HE : Hid (findV V s nm.data.toList = nilS ∧ findS s nm.data.toList = 0 ∧ findE s nm.data.toList = 7) := Lib.hid (by unfold findV findS findE; rw [hd]; exact ⟨rfl, rfl, rfl⟩)
    rw [HE.out.1, HE.out.2.1, HE.out.2.2]
    clear h hd HE
    go_enter Tryz.func87, Tryz.ntmps87
    go_wp2
    exact bodyPost_ret (v := .tuple #[fileV nilS 0, .int .i64 7]) (by simp [results, Tryz.results87, go_sem, g0, g1]) rfl ⟨rfl, HB0.out⟩
  | false =>
    rw [hd] at y2 c2
    obtain ⟨q, hq⟩ : ∃ q, lkF s.fs nm.data.toList = q := ⟨_, rfl⟩
    have HE : Hid (findV V s nm.data.toList = rowOf V nm.data.toList q ∧ findS s nm.data.toList = synOf q ∧ findE s nm.data.toList = if q.isSome then 0 else 4) := Lib.hid (by unfold findV findS findE; rw [hd, hq]; exact ⟨rfl, rfl, rfl⟩)
    rw [HE.out.1, HE.out.2.1, HE.out.2.2]
    have HQ := Lib.hid hq
    obtain ⟨sp, sn, sc, hsl0⟩ := h.shape nm.data.toList
    rw [hq] at hsl0
    have hsl := hsl0.symm
    clear hsl0
    obtain ⟨sy, hsy⟩ : ∃ v, v = synOf q := ⟨_, rfl⟩
    obtain ⟨ok, hok⟩ : ∃ v, v = q.isSome := ⟨_, rfl⟩
    have HN : Hid (ok = false → (.slice sp sn sc : Value) = nilS ∧ sy = 0) := Lib.hid (fun h => by cases q <;> simp_all [rowOf, synOf])
    rw [← hsl, ← hsy, ← hok]
    have hrn := look_run_ok HO.out HR.out nm HK.out q HQ.out
    rw [← hsl, ← hsy, ← hok] at hrn
    have HRN := Lib.hid hrn
    clear h hd HE hq hsl hsy hok HQ
    have hB1 := HB0.out.trans ((pl1 (w.alloc (.cells #[nilS, .int .i64 0] 72)) (.cells #[.slice sp sn sc, .int .i64 sy] 72)).mono (by simp))
    have hY := blk_stay (pl1 (w.alloc (.cells #[nilS, .int .i64 0] 72)) (.cells #[.slice sp sn sc, .int .i64 sy] 72)) HX0.out
    have HB1 := Lib.hid hB1
    have HY := Lib.hid hY
    clear hB1 hY
    cases ok with
    | false =>
      obtain ⟨hsn, rfl⟩ := HN.out rfl
      injection hsn with e1 e2 e3
      subst e1 e2 e3
      clear HN
      go_enter Tryz.func87, Tryz.ntmps87
      go_wp2
      have k0 := cell_of_cells (i := 0) HY.out rfl
      have k1 := cell_of_cells (i := 1) HY.out rfl
      exact bodyPost_ret (v := .tuple #[fileV nilS 0, .int .i64 4]) (by simp [results, Tryz.results87, go_sem, k0, k1]) rfl ⟨rfl, HB1.out⟩
    | true =>
      go_enter Tryz.func87, Tryz.ntmps87
      have j0 := cell_of_cells (i := 0) HY.out rfl
      have j1 := cell_of_cells (i := 1) HY.out rfl
      have e0 := frozen_of_cells (i := 0) HY.out
      have e1 := frozen_of_cells (i := 1) HY.out
      clear HN
      go_wp2
      have hZ := blk_stay (pl1 (w.alloc (.cells #[.slice sp sn sc, .int .i64 sy] 72)) (.cells #[.slice sp sn sc, .int .i64 sy] 72)) (heap_alloc_new w (.cells #[.slice sp sn sc, .int .i64 sy] 72))
      have k0 := cell_of_cells (i := 0) hZ rfl
      have k1 := cell_of_cells (i := 1) hZ rfl
      exact bodyPost_ret (v := .tuple #[fileV (.slice sp sn sc) sy, .int .i64 0]) (by simp [results, Tryz.results87, go_sem, k0, k1]) rfl ⟨rfl, (pl1 _ _).trans ((pl1 _ _).mono (by simp))⟩
end Go.Proofs.YtddnnhfffmhpmaaGreatDoor.Vd

/- Reading a file; how many bytes there are; is there room. -/
namespace Go.Proofs.YtddnnhfffmhpmaaGreatDoor.Vd
open Go.RowKit Go.Proofs.YtddnnhfffmhpmaaGreatDoor VdM Go.Maps

theorem ByteRow.bytes_at {w : World} {g n c : Nat} {l : List UInt8} (h : ByteRow w (.slice (some ⟨g, 0, none⟩) n c) l) : BytesAt w g l := by
  rcases h.2 with ⟨e, _⟩ | ⟨g', cap, cur, e, _, hgg, hc, _, hsz, ht⟩
  · cases e
  · injection e with e1 e2 e3
    injection e1 with e1
    injection e1 with e1
    subst e1
    intro j hj
    refine ⟨?_, by simp [World.frozen?, hgg]⟩
    rw [cell_of_row _ _ _ _ _ _ hgg]
    have h1 : (cur.toList.take (l.length * 1))[j]? = (l.map byteV)[j]? := by rw [ht]
    rw [List.getElem?_take, if_pos (by omega)] at h1
    rw [← Array.getElem?_toList, h1, List.getElem?_map, List.getElem?_eq_getElem hj]
    rfl
theorem conv_nil (w : World) : (convert 70 9 (.slice none 0 0)).run Tryz.prog w = .ok (.string ⟨#[]⟩) w := by kernel_rfl
theorem conv_row {w : World} {v : Value} {l : List UInt8} (h : ByteRow w v l) : (convert 70 9 v).run Tryz.prog w = .ok (.string (ofBytes l)) w := by
  rcases h.2 with ⟨rfl, e⟩ | ⟨g', cap, cur, rfl, _⟩
  · obtain rfl := List.eq_nil_of_length_eq_zero e
    exact conv_nil w
  · exact conv_string w g' cap l h.bytes_at
theorem At.found {w : World} {F : Nat → Prop} {d m : Nat} {D : MD} {V : Name → Value} {s : Dsk} (h : At w F d m D V s) (n : Name) : ByteRow w (findV V s n) (getF s n).bytes ∧ findS s n = ((getF s n).syn : Int) ∧ ∀ g, (findV V s n).ownBlock = some g → F g := by
  unfold findV findS getF
  cases hd : s.down with
  | true => exact ⟨ByteRow.nil_ w, rfl, fun g hg => by simp [nilS, Value.ownBlock] at hg⟩
  | false =>
    cases hl : lkF s.fs n with
    | none => exact ⟨ByteRow.nil_ w, rfl, fun g hg => by simp [rowOf, nilS, Value.ownBlock] at hg⟩
    | some f => exact ⟨h.row n f hl, rfl, h.fv n f hl⟩
set_option maxHeartbeats 1000000 in
set_option maxRecDepth 100000 in
theorem read_any (w : World) (F : Nat → Prop) (d : Nat) (s : Dsk) (h : Is w F d s) (nm : ByteArray) (hn : nm.size ≤ 1000000000) :
    Calls Tryz.prog 54 #[.pointer (some ⟨d, 0, none⟩), .string nm] w fun e w' => e = .returned (.tuple #[.string (ofBytes (getF s nm.data.toList).bytes), .int .i64 (findE s nm.data.toList)]) ∧ Below w.heap.size w w' := by
  obtain ⟨m, D, V, h⟩ := h
  have HF := Lib.hid (find_any w F d m D V s h nm hn)
  obtain ⟨hrow, hs, hfg⟩ := h.found nm.data.toList
  obtain ⟨sp, sc, hsl⟩ := hrow.shape
  obtain ⟨sn, hsn⟩ : ∃ x, x = (getF s nm.data.toList).bytes.length := ⟨_, rfl⟩
  rw [← hsn] at hsl
  rw [hsl] at hrow HF
  obtain ⟨sy, hsy⟩ : ∃ x, x = findS s nm.data.toList := ⟨_, rfl⟩
  obtain ⟨en, hen⟩ : ∃ x, x = findE s nm.data.toList := ⟨_, rfl⟩
  obtain ⟨l, hl⟩ : ∃ x, x = (getF s nm.data.toList).bytes := ⟨_, rfl⟩
  rw [← hsy, ← hen] at HF
  rw [← hen, ← hl]
  rw [← hl] at hrow
  have HR := Lib.hid hrow
  clear hs hfg hsl hsn hsy hen hl hrow h
  go_enter Tryz.func54, Tryz.ntmps54
  go_wp2_with fail
  refine HF.out.mono ?_
  rintro e w1 ⟨rfl, hb1⟩
  have hr1 := HR.out.stay (w' := w1) fun g hg => hb1.block g (HR.out.lt hg)
  have hr2 := hr1.stay (w' := w1.alloc (.cells #[.slice sp sn sc, .int .i64 sy] 72)) fun g hg => (pl1 w1 _).block g (hr1.lt hg)
  have hcv := conv_row hr2
  have HB := Lib.hid (hb1.trans ((pl1 w1 (.cells #[.slice sp sn sc, .int .i64 sy] 72)).mono hb1.size))
  clear hr1 hr2 hb1
  go_wp2
  go_ret2
  exact ⟨rfl, HB.out⟩
end Go.Proofs.YtddnnhfffmhpmaaGreatDoor.Vd

/- Arm, Down. -/
namespace Go.Proofs.YtddnnhfffmhpmaaGreatDoor.Vd
open Go.RowKit Go.Proofs.YtddnnhfffmhpmaaGreatDoor VdM

def armD (s : Dsk) (a k : Int) : Dsk := if a < 1 then { s with at_ := 0, keep := 0 } else { s with at_ := a, keep := k }
set_option maxRecDepth 100000 in
theorem down_any (w : World) (F : Nat → Prop) (d : Nat) (s : Dsk) (h : Is w F d s) : Calls Tryz.prog 19 #[.pointer (some ⟨d, 0, none⟩)] w fun e w' => e = .returned (.bool s.down) ∧ w = w' := by
  obtain ⟨m, D, V, h⟩ := h
  obtain ⟨c0, c1, c2, c3, c4, c5⟩ := h.cells
  clear h c0 c1 c3 c4 c5
  go_enter Tryz.func19, Tryz.ntmps19
  go_wp2
  go_ret
  exact ⟨rfl, rfl⟩
theorem armed {w : World} {F : Nat → Prop} {d : Nat} {s : Dsk} (h : Is w F d s) (a k : Int) (ha : 0 ≤ a ∧ a ≤ 9223372036854775807) :
    Is ((w.setCell ⟨d, 3, none⟩ (.int .i64 a)).setCell ⟨d, 4, none⟩ (.int .i64 k)) F d { s with at_ := a, keep := k } := by
  obtain ⟨m, D, V, h⟩ := h
  have h1 := h.set 3 (.int .i64 a) { s with at_ := a } rfl ⟨h.ok.q1, h.ok.q2, h.ok.rise, h.ok.names, h.ok.syn, h.ok.fits, h.ok.most, ha⟩ rfl
  have h2 := h1.set 4 (.int .i64 k) { s with at_ := a, keep := k } rfl ⟨h.ok.q1, h.ok.q2, h.ok.rise, h.ok.names, h.ok.syn, h.ok.fits, h.ok.most, ha⟩ rfl
  exact ⟨m, D, V, h2⟩
set_option maxHeartbeats 2000000 in
set_option maxRecDepth 100000 in
theorem arm_any (w : World) (F : Nat → Prop) (d : Nat) (s : Dsk) (h : Is w F d s) (a k : Int) (ha : a ≤ 9223372036854775807) :
    Calls Tryz.prog 18 #[.pointer (some ⟨d, 0, none⟩), .agg #[.int .i64 a, .int .i64 k]] w fun e w' => e = .returned (.tuple #[]) ∧ Went w w' F d (armD s a k) := by
  obtain ⟨N, hN⟩ : ∃ N, N = w.heap.size := ⟨_, rfl⟩
  have hdF : F d := by
    obtain ⟨m, D, V, h'⟩ := h
    exact h'.fd
  have hcell : ∀ W, Is W F d s → W.cell? ⟨d, 3, none⟩ = some (.int .i64 s.at_) ∧ W.cell? ⟨d, 4, none⟩ = some (.int .i64 s.keep) ∧ W.frozen? ⟨d, 3, none⟩ = false ∧ W.frozen? ⟨d, 4, none⟩ = false := fun W h' => by
    obtain ⟨m, D, V, h'⟩ := h'
    obtain ⟨c0, c1, c2, c3, c4, c5⟩ := h'.cells
    exact ⟨c3, c4, h'.free 3, h'.free 4⟩
  unfold armD
  by_cases hlt : a < 1
  · rw [if_pos hlt]
    have hb := pl1 w (.cells #[.int .i64 0, .int .i64 0] 37)
    have hI := h.later hb
    obtain ⟨c3, c4, f3, f4⟩ := hcell _ hI
    have hA := armed hI 0 0 ⟨by omega, by omega⟩
    have hT : Turned F w (((w.alloc (.cells #[.int .i64 0, .int .i64 0] 37)).setCell ⟨d, 3, none⟩ (.int .i64 0)).setCell ⟨d, 4, none⟩ (.int .i64 0)) := ((Turned.of_below hb).set_ hdF 3 _).set_ hdF 4 _
    have HF : Hid (Went w (((w.alloc (.cells #[.int .i64 0, .int .i64 0] 37)).setCell ⟨d, 3, none⟩ (.int .i64 0)).setCell ⟨d, 4, none⟩ (.int .i64 0)) F d { s with at_ := 0, keep := 0 }) := Lib.hid ⟨hT, F, hA, fun _ h => .inl h⟩
    clear hb hI hA hT h hcell hdF hN
    go_enter Tryz.func18, Tryz.ntmps18
    go_wp2
    go_end0
    exact ⟨rfl, HF.out⟩
  · rw [if_neg hlt]
    have hb := pl1 w (.cells #[.int .i64 a, .int .i64 k] 37)
    have hI := h.later hb
    obtain ⟨c3, c4, f3, f4⟩ := hcell _ hI
    have hA := armed hI a k ⟨by omega, ha⟩
    have hT : Turned F w (((w.alloc (.cells #[.int .i64 a, .int .i64 k] 37)).setCell ⟨d, 3, none⟩ (.int .i64 a)).setCell ⟨d, 4, none⟩ (.int .i64 k)) := ((Turned.of_below hb).set_ hdF 3 _).set_ hdF 4 _
    have HF : Hid (Went w (((w.alloc (.cells #[.int .i64 a, .int .i64 k] 37)).setCell ⟨d, 3, none⟩ (.int .i64 a)).setCell ⟨d, 4, none⟩ (.int .i64 k)) F d { s with at_ := a, keep := k }) := Lib.hid ⟨hT, F, hA, fun _ h => .inl h⟩
    clear hb hI hA hT h hcell hdF hN
    go_enter Tryz.func18, Tryz.ntmps18
    go_wp2
    go_end0
    exact ⟨rfl, HF.out⟩
end Go.Proofs.YtddnnhfffmhpmaaGreatDoor.Vd
