/- Own texts, merged (1 of 8). -/
import Derived.Test.YtpinpnbhbngclaaGreatRows
import Derived.WalkKit
import Derived.ProofKit
import Derived.OpenShut
import Derived.ShutString
import Derived.WalkSpells
import Derived.WalkLawsBesides
import Derived.Lib.Hide
import Derived.KernelRfl
import Derived.Laws.AppendOwnNone
import Derived.Laws.OwnMore
import Derived.Deep.RegionHeld3
import Derived.RangeFuncCalls
import Derived.OrdersIn
import Derived.OwnWalkIn
import Derived.Deep.QuietTactic
import Derived.BigQuiet
import Derived.RangeFuncNested
import Derived.RangeFuncBound
import Derived.RangeFuncLeaves
import Derived.Shelf.Abstract
import Derived.Shelf.RegionOpen
import Derived.TacticsInMore
import Derived.LoopNIn
import Derived.LoopIn
import Derived.Laws.EntriesVeiled

/- A law's last step, where of the world behind the call it is known that nothing that was there has turned ('Below'). No condition beyond those of the row. -/
namespace Go.Proofs.YtpinpnbhbngclaaGreat
open Go.ChangeShapes Go.WideShapes Go.ChangeAt Go.RowKit

theorem knob : ownKnob Tryz.prog.godebug = none := by kernel_rfl

theorem post_still {H : Type} {enc : TypeId × Value → H} {P : Program} {f : Func} {s : ChangeSpec} {apart fresh handsOn again : Bool} {W W' : World} {args : Array Value} {v : Value} {ds gs : List (DataW H)} {before pa pv : List MemPlace}
    (hW : DataW.Whole enc P f.params.toList s.vars apart W args.toList ds gs before)
    (hres : ∀ (b : Nat) (sp : Nat → Bool) (hd : Bool), DataW.TrodAll enc P W' b sp hd f.resultTypes.toList (v.resultList f.resultTypes.size) (s.fn H (ds ++ gs)).results [])
    (hargs : ∀ sp : Nat → Bool, (∀ p ∈ before, sp p.block = true) → DataW.TrodAll enc P W' 0 sp true f.params.toList args.toList (s.fn H (ds ++ gs)).args pa)
    (hvars : ∀ sp : Nat → Bool, (∀ p ∈ before, sp p.block = true) → DataW.TrodVars enc P W' sp s.vars (s.fn H (ds ++ gs)).vars pv)
    (hps : before = pa ++ pv) (hb : Below W.heap.size W W')
    (hok : ∀ (j : Nat) (t : TypeId) (r : Value), f.resultTypes[j]? = some t → (v.resultList f.resultTypes.size)[j]? = some r → Value.okWide P W' .any 0 t r) :
    s.post enc P f apart fresh handsOn again W args v W' := by
  have old : ∀ p ∈ before, p.block < W.heap.size := fun p hp => hW.lt p hp
  have oldB : ∀ p ∈ before, (fun b => decide (b < W.heap.size)) p.block = true := fun p hp => by simpa using old p hp
  have e0 : [] ++ pa ++ pv = before := by rw [hps]; simp
  refine ⟨ds, gs, before, [], pa, pv, hW, hres _ _ _, hargs _ oldB, hvars _ oldB, World.keptBut_mono (fun p hp => ⟨hp, .inr ?_⟩) (hb.frame (· ∈ before)), fun _ => ?_⟩
  · rw [hps, List.mem_append] at hp
    exact hp
  obtain ⟨_, _, _, _, _, hz, hn⟩ := hW
  refine ⟨hok, _, _, ([] ++ pa) ++ pv, ⟨[] ++ pa, pv, trodAll_append (hargs _ (fun _ _ => rfl)) (hres _ _ _), hvars _ (fun _ _ => rfl), rfl, fun b off hp => ?_, fun ha => ?_⟩, fun p hp _ => ?_⟩
  · rw [e0] at hp
    rw [hb.frozen (old _ hp)]
    exact hz b off hp
  · have := hn ha
    rw [hps] at this
    simpa using this
  · rw [e0] at hp
    exact hp

theorem laid_out : laidOutB Tryz.prog = true := by kernel_rfl

/-- what was read of the arguments is read again, where nothing that was there has turned -/
theorem trodAll_still {H : Type} {enc : TypeId × Value → H} {P : Program} (hl : laidOutB P = true) {W W' : World} (hb : Below W.heap.size W W') {sp : Nat → Bool} :
    ∀ (ts : List TypeId) (vs : List Value) (ds : List (DataW H)) (ps : List MemPlace), (ts.all fun t => P.readableRec t && decide (t < P.types.size)) = true → (∀ x ∈ ps, x.block < W.heap.size) → (∀ x ∈ ps, sp x.block = true) →
      DataW.TrodAll enc P W 0 (fun _ => true) true ts vs ds ps → DataW.TrodAll enc P W' 0 sp true ts vs ds ps
  | [], vs, ds, ps, _, _, _, h => by
    obtain ⟨rfl, rfl, rfl⟩ := trodAll_nil h
    exact trodAll_mk0
  | t :: ts, vs, ds, ps, hr, hlt, hsp, h => by
    obtain ⟨v, vs', d, ds', p, q, rfl, rfl, rfl, h0, h1⟩ := trodAll_cons h
    rw [List.all_cons, Bool.and_eq_true, Bool.and_eq_true] at hr
    have h0' := WideElems.Trod_stays hl hr.1.1 (of_decide_eq_true hr.1.2) h0 (fun x hx => hb.same (hlt x (List.mem_append_left _ hx))) (sp' := sp) (fun x hx => hsp x (List.mem_append_left _ hx))
    exact trodAll_cons_mk h0' (trodAll_still hl hb ts vs' ds' q hr.2 (fun x hx => hlt x (List.mem_append_right _ hx)) (fun x hx => hsp x (List.mem_append_right _ hx)) h1)

set_option maxRecDepth 100000 in
/-- A LAW's last step: it has answered true, and nothing that was there has turned. -/
theorem law_post {H : Type} {enc : TypeId × Value → H} {f : Func} {s : ChangeSpec} {W W' : World} {args : Array Value} {ds : List (DataW H)} {before : List MemPlace}
    (hW : DataW.Whole enc Tryz.prog f.params.toList s.vars false W args.toList ds [] before) (hv : s.vars = [])
    (hres : (s.fn H (ds ++ [])).results = [.lit (.bool true)]) (hargs : (s.fn H (ds ++ [])).args = ds) (hvars : (s.fn H (ds ++ [])).vars = [])
    (hr : (f.params.toList.all fun t => Tryz.prog.readableRec t && decide (t < Tryz.prog.types.size)) = true) (hrt : f.resultTypes = #[4])
    (hb : Below W.heap.size W W') : s.post enc Tryz.prog f false true false false W args (.bool true) W' := by
  have hW0 := hW
  obtain ⟨p, q, hA, hV, rfl, hfz, hnd⟩ := hW
  rw [hv] at hV
  have hq : q = [] := hV
  subst hq
  refine post_still (pa := p) (pv := []) hW0 (fun b sp hd => ?_) (fun sp hsp => ?_) (fun sp hsp => ?_) rfl hb ?_
  · rw [hres, hrt]
    exact trodAll_mk1 (shut_bool Tryz.underlying4 true)
  · rw [hargs]
    exact trodAll_still laid_out hb _ _ _ _ hr (fun x hx => hW0.lt x (by simpa using hx)) (fun x hx => hsp x (by simpa using hx)) hA
  · rw [hvars, hv]
    rfl
  · exact ok_one hrt rfl (okWide_bool_mk Tryz.underlying4 true)
end Go.Proofs.YtpinpnbhbngclaaGreat

/- What every layer's walks use, whatever functions the seat holds: what turns of the world. -/
namespace Go.Proofs.YtpinpnbhbngclaaGreat
open Go.RowKit

theorem ret_int {k : IntKind} {a b : Int} (h : a = b) : Ending.returned (.int k a) = .returned (.int k b) := by rw [h]
theorem heap_setCell_row {w : World} {g : Nat} {t : TypeId} {cs : Array Value} (h : w.heap[g]? = some (.cells cs t (0, 0))) (i : Nat) (u : Value) :
    (w.setCell ⟨g, i, none⟩ u).heap[g]? = some (.cells (cs.setIfInBounds i u) t (0, 0)) := by
  simp [World.setCell, Array.getElem?_modify, h]
/-- nothing that was there has turned but block b -/
theorem only_set {a w : World} {b : Nat} (h : a.grownBy w (some b)) (i : Nat) (u : Value) : a.grownBy (w.setCell ⟨b, i, none⟩ u) (some b) :=
  ⟨h.os, h.tape, h.output, by simpa [World.setCell] using h.size, fun j hj hne => (Below.heap_setCell w _ u j (fun e => hne (by rw [e]))).trans (h.block j hj hne)⟩
theorem only_draw {a w : World} {r : Option Nat} (h : a.grownBy w r) : a.grownBy w.drew r := ⟨h.os, h.tape, h.output, h.size, h.block⟩
theorem only_new {a w : World} {r : Option Nat} (h : a.grownBy w r) (o : Obj) : a.grownBy (w.alloc o) r :=
  ⟨h.os, h.tape, h.output, Nat.le_trans h.size (by simp), fun i hi hne => (Below.heap_alloc w o i (Nat.lt_of_lt_of_le hi h.size)).trans (h.block i hi hne)⟩
theorem only_row {a w : World} {b : Nat} (h : a.grownBy w (some b)) (cs : Array Value) : a.grownBy (w.setRow b cs) (some b) :=
  ⟨h.os, h.tape, h.output, by simpa using h.size, fun j hj hne => by
    have e : b ≠ j := fun e => hne (by rw [e])
    have : (w.setRow b cs).heap[j]? = w.heap[j]? := by simp [World.setRow, Array.getElem?_modify, e]
    exact this.trans (h.block j hj hne)⟩
theorem cell_of_grown {a w : World} {r : Option Nat} (h : a.grownBy w r) {p : Addr} (hp : p.block < a.heap.size) (hr : some p.block ≠ r) : w.cell? p = a.cell? p := World.cell?_of_block (w := a) (h.block p.block hp hr)
theorem below_of_new {w w' : World} {o : Obj} (h : (w.alloc o).grownBy w' (some w.heap.size)) : Below w.heap.size w w' :=
  ⟨h.os, h.tape, h.output, Nat.le_trans (by simp) h.size, fun k hk => (h.block k (by simp; omega) (by simp; omega)).trans (Below.heap_alloc w o k hk)⟩
theorem add_none (b o j : Nat) : (⟨b, o, none⟩ : Addr).add j = ⟨b, o + j, none⟩ := by unfold Addr.add; split <;> simp_all
theorem int_info : (Tryz.prog.info? 3).map (fun i => (i.zero, i.size, i.bytes)) = some (some (.int .i64 0), 1, 8) := by kernel_rfl
end Go.Proofs.YtpinpnbhbngclaaGreat

/- Pairs of numbers (a document with its score, a post, what is told of a block): as values, in rows, as one's own row. -/
namespace Go.Proofs.YtpinpnbhbngclaaGreat
open Go.RowKit

/-- a document with its score -/
def sv (p : Int × Int) : Value := .agg #[.int .i64 p.1, .int .i64 p.2]
def enc2 (p : Int × Int) : List Value := [.int .i64 p.1, .int .i64 p.2]
def Pairs (w : World) (A : Option Addr) (n : Nat) (l : List (Int × Int)) : Prop :=
  l.length = n ∧ ∀ k (h : k < l.length), ∃ b o, A = some ⟨b, o, none⟩ ∧ b < w.heap.size ∧ w.cell? ⟨b, o + k * 2, none⟩ = some (.int .i64 l[k].1) ∧ w.cell? ⟨b, o + k * 2 + 1, none⟩ = some (.int .i64 l[k].2)
theorem Pairs.below {w w' : World} {B : Nat} {A : Option Addr} {n : Nat} {l : List (Int × Int)} (h : Pairs w A n l) (hb : Below B w w') (hB : ∀ b o s, A = some ⟨b, o, s⟩ → b < B) : Pairs w' A n l :=
  ⟨h.1, fun k hk => by
    obtain ⟨b, o, e, hl, h0, h1⟩ := h.2 k hk
    have := hB b o none e
    exact ⟨b, o, e, Nat.lt_of_lt_of_le hl hb.size, (hb.cell (p := ⟨b, o + k * 2, none⟩) this).trans h0, (hb.cell (p := ⟨b, o + k * 2 + 1, none⟩) this).trans h1⟩⟩
theorem Pairs.later {w w' : World} {A : Option Addr} {n : Nat} {l : List (Int × Int)} (h : Pairs w A n l) (hb : Below w.heap.size w w') : Pairs w' A n l :=
  ⟨h.1, fun k hk => by
    obtain ⟨b, o, e, hl, h0, h1⟩ := h.2 k hk
    exact ⟨b, o, e, Nat.lt_of_lt_of_le hl hb.size, (hb.cell (p := ⟨b, o + k * 2, none⟩) hl).trans h0, (hb.cell (p := ⟨b, o + k * 2 + 1, none⟩) hl).trans h1⟩⟩

theorem flat_len (l : List (Int × Int)) : (l.flatMap enc2).length = l.length * 2 := by
  induction l with
  | nil => rfl
  | cons a t ih =>
    rw [List.flatMap_cons, List.length_append, ih, List.length_cons, Nat.succ_mul, Nat.add_comm]
    rfl
theorem flat_get (l : List (Int × Int)) (k : Nat) (h : k < l.length) : (l.flatMap enc2)[k * 2]? = some (.int .i64 l[k].1) ∧ (l.flatMap enc2)[k * 2 + 1]? = some (.int .i64 l[k].2) := by
  induction l generalizing k with
  | nil => simp at h
  | cons a t ih =>
    cases k with
    | zero => exact ⟨rfl, rfl⟩
    | succ k =>
      have := ih k (by simpa using h)
      rw [show (k + 1) * 2 = k * 2 + 1 + 1 by omega]
      exact this
theorem flat_set (l : List (Int × Int)) (k : Nat) (p : Int × Int) (h : k < l.length) : (l.set k p).flatMap enc2 = ((l.flatMap enc2).set (k * 2) (.int .i64 p.1)).set (k * 2 + 1) (.int .i64 p.2) := by
  induction l generalizing k with
  | nil => simp at h
  | cons a t ih =>
    cases k with
    | zero => rfl
    | succ k =>
      have := ih k (by simpa using h)
      rw [List.set_cons_succ, List.flatMap_cons, this, List.flatMap_cons, show (k + 1) * 2 = k * 2 + 1 + 1 by omega]
      rfl

/-- the slice v reads as l -/
def Prd (w : World) (v : Value) (l : List (Int × Int)) : Prop := ∃ A cp, v = .slice A l.length cp ∧ l.length ≤ cp ∧ (A = none → cp = 0) ∧ Pairs w A l.length l
theorem Prd.later {w w' : World} {v : Value} {l : List (Int × Int)} (h : Prd w v l) (hb : Below w.heap.size w w') : Prd w' v l := by
  obtain ⟨A, cp, e, h1, h2, h3⟩ := h
  exact ⟨A, cp, e, h1, h2, h3.later hb⟩
theorem run_equalIn_sl_nil {P : Program} (w : World) (d : Nat) (t e : TypeId) (a : Option Addr) (l c : Nat) (h : P.underlying t = some (.slice e)) : (Op.equalIn (d + 1) t (.slice a l c) (.slice none 0 0)).run P w = .ok a.isNone w := by
  cases a <;> simp [Op.equalIn, run_underlying h]
theorem run_equal_sl_nil {P : Program} (w : World) (t e : TypeId) (a : Option Addr) (l c : Nat) (h : P.underlying t = some (.slice e)) : (Op.equal t (.slice a l c) (.slice none 0 0)).run P w = .ok a.isNone w := run_equalIn_sl_nil w 9999 t e a l c h
theorem run_eql_sl_nil {P : Program} (w : World) (t e : TypeId) (a : Option Addr) (l c : Nat) (h : P.underlying t = some (.slice e)) : (binOp .eql t (.slice a l c) (.slice none 0 0)).run P w = .ok (.bool a.isNone) w := by
  simp only [binOp]
  simp [run_equal_sl_nil w t e a l c h]

theorem Pairs.take {w : World} {A : Option Addr} {n : Nat} {l : List (Int × Int)} (h : Pairs w A n l) (k : Nat) (hk : k ≤ n) : Pairs w A k (l.take k) := by
  refine ⟨by rw [List.length_take, h.1]; omega, fun j hj => ?_⟩
  rw [List.length_take] at hj
  rw [List.getElem_take]
  exact h.2 j (by omega)
theorem Pairs.drop {w : World} {b o : Nat} {n : Nat} {l : List (Int × Int)} (h : Pairs w (some ⟨b, o, none⟩) n l) (k : Nat) : Pairs w (some ⟨b, o + k * 2, none⟩) (n - k) (l.drop k) := by
  refine ⟨by rw [List.length_drop, h.1], fun j hj => ?_⟩
  rw [List.length_drop] at hj
  rw [List.getElem_drop]
  obtain ⟨b', o', e, hb, c0, c1⟩ := h.2 (k + j) (by omega)
  injection e with e
  injection e with e1 e2 e3
  subst e1; subst e2
  refine ⟨b, o + k * 2, rfl, hb, ?_, ?_⟩
  · rw [show o + k * 2 + j * 2 = o + (k + j) * 2 by omega]; exact c0
  · rw [show o + k * 2 + j * 2 + 1 = o + (k + j) * 2 + 1 by omega]; exact c1
theorem Prd.at_ {w : World} {A : Option Addr} {n cp : Nat} {l : List (Int × Int)} (h : Prd w (.slice A n cp) l) (k : Nat) (hk : k < l.length) : ∃ b o, A = some ⟨b, o, none⟩ ∧ b < w.heap.size ∧ w.cell? ⟨b, o + k * 2, none⟩ = some (.int .i64 l[k].1) ∧ w.cell? ⟨b, o + k * 2 + 1, none⟩ = some (.int .i64 l[k].2) := by
  obtain ⟨A', cp', e, _, _, hP⟩ := h
  injection e with e1 e2 e3
  subst e1
  exact hP.2 k hk
theorem Prd.take {w : World} {A : Option Addr} {n cp : Nat} {l : List (Int × Int)} (h : Prd w (.slice A n cp) l) (k : Nat) (hk : k ≤ l.length) : Prd w (.slice A k cp) (l.take k) := by
  obtain ⟨A', cp', e, hc, hA, hP⟩ := h
  injection e with e1 e2 e3
  subst e1; subst e3
  have hlen : (l.take k).length = k := by rw [List.length_take]; omega
  exact ⟨A, cp, by rw [hlen], by rw [hlen]; omega, hA, by rw [hlen]; exact hP.take k hk⟩
theorem Prd.form {w : World} {v : Value} {l : List (Int × Int)} (h : Prd w v l) : ∃ A cp, v = .slice A l.length cp ∧ l.length ≤ cp := by
  obtain ⟨A, cp, e, hc, _, _⟩ := h
  exact ⟨A, cp, e, hc⟩

/-- one's own row of pairs, of elements of type e -/
def PRow (e : TypeId) (w : World) (base : Nat) (v : Value) (l : List (Int × Int)) : Prop := w.ownsRow base e 2 v l.length (l.flatMap enc2)
section
variable {e : TypeId}
theorem PRow.nil_ (w : World) (base : Nat) : PRow e w base (.slice none 0 0) [] := World.ownsRow_nil _ _ _ _
theorem PRow.kept {w w' : World} {base : Nat} {v : Value} {l : List (Int × Int)} (h : PRow e w base v l) (hk : ∀ g, v.ownBlock = some g → w'.heap[g]? = w.heap[g]?) : PRow e w' base v l := by
  refine ⟨h.1, ?_⟩
  rcases h.2 with hn | ⟨g, cap, cur, rfl, hbg, hgg, rest⟩
  · exact .inl hn
  · exact .inr ⟨g, cap, cur, rfl, hbg, (hk g rfl).trans hgg, rest⟩
theorem PRow.later {w w' : World} {base : Nat} {v : Value} {l : List (Int × Int)} (h : PRow e w base v l) (hb : Below w.heap.size w w') : PRow e w' base v l :=
  h.kept fun g hg => hb.block g (World.ownsRow.lt h g hg).2
theorem PRow.base_mono {w : World} {base base' : Nat} {v : Value} {l : List (Int × Int)} (h : PRow e w base v l) (hb : base' ≤ base) : PRow e w base' v l := by
  refine ⟨h.1, ?_⟩
  rcases h.2 with hn | ⟨g, cap, cur, rfl, hbg, rest⟩
  · exact .inl hn
  · exact .inr ⟨g, cap, cur, rfl, Nat.le_trans hb hbg, rest⟩
theorem PRow.cells {w : World} {base : Nat} {v : Value} {l : List (Int × Int)} (h : PRow e w base v l) (hne : 0 < l.length) :
    ∃ g cap, v = .slice (some ⟨g, 0, none⟩) l.length cap ∧ base ≤ g ∧ g < w.heap.size ∧ l.length ≤ cap ∧ (∀ j, w.frozen? ⟨g, j, none⟩ = false) ∧ ∀ k (hk : k < l.length), w.cell? ⟨g, k * 2, none⟩ = some (.int .i64 l[k].1) ∧ w.cell? ⟨g, k * 2 + 1, none⟩ = some (.int .i64 l[k].2) := by
  have h0 := h
  rcases h.2 with ⟨rfl, hn⟩ | ⟨g, cap, cur, rfl, hbg, hgg, hnc, rest⟩
  · omega
  · refine ⟨g, cap, rfl, hbg, (Array.getElem?_eq_some_iff.1 hgg).1, by omega, fun j => by unfold World.frozen?; simp only [hgg]; simp, fun k hk => ?_⟩
    obtain ⟨f0, f1⟩ := flat_get l k hk
    have c0 := World.ownsRow.cells h0 (g := g) rfl _ _ f0
    have c1 := World.ownsRow.cells h0 (g := g) rfl _ _ f1
    rw [add_none, Nat.zero_add] at c0 c1
    exact ⟨c0, c1⟩
theorem PRow.form {w : World} {base : Nat} {v : Value} {l : List (Int × Int)} (h : PRow e w base v l) : ∃ A cap, v = .slice A l.length cap ∧ l.length ≤ cap ∧ (A = none → cap = 0) := by
  rcases h.2 with ⟨rfl, hn⟩ | ⟨g, cap, cur, rfl, hbg, hgg, hnc, rest⟩
  · rw [hn]; exact ⟨none, 0, rfl, Nat.le_refl _, fun _ => rfl⟩
  · exact ⟨_, cap, rfl, by omega, fun e => by cases e⟩
theorem PRow.prd {w : World} {base : Nat} {v : Value} {l : List (Int × Int)} (h : PRow e w base v l) : Prd w v l := by
  by_cases hl : 0 < l.length
  · obtain ⟨g, cap, rfl, _, hg, hcap, _, hc⟩ := h.cells hl
    refine ⟨_, cap, rfl, hcap, (fun e => by cases e), rfl, fun k hk => ⟨g, 0, rfl, hg, ?_⟩⟩
    rw [Nat.zero_add]
    exact hc k hk
  · obtain ⟨A, cap, rfl, h1, h2⟩ := h.form
    exact ⟨A, cap, rfl, h1, h2, rfl, fun k hk => by omega⟩
/-- what an append onto one's own row needs to know of its types -/
structure PairTy (e T : TypeId) : Prop where
  info : (Tryz.prog.info? e).map (fun i => (i.zero, i.size, i.bytes)) = some (some (sv (0, 0)), 2, 16)
  sl : Tryz.prog.underlying T = some (.slice e)
/-- append of one onto one's own row -/
theorem wpList_append_p {w : World} {ops : Array Oper} {rest : List Oper} {o : Oper} {a : Act} {Q : Exit → Act → World → Prop} {T : TypeId} (ty : PairTy e T) (hgd : o.guard = none) (s x : Operand)
    (ho : o.op = .call { callee := .builtin .append, args := #[s, x], argTypes := #[T, T] })
    (base : Nat) (v : Value) (l : List (Int × Int)) (hs : a.eval s = v) (hown : PRow e w base v l)
    (g c : Nat) (p : Int × Int) (hx : a.eval x = .slice (some ⟨g, 0, none⟩) 1 c) (hc0 : w.cell? ⟨g, 0, none⟩ = some (.int .i64 p.1)) (hc1 : w.cell? ⟨g, 1, none⟩ = some (.int .i64 p.2)) (hbase : base ≤ w.heap.size) (hn : l.length ≤ 1000000000)
    (h : ∀ v' w', PRow e w' base v' (l ++ [p]) → w.grownBy w' v.ownBlock → wpList Tryz.prog ops Q rest (a.put o.dst v') w') : wpList Tryz.prog ops Q (o :: rest) a w := by
  obtain ⟨i0, hi, hz0, hz1, hz2⟩ := info_parts ty.info
  refine wpList_append_own w hgd s x T ho base e i0 _ 2 16 ty.sl hi hz0 hz1 hz2 rfl (by omega) _ _ _ hs hown ⟨g, 0, none⟩ 1 c (enc2 p) hx rfl (fun j u hu => ?_) (fun u hu => ?_) (by simp [maxLen]; omega) (by omega) hbase ?_
  · match j, hu with
    | 0, hu => simp [enc2] at hu; subst hu; rw [add_none]; exact hc0
    | 1, hu => simp [enc2] at hu; subst hu; rw [add_none]; exact hc1
  · simp [enc2] at hu; rcases hu with rfl | rfl <;> rfl
  · intro v' w' hown' hg' hiff
    refine h v' w' ?_ hg'
    unfold PRow
    rw [List.length_append, List.flatMap_append]
    simpa using hown'
set_option maxRecDepth 100000 in
/-- append of what is read onto one's own row -/
theorem wp_append_ps {w : World} {o : Oper} {a : Act} {K : Act → World → Prop} {Q : Exit → Act → World → Prop} {T : TypeId} (ty : PairTy e T) (s x : Operand)
    (ho : o.op = .call { callee := .builtin .append, args := #[s, x], argTypes := #[T, T] })
    (base : Nat) (v0 : Value) (l0 : List (Int × Int)) (hs : a.eval s = v0) (hown : PRow e w base v0 l0) (hbase : base ≤ w.heap.size)
    (A : Option Addr) (n cp : Nat) (l : List (Int × Int)) (hx : a.eval x = .slice A n cp) (hS : Pairs w A n l) (hA : A = none → cp = 0) (hn : l0.length + n ≤ 1000000000)
    (h : ∀ v' w', PRow e w' base v' (l0 ++ l) → w.grownBy w' v0.ownBlock → K (a.put o.dst v') w') : o.wp Tryz.prog a w K Q := by
  obtain ⟨i0, hi, hz0, hz1, hz2⟩ := info_parts ty.info
  rcases A with _ | ad
  · have hn0 : n = 0 := by
      rcases Nat.eq_zero_or_pos n with e | e
      · exact e
      · obtain ⟨b, o, e', _⟩ := hS.2 0 (by rw [hS.1]; exact e)
        cases e'
    subst hn0
    have hcp := hA rfl
    subst hcp
    have hl0 : l = [] := List.eq_nil_of_length_eq_zero hS.1
    subst hl0
    have hrun := run_append_owned_none (P := Tryz.prog) (w := w) base T o.type e i0 2 ty.sl hi v0 l0.length (l0.flatMap enc2) hown
    have hfin := h v0 w (by rw [List.append_nil]; exact hown) (World.grownBy.refl w _)
    unfold Oper.wp
    simp [execOp, ho, resolve, invoke, builtin, hs, hx, hrun, Result.andThen]
    exact hfin
  · refine wp_append_own w s x T ho base e i0 _ 2 16 ty.sl hi hz0 hz1 hz2 rfl (by omega) v0 l0.length (l0.flatMap enc2) hs hown ad n cp (l.flatMap enc2) hx (by rw [flat_len, hS.1]) (fun j u hu => ?_) (fun u hu => ?_) (by simp [maxLen]; omega) (by omega) hbase ?_
    · have hj : j < l.length * 2 := by
        have := (List.getElem?_eq_some_iff.1 hu).1
        rwa [flat_len] at this
      obtain ⟨b, o, e, _, h0, h1⟩ := hS.2 (j / 2) (by omega)
      obtain ⟨g0, g1⟩ := flat_get l (j / 2) (by omega)
      injection e with e
      subst e
      rw [add_none]
      rcases Nat.mod_two_eq_zero_or_one j with hm | hm
      · have ej : j = j / 2 * 2 := by omega
        rw [ej, g0] at hu
        rw [ej]
        exact h0.trans hu
      · have ej : j = j / 2 * 2 + 1 := by omega
        rw [ej, g1] at hu
        rw [ej, ← Nat.add_assoc]
        exact h1.trans hu
    · simp only [List.mem_flatMap, enc2] at hu
      obtain ⟨t, _, hu⟩ := hu
      simp at hu
      rcases hu with rfl | rfl <;> rfl
    · intro v' w' hown' hg' _
      refine h v' w' ?_ hg'
      unfold PRow
      rw [List.length_append, List.flatMap_append, hS.1]
      exact hown'
theorem wpList_append_ps {w : World} {ops : Array Oper} {rest : List Oper} {o : Oper} {a : Act} {Q : Exit → Act → World → Prop} {T : TypeId} (ty : PairTy e T) (hgd : o.guard = none) (s x : Operand)
    (ho : o.op = .call { callee := .builtin .append, args := #[s, x], argTypes := #[T, T] })
    (base : Nat) (v0 : Value) (l0 : List (Int × Int)) (hs : a.eval s = v0) (hown : PRow e w base v0 l0) (hbase : base ≤ w.heap.size)
    (A : Option Addr) (n cp : Nat) (l : List (Int × Int)) (hx : a.eval x = .slice A n cp) (hS : Pairs w A n l) (hA : A = none → cp = 0) (hn : l0.length + n ≤ 1000000000)
    (h : ∀ v' w', PRow e w' base v' (l0 ++ l) → w.grownBy w' v0.ownBlock → wpList Tryz.prog ops Q rest (a.put o.dst v') w') : wpList Tryz.prog ops Q (o :: rest) a w :=
  wpList_plain hgd fun _ hK => wp_append_ps ty s x ho base v0 l0 hs hown hbase A n cp l hx hS hA hn fun v' w' h2 h3 => hK _ _ (h v' w' h2 h3)
end
end Go.Proofs.YtpinpnbhbngclaaGreat

/- A region that draws its order, in a number of steps that grows with its operations, not with its orders: each operation's value is told by a property that stays as memory is made. -/
namespace Go.Proofs.YtpinpnbhbngclaaGreat
open Go.RowKit

/-- of what was there only blocks of S have turned -/
structure Turned (S : Nat → Prop) (w w' : World) : Prop where
  os : w'.os = w.os
  tape : w'.tape = w.tape
  output : w'.output = w.output
  size : w.heap.size ≤ w'.heap.size
  block : ∀ k, k < w.heap.size → ¬ S k → w'.heap[k]? = w.heap[k]?
section
variable {S : Nat → Prop} {w w' w'' : World}
theorem Turned.refl (S : Nat → Prop) (w : World) : Turned S w w := ⟨rfl, rfl, rfl, Nat.le_refl _, fun _ _ _ => rfl⟩
theorem Turned.trans (h1 : Turned S w w') (h2 : Turned S w' w'') : Turned S w w'' :=
  ⟨h2.os.trans h1.os, h2.tape.trans h1.tape, h2.output.trans h1.output, Nat.le_trans h1.size h2.size, fun k hk hs => (h2.block k (Nat.lt_of_lt_of_le hk h1.size) hs).trans (h1.block k hk hs)⟩
theorem Turned.wide {T : Nat → Prop} (h : Turned S w w') (hT : ∀ k, S k → T k) : Turned T w w' := ⟨h.os, h.tape, h.output, h.size, fun k hk hs => h.block k hk (fun x => hs (hT k x))⟩
theorem Turned.of_grown {b : Nat} (h : w.grownBy w' (some b)) (hS : S b) : Turned S w w' :=
  ⟨h.os, h.tape, h.output, h.size, fun k hk hs => h.block k hk (fun e => hs (by injection e with e; rw [e]; exact hS))⟩
theorem Turned.set_ (h : Turned S w w') {b : Nat} (hS : S b) (i : Nat) (u : Value) : Turned S w (w'.setCell ⟨b, i, none⟩ u) :=
  h.trans (Turned.of_grown (only_set (World.grownBy.refl w' _) i u) hS)
theorem Turned.alloc (h : Turned S w w') (o : Obj) : Turned S w (w'.alloc o) :=
  ⟨h.os, h.tape, h.output, Nat.le_trans h.size (by simp), fun k hk hs => (Below.heap_alloc w' o k (Nat.lt_of_lt_of_le hk h.size)).trans (h.block k hk hs)⟩
theorem Turned.cell (h : Turned S w w') {p : Addr} (hp : p.block < w.heap.size) (hS : ¬ S p.block) : w'.cell? p = w.cell? p := World.cell?_of_block (h.block p.block hp hS)
theorem Turned.frozen (h : Turned S w w') {p : Addr} (hp : p.block < w.heap.size) (hS : ¬ S p.block) : w'.frozen? p = w.frozen? p := World.frozen?_of_block (h.block p.block hp hS)
theorem Turned.grown (h : Turned S w w') {b : Nat} (hS : ∀ k, k < w.heap.size → S k → k = b) : w.grownBy w' (some b) :=
  ⟨h.os, h.tape, h.output, h.size, fun k hk hne => h.block k hk (fun s => hne (by rw [hS k hk s]))⟩
/-- blocks that are new may turn besides -/
theorem Turned.from_new (h1 : Turned S w w') (h2 : Turned (fun k => S k ∨ w.heap.size ≤ k) w' w'') : Turned S w w'' :=
  ⟨h2.os.trans h1.os, h2.tape.trans h1.tape, h2.output.trans h1.output, Nat.le_trans h1.size h2.size, fun k hk hs => (h2.block k (Nat.lt_of_lt_of_le hk h1.size) (fun x => x.elim hs (fun y => by omega))).trans (h1.block k hk hs)⟩
end
theorem Turned.drew {S : Nat → Prop} {w w' : World} (h : Turned S w w') : Turned S w w'.drew := ⟨h.os, h.tape, h.output, h.size, h.block⟩
theorem Turned.of_below {S : Nat → Prop} {w w' : World} (h : Below w.heap.size w w') : Turned S w w' := ⟨h.os, h.tape, h.output, h.size, fun k hk _ => h.block k hk⟩
/-- made memory behind a turned world -/
theorem Turned.on {S : Nat → Prop} {w w' w'' : World} (h : Turned S w w') (hb : Below w'.heap.size w' w'') : Turned S w w'' := h.trans (Turned.of_below hb)
/-- seen from a world ahead of the blocks that turned -/
theorem Turned.below {S : Nat → Prop} {u w w' : World} (h : Turned S w w') (hu : Below u.heap.size u w) (hS : ∀ k, S k → u.heap.size ≤ k) : Below u.heap.size u w' :=
  hu.trans ⟨h.os, h.tape, h.output, h.size, fun k hk => h.block k (Nat.lt_of_lt_of_le hk hu.size) (fun s => absurd (hS k s) (by omega))⟩
/-- a store into a block that is new, or S's -/
theorem Turned.put_ {S : Nat → Prop} {w w' : World} (h : Turned S w w') {b : Nat} (hb : S b ∨ w.heap.size ≤ b) (i : Nat) (u : Value) : Turned S w (w'.setCell ⟨b, i, none⟩ u) :=
  ⟨h.os, h.tape, h.output, by simpa [World.setCell] using h.size, fun k hk hs => (Below.heap_setCell w' _ u k (fun e => by
    have e' : k = b := e
    rcases hb with hb | hb
    · exact hs (e' ▸ hb)
    · omega)).trans (h.block k hk hs)⟩
/-- the frame, each of the temporaries ds holding what f tells -/
def linFill (t : Array Value) (ds : List Tmp) (f : Tmp → Value) : Array Value := ds.foldl (fun t d => t.setIfInBounds d (f d)) t
theorem linFill_get (ds : List Tmp) (f : Tmp → Value) : ∀ (t : Array Value) (k : Nat), (linFill t ds f)[k]? = if k ∈ ds then t[k]?.map (fun _ => f k) else t[k]? := by
  unfold linFill
  induction ds with
  | nil => intro t k; simp
  | cons d ds ih =>
    intro t k
    rw [List.foldl_cons, ih, Array.getElem?_setIfInBounds]
    by_cases h : d = k
    · subst h
      by_cases hs : d < t.size
      · by_cases hm : d ∈ ds <;> simp [hm, hs]
      · by_cases hm : d ∈ ds <;> simp [hm, hs]
    · have h' : ¬ k = d := fun e => h e.symm
      simp [h, h']
theorem linFill_self (t : Array Value) (ds : List Tmp) : linFill t ds (fun d => t.getD d undef) = t := by
  apply Array.ext_getElem?
  intro k
  rw [linFill_get]
  by_cases h : k ∈ ds
  · rw [if_pos h]
    by_cases hs : k < t.size
    · simp [hs]
    · simp [Array.getElem?_eq_none (Nat.le_of_not_lt hs)]
  · rw [if_neg h]
theorem linFill_size (ds : List Tmp) (f : Tmp → Value) : ∀ t : Array Value, (linFill t ds f).size = t.size := by
  unfold linFill
  induction ds with
  | nil => intro t; rfl
  | cons d ds ih => intro t; rw [List.foldl_cons, ih]; simp
theorem linFill_set (t : Array Value) (ds : List Tmp) (f : Tmp → Value) (d : Tmp) (v : Value) (hd : d ∈ ds) :
    (linFill t ds f).setIfInBounds d v = linFill t ds (fun k => if k = d then v else f k) := by
  apply Array.ext_getElem?
  intro k
  rw [linFill_get, Array.getElem?_setIfInBounds, linFill_size, linFill_get]
  by_cases h : d = k
  · subst h
    by_cases hs : d < t.size
    · simp [hd, hs]
    · simp [hd, hs]
  · have h' : ¬ k = d := fun e => h e.symm
    simp [h, h']

section
variable {P : Program} {ops : Array Oper} {Q : Exit → Act → World → Prop}

/-- whatever comes up, J stays: then the region is walked -/
theorem wpAny_inv {md : Region.Mode} {J : Array Bool → Act → World → Prop}
    (hstep : ∀ listed a w i, listed.size = ops.size → J listed a w → i ∈ Region.ready md ops listed → wpOp P ops Q i (J (listed.setIfInBounds i true)) a w)
    (hend : ∀ listed a w, listed.size = ops.size → J listed a w → Region.ready md ops listed = [] → Q .normal a w) :
    ∀ fuel listed a w, listed.size = ops.size → (listed.toList.filter (! ·)).length ≤ fuel → J listed a w → wpAny P md ops Q fuel listed a w
  | 0, listed, a, w, hsz, hf, hJ => by
    have hr : Region.ready md ops listed = [] := by
      cases hr : Region.ready md ops listed with
      | nil => rfl
      | cons j js =>
        have hj : j ∈ Region.ready md ops listed := by rw [hr]; exact List.mem_cons_self
        obtain ⟨h0, _⟩ := mem_ready.1 hj
        have hlt : j < listed.size := by
          rcases Nat.lt_or_ge j listed.size with h | h
          · exact h
          · simp [Array.getElem?_eq_none h] at h0
        have hm : listed[j] ∈ listed.toList.filter (! ·) := by
          rw [List.mem_filter]
          refine ⟨by simp, ?_⟩
          simp [hlt] at h0
          simp [h0]
        have := List.length_pos_of_mem hm
        omega
    exact ⟨hr, hend listed a w hsz hJ hr⟩
  | fuel + 1, listed, a, w, hsz, hf, hJ => by
    refine ⟨hend listed a w hsz hJ, fun i hi => wpOp_mono (fun a' w' hJ' => ?_) (hstep listed a w i hsz hJ hi)⟩
    refine wpAny_inv hstep hend fuel _ a' w' (by simpa using hsz) ?_ hJ'
    obtain ⟨h0, _⟩ := mem_ready.1 hi
    have hlt : i < listed.size := by
      rcases Nat.lt_or_ge i listed.size with h | h
      · exact h
      · simp [Array.getElem?_eq_none h] at h0
    have h0' : listed.toList[i]'(by simpa using hlt) = false := by simpa [hlt] using h0
    have key : ∀ (l : List Bool) (i : Nat) (h : i < l.length), l[i] = false → (l.set i true |>.filter (! ·)).length + 1 = (l.filter (! ·)).length := by
      intro l
      induction l with
      | nil => intro i h; simp at h
      | cons b l ih =>
        intro i h hb
        match i with
        | 0 => simp at hb; subst hb; simp
        | i + 1 =>
          simp at hb
          have := ih i (by simpa using h) hb
          cases b <;> simp <;> omega
    have := key listed.toList i (by simpa using hlt) h0'
    simp only [Array.toList_setIfInBounds]
    omega

/-- the temporaries that the region fills -/
def linDs (l : List Oper) : List Tmp := l.filterMap (·.dst)
/-- the order of the text is one of the orders; no two operations fill one temporary -/
def linB (l : List Oper) : Bool :=
  (l.zipIdx.all fun (o, i) => o.after.all fun e => !Region.binds .any e || decide (e.on < i)) && decide ((linDs l).Nodup)
/-- number k waits for number j -/
def linEdge (l : List Oper) (k j : Nat) : Bool := ((l[k]?).map fun o => o.after.any fun e => Region.binds .any e && e.on == j).getD false
/-- number j fills d -/
def linFills (l : List Oper) (j : Nat) (d : Tmp) : Bool := (l[j]?).bind (·.dst) == some d
/-- each of the row waits for the next one -/
def linPath (l : List Oper) : List Nat → Bool
  | k :: j :: r => linEdge l k j && linPath l (j :: r)
  | _ => true
/-- what has come up, and number i -/
def linUp (L : Nat → Bool) (i : Nat) : Nat → Bool := fun k => if k = i then true else L k
/-- what has come up is whole -/
def LinShut (l : List Oper) (L : Nat → Bool) : Prop := ∀ k j, L k = true → linEdge l k j = true → L j = true
theorem LinShut.late {l : List Oper} {L : Nat → Bool} (h : LinShut l L) (i : Nat) (hi : L i = false) : ∀ (r : List Nat) (k : Nat), linPath l (k :: r) = true → (k :: r).getLast? = some i → L k = false
  | [], k, _, hl => by simp at hl; rw [hl]; exact hi
  | j :: r, k, hp, hl => by
    simp only [linPath, Bool.and_eq_true] at hp
    have := LinShut.late h i hi r j hp.2 (by simpa [List.getLast?_cons_cons] using hl)
    cases hk : L k with
    | false => rfl
    | true => rw [h k j hk hp.1] at this; cases this
theorem linUp_late {L : Nat → Bool} {i k : Nat} (h : linUp L i k = false) : L k = false := by
  unfold linUp at h; split at h; cases h; exact h
theorem linUp_same (L : Nat → Bool) (i : Nat) : linUp L i i = true := by simp [linUp]

/-- one operation, whatever has come up of what it doesn't wait for -/
def LinStep (P : Program) (l : List Oper) (ds : List Tmp) (S : Nat → Prop) (lo : Nat → Bool) (I : (Nat → Bool) → World → Prop) (G : Nat → (Nat → Bool) → Value → World → Prop) (U : World) (a0 : Act) (Q : Exit → Act → World → Prop) (i : Nat) (o : Oper) : Prop :=
  ∀ (f : Tmp → Value) (L : Nat → Bool) (w1 : World), Turned S U w1 → I L w1 → LinShut l L → L i = false → (∀ j d, linEdge l i j = true → linFills l j d = true → G j L (f d) w1) →
    ∀ K : Act → World → Prop, Shut (∀ v w2, Turned S U w2 → (lo i = false ∧ Below w1.heap.size w1 w2 ∨ I (linUp L i) w2 ∧ ∀ j d, L j = true → linFills l j d = true → G j L (f d) w1 → G j (linUp L i) (f d) w2) → G i (linUp L i) v w2 → K ((Act.mk (linFill a0.tmps ds f) a0.defers).put o.dst v) w2) →
      if Region.wanted o (yielded l.toArray (linFill a0.tmps ds f)) = true then Oper.wp P o (Act.mk (linFill a0.tmps ds f) a0.defers) w1 K Q else K ((Act.mk (linFill a0.tmps ds f) a0.defers).put o.dst undef) w1
def LinSteps (P : Program) (l : List Oper) (ds : List Tmp) (S : Nat → Prop) (lo : Nat → Bool) (I : (Nat → Bool) → World → Prop) (G : Nat → (Nat → Bool) → Value → World → Prop) (U : World) (a0 : Act) (Q : Exit → Act → World → Prop) : Nat → List Oper → Prop
  | _, [] => True
  | i, o :: rest => LinStep P l ds S lo I G U a0 Q i o ∧ LinSteps P l ds S lo I G U a0 Q (i + 1) rest
theorem LinSteps.nil {l : List Oper} {ds : List Tmp} {S : Nat → Prop} {lo : Nat → Bool} {I : (Nat → Bool) → World → Prop} {G : Nat → (Nat → Bool) → Value → World → Prop} {U : World} {a0 : Act} {i : Nat} : LinSteps P l ds S lo I G U a0 Q i [] := trivial
theorem LinSteps.cons {l : List Oper} {ds : List Tmp} {S : Nat → Prop} {lo : Nat → Bool} {I : (Nat → Bool) → World → Prop} {G : Nat → (Nat → Bool) → Value → World → Prop} {U : World} {a0 : Act} {i : Nat} {o : Oper} {rest : List Oper}
    (h : ∀ (f : Tmp → Value) (L : Nat → Bool) (w1 : World), Turned S U w1 → I L w1 → LinShut l L → L i = false → (∀ j d, linEdge l i j = true → linFills l j d = true → G j L (f d) w1) →
      ∀ K : Act → World → Prop, Shut (∀ v w2, Turned S U w2 → (lo i = false ∧ Below w1.heap.size w1 w2 ∨ I (linUp L i) w2 ∧ ∀ j d, L j = true → linFills l j d = true → G j L (f d) w1 → G j (linUp L i) (f d) w2) → G i (linUp L i) v w2 → K ((Act.mk (linFill a0.tmps ds f) a0.defers).put o.dst v) w2) →
        if Region.wanted o (yielded l.toArray (linFill a0.tmps ds f)) = true then Oper.wp P o (Act.mk (linFill a0.tmps ds f) a0.defers) w1 K Q else K ((Act.mk (linFill a0.tmps ds f) a0.defers).put o.dst undef) w1)
    (hs : LinSteps P l ds S lo I G U a0 Q (i + 1) rest) : LinSteps P l ds S lo I G U a0 Q i (o :: rest) := ⟨h, hs⟩
theorem LinSteps.get {l : List Oper} {ds : List Tmp} {S : Nat → Prop} {lo : Nat → Bool} {I : (Nat → Bool) → World → Prop} {G : Nat → (Nat → Bool) → Value → World → Prop} {U : World} {a0 : Act} : ∀ (r : List Oper) (i : Nat), LinSteps P l ds S lo I G U a0 Q i r → ∀ j o, r[j]? = some o → LinStep P l ds S lo I G U a0 Q (i + j) o
  | [], _, _, j, o, h => by simp at h
  | x :: r, i, hs, 0, o, h => by simp at h; subst h; exact hs.1
  | x :: r, i, hs, j + 1, o, h => by
    have := LinSteps.get r (i + 1) hs.2 j o (by simpa using h)
    rw [show i + (j + 1) = i + 1 + j by omega]
    exact this

/-- A region that draws its order: S = the blocks of what was there that its stores turn; lo = which operations store; I L w = what holds of the world, those of L having come up; G i L v w = what number i's value v is then. Each operation is shown once. (The row of operations is handed on by a name: else each step bears it whole.) -/
theorem wpAny_lin {l : List Oper} {ds : List Tmp} {a : Act} {w : World} (hB : linB l = true) (hds : linDs l = ds) (S : Nat → Prop) (lo : Nat → Bool) (I : (Nat → Bool) → World → Prop) (G : Nat → (Nat → Bool) → Value → World → Prop)
    (hI0 : I (fun _ => false) w.drew) (hI : ∀ L k w1 w2, lo k = false → Below w1.heap.size w1 w2 → I L w1 → I (linUp L k) w2)
    (hG : ∀ i L k v w1 w2, lo k = false → Below w1.heap.size w1 w2 → G i L v w1 → G i (linUp L k) v w2)
    (hs0 : ∀ l', Hid (l' = l) → LinSteps P l' ds S lo I G w.drew a Q 0 l)
    (hend0 : ∀ l', Hid (l' = l) → ∀ f L w1, Turned S w.drew w1 → I L w1 → (∀ k, k < l.length → L k = true) → (∀ j d, linFills l' j d = true → G j L (f d) w1) → Q .normal (Act.mk (linFill a.tmps ds f) a.defers) w1) :
    wpAny P .any l.toArray Q l.toArray.size (Array.replicate l.toArray.size false) a w.drew := by
  have hs := hs0 l (Lib.hid rfl)
  have hend := hend0 l (Lib.hid rfl)
  clear hs0 hend0
  subst hds
  simp only [linB, Bool.and_eq_true, decide_eq_true_eq] at hB
  obtain ⟨hB1, hB2⟩ := hB
  let J : Array Bool → Act → World → Prop := fun listed a' w' => ∃ (f : Tmp → Value) (L : Nat → Bool), a' = Act.mk (linFill a.tmps (linDs l) f) a.defers ∧ (∀ k, L k = listed.getD k false) ∧ LinShut l L ∧ Turned S w.drew w' ∧ I L w' ∧ ∀ j d, L j = true → linFills l j d = true → G j L (f d) w'
  have huniq : ∀ (i j : Nat) (d : Tmp), linFills l i d = true → linFills l j d = true → i = j := by
    have gen : ∀ (r : List Oper), (linDs r).Nodup → ∀ (i j : Nat) (d : Tmp), linFills r i d = true → linFills r j d = true → i = j := by
      intro r
      induction r with
      | nil => intro _ i j d hi; simp [linFills] at hi
      | cons x r ih =>
        intro hn i j d hi hj
        have memd : ∀ (k : Nat), linFills r k d = true → d ∈ linDs r := fun k hk => by
          unfold linFills at hk
          cases hrk : r[k]? with
          | none => rw [hrk] at hk; simp at hk
          | some o => rw [hrk] at hk; simp at hk; exact List.mem_filterMap.2 ⟨o, List.mem_of_getElem? hrk, hk⟩
        have nodup0 : x.dst = some d → d ∉ linDs r := fun hx => by
          unfold linDs at hn ⊢
          rw [List.filterMap_cons_some hx] at hn
          exact (List.nodup_cons.1 hn).1
        match i, j with
        | 0, 0 => rfl
        | 0, j + 1 =>
          have hi' : x.dst = some d := by simpa [linFills] using hi
          have hj' : linFills r j d = true := by simpa [linFills] using hj
          exact absurd (memd j hj') (nodup0 hi')
        | i + 1, 0 =>
          have hj' : x.dst = some d := by simpa [linFills] using hj
          have hi' : linFills r i d = true := by simpa [linFills] using hi
          exact absurd (memd i hi') (nodup0 hj')
        | i + 1, j + 1 =>
          have hn2 : (linDs r).Nodup := by
            unfold linDs at hn ⊢
            cases hx : x.dst with
            | none => simpa [List.filterMap_cons, hx] using hn
            | some y => rw [List.filterMap_cons_some hx] at hn; exact (List.nodup_cons.1 hn).2
          rw [ih hn2 i j d (by simpa [linFills] using hi) (by simpa [linFills] using hj)]
    exact gen l hB2
  refine wpAny_inv (J := J) ?_ ?_ _ _ _ _ (by simp) (Nat.le_trans (List.length_filter_le _ _) (by simp)) ?_
  · rintro listed a' w' i hsz ⟨f, L, rfl, hL, hsh, hb, hIw, hv⟩ hi
    obtain ⟨h0, o, ho, hall⟩ := mem_ready.1 hi
    have ho' : l[i]? = some o := by simpa using ho
    have hil : i < listed.size := by rw [hsz]; simpa using (List.getElem?_eq_some_iff.1 ho').1
    have hLi : L i = false := by rw [hL]; simp [hil] at h0 ⊢; exact h0
    have hedge : ∀ j, linEdge l i j = true → L j = true := fun j hj => by
      unfold linEdge at hj
      rw [ho'] at hj
      simp only [Option.map_some, Option.getD_some] at hj
      obtain ⟨e, he, hbe⟩ := Array.any_eq_true'.1 hj
      simp only [Bool.and_eq_true, beq_iff_eq] at hbe
      rw [hL, ← hbe.2]
      exact hall e he hbe.1
    have hLup : ∀ k, linUp L i k = (listed.setIfInBounds i true).getD k false := fun k => by
      unfold linUp
      by_cases e : k = i
      · subst e; simp [hil]
      · rw [if_neg e, hL, getD_set_ne false (fun h => e h.symm)]
    have hshup : LinShut l (linUp L i) := fun k j hk hkj => by
      unfold linUp at hk ⊢
      by_cases e : k = i
      · subst e
        split
        · rfl
        · exact hedge j hkj
      · rw [if_neg e] at hk
        split
        · rfl
        · exact hsh k j hk hkj
    have hst := LinSteps.get l 0 hs i o ho'
    rw [Nat.zero_add] at hst
    refine wpOp_step ho (fun K' hK => hst f L w' hb hIw hsh hLi (fun j d hj hjd => hv j d (hedge j hj) hjd) K' ?_)
    intro v w2 hb3 hb2 hg
    refine hK _ _ ?_
    have hold : ∀ j d, L j = true → linFills l j d = true → G j (linUp L i) (f d) w2 := fun j d hj hjd => by
      rcases hb2 with hb2 | hb2
      · exact hG _ _ _ _ _ _ hb2.1 hb2.2 (hv j d hj hjd)
      · exact hb2.2 j d hj hjd (hv j d hj hjd)
    have hIup : I (linUp L i) w2 := by
      rcases hb2 with hb2 | hb2
      · exact hI _ _ _ _ hb2.1 hb2.2 hIw
      · exact hb2.1
    cases hd : o.dst with
    | none =>
      refine ⟨f, linUp L i, rfl, hLup, hshup, hb3, hIup, fun j d hl hjd => hold j d ?_ hjd⟩
      unfold linUp at hl
      split at hl
      · rename_i e; subst e; unfold linFills at hjd; rw [ho'] at hjd; simp [hd] at hjd
      · exact hl
    | some d =>
      refine ⟨fun k => if k = d then v else f k, linUp L i, ?_, hLup, hshup, hb3, hIup, fun j d' hl hjd => ?_⟩
      · simp only [Act.put]
        rw [linFill_set _ (linDs l) _ _ _ (List.mem_filterMap.2 ⟨o, List.mem_of_getElem? ho', hd⟩)]
      · have hid : linFills l i d = true := by unfold linFills; rw [ho']; simp [hd]
        by_cases hij : j = i
        · subst hij
          have : d' = d := by
            unfold linFills at hjd hid
            rw [ho'] at hjd hid
            simp at hjd hid
            rw [hjd] at hid
            injection hid
          subst this
          simpa using hg
        · have hne : ¬ d' = d := fun e => hij (huniq j i d (by rw [← e]; exact hjd) hid)
          simp only [if_neg hne]
          refine hold j d' ?_ hjd
          unfold linUp at hl
          rw [if_neg hij] at hl
          exact hl
  · rintro listed a' w' hsz ⟨f, L, rfl, hL, hsh, hb, hIw, hv⟩ hr
    have hall : ∀ n j : Nat, j < n → j < l.length → L j = true := by
      intro n
      induction n with
      | zero => intro j hj; omega
      | succ n ih =>
        intro j hjn hjl
        by_cases hlt : j < n
        · exact ih j hlt hjl
        · have hjs : j < listed.size := by rw [hsz]; simpa using hjl
          rw [hL]
          cases hg : listed.getD j true with
          | true => simp [hjs] at hg ⊢; exact hg
          | false =>
            exfalso
            have hmem : j ∈ Region.ready .any l.toArray listed := by
              refine mem_ready.2 ⟨hg, l[j], by simp [hjl], fun e he hbe => ?_⟩
              have h1 := List.all_eq_true.1 hB1 (l[j], j) (by rw [List.mem_zipIdx_iff_getElem?]; simp [hjl])
              have h2 := Array.all_eq_true_iff_forall_mem.1 h1 e he
              simp [hbe] at h2
              have h3 := ih e.on (by omega) (by omega)
              rw [hL] at h3
              exact h3
            rw [hr] at hmem
            cases hmem
    refine hend f L w' hb hIw (fun k hk => hall (k + 1) k (Nat.lt_succ_self k) hk) (fun j d hjd => hv j d ?_ hjd)
    have hjl : j < l.length := by
      rcases Nat.lt_or_ge j l.length with h | h
      · exact h
      · unfold linFills at hjd; rw [List.getElem?_eq_none h] at hjd; simp at hjd
    exact hall (j + 1) j (Nat.lt_succ_self j) hjl
  · refine ⟨fun d => a.tmps.getD d undef, fun k => (Array.replicate l.toArray.size false).getD k false, by rw [linFill_self], fun k => rfl, fun k j hk => ?_, Turned.refl _ _, ?_, fun j d hl => ?_⟩
    · simp [Array.getElem?_replicate] at hk; split at hk <;> simp at hk
    · have e : (fun k => (Array.replicate l.toArray.size false).getD k false) = fun _ => false := by
        funext k
        simp [Array.getElem?_replicate]
        split <;> rfl
      rw [e]
      exact hI0
    · simp [Array.getElem?_replicate] at hl; split at hl <;> simp at hl
theorem wp_region_lin {l : List Oper} {ds : List Tmp} {id : Nat} {a : Act} {w : World} (hm : P.follows .mixedOrders = true) (hB : linB l = true) (hds : linDs l = ds) (S : Nat → Prop) (lo : Nat → Bool) (I : (Nat → Bool) → World → Prop) (G : Nat → (Nat → Bool) → Value → World → Prop)
    (hI0 : I (fun _ => false) w.drew) (hI : ∀ L k w1 w2, lo k = false → Below w1.heap.size w1 w2 → I L w1 → I (linUp L k) w2)
    (hG : ∀ i L k v w1 w2, lo k = false → Below w1.heap.size w1 w2 → G i L v w1 → G i (linUp L k) v w2)
    (hs : ∀ l', Hid (l' = l) → LinSteps P l' ds S lo I G w.drew a Q 0 l)
    (hend : ∀ l', Hid (l' = l) → ∀ f L w1, Turned S w.drew w1 → I L w1 → (∀ k, k < l.length → L k = true) → (∀ j d, linFills l' j d = true → G j L (f d) w1) → Q .normal (Act.mk (linFill a.tmps ds f) a.defers) w1) : (Code.region id l.toArray true).wp P Q a w :=
  wp_region_any hm (wpAny_lin hB hds S lo I G hI0 hI hG hs hend)

/-! in a round of a range over a function -/
theorem rowsIn_round {r n : Nat} {row : String} {args : Array Value} {w : World} {R : Value → World → Prop} (h : Rows P row args w R) : RowsIn (Fence.wide.inRound r) n P row args w R :=
  fun c cs _ => let ⟨v, w', hr, hst⟩ := h c cs; ⟨v, w', hr, stepsIn_wide.2 hst⟩
/-- an operation that is no defer goes in a round as anywhere -/
theorem oper_round {o : Oper} {r n : Nat} {a : Act} {w : World} {K : Act → World → Prop} (ho : ∀ c, o.op ≠ .defer c) (hQ : ¬ LetsOut Q) (h : Oper.wp P o a w K Q) : o.wpIn (Fence.wide.inRound r) n P a w K Q := by
  refine ⟨fun _ _ => trivial, ?_⟩
  rw [Oper.semAt_eq _ _ _ ho]
  unfold Oper.wp at h
  generalize (execOp a.eval o).run P w = res at h ⊢
  cases res with
  | ok x w' =>
    cases x with
    | value v => exact h
    | skip => exact h
    | defer d => exact h
    | enter f args =>
      refine ⟨fun hd => (by cases hd), CallsIn.inRound r (callsIn_wide.2 (Calls.mono h (fun e w'' he => ?_)))⟩
      cases e with
      | returned v => exact he
      | panicked c => exact he
      | outgrown => exact absurd he hQ
    | row row args => exact ⟨fun hd => (by cases hd), rowsIn_round h⟩
    | round l f tmps assign body => exact h.elim
    | _ => first | exact h | exact h.elim
  | halt x w' => cases x <;> exact h
def noDefer (l : List Oper) : Bool := l.all fun o => match o.op with | .defer _ => false | _ => true
theorem wpOp_round {ops : Array Oper} {i r n : Nat} {a : Act} {w : World} {K : Act → World → Prop} (hd : ∀ o ∈ ops, ∀ c, o.op ≠ .defer c) (hQ : ¬ LetsOut Q) (h : wpOp P ops Q i K a w) : wpOpIn (Fence.wide.inRound r) n P ops Q i K a w := by
  unfold wpOp at h
  unfold wpOpIn
  cases ho : ops[i]? with
  | none => rw [ho] at h; exact h
  | some o =>
    rw [ho] at h
    simp only at h ⊢
    split
    · rename_i hw
      rw [if_pos hw] at h
      rcases h with h | h
      · exact oper_round (hd o (Array.mem_of_getElem? ho)) hQ h
      · exact absurd h.2 hQ
    · rename_i hw
      rw [if_neg hw] at h
      exact ⟨fun _ _ => trivial, h⟩
theorem wpAny_round {ops : Array Oper} {md : Region.Mode} {r n : Nat} (hd : ∀ o ∈ ops, ∀ c, o.op ≠ .defer c) (hQ : ¬ LetsOut Q) : ∀ (fuel : Nat) (listed : Array Bool) (a : Act) (w : World), wpAny P md ops Q fuel listed a w → wpAnyIn (Fence.wide.inRound r) n P md ops Q fuel listed a w
  | 0, _, _, _, h => h
  | fuel + 1, _, _, _, h => ⟨h.1, fun i hi => wpOp_round hd hQ (wpOp_mono (fun a' w' h' => wpAny_round hd hQ fuel _ a' w' h') (h.2 i hi))⟩
theorem wpIn_region_lin {l : List Oper} {ds : List Tmp} {id r n : Nat} {a : Act} {w : World} (hm : P.follows .mixedOrders = true) (hnd : noDefer l = true) (hQ : ¬ LetsOut Q) (hB : linB l = true) (hds : linDs l = ds) (S : Nat → Prop) (lo : Nat → Bool) (I : (Nat → Bool) → World → Prop) (G : Nat → (Nat → Bool) → Value → World → Prop)
    (hI0 : I (fun _ => false) w.drew) (hI : ∀ L k w1 w2, lo k = false → Below w1.heap.size w1 w2 → I L w1 → I (linUp L k) w2)
    (hG : ∀ i L k v w1 w2, lo k = false → Below w1.heap.size w1 w2 → G i L v w1 → G i (linUp L k) v w2)
    (hs : ∀ l', Hid (l' = l) → LinSteps P l' ds S lo I G w.drew a Q 0 l)
    (hend : ∀ l', Hid (l' = l) → ∀ f L w1, Turned S w.drew w1 → I L w1 → (∀ k, k < l.length → L k = true) → (∀ j d, linFills l' j d = true → G j L (f d) w1) → Q .normal (Act.mk (linFill a.tmps ds f) a.defers) w1) : (Code.region id l.toArray true).wpIn (Fence.wide.inRound r) n P Q a w :=
  wpIn_region_any hm (wpAny_round (fun o ho c e => by
    have := List.all_eq_true.1 hnd o (by simpa using ho)
    rw [e] at this
    cases this) hQ _ _ _ _ (wpAny_lin hB hds S lo I G hI0 hI hG hs hend))
end
/-! small things that every layer's walks use -/
theorem frozen_of_cells {w : World} {k i : Nat} {cs : Array Value} {t : TypeId} (h : w.heap[k]? = some (.cells cs t (0, 0))) : w.frozen? ⟨k, i, none⟩ = false := by simp [World.frozen?, h]
theorem cell_of_cells {w : World} {k i : Nat} {cs : Array Value} {t : TypeId} {v : Value} (h : w.heap[k]? = some (.cells cs t (0, 0))) (hv : cs[i]? = some v) : w.cell? ⟨k, i, none⟩ = some v := by simp [World.cell?, h, hv]
theorem below_block {B : Nat} {w w' : World} {k : Nat} {o : Obj} (hb : Below B w w') (hk : k < B) (h : w.heap[k]? = some o) : w'.heap[k]? = some o := (hb.block k hk).trans h
theorem blk_stay {w w' : World} {k : Nat} {o : Obj} (hb : Below w.heap.size w w') (h : w.heap[k]? = some o) : w'.heap[k]? = some o := below_block hb (Array.getElem?_eq_some_iff.1 h).1 h
theorem pl1 (w : World) (a : Obj) : Below w.heap.size w (w.alloc a) := (Below.refl _ _).alloc (Nat.le_refl _) _
theorem below_drewN_p (w : World) : ∀ n, Below w.heap.size w (w.drewN n)
  | 0 => Below.refl _ _
  | n + 1 => (below_drewN_p w n).drew
theorem linUp_at {L : Nat → Bool} {k s : Nat} (h : k ≠ s) : linUp L k s = L s := by unfold linUp; rw [if_neg (fun e => h e.symm)]
/-- the function that tells which documents may be: mayv is a function value, may what it answers, wherever nothing of w1 has turned -/
def MayIs (w1 : World) (mayv : Value) (may : Int → Bool) : Prop := ∃ F B, mayv = .func (.func F) #[] B ∧ (∀ args w, (callFunc F args).run Tryz.prog w = .ok (.enter F args) w) ∧ ∀ W, Below w1.heap.size w1 W → ∀ d : Int, Calls Tryz.prog F (#[.int .i64 d] ++ B) W fun e w' => e = .returned (.bool (may d)) ∧ Below W.heap.size W w'
/-- the function that tells which documents may be, wherever nothing of W has turned but block c -/
def MayC (W : World) (c : Nat) (mayv : Value) (may : Int → Bool) : Prop := ∃ F B, mayv = .func (.func F) #[] B ∧ (∀ args w, (callFunc F args).run Tryz.prog w = .ok (.enter F args) w) ∧ ∀ W', Turned (fun b => b = c) W W' → ∀ d : Int, Calls Tryz.prog F (#[.int .i64 d] ++ B) W' fun e w' => e = .returned (.bool (may d)) ∧ Below W'.heap.size W' w'
theorem MayIs.mayc {w1 W : World} {c : Nat} {mayv : Value} {may : Int → Bool} (h : MayIs w1 mayv may) (hb : Below w1.heap.size w1 W) (hc : w1.heap.size ≤ c) : MayC W c mayv may := by
  obtain ⟨F, B, e, eg, hm⟩ := h
  exact ⟨F, B, e, eg, fun W' hT d => hm W' (hT.below hb (fun k hk => by omega)) d⟩
end Go.Proofs.YtpinpnbhbngclaaGreat

/- Posts, in plain words: what a list is, its greatest weight, its blocks. Nothing of the program. -/
namespace Go.Proofs.YtpinpnbhbngclaaGreat
namespace PostM

/-- the rest of a list, behind a document -/
def rgt : Int → List (Int × Int) → Bool
  | _, [] => true
  | la, p :: t => decide (la < p.1) && decide (p.1 ≤ 2147483647) && decide (1 ≤ p.2) && decide (p.2 ≤ 65535) && rgt p.1 t
def rightL (l : List (Int × Int)) : Bool := rgt (-1) l
def lastOf : Int → List (Int × Int) → Int
  | la, [] => la
  | _, p :: t => lastOf p.1 t
theorem rgt_append (la : Int) (l m : List (Int × Int)) : rgt la (l ++ m) = (rgt la l && rgt (lastOf la l) m) := by
  induction l generalizing la with
  | nil => simp [rgt, lastOf]
  | cons p t ih => simp only [List.cons_append, rgt, lastOf, ih]; simp only [Bool.and_assoc]
theorem lastOf_append (la : Int) (l m : List (Int × Int)) : lastOf la (l ++ m) = lastOf (lastOf la l) m := by
  induction l generalizing la with
  | nil => rfl
  | cons p t ih => simp only [List.cons_append, lastOf, ih]
theorem lastOf_get (la : Int) (l : List (Int × Int)) (i : Nat) (h : i < l.length) : lastOf la (l.take (i + 1)) = l[i].1 := by
  rw [List.take_succ_eq_append_getElem h, lastOf_append]
  rfl
theorem take_snoc_p (l : List (Int × Int)) (i : Nat) (h : i < l.length) : l.take (i + 1) = l.take i ++ [l[i]] := List.take_succ_eq_append_getElem h
theorem rgt_one (la : Int) (p : Int × Int) : rgt la [p] = (decide (la < p.1) && decide (p.1 ≤ 2147483647) && decide (1 ≤ p.2) && decide (p.2 ≤ 65535)) := by simp [rgt]
theorem rgt_prefix {la : Int} {l : List (Int × Int)} (i : Nat) (h : rgt la l = true) : rgt la (l.take i) = true := by
  rw [← List.take_append_drop i l, rgt_append, Bool.and_eq_true] at h
  exact h.1
theorem rgt_next {la : Int} {l : List (Int × Int)} (i : Nat) (hi : i < l.length) : rgt la (l.take (i + 1)) = (rgt la (l.take i) && rgt (lastOf la (l.take i)) [l[i]]) := by
  rw [take_snoc_p l i hi, rgt_append]
/-- each of a list -/
theorem rgt_all {la : Int} {l : List (Int × Int)} (h : rgt la l = true) : ∀ p ∈ l, la < p.1 ∧ p.1 ≤ 2147483647 ∧ 1 ≤ p.2 ∧ p.2 ≤ 65535 := by
  induction l generalizing la with
  | nil => intro p hp; cases hp
  | cons q t ih =>
    simp only [rgt, Bool.and_eq_true, decide_eq_true_eq] at h
    obtain ⟨⟨⟨⟨h1, h2⟩, h3⟩, h4⟩, h5⟩ := h
    intro p hp
    rcases List.mem_cons.1 hp with rfl | hp
    · exact ⟨h1, h2, h3, h4⟩
    · have := ih h5 p hp
      exact ⟨by omega, this.2⟩
theorem rgt_rise {la : Int} {l : List (Int × Int)} (h : rgt la l = true) : ∀ i j (hi : i < l.length) (hj : j < l.length), i < j → l[i].1 < l[j].1 := by
  induction l generalizing la with
  | nil => intro i j hi; simp at hi
  | cons q t ih =>
    simp only [rgt, Bool.and_eq_true, decide_eq_true_eq] at h
    intro i j hi hj hij
    match i, j, hij with
    | 0, j + 1, _ =>
      simp only [List.getElem_cons_zero, List.getElem_cons_succ]
      exact (rgt_all h.2 _ (List.getElem_mem _)).1
    | i + 1, j + 1, hij =>
      simp only [List.getElem_cons_succ]
      exact ih h.2 i j (by simpa using hi) (by simpa using hj) (by omega)

/-- the greatest weight -/
def mx (l : List (Int × Int)) : Int := l.foldl (fun m p => max m p.2) 0
theorem mx_nil : mx [] = 0 := rfl
theorem mx_snoc (l : List (Int × Int)) (p : Int × Int) : mx (l ++ [p]) = max (mx l) p.2 := by simp [mx]
theorem mx_append (l m : List (Int × Int)) : mx (l ++ m) = max (mx l) (mx m) := by
  have gen : ∀ (m : List (Int × Int)) (a b : Int), 0 ≤ b → m.foldl (fun m p => max m p.2) (max a b) = max a (m.foldl (fun m p => max m p.2) b) := by
    intro m
    induction m with
    | nil => intro a b _; rfl
    | cons p t ih =>
      intro a b hb
      simp only [List.foldl_cons]
      rw [show max (max a b) p.2 = max a (max b p.2) by omega]
      exact ih a _ (by omega)
  have hl : ∀ (l : List (Int × Int)) (b : Int), 0 ≤ b → 0 ≤ l.foldl (fun m p => max m p.2) b := by
    intro l
    induction l with
    | nil => intro b hb; exact hb
    | cons p t ih => intro b hb; exact ih _ (show 0 ≤ max b p.2 by omega)
  unfold mx
  rw [List.foldl_append]
  have h0 := hl l 0 (by omega)
  have := gen m (l.foldl (fun m p => max m p.2) 0) 0 (by omega)
  rw [show max (l.foldl (fun m p => max m p.2) 0) 0 = l.foldl (fun m p => max m p.2) 0 by omega] at this
  exact this
theorem mx_pos (l : List (Int × Int)) : 0 ≤ mx l := by
  have hl : ∀ (l : List (Int × Int)) (b : Int), 0 ≤ b → 0 ≤ l.foldl (fun m p => max m p.2) b := by
    intro l
    induction l with
    | nil => intro b hb; exact hb
    | cons p t ih => intro b hb; exact ih _ (show 0 ≤ max b p.2 by omega)
  exact hl l 0 (by omega)
theorem mx_le (l : List (Int × Int)) : ∀ p ∈ l, p.2 ≤ mx l := by
  have gen : ∀ (l : List (Int × Int)) (b : Int), b ≤ l.foldl (fun m p => max m p.2) b ∧ ∀ p ∈ l, p.2 ≤ l.foldl (fun m p => max m p.2) b := by
    intro l
    induction l with
    | nil => intro b; exact ⟨Int.le_refl _, fun p hp => by cases hp⟩
    | cons q t ih =>
      intro b
      obtain ⟨h1, h2⟩ := ih (max b q.2)
      refine ⟨by simp only [List.foldl_cons]; omega, fun p hp => ?_⟩
      simp only [List.foldl_cons]
      rcases List.mem_cons.1 hp with rfl | hp
      · omega
      · exact h2 p hp
  exact (gen l 0).2
theorem mx_sub (l m : List (Int × Int)) (h : ∀ p ∈ m, p ∈ l) : mx m ≤ mx l := by
  have gen : ∀ (m : List (Int × Int)) (b c : Int), b ≤ c → (∀ p ∈ m, p.2 ≤ c) → m.foldl (fun m p => max m p.2) b ≤ c := by
    intro m
    induction m with
    | nil => intro b c h _; exact h
    | cons q t ih =>
      intro b c hb hq
      simp only [List.foldl_cons]
      have := hq q List.mem_cons_self
      exact ih _ _ (by omega) (fun p hp => hq p (List.mem_cons_of_mem _ hp))
  exact gen m 0 _ (mx_pos l) (fun p hp => mx_le l p (h p hp))

/-- what is told of a block -/
def blk (l : List (Int × Int)) : Int × Int := (mx l, lastOf 0 l)
def cnt (n : Nat) : Nat := (n + 3) / 4
def piece (l : List (Int × Int)) (i : Nat) : List (Int × Int) := (l.drop (4 * i)).take 4
def blks (l : List (Int × Int)) : List (Int × Int) := (List.range (cnt l.length)).map fun i => blk (piece l i)
theorem blks_len (l : List (Int × Int)) : (blks l).length = cnt l.length := by simp [blks]
theorem piece_len (l : List (Int × Int)) (i : Nat) (h : i < cnt l.length) : (piece l i).length = min 4 (l.length - 4 * i) ∧ 0 < (piece l i).length := by
  unfold piece
  unfold cnt at h
  rw [List.length_take, List.length_drop]
  omega
/-- the blocks' greatest weights and last documents, one more -/
theorem range_snoc {α : Type} (f : Nat → α) (k : Nat) : (List.range (k + 1)).map f = (List.range k).map f ++ [f k] := by
  rw [List.range_succ, List.map_append]; rfl
theorem take_piece (l : List (Int × Int)) (k : Nat) : l.take (4 * (k + 1)) = l.take (4 * k) ++ piece l k := by
  unfold piece
  rw [show 4 * (k + 1) = 4 * k + 4 by omega, List.take_add]
theorem mx_take_piece (l : List (Int × Int)) (k : Nat) : mx (l.take (4 * (k + 1))) = max (mx (l.take (4 * k))) (mx (piece l k)) := by
  rw [take_piece, mx_append]
theorem lastOf_piece (l : List (Int × Int)) (i : Nat) (h : i < cnt l.length) : ∃ hj : min (4 * i + 4) l.length - 1 < l.length, (blk (piece l i)).2 = (l[min (4 * i + 4) l.length - 1]).1 := by
  obtain ⟨h1, h2⟩ := piece_len l i h
  have hl : 4 * i < l.length := by unfold cnt at h; omega
  refine ⟨by omega, ?_⟩
  unfold blk
  simp only
  have hp : piece l i = (piece l i).take ((piece l i).length - 1 + 1) := by rw [show (piece l i).length - 1 + 1 = (piece l i).length by omega, List.take_length]
  rw [hp, lastOf_get _ _ _ (by omega)]
  unfold piece
  rw [List.getElem_take, List.getElem_drop]
  congr 2
  have : ((l.drop (4 * i)).take 4).length = (piece l i).length := rfl
  rw [this, h1]
  omega
end PostM
end Go.Proofs.YtpinpnbhbngclaaGreat

/- Posts: a copy, what is right, the program's block, the same. -/
namespace Go.Proofs.YtpinpnbhbngclaaGreat
open Go.RowKit

theorem post_ty : PairTy 60 61 := ⟨by kernel_rfl, Tryz.underlying61⟩
theorem block_ty : PairTy 110 103 := ⟨by kernel_rfl, Tryz.underlying103⟩

set_option maxHeartbeats 1000000 in
set_option maxRecDepth 100000 in
theorem pclone_any (v : Value) (l : List (Int × Int)) (w : World) (h : Prd w v l) (hl : l.length ≤ 1000000) :
    Calls Tryz.prog 38 #[v] w fun e w' => ∃ v', e = .returned v' ∧ PRow 60 w' w.heap.size v' l ∧ Below w.heap.size w w' := by
  obtain ⟨A, cp, rfl, hc, hA, hp⟩ := h
  rcases A with _ | ad
  · have hl0 : l = [] := by
      match l, hp with
      | [], _ => rfl
      | a :: t, hp =>
        obtain ⟨b, o, e, _⟩ := hp.2 0 (by simp)
        cases e
    subst hl0
    have := hA rfl
    subst this
    have hq : ∀ w, (binOp .eql 61 (.slice none 0 0) (.slice none 0 0)).run Tryz.prog w = .ok (.bool true) w := fun w => run_eql_sl_nil w _ _ none 0 0 Tryz.underlying61
    go_enter Tryz.func38, Tryz.ntmps38
    go_wp2
    go_ret
    exact ⟨_, rfl, PRow.nil_ _ _, Below.refl _ _⟩
  · obtain ⟨n, hn⟩ : ∃ n, n = l.length := ⟨_, rfl⟩
    rw [← hn] at hc hp ⊢
    have hq : ∀ w, (binOp .eql 61 (.slice (some ad) n cp) (.slice none 0 0)).run Tryz.prog w = .ok (.bool false) w := fun w => run_eql_sl_nil w _ _ (some ad) n cp Tryz.underlying61
    have hp1 := hp.later ((Below.refl _ w).alloc (Nat.le_refl _) (.cells #[] 60))
    have HP := Lib.hid hp1
    have hln : n ≤ 1000000 := by omega
    clear hp hp1 hn
    go_enter Tryz.func38, Tryz.ntmps38
    go_wp2_with (at_builtin; refine wpList_append_ps post_ty rfl _ _ rfl w.heap.size _ [] rfl ⟨rfl, .inr ⟨w.heap.size, 0, #[], rfl, Nat.le_refl _, heap_alloc_new w _, Nat.le_refl _, by simp [maxLen], rfl, rfl⟩⟩ (by simp) (some ad) n cp l rfl HP.out hA (by simp; omega) ?_; intro v' w1 hown' hg1)
    go_ret
    refine ⟨_, rfl, hown', ?_⟩
    exact ((Below.refl _ w).alloc (Nat.le_refl _) _).grown hg1 (by simp) (fun k hk => by
      have e : w.heap.size = k := Option.some.inj hk
      omega)

set_option maxHeartbeats 1000000 in
set_option maxRecDepth 100000 in
theorem pright_any (v : Value) (l : List (Int × Int)) (w : World) (h : Prd w v l) (hl : l.length ≤ 1000000) :
    Calls Tryz.prog 36 #[v] w fun e w' => e = .returned (.bool (PostM.rightL l)) ∧ Below w.heap.size w w' := by
  have hP := h
  obtain ⟨A, cp, rfl, hcp⟩ := h.form
  obtain ⟨n, hn⟩ : ∃ n, n = l.length := ⟨_, rfl⟩
  rw [← hn] at hl hcp hP ⊢
  have HN := Lib.hid hn
  have HP := Lib.hid hP
  clear hn hP h
  go_enter Tryz.func36, Tryz.ntmps36
  go_wp2
  go_loopw [3, 8] (fun x i wr => ∃ k : Nat, k ≤ n ∧ i = .int .i64 k ∧ x = .int .i64 (PostM.lastOf (-1) (l.take k)) ∧ PostM.rgt (-1) (l.take k) = true ∧ Below w.heap.size w wr) (fun _ i _ => n - (intOf i).toNat)
  case atStart => exact ⟨0, by omega, rfl, rfl, rfl, Below.refl _ _⟩
  case round =>
    obtain ⟨k, hk, rfl, rfl, hr, hb⟩ := hrel
    by_cases hkn : k < n
    · have hkl : k < l.length := by rw [← HN.out]; exact hkn
      obtain ⟨b, o, rfl, hbw, c0, c1⟩ := (HP.out).at_ k hkl
      have c0 := (hb.cell (p := ⟨b, o + k * 2, none⟩) hbw).trans c0
      have c1 := (hb.cell (p := ⟨b, o + k * 2 + 1, none⟩) hbw).trans c1
      have hnext := PostM.rgt_next (la := -1) k hkl
      rw [hr, Bool.true_and, PostM.rgt_one] at hnext
      have hlast := PostM.lastOf_get (-1) l k hkl
      have hpre : PostM.rightL l = true → PostM.rgt (-1) (l.take (k + 1)) = true := fun h => PostM.rgt_prefix (k + 1) h
      obtain ⟨⟨p1, p2⟩, hp⟩ : ∃ p, p = l[k] := ⟨_, rfl⟩
      rw [← hp] at c0 c1 hnext hlast
      simp only at c0 c1 hnext hlast
      obtain ⟨la, hla⟩ : ∃ la, la = PostM.lastOf (-1) (l.take k) := ⟨_, rfl⟩
      rw [← hla] at hnext ⊢
      have hbz : wr.heap.size < (wr.alloc (.cells #[.int .i64 p1, .int .i64 p2] 60)).heap.size := by simp
      have hb2 := hb.alloc hb.size (.cells #[.int .i64 p1, .int .i64 p2] 60)
      have HB := Lib.hid hb2
      have HNX := Lib.hid hnext
      have HLA := Lib.hid hlast
      have HPR := Lib.hid hpre
      have hbw2 : b < wr.heap.size := Nat.lt_of_lt_of_le hbw hb.size
      clear hb hb2 hnext hlast hpre hla hp hr
      have hno : (decide (la < p1) && decide (p1 ≤ 2147483647) && decide (1 ≤ p2) && decide (p2 ≤ 65535)) = false → PostM.rightL l = false := fun h => by
        cases hx : PostM.rightL l with
        | false => rfl
        | true => have := HPR.out hx; rw [HNX.out, h] at this; cases this
      have HNO := Lib.hid hno
      clear hno
      by_cases t1 : la < p1
      · have d1 : decide (p1 ≤ la) = false := decide_eq_false (by omega)
        by_cases t2 : p1 ≤ 2147483647
        · have d2 : decide (2147483647 < p1) = false := decide_eq_false (by omega)
          by_cases t3 : 1 ≤ p2
          · have d3 : decide (p2 < 1) = false := decide_eq_false (by omega)
            by_cases t4 : p2 ≤ 65535
            · have d4 : decide (65535 < p2) = false := decide_eq_false (by omega)
              have hok : Hid (PostM.rgt (-1) (l.take (k + 1)) = true) := Lib.hid (by rw [HNX.out]; simp [t1, t2, t3, t4])
              clear t1 t2 t3 t4
              go_wp2
              go_roundw
              case rel => exact ⟨k + 1, by omega, by go_num, by rw [HLA.out], hok.out, HB.out⟩
              case measure => simp [intOf]; omega
            · have d4 : decide (65535 < p2) = true := decide_eq_true (by omega)
              have hz := HNO.out (by simp [t4])
              have HZ := Lib.hid hz
              clear t1 t2 t3 t4 hz
              go_wp2
              go_ret
              exact ⟨by rw [HZ.out]; rfl, HB.out⟩
          · have d3 : decide (p2 < 1) = true := decide_eq_true (by omega)
            have hz := HNO.out (by simp [t3])
            have HZ := Lib.hid hz
            clear t1 t2 t3 hz
            go_wp2
            go_ret
            exact ⟨by rw [HZ.out]; rfl, HB.out⟩
        · have d2 : decide (2147483647 < p1) = true := decide_eq_true (by omega)
          have hz := HNO.out (by simp [t2])
          have HZ := Lib.hid hz
          clear t1 t2 hz
          go_wp2
          go_ret
          exact ⟨by rw [HZ.out]; rfl, HB.out⟩
      · have d1 : decide (p1 ≤ la) = true := decide_eq_true (by omega)
        have hz := HNO.out (by simp [t1])
        have HZ := Lib.hid hz
        clear t1 hz
        go_wp2
        go_ret
        exact ⟨by rw [HZ.out]; rfl, HB.out⟩
    · have : k = n := by omega
      subst this
      have hR : PostM.rightL l = true := by rw [HN.out, List.take_length] at hr; exact hr
      have HR := Lib.hid hR
      clear hr hR
      go_wp2
      go_ret
      exact ⟨by rw [HR.out]; rfl, hb⟩
end Go.Proofs.YtpinpnbhbngclaaGreat

/- Posts: what is told of a block. -/
namespace Go.Proofs.YtpinpnbhbngclaaGreat
open Go.RowKit


set_option maxHeartbeats 1000000 in
set_option maxRecDepth 100000 in
theorem blockof_any (v : Value) (l : List (Int × Int)) (w : World) (h : Prd w v l) (hne : 0 < l.length) (hl : l.length ≤ 1000000) :
    Calls Tryz.prog 59 #[v] w fun e w' => e = .returned (sv (PostM.blk l)) ∧ Below w.heap.size w w' := by
  have hP := h
  obtain ⟨A, cp, rfl, hcp⟩ := h.form
  obtain ⟨n, hn⟩ : ∃ n, n = l.length := ⟨_, rfl⟩
  rw [← hn] at hl hcp hP hne ⊢
  obtain ⟨m, rfl⟩ : ∃ m, n = m + 1 := ⟨n - 1, by omega⟩
  obtain ⟨b, o, rfl, hbw, d0, d1⟩ := hP.at_ m (by omega)
  have hlast := PostM.lastOf_get 0 l m (by omega)
  rw [hn, List.take_length] at hlast
  obtain ⟨dd, hdd⟩ : ∃ dd, dd = (l[m]).1 := ⟨_, rfl⟩
  have hdd' : l[m].1 = dd := hdd.symm
  rw [hdd'] at d0 hlast
  unfold PostM.blk sv
  rw [hlast]
  have HN := Lib.hid hn
  have HP := Lib.hid hP
  have HD0 := Lib.hid d0
  clear hn hP h hlast hdd hdd' d1
  have hne2 : b ≠ w.heap.size := by omega
  have e0 : (w.alloc (.cells #[.int .i64 0, .int .i64 0] 110)).cell? ⟨b, o + m * 2, none⟩ = some (.int .i64 dd) := ((pl1 w _).cell (p := ⟨b, o + m * 2, none⟩) hbw).trans HD0.out
  go_enter Tryz.func59, Tryz.ntmps59
  go_wp2
  go_loopw [16] (fun i wr => ∃ k : Nat, k ≤ m + 1 ∧ i = .int .i64 k ∧ wr.heap[w.heap.size]? = some (.cells #[.int .i64 0, .int .i64 0] 110 (0, 0)) ∧ wr.heap[w.heap.size + 1]? = some (.cells #[.int .i64 (PostM.mx (l.take k)), .int .i64 dd] 110 (0, 0)) ∧ Below w.heap.size w wr) (fun i _ => m + 1 - (intOf i).toNat)
  case atStart =>
    refine ⟨0, by omega, rfl, ?_, ?_, ((pl1 w _).alloc (by simp) _)⟩
    · rw [Below.heap_alloc _ _ _ (by simp)]; exact heap_alloc_new _ _
    · have := heap_alloc_new (w.alloc (.cells #[.int .i64 0, .int .i64 0] 110)) (.cells #[.int .i64 0, .int .i64 dd] 110)
      simpa [PostM.mx] using this
  case round =>
    obtain ⟨k, hk, rfl, h0, h1, hb⟩ := hrel
    have k10 := cell_of_cells (i := 0) h1 rfl
    have k11 := cell_of_cells (i := 1) h1 rfl
    have k00 := cell_of_cells (i := 0) h0 rfl
    have k01 := cell_of_cells (i := 1) h0 rfl
    have f10 := frozen_of_cells (i := 0) h1
    have f00 := frozen_of_cells (i := 0) h0
    have f01 := frozen_of_cells (i := 1) h0
    have l0 := (Array.getElem?_eq_some_iff.1 h0).1
    have l1 := (Array.getElem?_eq_some_iff.1 h1).1
    clear e0
    by_cases hkn : k < m + 1
    · have hkl : k < l.length := by rw [← HN.out]; exact hkn
      obtain ⟨b', o', e, _, c0, c1⟩ := (HP.out).at_ k hkl
      injection e with e
      injection e with e1 e2 e3
      subst e1; subst e2
      have c0 := (hb.cell (p := ⟨b, o + k * 2, none⟩) hbw).trans c0
      have c1 := (hb.cell (p := ⟨b, o + k * 2 + 1, none⟩) hbw).trans c1
      have hsn := PostM.mx_snoc (l.take k) l[k]
      rw [← PostM.take_snoc_p l k hkl] at hsn
      obtain ⟨⟨p1, p2⟩, hp⟩ : ∃ p, p = l[k] := ⟨_, rfl⟩
      rw [← hp] at c0 c1 hsn
      simp only at c0 c1 hsn
      obtain ⟨M, hM⟩ : ∃ M, M = PostM.mx (l.take k) := ⟨_, rfl⟩
      rw [← hM] at hsn k10 h1
      have HS := Lib.hid hsn
      have H0 := Lib.hid h0
      have H1 := Lib.hid h1
      have HB := Lib.hid hb
      have hbw2 : b < wr.heap.size := Nat.lt_of_lt_of_le hbw hb.size
      clear hsn hM hp h0 h1 hb
      go_wp2
      go_roundw
      case rel =>
        have hmm : (if M < p2 then p2 else M) = max M p2 := by omega
        refine ⟨k + 1, by omega, by go_num, ?_, ?_, ?_⟩
        · rw [Below.heap_alloc _ _ _ (by simpa [World.setCell] using l0), Below.heap_setCell _ _ _ _ (show w.heap.size ≠ w.heap.size + 1 by omega)]
          exact H0.out
        · rw [HS.out, hmm, Below.heap_alloc _ _ _ (by simpa [World.setCell] using l1), heap_setCell_row H1.out 0 _]
          simp
        · exact (HB.out.setCell (p := ⟨w.heap.size + 1, 0, none⟩) (Nat.le_succ _) _).alloc (by have := HB.out.size; simpa [World.setCell] using this) _
      case measure => simp [intOf]; omega
    · have : k = m + 1 := by omega
      subst this
      have hM : PostM.mx (l.take (m + 1)) = PostM.mx l := by rw [HN.out, List.take_length]
      rw [hM] at k10 h1
      have HB := Lib.hid hb
      clear hM h0 h1 hb
      go_wp2
      exact bodyPost_ret (v := .agg #[.int .i64 (PostM.mx l), .int .i64 dd]) (by simp [results, Tryz.results59, go_sem, k00, k01]) rfl ⟨rfl, (HB.out.setCell (by simp) _).setCell (by simp) _⟩
end Go.Proofs.YtpinpnbhbngclaaGreat

/- Posts: the iterator that cuts into pieces. -/
namespace Go.Proofs.YtpinpnbhbngclaaGreat
open Go.RowKit Go.Shelf

attribute [local go_sem] Oper.semAt_some

/-- piece number i of N things, s in each -/
abbrev Pc (N s : Nat) := { i : Nat // i * s < N }
def encP (N s : Nat) (i : Pc N s) : Array Value := #[.int .i64 ((i.1 * s : Nat) : Int), .int .i64 ((min (i.1 * s + s) N : Nat) : Int)]
def pcNo {N s : Nat} (l : List (Pc N s)) : List Nat := l.map (·.1)
theorem pcNo_succ {N s k : Nat} {l : List (Pc N s)} (h : pcNo l = List.range k) (hk : k * s < N) : pcNo (l ++ [⟨k, hk⟩]) = List.range (k + 1) := by
  unfold pcNo at *
  rw [List.map_append, h, List.range_succ]
  rfl
theorem pcNo_len {N s k : Nat} {l : List (Pc N s)} (h : pcNo l = List.range k) : l.length = k := by
  have := congrArg List.length h
  simpa [pcNo] using this

/-- two blocks stay -/
def Keep2 (p q : Nat) (W W' : World) : Prop := W'.heap[p]? = W.heap[p]? ∧ W'.heap[q]? = W.heap[q]?
theorem Keep2.refl (p q : Nat) (W : World) : Keep2 p q W W := ⟨rfl, rfl⟩
theorem Keep2.trans {p q : Nat} {A B C : World} (h : Keep2 p q A B) (k : Keep2 p q B C) : Keep2 p q A C := ⟨k.1.trans h.1, k.2.trans h.2⟩
theorem Keep2.below {p q B : Nat} {W W' : World} (h : Below B W W') (hp : p < B) (hq : q < B) : Keep2 p q W W' := ⟨h.block p hp, h.block q hq⟩
theorem Keep2.put_ {p q k : Nat} {W : World} {o : Obj} (hp : p ≠ k) (hq : q ≠ k) : Keep2 p q W (W.putObj k o) := ⟨World.putObj_heap_other hp, World.putObj_heap_other hq⟩
set_option maxHeartbeats 1000000 in
set_option maxRecDepth 100000 in
/-- 'pieces': the numbers are boxed, the function value holds the boxes -/
theorem pieces_any (N s : Int) (w : World) :
    Calls Tryz.prog 58 #[.int .i64 N, .int .i64 s] w fun e w' => e = .returned (.func (.func 81) #[] #[.pointer (some ⟨w.heap.size, 0, none⟩), .pointer (some ⟨w.heap.size + 1, 0, none⟩)]) ∧ w' = (w.alloc (.cells #[.int .i64 N] 3)).alloc (.cells #[.int .i64 s] 3) := by
  go_enter Tryz.func58, Tryz.ntmps58
  go_wp2
  go_ret
  exact ⟨rfl, rfl⟩

set_option maxRecDepth 100000 in
set_option maxHeartbeats 2000000 in
theorem pieces1_in (F : Fence) (n : Nat) (h7 : F.fn 81) (hro : F.round = none) (hn : 1 ≤ n) (r Bn Bs N s : Nat) (hs : 0 < s) (hs2 : s ≤ 65536) (hN : N ≤ 1000000000) (J Jx : List (Pc N s) → World → Prop)
    (hY : ∀ pre x W, J pre W → pre.length < N → YieldAt F (n - 1) Tryz.prog r (encP N s x) W fun e W' =>
      (e = .returned (.bool true) ∧ J (pre ++ [x]) W' ∧ Keep2 Bn Bs W W') ∨ (e = .returned (.bool false) ∧ Jx (pre ++ [x]) W'))
    (W : World) (hcn : W.cell? ⟨Bn, 0, none⟩ = some (.int .i64 (N : Int))) (hcs : W.cell? ⟨Bs, 0, none⟩ = some (.int .i64 (s : Int))) (h0 : J [] W) :
    CallsIn F n Tryz.prog 81 #[.func (.yield r) #[] #[], .pointer (some ⟨Bn, 0, none⟩), .pointer (some ⟨Bs, 0, none⟩)] W fun e W' => (∃ v, e = .returned v) ∧
      ((∃ ys, (∃ k, pcNo ys = List.range k ∧ N ≤ k * s) ∧ J ys W') ∨ (∃ pre, True ∧ Jx pre W')) := by
  refine callsIn_of_wp Tryz.func81 rfl h7 ?_ hro
  simp only [Tryz.ntmps81, List.size_toArray, List.length_cons, List.length_nil, Nat.reduceAdd, Nat.reduceSub, Array.replicate_succ, Array.replicate_zero, List.push_toArray, List.append_toArray, List.nil_append, List.cons_append]
  gi_wp2
  gi_loopw [4] (fun x wr => ∃ (k f : Nat) (pre : List (Pc N s)), f = k * s ∧ x = .int .i64 f ∧ f ≤ N + s ∧ pcNo pre = List.range k ∧ J pre wr ∧ Keep2 Bn Bs W wr) (fun x _ => N - (intOf x).toNat)
  case atStart => exact ⟨0, 0, [], by simp, rfl, by omega, rfl, h0, Keep2.refl _ _ _⟩
  case round =>
    obtain ⟨k, f, pre, hf, rfl, hfl, hpn, hJs, hnx⟩ := hrel
    have kn := (World.cell?_of_block (a := ⟨Bn, 0, none⟩) hnx.1).trans hcn
    have ks := (World.cell?_of_block (a := ⟨Bs, 0, none⟩) hnx.2).trans hcs
    by_cases hlt : f < N
    · have hkN : k < N := by
        have : k ≤ k * s := Nat.le_mul_of_pos_right k hs
        omega
      have hks : k * s < N := by rw [← hf]; exact hlt
      obtain ⟨fn, tmps, assign, body, hy, hR⟩ := hY pre ⟨k, hks⟩ wr hJs (by rw [pcNo_len hpn]; exact hkN)
      obtain ⟨t, ht⟩ : ∃ t, t = min (f + s) N := ⟨_, rfl⟩
      unfold encP at hy
      simp only at hy
      rw [← hf, ← ht] at hy
      have HF := Lib.hid hf
      have HP := Lib.hid (pcNo_succ hpn hks)
      clear hf hpn
      by_cases hm : N < f + s
      · obtain rfl : t = N := by omega
        have hmi : (t : Int) < (f : Int) + (s : Int) := by omega
        clear ht hm
        gi_wp2
        refine hR.mono ?_
        rintro e W3 (⟨rfl, hJ3, hk3⟩ | ⟨rfl, hJx3⟩)
        · have ks3 := (World.cell?_of_block (a := ⟨Bs, 0, none⟩) hk3.2).trans ks
          gi_wp2
          go_roundw
          case rel => exact ⟨k + 1, f + s, _, by rw [Nat.succ_mul, HF.out], by go_num, by omega, HP.out, hJ3, hnx.trans hk3⟩
          case measure => simp [intOf]; omega
        · gi_wp2
          refine bodyPost_ret (results_none rfl _ _ _) rfl ?_
          exact ⟨⟨_, rfl⟩, .inr ⟨_, trivial, hJx3⟩⟩
      · obtain rfl : t = f + s := by omega
        have hmi : (f : Int) + (s : Int) ≤ (N : Int) := by omega
        have hmj : ¬ (N : Int) < (f : Int) + (s : Int) := by omega
        rw [Int.natCast_add] at hy
        clear ht hm
        gi_wp2
        refine hR.mono ?_
        rintro e W3 (⟨rfl, hJ3, hk3⟩ | ⟨rfl, hJx3⟩)
        · have ks3 := (World.cell?_of_block (a := ⟨Bs, 0, none⟩) hk3.2).trans ks
          gi_wp2
          go_roundw
          case rel => exact ⟨k + 1, f + s, _, by rw [Nat.succ_mul, HF.out], by go_num, by omega, HP.out, hJ3, hnx.trans hk3⟩
          case measure => simp [intOf]; omega
        · gi_wp2
          refine bodyPost_ret (results_none rfl _ _ _) rfl ?_
          exact ⟨⟨_, rfl⟩, .inr ⟨_, trivial, hJx3⟩⟩
    · have HF := Lib.hid hf
      clear hf
      gi_wp2
      go_end0
      exact ⟨⟨_, rfl⟩, .inl ⟨_, ⟨k, hpn, by rw [← HF.out]; omega⟩, hJs⟩⟩

theorem pieces_stops (F : Fence) (n : Nat) (h7 : F.fn 81) (hro : F.round = none) (hn : 1 ≤ n) (Bn Bs N s : Nat) (hs : 0 < s) (hs2 : s ≤ 65536) (hN : N ≤ 1000000000) (w : World)
    (hcn : w.cell? ⟨Bn, 0, none⟩ = some (.int .i64 (N : Int))) (hcs : w.cell? ⟨Bs, 0, none⟩ = some (.int .i64 (s : Int))) :
    SeqStopsK F n Tryz.prog 81 #[.pointer (some ⟨Bn, 0, none⟩), .pointer (some ⟨Bs, 0, none⟩)] (encP N s) (Keep2 Bn Bs) (fun ys => ∃ k, pcNo ys = List.range k ∧ N ≤ k * s) (fun _ => True) N w := fun r J Jx W hW _ _ hY h0 =>
  pieces1_in F n h7 hro hn r Bn Bs N s hs hs2 hN J Jx hY W ((hW.cell (p := ⟨Bn, 0, none⟩) (World.block_lt_of_cell? w _ hcn)).trans hcn) ((hW.cell (p := ⟨Bs, 0, none⟩) (World.block_lt_of_cell? w _ hcs)).trans hcs) h0
end Go.Proofs.YtpinpnbhbngclaaGreat

/- Posts: the two statements of the body that makes a list. -/
namespace Go.Proofs.YtpinpnbhbngclaaGreat
open Go.RowKit Go.Shelf

attribute [local go_sem] Oper.semAt_some

def slA : Value → Option Addr
  | .slice a _ _ => a
  | _ => none
def slN : Value → Nat
  | .slice _ n _ => n
  | _ => 0
def slC : Value → Nat
  | .slice _ _ c => c
  | _ => 0
theorem PRow.shape {e : TypeId} {w : World} {base : Nat} {v : Value} {l : List (Int × Int)} (h : PRow e w base v l) : v = .slice (slA v) (slN v) (slC v) := by
  obtain ⟨A, c, e, _⟩ := h.form
  rw [e]
  rfl
/-- what holds amid 'l.blocks = append(l.blocks, b)' -/
structure A6I (B1 B2 K6 base : Nat) (v vb : Value) (bl : List (Int × Int)) (b1 b2 M : Int) (L : Nat → Bool) (W : World) : Prop where
  hp : W.heap[B2]? = some (.cells #[.pointer (some ⟨B1, 0, none⟩)] 55 (0, 0))
  hb : W.heap[K6]? = some (.cells #[.int .i64 b1, .int .i64 b2] 110 (0, 0))
  row : L 7 = false → PRow 110 W base vb bl
  hc : L 10 = false → W.heap[B1]? = some (.cells #[v, vb, .int .i64 M] 105 (0, 0))
  fin : L 10 = true → ∃ v', W.heap[B1]? = some (.cells #[v, v', .int .i64 M] 105 (0, 0)) ∧ PRow 110 W base v' (bl ++ [(b1, b2)])
def A6G (B1 base : Nat) (vb : Value) (bl : List (Int × Int)) (b1 b2 : Int) (i : Nat) (L : Nat → Bool) (x : Value) (W : World) : Prop :=
  match i with
  | 0 => x = .pointer (some ⟨B1, 0, none⟩)
  | 1 => x = .pointer (some ⟨B1, 0, none⟩)
  | 2 => x = .pointer (some ⟨B1, 0, none⟩)
  | 3 => x = .pointer (some ⟨B1, 1, none⟩)
  | 4 => x = vb
  | 5 => x = .agg #[.int .i64 b1, .int .i64 b2]
  | 6 => ∃ g, x = .slice (some ⟨g, 0, none⟩) 1 1 ∧ g ≠ B1 ∧ (L 7 = false → g < W.heap.size ∧ W.cell? ⟨g, 0, none⟩ = some (.int .i64 b1) ∧ W.cell? ⟨g, 1, none⟩ = some (.int .i64 b2))
  | 7 => x = .slice (slA x) (slN x) (slC x) ∧ (L 10 = false → PRow 110 W base x (bl ++ [(b1, b2)]))
  | 8 => x = .pointer (some ⟨B1, 0, none⟩)
  | 9 => x = .pointer (some ⟨B1, 1, none⟩)
  | _ => True
theorem turned_of_own {S : Nat → Prop} {w w' : World} {r : Option Nat} (h : w.grownBy w' r) (hS : ∀ g, r = some g → S g) : Turned S w w' :=
  ⟨h.os, h.tape, h.output, h.size, fun k hk hs => h.block k hk (fun e => hs (hS k e.symm))⟩
theorem Turned.others {S : Nat → Prop} {w w' : World} (h : Turned S w w') (hS : ∀ k o, S k → w.heap[k]? = some o → o.isCells = true) : KeepsOthers w w' :=
  ⟨h.size, fun k o hk ho => by
    refine (h.block k (Array.getElem?_eq_some_iff.1 hk).1 (fun s => ?_)).trans hk
    rw [hS k o s hk] at ho
    cases ho⟩
section
variable {B1 B2 K6 base : Nat} {v vb : Value} {bl : List (Int × Int)} {b1 b2 M : Int} {L : Nat → Bool} {k : Nat} {w w' : World}
theorem A6I_keep (hk : (k == 7 || k == 10) = false) (hb : Below w.heap.size w w') (h : A6I B1 B2 K6 base v vb bl b1 b2 M L w) : A6I B1 B2 K6 base v vb bl b1 b2 M (linUp L k) w' := by
  simp at hk
  have e7 : linUp L k 7 = L 7 := linUp_at hk.1
  have e10 : linUp L k 10 = L 10 := linUp_at hk.2
  refine ⟨blk_stay hb h.hp, blk_stay hb h.hb, fun e => (h.row (by rw [← e7]; exact e)).later hb, fun e => blk_stay hb (h.hc (by rw [← e10]; exact e)), fun e => ?_⟩
  obtain ⟨v', f1, f2⟩ := h.fin (by rw [← e10]; exact e)
  exact ⟨v', blk_stay hb f1, f2.later hb⟩
theorem A6G_keep : ∀ (i : Nat) {x : Value}, (k == 7 || k == 10) = false → Below w.heap.size w w' → A6G B1 base vb bl b1 b2 i L x w → A6G B1 base vb bl b1 b2 i (linUp L k) x w'
  | 0, _, _, _, h => h
  | 1, _, _, _, h => h
  | 2, _, _, _, h => h
  | 3, _, _, _, h => h
  | 4, _, _, _, h => h
  | 5, _, _, _, h => h
  | 6, _, hk, hb, h => by
    obtain ⟨g, e, hne, hc⟩ := h
    simp at hk
    refine ⟨g, e, hne, fun e7 => ?_⟩
    rw [linUp_at hk.1] at e7
    obtain ⟨h1, h2, h3⟩ := hc e7
    exact ⟨Nat.lt_of_lt_of_le h1 hb.size, (hb.cell (p := ⟨g, 0, none⟩) h1).trans h2, (hb.cell (p := ⟨g, 1, none⟩) h1).trans h3⟩
  | 7, _, hk, hb, h => ⟨h.1, fun e => by
    simp at hk
    rw [linUp_at hk.2] at e
    exact (h.2 e).later hb⟩
  | 8, _, _, _, h => h
  | 9, _, _, _, h => h
  | _ + 10, _, _, _, _ => trivial
theorem A6I_seven (h : A6I B1 B2 K6 base v vb bl b1 b2 M L w) (hg : w.grownBy w' vb.ownBlock) (hv : ∀ g, vb.ownBlock = some g → base ≤ g ∧ g ≠ K6) (hB : B1 < base ∧ B2 < base) (h10 : L 10 = false) : A6I B1 B2 K6 base v vb bl b1 b2 M (linUp L 7) w' := by
  have st : ∀ {q : Nat} {o : Obj}, w.heap[q]? = some o → (q < base ∨ q = K6) → w'.heap[q]? = some o := fun hq hc => (hg.block _ (Array.getElem?_eq_some_iff.1 hq).1 (fun e => by
    have := hv _ e.symm
    omega)).trans hq
  exact ⟨st h.hp (.inl hB.2), st h.hb (.inr rfl), fun e => (by rw [linUp_same] at e; cases e), fun e => st (h.hc h10) (.inl hB.1), fun e => (by rw [linUp_at (by omega), h10] at e; cases e)⟩
theorem A6G_seven : ∀ (i : Nat) {x : Value}, i ≠ 7 → A6G B1 base vb bl b1 b2 i L x w → A6G B1 base vb bl b1 b2 i (linUp L 7) x w'
  | 0, _, _, h => h
  | 1, _, _, h => h
  | 2, _, _, h => h
  | 3, _, _, h => h
  | 4, _, _, h => h
  | 5, _, _, h => h
  | 6, _, _, h => by
    obtain ⟨g, e, hne, _⟩ := h
    exact ⟨g, e, hne, fun e7 => (by rw [linUp_same] at e7; cases e7)⟩
  | 7, _, h7, _ => absurd rfl h7
  | 8, _, _, h => h
  | 9, _, _, h => h
  | _ + 10, _, _, _ => trivial
theorem A6I_ten {v' : Value} (h : A6I B1 B2 K6 base v vb bl b1 b2 M L w) (hL : L 10 = false) (hvb : ∀ g, vb.ownBlock = some g → base ≤ g) (hrow : PRow 110 w base v' (bl ++ [(b1, b2)])) (hB : B1 < base ∧ B2 < base) (hne : B1 ≠ B2 ∧ B1 ≠ K6) : A6I B1 B2 K6 base v vb bl b1 b2 M (linUp L 10) (w.setCell ⟨B1, 1, none⟩ v') := by
  have st : ∀ {q : Nat} {o : Obj}, w.heap[q]? = some o → q ≠ B1 → (w.setCell ⟨B1, 1, none⟩ v').heap[q]? = some o := fun hq hc => (Below.heap_setCell w _ _ _ hc).trans hq
  refine ⟨st h.hp (fun e => hne.1 e.symm), st h.hb (fun e => hne.2 e.symm), fun e => (h.row (by rw [linUp_at (by omega)] at e; exact e)).kept (fun g hg => Below.heap_setCell w _ _ _ (fun e => by have := hvb g hg; have e' : g = B1 := e; omega)), fun e => (by rw [linUp_same] at e; cases e), fun _ => ⟨v', ?_, hrow.kept (fun g hg => Below.heap_setCell w _ _ _ (fun e => ?_))⟩⟩
  · rw [heap_setCell_row (h.hc hL) 1 _]
    simp
  · have := (World.ownsRow.lt hrow g hg).1
    have e' : g = B1 := e
    omega
theorem A6G_ten {v' : Value} : ∀ (i : Nat) {x : Value}, A6G B1 base vb bl b1 b2 i L x w → A6G B1 base vb bl b1 b2 i (linUp L 10) x (w.setCell ⟨B1, 1, none⟩ v')
  | 0, _, h => h
  | 1, _, h => h
  | 2, _, h => h
  | 3, _, h => h
  | 4, _, h => h
  | 5, _, h => h
  | 6, _, h => by
    obtain ⟨g, e, hne, hc⟩ := h
    refine ⟨g, e, hne, fun e7 => ?_⟩
    rw [linUp_at (by omega)] at e7
    obtain ⟨h1, h2, h3⟩ := hc e7
    refine ⟨by simpa [World.setCell] using h1, ?_, ?_⟩
    · rw [World.cell?_setCell_other _ _ _ _ (fun e => hne (by injection e with e; exact e.symm))]; exact h2
    · rw [World.cell?_setCell_other _ _ _ _ (fun e => hne (by injection e with e; exact e.symm))]; exact h3
  | 7, _, h => ⟨h.1, fun e => (by rw [linUp_same] at e; cases e)⟩
  | 8, _, h => h
  | 9, _, h => h
  | _ + 10, _, _ => trivial
/-- what holds amid 'l.most = max(l.most, b.most)' -/
structure A7I (B1 B2 K6 base : Nat) (v vb : Value) (bl : List (Int × Int)) (b1 b2 M M' : Int) (L : Nat → Bool) (W : World) : Prop where
  hp : W.heap[B2]? = some (.cells #[.pointer (some ⟨B1, 0, none⟩)] 55 (0, 0))
  hb : W.heap[K6]? = some (.cells #[.int .i64 b1, .int .i64 b2] 110 (0, 0))
  row : PRow 110 W base vb bl
  hc : L 10 = false → W.heap[B1]? = some (.cells #[v, vb, .int .i64 M] 105 (0, 0))
  fin : L 10 = true → W.heap[B1]? = some (.cells #[v, vb, .int .i64 M'] 105 (0, 0))
def A7G (B1 K6 : Nat) (b1 M M' : Int) (i : Nat) (x : Value) : Prop :=
  match i with
  | 0 => x = .pointer (some ⟨B1, 0, none⟩)
  | 1 => x = .pointer (some ⟨B1, 0, none⟩)
  | 2 => x = .pointer (some ⟨B1, 0, none⟩)
  | 3 => x = .pointer (some ⟨B1, 2, none⟩)
  | 4 => x = .int .i64 M
  | 5 => x = .pointer (some ⟨K6, 0, none⟩)
  | 6 => x = .int .i64 b1
  | 7 => x = .int .i64 M'
  | 8 => x = .pointer (some ⟨B1, 0, none⟩)
  | 9 => x = .pointer (some ⟨B1, 2, none⟩)
  | _ => True
theorem A7I_keep {M' : Int} (hk : (k == 10) = false) (hb : Below w.heap.size w w') (h : A7I B1 B2 K6 base v vb bl b1 b2 M M' L w) : A7I B1 B2 K6 base v vb bl b1 b2 M M' (linUp L k) w' := by
  simp at hk
  have e10 : linUp L k 10 = L 10 := linUp_at hk
  exact ⟨blk_stay hb h.hp, blk_stay hb h.hb, h.row.later hb, fun e => blk_stay hb (h.hc (by rw [← e10]; exact e)), fun e => blk_stay hb (h.fin (by rw [← e10]; exact e))⟩
theorem A7I_ten {M' : Int} (h : A7I B1 B2 K6 base v vb bl b1 b2 M M' L w) (hL : L 10 = false) (hB : B1 < base) (hne : B1 ≠ B2 ∧ B1 ≠ K6) : A7I B1 B2 K6 base v vb bl b1 b2 M M' (linUp L 10) (w.setCell ⟨B1, 2, none⟩ (.int .i64 M')) := by
  have st : ∀ {q : Nat} {o : Obj}, w.heap[q]? = some o → q ≠ B1 → (w.setCell ⟨B1, 2, none⟩ (.int .i64 M')).heap[q]? = some o := fun hq hc => (Below.heap_setCell w _ _ _ hc).trans hq
  refine ⟨st h.hp (fun e => hne.1 e.symm), st h.hb (fun e => hne.2 e.symm), h.row.kept (fun g hg => Below.heap_setCell w _ _ _ (fun e => ?_)), fun e => (by rw [linUp_same] at e; cases e), fun _ => ?_⟩
  · have := (World.ownsRow.lt h.row g hg).1
    have e' : g = B1 := e
    omega
  · rw [heap_setCell_row (h.hc hL) 2 _]
    simp
end
end Go.Proofs.YtpinpnbhbngclaaGreat

/- Posts: a list is made of posts. -/
namespace Go.Proofs.YtpinpnbhbngclaaGreat
open Go.RowKit Go.Shelf

attribute [local go_sem] Oper.semAt_some

/-- the list l, at block b -/
def PL (w : World) (b : Nat) (l : List (Int × Int)) : Prop :=
  ∃ vp vb, w.heap[b]? = some (.cells #[vp, vb, .int .i64 (PostM.mx l)] 105 (0, 0)) ∧ Prd w vp l ∧ Prd w vb (PostM.blks l)
theorem PL.below {w w' : World} {b : Nat} {l : List (Int × Int)} (h : PL w b l) (hb : Below w.heap.size w w') : PL w' b l := by
  obtain ⟨vp, vb, h1, h2, h3⟩ := h
  exact ⟨vp, vb, below_block hb (Array.getElem?_eq_some_iff.1 h1).1 h1, h2.later hb, h3.later hb⟩
/-- a block of cells stays where a block that is none turns -/
theorem cells_stay {W W' : World} {k : Nat} {cs : Array Value} {t : TypeId} {row : Option Nat} (h : W.heap[k]? = some (.cells cs t (0, 0))) (hg : W.grownBy W' row) (hr : ∀ r, row = some r → ∃ o : Obj, W.heap[r]? = some o ∧ o.isCells = false) : W'.heap[k]? = some (.cells cs t (0, 0)) := by
  refine (hg.block k (Array.getElem?_eq_some_iff.1 h).1 (fun e => ?_)).trans h
  obtain ⟨o, ho, hc⟩ := hr k e.symm
  rw [h] at ho
  injection ho with ho
  subst ho
  cases hc
theorem prow_stay {e : TypeId} {W W' : World} {base : Nat} {v : Value} {l : List (Int × Int)} {row : Option Nat} (h : PRow e W base v l) (hg : W.grownBy W' row) (hr : ∀ r, row = some r → ∃ o : Obj, W.heap[r]? = some o ∧ o.isCells = false) : PRow e W' base v l := by
  refine ⟨h.1, ?_⟩
  rcases h.2 with hn | ⟨g, cap, cur, rfl, hbg, hgg, rest⟩
  · exact .inl hn
  · exact .inr ⟨g, cap, cur, rfl, hbg, cells_stay hgg hg hr, rest⟩

theorem old_at {w : World} {k : Nat} {o x : Obj} (h : w.heap[k]? = some o) : (w.alloc x).heap[k]? = some o := (Below.heap_alloc w x k (Array.getElem?_eq_some_iff.1 h).1).trans h
theorem new_at {w : World} {k : Nat} {o : Obj} (h : w.heap.size = k) : (w.alloc o).heap[k]? = some o := by subst h; exact heap_alloc_new w o
/-- the greatest weight of the pieces that have come -/
def mxs {N s : Nat} (l : List (Int × Int)) (pre : List (Pc N s)) : Int := pre.foldl (fun m x => max m (PostM.mx (PostM.piece l x.1))) 0
theorem mxs_snoc {N s : Nat} (l : List (Int × Int)) (pre : List (Pc N s)) (x : Pc N s) : mxs l (pre ++ [x]) = max (mxs l pre) (PostM.mx (PostM.piece l x.1)) := by simp [mxs]
theorem mxs_range {N s : Nat} (l : List (Int × Int)) (k : Nat) : ∀ pre : List (Pc N s), pcNo pre = List.range k → mxs l pre = PostM.mx (l.take (4 * k)) := by
  intro pre hp
  have e : mxs l pre = (pcNo pre).foldl (fun m i => max m (PostM.mx (PostM.piece l i))) 0 := by unfold mxs pcNo; rw [List.foldl_map]
  rw [e, hp]
  clear e hp pre
  induction k with
  | zero => simp [PostM.mx]
  | succ k ih => rw [List.range_succ, List.foldl_append, ih, PostM.mx_take_piece]; rfl
def blkOf {N s : Nat} (l : List (Int × Int)) (pre : List (Pc N s)) : List (Int × Int) := pre.map fun x => PostM.blk (PostM.piece l x.1)
theorem blkOf_range {N s : Nat} (l : List (Int × Int)) (k : Nat) (pre : List (Pc N s)) (hp : pcNo pre = List.range k) : blkOf l pre = (List.range k).map fun i => PostM.blk (PostM.piece l i) := by
  rw [← hp]; unfold blkOf pcNo; rw [List.map_map]; rfl
theorem pcNo_end {N k : Nat} {pre : List (Pc N 4)} (hp : pcNo pre = List.range k) (hk : N ≤ k * 4) : k = PostM.cnt N := by
  unfold PostM.cnt
  rcases Nat.eq_zero_or_pos k with rfl | h0
  · omega
  · have hm : k - 1 ∈ pcNo pre := by rw [hp, List.mem_range]; omega
    unfold pcNo at hm
    obtain ⟨x, _, hx⟩ := List.mem_map.1 hm
    have := x.2
    omega
/-- what stands between two rounds: v = the posts, pre = the pieces that have come -/
structure LofI (w : World) (base : Nat) (v : Value) (l : List (Int × Int)) (N : Nat) (pre : List (Pc N 4)) (W : World) : Prop where
  h0 : W.heap[w.heap.size]? = some (.cells #[v] 61 (0, 0))
  h2 : W.heap[w.heap.size + 1 + 1]? = some (.cells #[.pointer (some ⟨w.heap.size + 1, 0, none⟩)] 55 (0, 0))
  h1 : ∃ vb, W.heap[w.heap.size + 1]? = some (.cells #[v, vb, .int .i64 (mxs l pre)] 105 (0, 0)) ∧ PRow 110 W base vb (blkOf l pre)
theorem LofI.stay {w W W' : World} {base : Nat} {v : Value} {l : List (Int × Int)} {N : Nat} {pre : List (Pc N 4)} {row : Option Nat} (h : LofI w base v l N pre W) (hg : W.grownBy W' row) (hr : ∀ r, row = some r → ∃ o : Obj, W.heap[r]? = some o ∧ o.isCells = false) : LofI w base v l N pre W' := by
  obtain ⟨b, c, vb, d, e⟩ := h
  exact ⟨cells_stay b hg hr, cells_stay c hg hr, vb, cells_stay d hg hr, prow_stay e hg hr⟩
/-- a part of what was read -/
theorem Prd.part {w : World} {b o n cp : Nat} {l : List (Int × Int)} (h : Prd w (.slice (some ⟨b, o, none⟩) n cp) l) (f m c : Nat) (hf : f + m ≤ l.length) (hc : m ≤ c) : Prd w (.slice (some ⟨b, o + f * 2, none⟩) m c) ((l.drop f).take m) := by
  obtain ⟨A', cp', e, _, _, hP⟩ := h
  injection e with e1 e2 e3
  subst e1
  have hd := hP.drop f
  have ht := hd.take m (by omega)
  have hlen : ((l.drop f).take m).length = m := by rw [List.length_take, List.length_drop]; omega
  exact ⟨some ⟨b, o + f * 2, none⟩, c, by rw [hlen], by rw [hlen]; exact hc, (fun e => by cases e), by rw [hlen]; exact ht⟩

set_option maxHeartbeats 2000000 in
set_option maxRecDepth 100000 in
theorem listof_own (v : Value) (l : List (Int × Int)) (w : World) (h : Prd w v l) (hl : l.length ≤ 1000000) :
    Calls Tryz.prog 37 #[v] w fun e w' => ∃ b, e = .returned (.pointer (some ⟨b, 0, none⟩)) ∧ w.heap.size ≤ b ∧ (∃ vb, w'.heap[b]? = some (.cells #[v, vb, .int .i64 (PostM.mx l)] 105 (0, 0)) ∧ Prd w' v l ∧ PRow 110 w' w.heap.size vb (PostM.blks l)) ∧ Below w.heap.size w w' := by
  have hP := h
  obtain ⟨A, cp, rfl, hcp⟩ := h.form
  obtain ⟨n, hn⟩ : ∃ n, n = l.length := ⟨_, rfl⟩
  rw [← hn] at hl hcp hP ⊢
  have HP := Lib.hid hP
  have HN := Lib.hid hn
  clear h hP hn
  refine (callsIn_wide (n := 4)).1 ?_
  refine callsIn_of_wp_marks Tryz.func37 rfl trivial ?_ rfl
  simp only [Tryz.ntmps37, List.size_toArray, List.length_cons, List.length_nil, Nat.reduceAdd, Nat.reduceSub, Array.replicate_succ, Array.replicate_zero, List.push_toArray, List.append_toArray, List.nil_append, List.cons_append]
  gi_wp2
  refine ⟨trivial, ?_⟩
  refine (callsIn_wide.2 (pieces_any _ _ _)).mono ?_
  rintro e w' ⟨rfl, rfl⟩
  gi_wp2
  obtain ⟨W0, hW0⟩ : ∃ W0, W0 = ((((w.alloc (.cells #[.slice A n cp] 61)).alloc (.cells #[.slice A n cp, .slice none 0 0, .int .i64 0] 105)).alloc (.cells #[.pointer (some ⟨w.heap.size + 1, 0, none⟩)] 55)).alloc (.cells #[.int .i64 (n : Int)] 3)).alloc (.cells #[.int .i64 4] 3) := ⟨_, rfl⟩
  have sz : W0.heap.size = w.heap.size + 5 := by rw [hW0]; simp
  have b0 : Below w.heap.size w W0 := by rw [hW0]; exact (((((Below.refl _ _).alloc (Nat.le_refl _) _).alloc (by simp) _).alloc (by simp; omega) _).alloc (by simp; omega) _).alloc (by simp; omega) _
  have g0 : W0.heap[w.heap.size]? = some (.cells #[.slice A n cp] 61 (0, 0)) := by rw [hW0]; exact old_at (old_at (old_at (old_at (heap_alloc_new _ _))))
  have g1 : W0.heap[w.heap.size + 1]? = some (.cells #[.slice A n cp, .slice none 0 0, .int .i64 0] 105 (0, 0)) := by rw [hW0]; exact old_at (old_at (old_at (new_at (by simp))))
  have g2 : W0.heap[w.heap.size + 1 + 1]? = some (.cells #[.pointer (some ⟨w.heap.size + 1, 0, none⟩)] 55 (0, 0)) := by rw [hW0]; exact old_at (old_at (new_at (by simp)))
  have g3 : W0.heap[w.heap.size + 1 + 1 + 1]? = some (.cells #[.int .i64 (n : Int)] 3 (0, 0)) := by rw [hW0]; exact old_at (new_at (by simp))
  have g4 : W0.heap[w.heap.size + 1 + 1 + 1 + 1]? = some (.cells #[.int .i64 4] 3 (0, 0)) := by rw [hW0]; exact new_at (by simp)
  rw [← hW0]
  clear hW0
  have k3 := cell_of_cells (i := 0) g3 rfl
  have k4 := cell_of_cells (i := 0) g4 rfl
  refine wpIn_rangeFunc_ownF (F := Fence.wide) (n := 4) rfl (by omega) (gf := 81) (lb := #[.pointer (some ⟨w.heap.size + 1 + 1 + 1, 0, none⟩), .pointer (some ⟨w.heap.size + 1 + 1 + 1 + 1, 0, none⟩)]) rfl trivial (enters_of Tryz.func81 (by kernel_rfl) rfl)
    (pieces_stops Fence.wide 3 trivial rfl (by omega) (w.heap.size + 1 + 1 + 1) (w.heap.size + 1 + 1 + 1 + 1) n 4 (by omega) (by omega) (by omega) W0 k3 k4)
    (fun h k => Keep2.trans h k) (fun W r o o' hr hW hc _ => Keep2.put_ (by omega) (by omega)) (Below.refl _ _) (fun _ => rfl)
    (fun pre W => LofI w W0.heap.size (.slice A n cp) l n pre W ∧ Below w.heap.size w W ∧ W0.heap.size ≤ W.heap.size)
    (fun _ _ _ => False)
    (OwnFrom.and (Own.from (fun s A B row hs hg hr => hs.stay hg hr) _) (OwnFrom.and (ownFrom_below (Nat.le_refl _) (by omega)) (fun _ X Y row hs hg _ => Nat.le_trans hs hg.size)))
    (fun _ _ _ _ _ hs _ _ => hs)
    ⟨⟨g0, g2, _, g1, PRow.nil_ _ _⟩, b0, Nat.le_refl _⟩
    (fun x => { tmps := #[.slice A n cp, .pointer (some ⟨w.heap.size, 0, none⟩), .pointer none, .pointer (some ⟨w.heap.size + 1 + 1, 0, none⟩), .int .i64 ((x.1 * 4 : Nat) : Int), .int .i64 ((min (x.1 * 4 + 4) n : Nat) : Int), undef, .slice A n cp, .agg #[.slice A n cp, .slice none 0 0, .int .i64 0], .pointer (some ⟨w.heap.size + 1, 0, none⟩), .slice A n cp, .int .i64 (n : Int), .func (.func 81) #[] #[.pointer (some ⟨w.heap.size + 1 + 1 + 1, 0, none⟩), .pointer (some ⟨w.heap.size + 1 + 1 + 1 + 1, 0, none⟩)], .int .i64 ((x.1 * 4 : Nat) : Int), .int .i64 ((min (x.1 * 4 + 4) n : Nat) : Int), undef, undef, undef, undef, undef, undef, undef, undef, undef, undef, undef, undef, undef, undef, undef, undef, undef, undef, undef, undef, undef, undef, undef, undef, undef, undef], defers := [] }) ?assign ?body ?done ?stop
  case assign =>
    rintro r ⟨x, hx⟩ W K hK
    simp only [encP] at hK ⊢
    generalize x * 4 = f at hK ⊢
    generalize min (f + 4) n = t at hK ⊢
    gi_wp2
    exact hK
  case body =>
    rintro r pre ⟨x, hx⟩ W ⟨⟨h0, h2, vb, h1, hrow⟩, hB', hBW⟩ hplen
    obtain ⟨b, o, rfl, hbw, _, _⟩ := (HP.out).at_ (x * 4) (by rw [← HN.out]; exact hx)
    have hPW := HP.out.later hB'
    obtain ⟨f, hf⟩ : ∃ f, f = x * 4 := ⟨_, rfl⟩
    obtain ⟨t, ht⟩ : ∃ t, t = min (f + 4) n := ⟨_, rfl⟩
    have hpart := hPW.part f (t - f) (cp - f) (by rw [← HN.out]; omega) (by omega)
    have hpc : (l.drop f).take (t - f) = PostM.piece l x := by
      unfold PostM.piece
      rw [show 4 * x = f by omega]
      by_cases e : f + 4 ≤ n
      · rw [show t - f = 4 by omega]
      · rw [show t - f = n - f by omega, HN.out, List.take_of_length_le (by simp), List.take_of_length_le (by simp; rw [← HN.out]; omega)]
    rw [hpc] at hpart
    have hpl : (PostM.piece l x).length = t - f := by rw [← hpc, List.length_take, List.length_drop, ← HN.out]; omega
    have hsn := mxs_snoc l pre ⟨x, hx⟩
    have hsb : blkOf l (pre ++ [⟨x, hx⟩]) = blkOf l pre ++ [PostM.blk (PostM.piece l x)] := by simp [blkOf]
    simp only
    rw [← hf, ← ht]
    have k0 := cell_of_cells (i := 0) h0 rfl
    have q1 : (f : Int) ≤ (t : Int) := by omega
    have q2 : (t : Int) ≤ (cp : Int) := by omega
    have q3 : (0 : Int) ≤ (f : Int) := by omega
    have q4 : ¬ cp = f := by omega
    have q5 : ¬ (cp : Int) = (f : Int) := by omega
    have hbo := blockof_any _ _ W hpart (by rw [hpl]; omega) (by rw [hpl]; omega)
    unfold sv at hbo
    obtain ⟨⟨b1, b2⟩, hbk⟩ : ∃ q, q = PostM.blk (PostM.piece l x) := ⟨_, rfl⟩
    have hb1m : PostM.mx (PostM.piece l x) = b1 := by have := congrArg Prod.fst hbk; exact this.symm
    rw [← hbk] at hbo hsb
    rw [hb1m] at hsn
    simp only at hbo
    have HBO := Lib.hid hbo
    have HSN := Lib.hid hsn
    have HSB := Lib.hid hsb
    clear hf ht hpc hpart hpl hsn hsb hbk hb1m hbo
    gi_wp2
    refine ⟨trivial, ?_⟩
    refine (CallsIn.inRound r (callsIn_wide.2 HBO.out)).mono ?_
    rintro e W1 ⟨rfl, hw1⟩
    clear HBO k0 q1 q2 q3 q4 q5
    gi_wp2
    obtain ⟨B1, hB1⟩ : ∃ B1, B1 = w.heap.size + 1 := ⟨_, rfl⟩
    rw [← hB1] at h1 h2 ⊢
    obtain ⟨B2, hB2⟩ : ∃ B2, B2 = B1 + 1 := ⟨_, rfl⟩
    rw [← hB2] at h2 ⊢
    obtain ⟨K6, hK6⟩ : ∃ K6, K6 = W1.heap.size := ⟨_, rfl⟩
    obtain ⟨base, hbase⟩ : ∃ base, base = W0.heap.size := ⟨_, rfl⟩
    rw [← hK6]
    rw [← hbase] at hrow
    obtain ⟨W2, hW2⟩ : ∃ W2, W2 = W1.alloc (.cells #[.int .i64 b1, .int .i64 b2] 110) := ⟨_, rfl⟩
    have hw2 : Below W.heap.size W W2 := by rw [hW2]; exact hw1.alloc hw1.size _
    have e6 : W2.heap[K6]? = some (.cells #[.int .i64 b1, .int .i64 b2] 110 (0, 0)) := by rw [hW2, hK6]; exact heap_alloc_new _ _
    rw [← hW2]
    have e1 := blk_stay hw2 h1
    have e2 := blk_stay hw2 h2
    have er := hrow.later hw2
    have hv : ∀ g, vb.ownBlock = some g → base ≤ g ∧ g ≠ K6 := fun g hg => by
      have h1 := World.ownsRow.lt hrow g hg
      have h2 := hw1.size
      exact ⟨h1.1, by omega⟩
    have hle : base ≤ W2.heap.size := by have := hw2.size; omega
    have hlk : base ≤ K6 := by have := hw1.size; omega
    have hB : B1 < base ∧ B2 < base := by omega
    have hne : B1 ≠ B2 ∧ B1 ≠ K6 := by omega
    have hbl : (blkOf l pre).length ≤ n + 1 := by
      have : (blkOf l pre).length = pre.length := by simp [blkOf]
      omega
    obtain ⟨bl, hbl2⟩ : ∃ bl, bl = blkOf l pre := ⟨_, rfl⟩
    obtain ⟨M, hM⟩ : ∃ M, M = mxs l pre := ⟨_, rfl⟩
    rw [← hbl2] at er hbl
    rw [← hM] at e1
    have HX := Lib.hid (And.intro hbl2 hM)
    have HW := Lib.hid (And.intro h0 (And.intro h1 h2))
    have HRW := Lib.hid hrow
    have HEQ := Lib.hid (And.intro hB1 (And.intro hB2 (And.intro hK6 (And.intro hbase sz))))
    clear h0 h1 h2 hrow hbl2 hM hW2 k3 k4 g0 g1 g2 g3 g4 hB1 hB2 hK6 hbase sz
    have hS7 : ∀ g, vb.ownBlock = some g → (fun k => k = B1 ∨ vb.ownBlock = some k) g := fun g hg => .inr hg
    refine wpIn_region_lin (ds := [20, 21, 22, 23, 24, 25, 26, 27, 28, 29]) (by kernel_rfl) (by kernel_rfl) (by rintro ⟨a', w', h⟩; exact h) (by kernel_rfl) (by kernel_rfl) (fun k => k = B1 ∨ vb.ownBlock = some k) (fun k => k == 7 || k == 10)
      (A6I B1 B2 K6 base (.slice (some ⟨b, o, none⟩) n cp) vb bl b1 b2 M) (A6G B1 base vb bl b1 b2) ⟨e2, e6, fun _ => er, fun _ => e1, fun e => by cases e⟩ (fun L k w1 w2 hk hb h => A6I_keep hk hb h) (fun i L k v w1 w2 hk hb h => A6G_keep i hk hb h) ?_ ?_
    · intro l' HL'
      refine LinSteps.cons (fun f L w1 hT hI hsh hL hd K hK => ?_) ?_
      · have kk := cell_of_cells (i := 0) hI.hp rfl
        simp only [linFill, List.foldl_cons, List.foldl_nil, Act.put, List.setIfInBounds_toArray, List.set_cons_zero, List.set_cons_succ] at hK ⊢
        go_simp
        exact hK.out _ _ hT (.inl ⟨rfl, Below.refl _ _⟩) rfl
      refine LinSteps.cons (fun f L w1 hT hI hsh hL hd K hK => ?_) ?_
      · have kk := cell_of_cells (i := 0) hI.hp rfl
        simp only [linFill, List.foldl_cons, List.foldl_nil, Act.put, List.setIfInBounds_toArray, List.set_cons_zero, List.set_cons_succ] at hK ⊢
        go_simp
        exact hK.out _ _ hT (.inl ⟨rfl, Below.refl _ _⟩) rfl
      refine LinSteps.cons (fun f L w1 hT hI hsh hL hd K hK => ?_) ?_
      · have d1 : f 21 = .pointer (some ⟨B1, 0, none⟩) := hd 1 21 (by rw [HL'.out]; kernel_rfl) (by rw [HL'.out]; kernel_rfl)
        simp only [linFill, List.foldl_cons, List.foldl_nil, Act.put, List.setIfInBounds_toArray, List.set_cons_zero, List.set_cons_succ, d1] at hK ⊢
        clear d1
        go_simp
        exact hK.out _ _ hT (.inl ⟨rfl, Below.refl _ _⟩) rfl
      refine LinSteps.cons (fun f L w1 hT hI hsh hL hd K hK => ?_) ?_
      · have d2 : f 22 = .pointer (some ⟨B1, 0, none⟩) := hd 2 22 (by rw [HL'.out]; kernel_rfl) (by rw [HL'.out]; kernel_rfl)
        simp only [linFill, List.foldl_cons, List.foldl_nil, Act.put, List.setIfInBounds_toArray, List.set_cons_zero, List.set_cons_succ, d2] at hK ⊢
        clear d2
        go_simp
        exact hK.out _ _ hT (.inl ⟨rfl, Below.refl _ _⟩) rfl
      refine LinSteps.cons (fun f L w1 hT hI hsh hL hd K hK => ?_) ?_
      · have d3 : f 23 = .pointer (some ⟨B1, 1, none⟩) := hd 3 23 (by rw [HL'.out]; kernel_rfl) (by rw [HL'.out]; kernel_rfl)
        have h10 : L 10 = false := hsh.late 4 hL [7, 4] 10 (by rw [HL'.out]; kernel_rfl) rfl
        have kk := cell_of_cells (i := 1) (hI.hc h10) rfl
        simp only [linFill, List.foldl_cons, List.foldl_nil, Act.put, List.setIfInBounds_toArray, List.set_cons_zero, List.set_cons_succ, d3] at hK ⊢
        clear d3
        go_simp
        exact hK.out _ _ hT (.inl ⟨rfl, Below.refl _ _⟩) rfl
      refine LinSteps.cons (fun f L w1 hT hI hsh hL hd K hK => ?_) ?_
      · have kk := cell_of_cells (i := 0) hI.hb rfl
        have kk2 := cell_of_cells (i := 1) hI.hb rfl
        simp only [linFill, List.foldl_cons, List.foldl_nil, Act.put, List.setIfInBounds_toArray, List.set_cons_zero, List.set_cons_succ] at hK ⊢
        go_simp
        exact hK.out _ _ hT (.inl ⟨rfl, Below.refl _ _⟩) rfl
      refine LinSteps.cons (fun f L w1 hT hI hsh hL hd K hK => ?_) ?_
      · have d5 : f 25 = .agg #[.int .i64 b1, .int .i64 b2] := hd 5 25 (by rw [HL'.out]; kernel_rfl) (by rw [HL'.out]; kernel_rfl)
        simp only [linFill, List.foldl_cons, List.foldl_nil, Act.put, List.setIfInBounds_toArray, List.set_cons_zero, List.set_cons_succ, d5] at hK ⊢
        clear d5
        go_simp
        exact hK.out _ _ (hT.alloc _) (.inl ⟨rfl, pl1 _ _⟩) ⟨_, rfl, (by have hsz : W2.heap.size ≤ w1.heap.size := hT.size; omega), fun _ => ⟨by simp, by go_simp, by go_simp⟩⟩
      refine LinSteps.cons (fun f L w1 hT hI hsh hL hd K hK => ?_) ?_
      · have d4 : f 24 = vb := hd 4 24 (by rw [HL'.out]; kernel_rfl) (by rw [HL'.out]; kernel_rfl)
        have d6 : ∃ g, f 26 = .slice (some ⟨g, 0, none⟩) 1 1 ∧ g ≠ B1 ∧ (L 7 = false → g < w1.heap.size ∧ w1.cell? ⟨g, 0, none⟩ = some (.int .i64 b1) ∧ w1.cell? ⟨g, 1, none⟩ = some (.int .i64 b2)) := hd 6 26 (by rw [HL'.out]; kernel_rfl) (by rw [HL'.out]; kernel_rfl)
        have h10 : L 10 = false := hsh.late 7 hL [7] 10 (by rw [HL'.out]; kernel_rfl) rfl
        obtain ⟨g, hge, _, hgc⟩ := d6
        obtain ⟨hg1, hg2, hg3⟩ := hgc hL
        have hS : Pairs w1 (some ⟨g, 0, none⟩) 1 [(b1, b2)] := ⟨rfl, fun k hk => ⟨g, 0, rfl, hg1, by simp at hk; subst hk; exact ⟨hg2, hg3⟩⟩⟩
        simp only [linFill, List.foldl_cons, List.foldl_nil, Act.put, List.setIfInBounds_toArray, List.set_cons_zero, List.set_cons_succ, d4, hge] at hK ⊢
        clear d4
        rw [if_pos (by rfl)]
        refine wp_append_ps block_ty _ _ rfl base vb bl rfl (hI.row hL) (Nat.le_trans hle hT.size) (some ⟨g, 0, none⟩) 1 1 [(b1, b2)] rfl hS (fun e => by cases e) (by simp; omega) ?_
        intro v' w2 hown hg
        exact hK.out _ _ (hT.trans (turned_of_own hg hS7)) (.inr ⟨A6I_seven hI hg hv hB h10, fun j d hj _ h => A6G_seven j (fun e => by subst e; rw [hL] at hj; cases hj) h⟩) ⟨hown.shape, fun _ => hown⟩
      refine LinSteps.cons (fun f L w1 hT hI hsh hL hd K hK => ?_) ?_
      · have d0 : f 20 = .pointer (some ⟨B1, 0, none⟩) := hd 0 20 (by rw [HL'.out]; kernel_rfl) (by rw [HL'.out]; kernel_rfl)
        simp only [linFill, List.foldl_cons, List.foldl_nil, Act.put, List.setIfInBounds_toArray, List.set_cons_zero, List.set_cons_succ, d0] at hK ⊢
        clear d0
        go_simp
        exact hK.out _ _ hT (.inl ⟨rfl, Below.refl _ _⟩) rfl
      refine LinSteps.cons (fun f L w1 hT hI hsh hL hd K hK => ?_) ?_
      · have d8 : f 28 = .pointer (some ⟨B1, 0, none⟩) := hd 8 28 (by rw [HL'.out]; kernel_rfl) (by rw [HL'.out]; kernel_rfl)
        simp only [linFill, List.foldl_cons, List.foldl_nil, Act.put, List.setIfInBounds_toArray, List.set_cons_zero, List.set_cons_succ, d8] at hK ⊢
        clear d8
        go_simp
        exact hK.out _ _ hT (.inl ⟨rfl, Below.refl _ _⟩) rfl
      refine LinSteps.cons (fun f L w1 hT hI hsh hL hd K hK => ?_) ?_
      · have d7 : f 27 = .slice (slA (f 27)) (slN (f 27)) (slC (f 27)) ∧ (L 10 = false → PRow 110 w1 base (f 27) (bl ++ [(b1, b2)])) := hd 7 27 (by rw [HL'.out]; kernel_rfl) (by rw [HL'.out]; kernel_rfl)
        have d9 : f 29 = .pointer (some ⟨B1, 1, none⟩) := hd 9 29 (by rw [HL'.out]; kernel_rfl) (by rw [HL'.out]; kernel_rfl)
        have hv' := d7.1
        have hrow := d7.2 hL
        clear d7
        generalize slA (f 27) = A' at hv'
        generalize slN (f 27) = mm at hv'
        generalize slC (f 27) = cap' at hv'
        rw [hv'] at hrow
        have hb1 := hI.hc hL
        have kk := cell_of_cells (i := 1) hb1 rfl
        have ff := frozen_of_cells (i := 1) hb1
        simp only [linFill, List.foldl_cons, List.foldl_nil, Act.put, List.setIfInBounds_toArray, List.set_cons_zero, List.set_cons_succ, d9, hv'] at hK ⊢
        clear d9
        go_simp
        exact hK.out undef _ (hT.put_ (.inl (.inl rfl)) _ _) (.inr ⟨A6I_ten hI hL (fun g hg => (hv g hg).1) hrow hB hne, fun j d _ _ h => A6G_ten j h⟩) trivial
      exact LinSteps.nil
    · intro l' HL' f6 L w3 hT hI hall hf
      obtain ⟨v', f1, f2⟩ := hI.fin (hall 10 (by decide))
      have e6 := hI.hb
      have e2 := hI.hp
      clear hf
      simp only [linFill, List.foldl_cons, List.foldl_nil, List.setIfInBounds_toArray, List.set_cons_zero, List.set_cons_succ]
      gi_wp2
      have HT6 := Lib.hid hT
      have c1 : (fun k => k = B1) = (fun k => k = B1) := rfl
      obtain ⟨M', hM'⟩ : ∃ M', M' = max M b1 := ⟨_, rfl⟩
      have hMM : (if M < b1 then b1 else M) = M' := by omega
      have HM' := Lib.hid hM'
      clear hI hall hT c1 hM'
      refine wpIn_region_lin (ds := [30, 31, 32, 33, 34, 35, 36, 37, 38, 39]) (by kernel_rfl) (by kernel_rfl) (by rintro ⟨a', w', h⟩; exact h) (by kernel_rfl) (by kernel_rfl) (fun k => k = B1) (fun k => k == 10)
        (A7I B1 B2 K6 base (.slice (some ⟨b, o, none⟩) n cp) v' (bl ++ [(b1, b2)]) b1 b2 M M') (fun i _ x _ => A7G B1 K6 b1 M M' i x) ⟨e2, e6, f2, fun _ => f1, fun e => by cases e⟩ (fun L k w1 w2 hk hb h => A7I_keep hk hb h) (fun i L k v w1 w2 hk hb h => h) ?_ ?_
      · intro l' HL'
        refine LinSteps.cons (fun f L w1 hT hI hsh hL hd K hK => ?_) ?_
        · have kk := cell_of_cells (i := 0) hI.hp rfl
          simp only [linFill, List.foldl_cons, List.foldl_nil, Act.put, List.setIfInBounds_toArray, List.set_cons_zero, List.set_cons_succ] at hK ⊢
          go_simp
          exact hK.out _ _ hT (.inl ⟨rfl, Below.refl _ _⟩) rfl
        refine LinSteps.cons (fun f L w1 hT hI hsh hL hd K hK => ?_) ?_
        · have kk := cell_of_cells (i := 0) hI.hp rfl
          simp only [linFill, List.foldl_cons, List.foldl_nil, Act.put, List.setIfInBounds_toArray, List.set_cons_zero, List.set_cons_succ] at hK ⊢
          go_simp
          exact hK.out _ _ hT (.inl ⟨rfl, Below.refl _ _⟩) rfl
        refine LinSteps.cons (fun f L w1 hT hI hsh hL hd K hK => ?_) ?_
        · have d1 : f 31 = .pointer (some ⟨B1, 0, none⟩) := hd 1 31 (by rw [HL'.out]; kernel_rfl) (by rw [HL'.out]; kernel_rfl)
          simp only [linFill, List.foldl_cons, List.foldl_nil, Act.put, List.setIfInBounds_toArray, List.set_cons_zero, List.set_cons_succ, d1] at hK ⊢
          clear d1
          go_simp
          exact hK.out _ _ hT (.inl ⟨rfl, Below.refl _ _⟩) rfl
        refine LinSteps.cons (fun f L w1 hT hI hsh hL hd K hK => ?_) ?_
        · have d2 : f 32 = .pointer (some ⟨B1, 0, none⟩) := hd 2 32 (by rw [HL'.out]; kernel_rfl) (by rw [HL'.out]; kernel_rfl)
          simp only [linFill, List.foldl_cons, List.foldl_nil, Act.put, List.setIfInBounds_toArray, List.set_cons_zero, List.set_cons_succ, d2] at hK ⊢
          clear d2
          go_simp
          exact hK.out _ _ hT (.inl ⟨rfl, Below.refl _ _⟩) rfl
        refine LinSteps.cons (fun f L w1 hT hI hsh hL hd K hK => ?_) ?_
        · have d3 : f 33 = .pointer (some ⟨B1, 2, none⟩) := hd 3 33 (by rw [HL'.out]; kernel_rfl) (by rw [HL'.out]; kernel_rfl)
          have h10 : L 10 = false := hsh.late 4 hL [7, 4] 10 (by rw [HL'.out]; kernel_rfl) rfl
          have kk := cell_of_cells (i := 2) (hI.hc h10) rfl
          simp only [linFill, List.foldl_cons, List.foldl_nil, Act.put, List.setIfInBounds_toArray, List.set_cons_zero, List.set_cons_succ, d3] at hK ⊢
          clear d3
          go_simp
          exact hK.out _ _ hT (.inl ⟨rfl, Below.refl _ _⟩) rfl
        refine LinSteps.cons (fun f L w1 hT hI hsh hL hd K hK => ?_) ?_
        · simp only [linFill, List.foldl_cons, List.foldl_nil, Act.put, List.setIfInBounds_toArray, List.set_cons_zero, List.set_cons_succ] at hK ⊢
          go_simp
          exact hK.out _ _ hT (.inl ⟨rfl, Below.refl _ _⟩) rfl
        refine LinSteps.cons (fun f L w1 hT hI hsh hL hd K hK => ?_) ?_
        · have d5 : f 35 = .pointer (some ⟨K6, 0, none⟩) := hd 5 35 (by rw [HL'.out]; kernel_rfl) (by rw [HL'.out]; kernel_rfl)
          have kk := cell_of_cells (i := 0) hI.hb rfl
          simp only [linFill, List.foldl_cons, List.foldl_nil, Act.put, List.setIfInBounds_toArray, List.set_cons_zero, List.set_cons_succ, d5] at hK ⊢
          clear d5
          go_simp
          exact hK.out _ _ hT (.inl ⟨rfl, Below.refl _ _⟩) rfl
        refine LinSteps.cons (fun f L w1 hT hI hsh hL hd K hK => ?_) ?_
        · have d4 : f 34 = .int .i64 M := hd 4 34 (by rw [HL'.out]; kernel_rfl) (by rw [HL'.out]; kernel_rfl)
          have d6 : f 36 = .int .i64 b1 := hd 6 36 (by rw [HL'.out]; kernel_rfl) (by rw [HL'.out]; kernel_rfl)
          simp only [linFill, List.foldl_cons, List.foldl_nil, Act.put, List.setIfInBounds_toArray, List.set_cons_zero, List.set_cons_succ, d4, d6] at hK ⊢
          clear d4 d6
          go_simp
          exact hK.out _ _ hT (.inl ⟨rfl, Below.refl _ _⟩) rfl
        refine LinSteps.cons (fun f L w1 hT hI hsh hL hd K hK => ?_) ?_
        · have d0 : f 30 = .pointer (some ⟨B1, 0, none⟩) := hd 0 30 (by rw [HL'.out]; kernel_rfl) (by rw [HL'.out]; kernel_rfl)
          simp only [linFill, List.foldl_cons, List.foldl_nil, Act.put, List.setIfInBounds_toArray, List.set_cons_zero, List.set_cons_succ, d0] at hK ⊢
          clear d0
          go_simp
          exact hK.out _ _ hT (.inl ⟨rfl, Below.refl _ _⟩) rfl
        refine LinSteps.cons (fun f L w1 hT hI hsh hL hd K hK => ?_) ?_
        · have d8 : f 38 = .pointer (some ⟨B1, 0, none⟩) := hd 8 38 (by rw [HL'.out]; kernel_rfl) (by rw [HL'.out]; kernel_rfl)
          simp only [linFill, List.foldl_cons, List.foldl_nil, Act.put, List.setIfInBounds_toArray, List.set_cons_zero, List.set_cons_succ, d8] at hK ⊢
          clear d8
          go_simp
          exact hK.out _ _ hT (.inl ⟨rfl, Below.refl _ _⟩) rfl
        refine LinSteps.cons (fun f L w1 hT hI hsh hL hd K hK => ?_) ?_
        · have d7 : f 37 = .int .i64 M' := hd 7 37 (by rw [HL'.out]; kernel_rfl) (by rw [HL'.out]; kernel_rfl)
          have d9 : f 39 = .pointer (some ⟨B1, 2, none⟩) := hd 9 39 (by rw [HL'.out]; kernel_rfl) (by rw [HL'.out]; kernel_rfl)
          have hb1 := hI.hc hL
          have kk := cell_of_cells (i := 2) hb1 rfl
          have ff := frozen_of_cells (i := 2) hb1
          simp only [linFill, List.foldl_cons, List.foldl_nil, Act.put, List.setIfInBounds_toArray, List.set_cons_zero, List.set_cons_succ, d7, d9] at hK ⊢
          clear d7 d9
          go_simp
          exact hK.out undef _ (hT.put_ (.inl rfl) _ _) (.inr ⟨A7I_ten hI hL hB.1 hne, fun j d _ _ h => h⟩) trivial
        exact LinSteps.nil
      · intro l' HL' f7 L7 w4 hT7 hI7 hall7 hf7
        have z1 := hI7.fin (hall7 10 (by decide))
        clear hf7
        simp only [linFill, List.foldl_cons, List.foldl_nil, List.setIfInBounds_toArray, List.set_cons_zero, List.set_cons_succ]
        gi_wp2
        obtain ⟨hB1, hB2, hK6, hbase, sz⟩ := HEQ.out
        obtain ⟨h0, h1, h2⟩ := HW.out
        obtain ⟨hbl2, hM⟩ := HX.out
        have ta : Turned (fun _ => False) W W2.drew := (Turned.of_below hw2).drew
        have tb : Turned (fun k => k = B1 ∨ vb.ownBlock = some k) W2.drew w3 := HT6.out
        have tc : Turned (fun k => k = B1) w3.drew w4 := hT7
        have ka : KeepsOthers W W2.drew := ta.others (fun k o h _ => h.elim)
        have kb : KeepsOthers W2.drew w3 := tb.others (fun k o h ho => by
          rcases h with h | h
          · have := blk_stay hw2 h1
            rw [h] at ho
            rw [show W2.drew.heap[B1]? = W2.heap[B1]? from rfl, this] at ho
            injection ho with ho
            subst ho; rfl
          · rcases HRW.out.2 with ⟨e, _⟩ | ⟨g, cap, cur, e, _, hgg, _⟩
            · rw [e] at h; simp [Value.ownBlock] at h
            · rw [e] at h
              have h' : g = k := by simpa [Value.ownBlock] using h
              subst h'
              have := blk_stay hw2 hgg
              rw [show W2.drew.heap[g]? = W2.heap[g]? from rfl, this] at ho
              injection ho with ho
              subst ho; rfl)
        have kc : KeepsOthers w3 w4 := (KeepsOthers.drew w3).trans (tc.others (fun k o h ho => by
          rw [h] at ho
          rw [show w3.drew.heap[B1]? = w3.heap[B1]? from rfl, f1] at ho
          injection ho with ho
          subst ho; rfl))
        have far : ∀ q, q < W0.heap.size → q ≠ B1 → w4.heap[q]? = W.heap[q]? := fun q hq hqB => by
          have s1 := hw2.size
          have s2 : W2.heap.size ≤ w3.heap.size := tb.size
          have e1 := ta.block q (by omega) (fun h => h)
          have e2 := tb.block q (show q < W2.heap.size by omega) (fun h => by
            rcases h with h | h
            · exact hqB h
            · have := (hv q h).1; omega)
          have e3 := tc.block q (show q < w3.heap.size by omega) hqB
          exact e3.trans (e2.trans e1)
        have hB4 : Below w.heap.size w w4 := by
          have t1 := tb.below (u := w) (hB'.trans ((hw2.mono hB'.size).drew)) (fun k h => by
            rcases h with h | h
            · omega
            · have := (hv k h).1; omega)
          exact tc.below t1.drew (fun k h => by omega)
        refine ⟨(ka.trans kb).trans kc, ⟨far _ (by omega) (by omega), far _ (by omega) (by omega)⟩, ⟨?_, ?_, v', ?_, ?_⟩, hB4, ?_⟩
        · rw [far _ (by omega) (by omega)]; exact h0
        · rw [← hB1, ← hB2, far _ (by omega) (by omega)]; exact h2
        · rw [← hB1, HSN.out, ← hM, ← HM'.out]; exact z1
        · rw [← hbase, HSB.out, ← hbl2]; exact hI7.row
        · have s1 := hw2.size
          have s2 : W2.heap.size ≤ w3.heap.size := tb.size
          have s3 : w3.heap.size ≤ w4.heap.size := tc.size
          omega
  case done =>
    rintro D xs W hD ⟨k, hk1, hk2⟩ ⟨⟨h0, h2, vb, h1, hrow⟩, hB, _⟩ hK
    have hkc := pcNo_end hk1 hk2
    rw [mxs_range l k xs hk1] at h1
    rw [blkOf_range l k xs hk1] at hrow
    have k2 := cell_of_cells (i := 0) h2 rfl
    have HL : Hid (l.take (4 * k) = l) := Lib.hid (List.take_of_length_le (by rw [← HN.out]; omega))
    have HK := Lib.hid hkc
    rw [HL.out] at h1
    clear hk1 hk2 hkc k3 k4 g0 g1 g2 g3 g4
    gi_wp2
    refine ⟨by simp, .inl ⟨_, _, rfl, run_takeDeferred hK, ?_⟩⟩
    have hg := grownBy_putObj' W D (.deferred none)
    have hr : ∀ r, some D = some r → ∃ o : Obj, W.heap[r]? = some o ∧ o.isCells = false := fun r e => by cases e; exact ⟨_, hK, rfl⟩
    have hBz : Below w.heap.size w (W.putObj D (.deferred none)) := hB.grown hg hB.size (fun k e => by cases e; omega)
    refine ⟨_, results_tmp rfl _ _ _, _, rfl, by omega, ⟨vb, cells_stay h1 hg hr, HP.out.later hBz, ?_⟩, hBz⟩
    have := (prow_stay hrow hg hr).base_mono (base' := w.heap.size) (by omega)
    unfold PostM.blks
    rw [← HN.out, ← HK.out]
    exact this
  case stop =>
    rintro D c pre W _ _ h _
    exact h.elim
theorem listof_any (v : Value) (l : List (Int × Int)) (w : World) (h : Prd w v l) (hl : l.length ≤ 1000000) :
    Calls Tryz.prog 37 #[v] w fun e w' => ∃ b, e = .returned (.pointer (some ⟨b, 0, none⟩)) ∧ w.heap.size ≤ b ∧ PL w' b l ∧ Below w.heap.size w w' :=
  (listof_own v l w h hl).mono fun _ _ ⟨b, he, hb, ⟨vb, h1, h2, h3⟩, hB⟩ => ⟨b, he, hb, ⟨v, vb, h1, h2, h3.prd⟩, hB⟩
end Go.Proofs.YtpinpnbhbngclaaGreat

/- Posts: Build, and what is asked of a list. -/
namespace Go.Proofs.YtpinpnbhbngclaaGreat
open Go.RowKit

set_option maxHeartbeats 1000000 in
set_option maxRecDepth 100000 in
theorem build_no (v : Value) (l : List (Int × Int)) (w : World) (h : Prd w v l) (hl : l.length ≤ 1000000) (hr : PostM.rightL l = false) :
    Calls Tryz.prog 26 #[v] w fun e w' => e = .returned (.tuple #[.pointer none, .int .i64 1]) ∧ Below w.heap.size w w' := by
  have hR := fun W (hW : Below w.heap.size w W) => pright_any v l W (h.later hW) hl
  rw [hr] at hR
  have HR := Lib.hid hR
  clear hR hr h
  go_enter Tryz.func26, Tryz.ntmps26
  go_wp2_with fail
  refine (HR.out _ (Below.refl _ _)).mono ?_
  rintro e W1 ⟨rfl, hb⟩
  go_wp2
  go_ret2
  exact ⟨rfl, hb⟩
set_option maxHeartbeats 1000000 in
set_option maxRecDepth 100000 in
theorem build_yes (v : Value) (l : List (Int × Int)) (w : World) (h : Prd w v l) (hl : l.length ≤ 1000000) (hr : PostM.rightL l = true) :
    Calls Tryz.prog 26 #[v] w fun e w' => ∃ b, e = .returned (.tuple #[.pointer (some ⟨b, 0, none⟩), .int .i64 0]) ∧ w.heap.size ≤ b ∧ PL w' b l ∧ Below w.heap.size w w' := by
  have hR := fun W (hW : Below w.heap.size w W) => pright_any v l W (h.later hW) hl
  rw [hr] at hR
  have hC := fun W (hW : Below w.heap.size w W) => pclone_any v l W (h.later hW) hl
  have HR := Lib.hid hR
  have HC := Lib.hid hC
  clear hR hr h hC
  go_enter Tryz.func26, Tryz.ntmps26
  go_wp2_with fail
  refine (HR.out _ (Below.refl _ _)).mono ?_
  rintro e W1 ⟨rfl, hb⟩
  go_wp2_with fail
  refine (HC.out _ hb).mono ?_
  rintro e W2 ⟨v', rfl, hrow, hb2⟩
  have hb3 := hb.trans (hb2.mono hb.size)
  have hL := listof_any v' l W2 hrow.prd hl
  have HL := Lib.hid hL
  clear hrow hL hb2
  go_wp2_with fail
  refine HL.out.mono ?_
  rintro e W3 ⟨b, rfl, hle, hpl, hb4⟩
  have hb5 := hb3.trans (hb4.mono hb3.size)
  have hle2 : w.heap.size ≤ b := Nat.le_trans hb3.size hle
  clear hb hb3 hb4 HL HR HC
  go_wp2
  go_ret2
  exact ⟨b, rfl, hle2, hpl, hb5⟩

theorem PL.cells {w : World} {b : Nat} {l : List (Int × Int)} (h : PL w b l) : ∃ A c A' c', w.cell? ⟨b, 0, none⟩ = some (.slice A l.length c) ∧ w.cell? ⟨b, 1, none⟩ = some (.slice A' (PostM.cnt l.length) c') ∧ w.cell? ⟨b, 2, none⟩ = some (.int .i64 (PostM.mx l)) ∧ Prd w (.slice A l.length c) l ∧ Prd w (.slice A' (PostM.cnt l.length) c') (PostM.blks l) ∧ b < w.heap.size := by
  obtain ⟨vp, vb, h1, h2, h3⟩ := h
  have g2 := h2
  have g3 := h3
  obtain ⟨A, c, rfl, _⟩ := h2.form
  obtain ⟨A', c', rfl, _⟩ := h3.form
  rw [PostM.blks_len] at *
  exact ⟨A, c, A', c', cell_of_cells h1 rfl, cell_of_cells h1 rfl, cell_of_cells h1 rfl, g2, g3, (Array.getElem?_eq_some_iff.1 h1).1⟩
set_option maxHeartbeats 400000 in
set_option maxRecDepth 100000 in
theorem pmax_any (b : Nat) (l : List (Int × Int)) (w : World) (h : PL w b l) :
    Calls Tryz.prog 55 #[.pointer (some ⟨b, 0, none⟩)] w fun e w' => e = .returned (.int .i64 (PostM.mx l)) ∧ w = w' := by
  obtain ⟨A, c, A', c', k0, k1, k2, _⟩ := h.cells
  clear h k1 k0
  go_enter Tryz.func55, Tryz.ntmps55
  go_wp2
  go_ret
  exact ⟨rfl, rfl⟩
end Go.Proofs.YtpinpnbhbngclaaGreat

/- Posts: the first block that isn't behind. -/
namespace Go.Proofs.YtpinpnbhbngclaaGreat
open Go.RowKit

/-- i is the first place at which g is doc or greater, of m -/
def Fst (g : Nat → Int) (m : Nat) (doc : Int) (i : Nat) : Prop := i ≤ m ∧ (∀ k, k < i → g k < doc) ∧ (i < m → doc ≤ g i)

set_option maxHeartbeats 1000000 in
set_option maxRecDepth 100000 in
theorem search_any (K m : Nat) (x1 x2 : Value) (g : Nat → Int) (doc : Int) (w : World) (hm : m ≤ 1000000) (hmono : ∀ a b, a ≤ b → b < m → g a ≤ g b)
    (hf : ∀ W, Below w.heap.size w W → ∀ i : Nat, i < m → Calls Tryz.prog K #[.int .i64 (i : Int), x1, x2] W fun e w' => e = .returned (.bool (decide (doc ≤ g i))) ∧ Below W.heap.size W w') (hE : ∀ args W, (callFunc K args).run Tryz.prog W = .ok (.enter K args) W) :
    Calls Tryz.prog 98 #[.int .i64 (m : Int), .func (.func K) #[] #[x1, x2]] w fun e w' => (∃ i : Nat, e = .returned (.int .i64 (i : Int)) ∧ Fst g m doc i) ∧ Below w.heap.size w w' := by
  have HF := Lib.hid hf
  have HM := Lib.hid hmono
  clear hf hmono
  go_enter Tryz.func98, Tryz.ntmps98
  go_wp2
  go_loopw [5, 6] (fun x y wr => ∃ i j : Nat, x = .int .i64 i ∧ y = .int .i64 j ∧ i ≤ j ∧ j ≤ m ∧ (∀ k, k < i → g k < doc) ∧ (∀ k, j ≤ k → k < m → doc ≤ g k) ∧ Below w.heap.size w wr) (fun x y _ => (intOf y - intOf x).toNat)
  case atStart => exact ⟨0, m, rfl, rfl, by omega, by omega, fun k hk => by omega, fun k h1 h2 => by omega, Below.refl _ _⟩
  case round =>
    obtain ⟨i, j, rfl, rfl, hij, hjm, hlo, hhi, hb⟩ := hrel
    have HLO := Lib.hid hlo
    have HHI := Lib.hid hhi
    clear hlo hhi
    by_cases hlt : i < j
    · obtain ⟨h, hh⟩ : ∃ h, h = (i + j) / 2 := ⟨_, rfl⟩
      have hhi2 : ((i : Int) + (j : Int)) / 2 = (h : Int) := by omega
      have hhl : i ≤ h ∧ h < j := by omega
      have hcall := HF.out _ hb h (by omega)
      obtain ⟨hl1, hl2⟩ := hhl
      obtain ⟨t, ht⟩ : ∃ t, t = decide (doc ≤ g h) := ⟨_, rfl⟩
      rw [← ht] at hcall
      have HT := Lib.hid ht
      have HC := Lib.hid hcall
      have HH := Lib.hid hh
      clear ht hcall hh
      go_wp2_with fail
      refine HC.out.mono ?_
      rintro e W1 ⟨rfl, hb1⟩
      have hb2 := hb.trans (hb1.mono hb.size)
      cases t with
      | true =>
        have hge : doc ≤ g h := of_decide_eq_true HT.out.symm
        have HN : Hid (∀ k, h ≤ k → k < m → doc ≤ g k) := Lib.hid (fun k h1 h2 => Int.le_trans hge (HM.out h k h1 h2))
        clear hge
        go_wp2
        go_roundw
        case rel => exact ⟨i, h, rfl, rfl, hl1, by omega, HLO.out, HN.out, hb2⟩
        case measure => simp [intOf]; omega
      | false =>
        have hge : ¬ doc ≤ g h := of_decide_eq_false HT.out.symm
        have HN : Hid (∀ k, k < h + 1 → g k < doc) := Lib.hid (fun k h1 => by
          have := HM.out k h (by omega) (by omega)
          omega)
        clear hge
        go_wp2
        go_roundw
        case rel => exact ⟨h + 1, j, by go_num, rfl, by omega, hjm, HN.out, HHI.out, hb2⟩
        case measure => simp [intOf]; omega
    · have hie : i = j := by omega
      subst hie
      go_wp2
      go_ret
      exact ⟨⟨i, rfl, hjm, HLO.out, fun hi => HHI.out i (Nat.le_refl _) hi⟩, hb⟩

set_option maxHeartbeats 1000000 in
set_option maxRecDepth 100000 in
theorem fb1_any (i x1 x2 q : Nat) (A : Option Addr) (m c : Nat) (B : List (Int × Int)) (doc : Int) (w : World) (hP : Prd w (.slice A m c) B) (hi : i < m) (hml : m = B.length) (k1 : w.cell? ⟨x1, 0, none⟩ = some (.pointer (some ⟨q, 0, none⟩))) (k2 : w.cell? ⟨x2, 0, none⟩ = some (.int .i64 doc)) (k3 : w.cell? ⟨q, 1, none⟩ = some (.slice A m c)) :
    Calls Tryz.prog 99 #[.int .i64 (i : Int), .pointer (some ⟨x1, 0, none⟩), .pointer (some ⟨x2, 0, none⟩)] w fun e w' => e = .returned (.bool (decide (doc ≤ (B.getD i (0, 0)).2))) ∧ Below w.heap.size w w' := by
  have hg : B.getD i (0, 0) = B[i]'(by omega) := by rw [List.getD_eq_getElem?_getD, List.getElem?_eq_getElem (by omega)]; rfl
  obtain ⟨b, o, rfl, hb0, hc0, c1⟩ := hP.at_ i (by omega)
  rw [hg]
  obtain ⟨y, hy⟩ : ∃ y, y = (B[i]'(by omega)).2 := ⟨_, rfl⟩
  rw [← hy] at c1 ⊢
  have q1 : (0 : Int) ≤ (i : Int) := by omega
  have q2 : (i : Int) < (m : Int) := by omega
  clear hg hy hP hb0 hc0 hml
  go_enter Tryz.func99, Tryz.ntmps99
  go_wp2
  go_quiet (fail)
  go_wp2
  go_ret
  exact ⟨rfl, below_drewN_p _ _⟩
end Go.Proofs.YtpinpnbhbngclaaGreat
