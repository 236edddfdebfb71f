/- Own texts, merged (4 of 8). -/
import Derived.Test.YtpinpnbhbngclaaGreatMgS3

/- Offer: whatever is offered, whatever is kept. A new bound. -/
namespace Go.Proofs.YtpinpnbhbngclaaGreat
open Go.RowKit

/-- is p kept, where h is kept of k? -/
def keptB (k : Nat) (h : List (Int × Int)) (p : Int × Int) : Bool := decide (h.length < k) || (decide (0 < k) && TopM.bet p (TopM.at_ h 0))
/-- a bound of k that was offered all of l stands at t -/
def OffAt (w : World) (base t k : Nat) (v : Value) (l : List (Int × Int)) : Prop := ∃ h, TopAt w base t k v h ∧ TopM.Bnd k l h
theorem offer_any (base t k : Nat) (v : Value) (l h : List (Int × Int)) (p : Int × Int) (w : World) (hx : TopAt w base t k v h) (hb : TopM.Bnd k l h) (hl : l.length ≤ 1000000) :
    Calls Tryz.prog 83 #[.pointer (some ⟨t, 0, none⟩), sv p] w fun e w' => e = .returned (.bool (keptB k h p)) ∧ ∃ v' h', TopAt w' base t k v' h' ∧ TopM.Bnd k (l ++ [p]) h' ∧ Only (own2 t v) w w' ∧ ∀ b, v'.ownBlock = some b → v.ownBlock = some b ∨ w.heap.size ≤ b := by
  have hlen := TopM.bnd_len hb
  by_cases h1 : h.length < k
  · have hk : keptB k h p = true := by unfold keptB; simp [h1]
    rw [hk]
    refine (offer_room base t k v h p w hx hb.1 (by omega) h1).mono ?_
    rintro e w' ⟨rfl, v', h', x', hh', hp', o', hv'⟩
    exact ⟨rfl, v', h', x', TopM.bnd_room hb h1 hh' hp', o', hv'⟩
  · by_cases h0 : k = 0
    · subst h0
      have hk : keptB 0 h p = false := by unfold keptB; simp
      rw [hk]
      refine (offer_none base t v h p w hx).mono ?_
      rintro e w' ⟨rfl, b'⟩
      exact ⟨rfl, v, h, hx.later b', TopM.bnd_keep hb (by omega) (.inl rfl), Only.of_below _ b', fun b hb => .inl hb⟩
    · cases hbt : TopM.bet p (TopM.at_ h 0) with
      | false =>
        have hk : keptB k h p = false := by unfold keptB; simp [h1, hbt]
        rw [hk]
        refine (offer_no base t k v h p w hx (by omega) (by omega) hbt).mono ?_
        rintro e w' ⟨rfl, b'⟩
        exact ⟨rfl, v, h, hx.later b', TopM.bnd_keep hb (by omega) (.inr hbt), Only.of_below _ b', fun b hb => .inl hb⟩
      | true =>
        have hk : keptB k h p = true := by unfold keptB; simp [hbt]; omega
        rw [hk]
        refine (offer_yes base t k v h p w hx (by omega) (by omega) hb.1 (by omega) hbt).mono ?_
        rintro e w' ⟨rfl, h', x', hh', hp', o'⟩
        exact ⟨rfl, v, h', x', TopM.bnd_turn hb (by omega) (by omega) hbt hh' hp', o', fun b hb => .inl hb⟩

theorem run_equalIn_func_nil {P : Program} (w : World) (d : Nat) (t : TypeId) {ps rs : Array TypeId} {vr : Bool} (f : Fn) (a c : Array Value) (h : P.underlying t = some (.func ps rs vr)) : (Op.equalIn (d + 1) t (.func f a c) .nilFunc).run P w = .ok false w := by
  simp [Op.equalIn, run_underlying h]
theorem run_equal_func_nil {P : Program} (w : World) (t : TypeId) {ps rs : Array TypeId} {vr : Bool} (f : Fn) (a c : Array Value) (h : P.underlying t = some (.func ps rs vr)) : (Op.equal t (.func f a c) .nilFunc).run P w = .ok false w := run_equalIn_func_nil w 9999 t f a c h
theorem run_eql_func_nil {P : Program} (w : World) (t : TypeId) {ps rs : Array TypeId} {vr : Bool} (f : Fn) (a c : Array Value) (h : P.underlying t = some (.func ps rs vr)) : (binOp .eql t (.func f a c) .nilFunc).run P w = .ok (.bool false) w := by
  simp only [binOp]
  simp [run_equal_func_nil w t f a c h]
theorem not_nil (w : World) : (binOp .eql 88 (.func (.func 42) #[] #[]) .nilFunc).run Tryz.prog w = .ok (.bool false) w := run_eql_func_nil w _ _ _ _ Tryz.underlying88
set_option maxHeartbeats 1000000 in
set_option maxRecDepth 100000 in
theorem new_any (k : Int) (w : World) (hk : k ≤ 9223372036854775807) :
    Calls Tryz.prog 41 #[.int .i64 k, .func (.func 42) #[] #[]] w fun e w' => e = .returned (.pointer (some ⟨w.heap.size, 0, none⟩)) ∧ TopAt w' w.heap.size w.heap.size k.toNat (.slice none 0 0) [] ∧ Below w.heap.size w w' := by
  have hq := not_nil
  by_cases h0 : k < 0
  · have hd : decide (k < 0) = true := decide_eq_true h0
    have e0 : k.toNat = 0 := by omega
    rw [e0]
    clear e0
    go_enter Tryz.func41, Tryz.ntmps41
    go_wp2
    go_ret
    exact ⟨rfl, ⟨Nat.le_refl _, heap_alloc_new w _, PairRow.nil_ _ _⟩, (Below.refl _ w).alloc (Nat.le_refl _) _⟩
  · obtain ⟨m, rfl⟩ : ∃ m : Nat, k = (m : Int) := ⟨k.toNat, by omega⟩
    have hd : decide ((m : Int) < 0) = false := decide_eq_false h0
    rw [Int.toNat_natCast]
    go_enter Tryz.func41, Tryz.ntmps41
    go_wp2
    go_ret
    exact ⟨rfl, ⟨Nat.le_refl _, heap_alloc_new w _, PairRow.nil_ _ _⟩, (Below.refl _ w).alloc (Nat.le_refl _) _⟩
end Go.Proofs.YtpinpnbhbngclaaGreat

/- A search on its way: its worst one's score, and keeping. -/
namespace Go.Proofs.YtpinpnbhbngclaaGreat
open Go.RowKit

theorem Only.turned {S : Nat → Prop} {w w' : World} (h : Only S w w') : Turned S w w' := ⟨h.os, h.tape, h.output, h.size, h.block⟩
theorem PC.turned_on {S : Nat → Prop} {w1 w w' : World} {c : Nat} {l : List (Int × Int)} {a : Nat} (h : PC w1 w c l a) (ht : Turned S w w') (hd : ∀ k, S k → w1.heap.size ≤ k) (hne : ¬ S c) : PC w1 w' c l a := by
  obtain ⟨h1, h2, h3, vp, vb, h4, h5, h6⟩ := h
  exact ⟨ht.below h1 hd, h2, h3, vp, vb, h4, h5, (ht.block c (Array.getElem?_eq_some_iff.1 h6).1 hne).trans h6⟩
theorem PT.turned_on {S : Nat → Prop} {w1 w w' : World} {x : Prt} {a : Nat} (h : PT w1 w x a) (ht : Turned S w w') (hd : ∀ k, S k → w1.heap.size ≤ k) (h1 : ¬ S x.c) (h2 : ¬ S x.p) : PT w1 w' x a :=
  ⟨h.cur.turned_on ht hd h1, (ht.block _ (Array.getElem?_eq_some_iff.1 h.obj).1 h2).trans h.obj⟩
theorem PRw.turned_on {S : Nat → Prop} {w w' : World} {g n : Nat} {X : Nat → Nat} (h : PRw w g n X) (ht : Turned S w w') (hg : ¬ S g) : PRw w' g n X :=
  ⟨Nat.lt_of_lt_of_le h.1 ht.size, fun t hn => ⟨(ht.cell (p := ⟨g, t, none⟩) h.1 hg).trans (h.2 t hn).1, (ht.frozen (p := ⟨g, t, none⟩) h.1 hg).trans (h.2 t hn).2⟩⟩
theorem Turned.then {c : Nat} {S : Nat → Prop} {W0 W W' : World} (h : Turned (fun b => b = c) W0 W) (hT : Turned S W W') (hS : ∀ q, S q → q = c ∨ W0.heap.size ≤ q) : Turned (fun b => b = c) W0 W' :=
  ⟨hT.os.trans h.os, hT.tape.trans h.tape, hT.output.trans h.output, Nat.le_trans h.size hT.size, fun k hk hn => (hT.block k (Nat.lt_of_lt_of_le hk h.size) (fun e => (hS k e).elim hn (fun h => by omega))).trans (h.block k hk hn)⟩
/-- a search at block s: its parts' row at g, its bound at tb, its count at sc; what it was offered, how many it has scored -/
structure SS (w1 W0 W : World) (s g n cp : Nat) (mayv : Value) (tb sc k : Nat) (ps : List Prt) (off : List (Int × Int)) (cnt : Nat) : Prop where
  obj : W.heap[s]? = some (.cells #[.slice (some ⟨g, 0, none⟩) n cp, mayv, .pointer (some ⟨tb, 0, none⟩), .pointer (some ⟨sc, 0, none⟩)] 80 (0, 0))
  row : PRow2 w1 W g n ps
  pts : PS w1 W ps
  good : ∀ x ∈ ps, GoodP x
  nod : (ps.map (·.c)).Nodup
  top : ∃ v h, TopAt W tb tb k v h ∧ TopM.Bnd k off h
  cnt : W.heap[sc]? = some (.cells #[.int .i64 (cnt : Int)] 49 (0, 0))
  o1 : w1.heap.size ≤ sc
  o2 : sc < g
  o3 : ∀ x ∈ ps, g < x.c ∧ g < x.p ∧ x.c < tb ∧ x.p < tb
  o4 : tb < s
  o5 : g < tb
  o6 : W0.heap.size ≤ g
  low : Below w1.heap.size w1 W
  kept : Turned (fun b => b = sc) W0 W
theorem SS.below {w1 W0 W W' : World} {s g n cp : Nat} {mayv : Value} {tb sc k : Nat} {ps : List Prt} {off : List (Int × Int)} {cnt : Nat} (h : SS w1 W0 W s g n cp mayv tb sc k ps off cnt) (hb : Below W.heap.size W W') : SS w1 W0 W' s g n cp mayv tb sc k ps off cnt := by
  obtain ⟨v, hh, ht, hbn⟩ := h.top
  exact ⟨blk_stay hb h.obj, ⟨h.row.len, h.row.row.below hb, h.row.new, h.row.far⟩, h.pts.below hb, h.good, h.nod, ⟨v, hh, ht.later hb, hbn⟩, blk_stay hb h.cnt, h.o1, h.o2, h.o3, h.o4, h.o5, h.o6, h.low.trans (hb.mono h.low.size), h.kept.on hb⟩
set_option maxHeartbeats 1000000 in
set_option maxRecDepth 100000 in
theorem sworst_any {w1 W0 W : World} {s g n cp : Nat} {mayv : Value} {tb sc k : Nat} {ps : List Prt} {off : List (Int × Int)} {cnt : Nat} (h : SS w1 W0 W s g n cp mayv tb sc k ps off cnt) :
    Calls Tryz.prog 75 #[.pointer (some ⟨s, 0, none⟩)] W fun e w' => (∃ hh, TopM.Bnd k off hh ∧ e = .returned (.int .i64 (worstV k hh).2)) ∧ Below W.heap.size W w' := by
  obtain ⟨v, hh, ht, hbn⟩ := h.top
  have k2 := cell_of_cells (i := 2) h.obj rfl
  have hw := worst_any tb tb k v hh W ht
  obtain ⟨⟨x, y⟩, hxy⟩ : ∃ p, p = worstV k hh := ⟨_, rfl⟩
  rw [← hxy] at hw
  unfold sv at hw
  simp only at hw
  have HW := Lib.hid hw
  have HX := Lib.hid hxy
  have HBN := Lib.hid hbn
  clear hw hxy hbn ht h
  go_enter Tryz.func75, Tryz.ntmps75
  go_wp2_with fail
  refine HW.out.mono ?_
  rintro e w2 ⟨rfl, hb⟩
  have hb2 := hb.trans ((pl1 w2 (.cells #[.int .i64 x, .int .i64 y] 54)).mono hb.size)
  have kb := cell_of_cells (i := 1) (heap_alloc_new w2 (.cells #[.int .i64 x, .int .i64 y] 54)) rfl
  go_wp2
  go_ret
  exact ⟨⟨hh, HBN.out, by rw [← HX.out]; rfl⟩, hb2⟩

theorem add_run0 {P : Program} {w : World} (n : Nat) (hn : n ≤ 1000000000) : (Op.intArith .add .i64 (n : Int) 1).run P w = .ok (.int .i64 ((n + 1 : Nat) : Int)) w := by
  have h : IntKind.i64.wrap ((n : Int) + 1) = ((n + 1 : Nat) : Int) := by rw [IntKind.wrap_i64]; omega
  simp [go_sem, h]
set_option maxHeartbeats 400000 in
theorem iadd0_any (b : Nat) (n : Nat) (w : World) (hn : n ≤ 1000000000) (h : w.cell? ⟨b, 0, none⟩ = some (.int .i64 n)) (hz : w.frozen? ⟨b, 0, none⟩ = false) :
    Calls Tryz.prog 82 #[.pointer (some ⟨b, 0, none⟩), .int .i64 1] w fun e w' => e = .returned (.int .i64 ((n + 1 : Nat) : Int)) ∧ w' = w.setCell ⟨b, 0, none⟩ (.int .i64 ((n + 1 : Nat) : Int)) := by
  have hadd := run_call_add (P := Tryz.prog) Tryz.func100 (by kernel_rfl) (by kernel_rfl) (by kernel_rfl) .i64 (by kernel_rfl) (y := 1) (s := ((n + 1 : Nat) : Int)) h hz (add_run0 n hn)
  go_enter Tryz.func82, Tryz.ntmps82
  go_wp2
  go_ret
  exact ⟨rfl, rfl⟩
/-- what keeping turns -/
def keptS (s tb sc q : Nat) : Prop := q = sc ∨ (tb ≤ q ∧ q ≠ s)
theorem SS.turned {w1 W0 W W' : World} {s g n cp : Nat} {mayv : Value} {tb sc k : Nat} {ps : List Prt} {off off' : List (Int × Int)} {cnt cnt' : Nat} (h : SS w1 W0 W s g n cp mayv tb sc k ps off cnt) (hT : Turned (keptS s tb sc) W W') (ht : ∃ v h, TopAt W' tb tb k v h ∧ TopM.Bnd k off' h) (hc : W'.heap[sc]? = some (.cells #[.int .i64 (cnt' : Int)] 49 (0, 0))) : SS w1 W0 W' s g n cp mayv tb sc k ps off' cnt' := by
  have h1 := h.o1
  have h2 := h.o2
  have h4 := h.o4
  have h5 := h.o5
  have hlow : ∀ q, keptS s tb sc q → w1.heap.size ≤ q := fun q hq => by rcases hq with e | e <;> omega
  have hgs : ¬ keptS s tb sc g := fun hq => by rcases hq with e | e <;> omega
  have hss : ¬ keptS s tb sc s := fun hq => by rcases hq with e | e <;> omega
  refine ⟨(hT.block s (Array.getElem?_eq_some_iff.1 h.obj).1 hss).trans h.obj, ⟨h.row.len, h.row.row.turned_on hT hgs, h.row.new, h.row.far⟩, fun x hx => ?_, h.good, h.nod, ht, hc, h1, h2, h.o3, h4, h5, h.o6, hT.below h.low hlow, h.kept.then hT (fun q hq => by have := h.o6; rcases hq with e | e <;> omega)⟩
  obtain ⟨g1, g2, g3, g4⟩ := h.o3 x hx
  exact ((h.pts x hx).turned_on hT hlow (fun hq => by rcases hq with e | e <;> omega) (fun hq => by rcases hq with e | e <;> omega)).canon
theorem SS.at_turned {w1 W0 W W' : World} {s g n cp : Nat} {mayv : Value} {tb sc k : Nat} {ps : List Prt} {off : List (Int × Int)} {cnt : Nat} (h : SS w1 W0 W s g n cp mayv tb sc k ps off cnt) (hT : Turned (keptS s tb sc) W W') {x : Prt} (hx : x ∈ ps) : atM W' x.c = atM W x.c := by
  have h2 := h.o2
  obtain ⟨g1, g2, g3, g4⟩ := h.o3 x hx
  exact atM_same (hT.block _ (h.pts x hx).lt (fun hq => by rcases hq with e | e <;> omega))

set_option maxHeartbeats 1000000 in
set_option maxRecDepth 100000 in
theorem skeep2_any {w1 W0 W : World} {s g n cp : Nat} {mayv : Value} {tb sc k : Nat} {ps : List Prt} {off : List (Int × Int)} {cnt : Nat} (doc score : Int) (h : SS w1 W0 W s g n cp mayv tb sc k ps off cnt) (ho : off.length ≤ 1000000) (hc : cnt ≤ 1000000) :
    Calls Tryz.prog 62 #[.pointer (some ⟨s, 0, none⟩), .int .i64 doc, .int .i64 score] W fun e w' => e = .returned (.tuple #[]) ∧ SS w1 W0 w' s g n cp mayv tb sc k ps (off ++ [(doc, score)]) (cnt + 1) ∧ Turned (keptS s tb sc) W w' ∧ ∀ q cs d, q ≠ tb → q ≠ sc → W.heap[q]? = some (.cells cs 3 d) → w'.heap[q]? = W.heap[q]? := by
  have k2 := cell_of_cells (i := 2) h.obj rfl
  have k3 := cell_of_cells (i := 3) h.obj rfl
  have kc := cell_of_cells (i := 0) h.cnt rfl
  have kf := frozen_of_cells (i := 0) h.cnt
  have HA := Lib.hid (iadd0_any sc cnt W (by omega) kc kf)
  obtain ⟨W2, hW2⟩ : ∃ W2, W2 = W.setCell ⟨sc, 0, none⟩ (.int .i64 ((cnt + 1 : Nat) : Int)) := ⟨_, rfl⟩
  have hg2 : Turned (fun q => q = sc) W W2 := by rw [hW2]; exact (Turned.refl (fun q => q = sc) W).set_ (b := sc) rfl 0 _
  have hc2 : W2.heap[sc]? = some (.cells #[.int .i64 ((cnt + 1 : Nat) : Int)] 49 (0, 0)) := by
    rw [hW2, heap_setCell_row h.cnt 0 _]
    simp
  have hord := And.intro h.o1 (And.intro h.o2 (And.intro h.o4 h.o5))
  have hs2 : W2.heap[s]? = W.heap[s]? := hg2.block s (Array.getElem?_eq_some_iff.1 h.obj).1 (by omega)
  have k22 : W2.cell? ⟨s, 2, none⟩ = some (.pointer (some ⟨tb, 0, none⟩)) := (World.cell?_of_block (a := ⟨s, 2, none⟩) hs2).trans k2
  obtain ⟨v, hh, ht, hbn⟩ := h.top
  have ht2 : TopAt W2 tb tb k v hh := ⟨ht.old, (hg2.block tb ht.lt (by omega)).trans ht.blk, ht.row.kept (fun q hq => hg2.block q (World.ownsRow.lt ht.row q hq).2 (by have := (World.ownsRow.lt ht.row q hq).1; omega))⟩
  have hof := offer_any tb tb k v off hh (doc, score) W2 ht2 hbn ho
  unfold sv at hof
  simp only at hof
  have HO := Lib.hid hof
  have HW := Lib.hid hW2
  have HG := Lib.hid hg2
  have HC2 := Lib.hid hc2
  have HH := Lib.hid h
  have HSZ := Lib.hid (And.intro (Array.getElem?_eq_some_iff.1 h.cnt).1 (Array.getElem?_eq_some_iff.1 h.obj).1)
  have HT := Lib.hid ht
  have HORD := Lib.hid hord
  have hown : ∀ q, own2 tb v q → tb ≤ q ∧ q ≠ s ∧ q ≠ sc := fun q hq => by
    rcases hq with e | e
    · subst e; omega
    · have h1 := World.ownsRow.lt ht.row q e
      refine ⟨h1.1, fun es => ?_, by omega⟩
      rcases ht.row.2 with ⟨ev, _⟩ | ⟨g', cap, cur, ev, _, hgg, _⟩
      · rw [ev] at e; simp [Value.ownBlock] at e
      · rw [ev] at e
        have e' : g' = q := by simpa [Value.ownBlock] using e
        rw [e', es, h.obj] at hgg
        injection hgg with hgg
        injection hgg with _ hgg _
        revert hgg
        decide
  have hint : ∀ q cs d, W.heap[q]? = some (.cells cs 3 d) → v.ownBlock ≠ some q := fun q cs d hq e => by
    rcases ht.row.2 with ⟨ev, _⟩ | ⟨g', cap, cur, ev, _, hgg, _⟩
    · rw [ev] at e; simp [Value.ownBlock] at e
    · rw [ev] at e
      have e' : g' = q := by simpa [Value.ownBlock] using e
      rw [e', hq] at hgg
      injection hgg with hgg
      injection hgg with _ hgg _
      revert hgg
      decide
  have HINT := Lib.hid hint
  have HOWN := Lib.hid hown
  clear hof hW2 hg2 hc2 h ht hbn ht2 hs2 hord hown hint kc kf
  go_enter Tryz.func62, Tryz.ntmps62
  go_wp2_with fail
  refine HA.out.mono ?_
  rintro e w2 ⟨rfl, hw2⟩
  rw [hw2, ← HW.out]
  clear hw2
  go_wp2_with fail
  refine HO.out.mono ?_
  rintro e w3 ⟨rfl, v', h', ht', hb', honly, _⟩
  have hT : Turned (keptS s tb sc) W w3 := (HG.out.wide (T := keptS s tb sc) (fun q hq => .inl hq)).trans (honly.turned.wide (fun q hq => .inr ⟨(HOWN.out q hq).1, (HOWN.out q hq).2.1⟩))
  have hcf : w3.heap[sc]? = some (.cells #[.int .i64 ((cnt + 1 : Nat) : Int)] 49 (0, 0)) := (honly.block sc (Nat.lt_of_lt_of_le HSZ.out.1 HG.out.size) (fun hq => (HOWN.out sc hq).2.2 rfl)).trans HC2.out
  have hrow : ∀ q cs d, q ≠ tb → q ≠ sc → W.heap[q]? = some (.cells cs 3 d) → w3.heap[q]? = W.heap[q]? := fun q cs d h1 h2 hq => by
    have hlt := (Array.getElem?_eq_some_iff.1 hq).1
    refine (honly.block q (Nat.lt_of_lt_of_le hlt HG.out.size) (fun ho => ?_)).trans (HG.out.block q hlt h2)
    rcases ho with e | e
    · exact h1 e
    · exact HINT.out q cs d hq e
  have HF := Lib.hid (And.intro (HH.out.turned hT ⟨v', h', ht', hb'⟩ hcf) (And.intro hT hrow))
  clear ht' hb' honly hT hcf hrow
  go_wp2
  go_end0
  exact ⟨rfl, HF.out⟩
theorem skeep_any {w1 W0 W : World} {s g n cp : Nat} {mayv : Value} {tb sc k : Nat} {ps : List Prt} {off : List (Int × Int)} {cnt : Nat} (doc score : Int) (h : SS w1 W0 W s g n cp mayv tb sc k ps off cnt) (ho : off.length ≤ 1000000) (hc : cnt ≤ 1000000) :
    Calls Tryz.prog 62 #[.pointer (some ⟨s, 0, none⟩), .int .i64 doc, .int .i64 score] W fun e w' => e = .returned (.tuple #[]) ∧ SS w1 W0 w' s g n cp mayv tb sc k ps (off ++ [(doc, score)]) (cnt + 1) ∧ Turned (keptS s tb sc) W w' :=
  (skeep2_any doc score h ho hc).mono (fun _ _ ⟨a, b, c, _⟩ => ⟨a, b, c⟩)
end Go.Proofs.YtpinpnbhbngclaaGreat

/- The best of what was offered hangs on the best so far; what comes later and is no better is passed over. -/
namespace Go.Proofs.YtpinpnbhbngclaaGreat

/-! ### the best of what was offered hangs on the best so far -/
theorem best_best (k : Nat) (l : List (Int × Int)) : TopM.best k (TopM.best k l) = TopM.best k l := by
  have h := TopM.srt_is (TopM.best_srt k l) (List.Perm.refl _)
  conv => lhs; unfold TopM.best
  rw [show TopM.srt ((TopM.srt l).take k) = TopM.best k l from h]
  unfold TopM.best
  rw [List.take_take, Nat.min_self]
theorem best_snoc (k : Nat) (l : List (Int × Int)) (x : Int × Int) : TopM.best k (l ++ [x]) = TopM.best k (TopM.best k l ++ [x]) := by
  rcases Nat.eq_zero_or_pos k with rfl | hk
  · rw [TopM.best_zero, TopM.best_zero]
  · rcases Nat.lt_or_ge l.length k with h | h
    · have e : TopM.best k l = TopM.srt l := TopM.best_all (by omega)
      rw [e]
      unfold TopM.best
      rw [TopM.srt_congr ((TopM.srt_perm l).append_right [x])]
    · have hl : (TopM.best k l).length = k := by rw [TopM.best_len]; omega
      have hne : TopM.best k l ≠ [] := fun e => by rw [e] at hl; simp at hl; omega
      obtain ⟨A, w, hA⟩ : ∃ A w, TopM.best k l = A ++ [w] := ⟨_, _, (List.dropLast_concat_getLast hne).symm⟩
      have hb2 : TopM.best k (TopM.best k l) = A ++ [w] := by rw [best_best, hA]
      cases hx : TopM.bet x w with
      | false =>
        rw [TopM.best_keep h (by rw [hA]; simp) hx, TopM.best_keep (l := TopM.best k l) (by omega) (by rw [hb2]; simp) hx, best_best]
      | true =>
        have p1 := TopM.best_turn h hA hx
        have p2 := TopM.best_turn (l := TopM.best k l) (by omega) hb2 hx
        exact TopM.srt_eq (TopM.best_srt _ _) (TopM.best_srt _ _) (p1.trans p2.symm)
theorem best_cong {k : Nat} {l l' : List (Int × Int)} (h : TopM.best k l = TopM.best k l') (x : Int × Int) : TopM.best k (l ++ [x]) = TopM.best k (l' ++ [x]) := by
  rw [best_snoc, h, ← best_snoc]
/-- one that comes later, and scores no more than the last that is kept, is passed over -/
theorem best_pass {k : Nat} {l : List (Int × Int)} {x : Int × Int} (hk : k ≤ l.length) (hl : ∀ p ∈ l, p.1 < x.1) (hw : ∀ w, (TopM.best k l).getLast? = some w → x.2 ≤ w.2) : TopM.best k (l ++ [x]) = TopM.best k l := by
  rcases Nat.eq_zero_or_pos k with rfl | hk0
  · rw [TopM.best_zero, TopM.best_zero]
  · have hlen : (TopM.best k l).length = k := by rw [TopM.best_len]; omega
    cases hw2 : (TopM.best k l).getLast? with
    | none =>
      have := List.getLast?_eq_none_iff.1 hw2
      rw [this] at hlen; simp at hlen; omega
    | some w =>
      refine TopM.best_keep hk hw2 ?_
      have h1 := hw w hw2
      have hm : w ∈ l := by
        have : w ∈ TopM.best k l := List.mem_of_getLast? hw2
        unfold TopM.best at this
        exact (TopM.srt_perm l).mem_iff.1 (List.mem_of_mem_take this)
      have h2 := hl w hm
      rw [TopM.bet_not]
      omega
theorem best_take {k m : Nat} (l : List (Int × Int)) (h : k ≤ m) : (TopM.best m l).take (min k l.length) = TopM.best k l := by
  unfold TopM.best
  rw [List.take_take]
  have hl := TopM.srt_len l
  by_cases hk : k ≤ l.length
  · rw [Nat.min_eq_left hk, Nat.min_eq_left h]
  · rw [Nat.min_eq_right (show l.length ≤ k by omega), Nat.min_eq_left (show l.length ≤ m by omega), List.take_of_length_le (by omega), List.take_of_length_le (by omega)]
end Go.Proofs.YtpinpnbhbngclaaGreat

/- What a query finds, in plain words: documents one by one, and those that are passed over. -/
namespace Go.Proofs.YtpinpnbhbngclaaGreat
open Go.RowKit

/-! ### documents, rising -/
def Rising (l : List Int) : Prop := l.Pairwise (· < ·)
theorem filter_split {l : List Int} (h : Rising l) (p : Int → Bool) (D E : Int) (hDE : D ≤ E) : l.filter (fun d => p d && decide (d < E)) = l.filter (fun d => p d && decide (d < D)) ++ l.filter (fun d => p d && decide (D ≤ d) && decide (d < E)) := by
  induction l with
  | nil => rfl
  | cons a t ih =>
    have ht := List.pairwise_cons.1 h
    by_cases ha : a < D
    · simp only [List.filter_cons]
      have e1 : decide (a < E) = true := decide_eq_true (by omega)
      have e2 : decide (a < D) = true := decide_eq_true ha
      have e3 : decide (D ≤ a) = false := decide_eq_false (by omega)
      rw [e1, e2, e3]
      cases hp : p a <;> simp [ih ht.2]
    · have hnil : t.filter (fun d => p d && decide (d < D)) = [] := by
        rw [List.filter_eq_nil_iff]
        intro d hd
        have := ht.1 d hd
        simp; omega
      have hall : t.filter (fun d => p d && decide (D ≤ d) && decide (d < E)) = t.filter (fun d => p d && decide (d < E)) := by
        refine List.filter_congr (fun d hd => ?_)
        have := ht.1 d hd
        rw [decide_eq_true (show D ≤ d by omega)]
        simp
      have e2 : decide (a < D) = false := decide_eq_false ha
      have e3 : decide (D ≤ a) = true := decide_eq_true (by omega)
      simp only [List.filter_cons, e2, e3, hnil, hall]
      simp
theorem filter_one {l : List Int} (h : Rising l) {a : Int} (ha : a ∈ l) (q : Int → Bool) (hq : ∀ d ∈ l, q d = true ↔ d = a) : l.filter q = [a] := by
  induction l with
  | nil => simp at ha
  | cons b t ih =>
    have ht := List.pairwise_cons.1 h
    by_cases e : b = a
    · subst e
      have hb : q b = true := (hq b (by simp)).2 rfl
      have hnil : t.filter q = [] := by
        rw [List.filter_eq_nil_iff]
        intro d hd hqd
        have h1 := (hq d (by simp [hd])).1 hqd
        have h2 := ht.1 d hd
        omega
      rw [List.filter_cons, hb, hnil]
      rfl
    · have hb : q b = false := by
        cases hqb : q b with
        | false => rfl
        | true => exact absurd ((hq b (by simp)).1 hqb) e
      have ha' : a ∈ t := by
        rcases List.mem_cons.1 ha with e' | e'
        · exact absurd e'.symm e
        · exact e'
      rw [List.filter_cons, hb]
      simpa using ih ht.2 ha' (fun d hd => hq d (by simp [hd]))
/-- what may be, of the documents ahead of D, with their scores -/
def vl (dl : List Int) (may : Int → Bool) (sc : Int → Int) (D : Int) : List (Int × Int) := (dl.filter (fun d => may d && decide (d < D))).map (fun d => (d, sc d))
section
variable {dl : List Int} {may : Int → Bool} {sc : Int → Int} {D E : Int}
theorem vl_low : ∀ p ∈ vl dl may sc D, p.1 < D := by
  intro p hp
  unfold vl at hp
  obtain ⟨d, hd, rfl⟩ := List.mem_map.1 hp
  have := (List.mem_filter.1 hd).2
  simp at this
  exact this.2
theorem vl_split (h : Rising dl) (hDE : D ≤ E) : vl dl may sc E = vl dl may sc D ++ (dl.filter (fun d => may d && decide (D ≤ d) && decide (d < E))).map (fun d => (d, sc d)) := by
  unfold vl
  rw [filter_split h may D E hDE, List.map_append]
theorem vl_same (h : Rising dl) (hDE : D ≤ E) (hn : ∀ d ∈ dl, D ≤ d → d < E → may d = false) : vl dl may sc E = vl dl may sc D := by
  rw [vl_split h hDE]
  have : dl.filter (fun d => may d && decide (D ≤ d) && decide (d < E)) = [] := by
    rw [List.filter_eq_nil_iff]
    intro d hd hq
    simp at hq
    rw [hn d hd hq.1.2 hq.2] at hq
    exact absurd hq.1.1 (by decide)
  rw [this]
  simp
theorem vl_one (h : Rising dl) {a : Int} (ha : a ∈ dl) (hD : D ≤ a) (hn : ∀ d ∈ dl, D ≤ d → d < a → False) (hm : may a = true) : vl dl may sc (a + 1) = vl dl may sc D ++ [(a, sc a)] := by
  rw [vl_split h (show D ≤ a + 1 by omega), filter_one h ha]
  · rfl
  · intro d hd
    constructor
    · intro hq
      simp at hq
      rcases Int.lt_trichotomy d a with e | e | e
      · exact (hn d hd hq.1.2 e).elim
      · exact e
      · omega
    · rintro rfl
      simp [hm]
      omega
/-- what can't come above the worst is passed over -/
theorem vl_pass {k : Nat} (h : Rising dl) (hDE : D ≤ E) (hk : k ≤ (vl dl may sc D).length) (hs : ∀ d ∈ dl, D ≤ d → d < E → may d = true → ∀ w, (TopM.best k (vl dl may sc D)).getLast? = some w → sc d ≤ w.2) : TopM.best k (vl dl may sc E) = TopM.best k (vl dl may sc D) := by
  rw [vl_split h hDE]
  obtain ⟨m, hm⟩ : ∃ m, m = dl.filter (fun d => may d && decide (D ≤ d) && decide (d < E)) := ⟨_, rfl⟩
  rw [← hm]
  have hmr : Rising m := by rw [hm]; exact h.filter _
  have hms : ∀ d ∈ m, D ≤ d ∧ ∀ w, (TopM.best k (vl dl may sc D)).getLast? = some w → sc d ≤ w.2 := fun d hd => by
    rw [hm] at hd
    obtain ⟨h1, h2⟩ := List.mem_filter.1 hd
    simp at h2
    exact ⟨h2.1.2, hs d h1 h2.1.2 h2.2 h2.1.1⟩
  obtain ⟨B, hB⟩ : ∃ B, B = vl dl may sc D := ⟨_, rfl⟩
  have hlow : ∀ p ∈ B, p.1 < D := by rw [hB]; exact vl_low
  rw [← hB] at hk hms ⊢
  clear hm hB
  have : ∀ (m : List Int) (C : List (Int × Int)), Rising m → k ≤ C.length → TopM.best k C = TopM.best k B → (∀ d ∈ m, (∀ p ∈ C, p.1 < d) ∧ ∀ w, (TopM.best k B).getLast? = some w → sc d ≤ w.2) → TopM.best k (C ++ m.map (fun d => (d, sc d))) = TopM.best k B := by
    intro m
    induction m with
    | nil => intro C _ _ hC _; simpa using hC
    | cons a t ih =>
      intro C hr hkC hC hcs
      have ht := List.pairwise_cons.1 hr
      have h1 := best_pass (k := k) (l := C) (x := (a, sc a)) hkC (hcs a (by simp)).1 (fun w hw => (hcs a (by simp)).2 w (by rw [← hC]; exact hw))
      rw [List.map_cons, show C ++ ((a, sc a) :: t.map (fun d => (d, sc d))) = (C ++ [(a, sc a)]) ++ t.map (fun d => (d, sc d)) by simp]
      refine ih (C ++ [(a, sc a)]) ht.2 (by simp; omega) (h1.trans hC) (fun d hd => ⟨fun p hp => ?_, (hcs d (by simp [hd])).2⟩)
      rcases List.mem_append.1 hp with e | e
      · exact (hcs d (by simp [hd])).1 p e
      · simp at e; subst e; exact ht.1 d hd
  exact this m B hmr hk rfl (fun d hd => ⟨fun p hp => by have := hlow p hp; have := (hms d hd).1; omega, (hms d hd).2⟩)
end
end Go.Proofs.YtpinpnbhbngclaaGreat

/- What a query's parts contribute, in plain words; where cursors stand. -/
namespace Go.Proofs.YtpinpnbhbngclaaGreat
open Go.RowKit

/-- what a part contributes to document d -/
def con (x : Prt) (d : Int) : Int := sumL ((x.l.filter (fun p => p.1 == d)).map (fun p => x.wt * p.2))
def scoreQ (ps : List Prt) (d : Int) : Int := sumL (ps.map fun x => con x d)
/-- the place a is the first one whose document is D or greater -/
def AtD (x : Prt) (a : Nat) (D : Int) : Prop := a ≤ x.l.length ∧ (∀ k, k < a → (atP x.l k).1 < D) ∧ (a < x.l.length → D ≤ (atP x.l a).1)
theorem con_split {x : Prt} (hg : GoodP x) {a : Nat} {d : Int} (hlow : ∀ k, k < a → k < x.l.length → (atP x.l k).1 < d) (hhigh : a < x.l.length → d ≤ (atP x.l a).1) : con x d = conAt x a d := by
  unfold con conAt
  have h1 : (x.l.take a).filter (fun p => p.1 == d) = [] := by
    rw [List.filter_eq_nil_iff]
    intro p hp
    obtain ⟨k, hk, rfl⟩ := List.mem_iff_getElem.1 hp
    have hk' : k < a ∧ k < x.l.length := by rw [List.length_take] at hk; omega
    have := hlow k hk'.1 hk'.2
    rw [atP_get hk'.2] at this
    rw [List.getElem_take]
    simp
    omega
  have hs : x.l.filter (fun p => p.1 == d) = (x.l.drop a).filter (fun p => p.1 == d) := by
    conv => lhs; rw [← List.take_append_drop a x.l, List.filter_append, h1, List.nil_append]
  rw [hs]
  by_cases ha : a < x.l.length
  · rw [List.drop_eq_getElem_cons ha]
    have h2 : (x.l.drop (a + 1)).filter (fun p => p.1 == d) = [] := by
      rw [List.filter_eq_nil_iff]
      intro p hp
      obtain ⟨k, hk, rfl⟩ := List.mem_iff_getElem.1 hp
      rw [List.length_drop] at hk
      have := PostM.rgt_rise hg.right a (a + 1 + k) ha (by omega) (by omega)
      have h3 := hhigh ha
      rw [atP_get ha] at h3
      rw [List.getElem_drop]
      simp
      omega
    rw [List.filter_cons, h2]
    have h3 := hhigh ha
    rw [atP_get ha] at h3
    rw [atP_get ha]
    by_cases e : x.l[a].1 = d
    · rw [if_pos (show (x.l[a].1 == d) = true by simp [e]), if_pos ⟨ha, e⟩]
      simp [sumL]
    · rw [if_neg (by simpa using e), if_neg (fun h => e h.2)]
      rfl
  · rw [List.drop_of_length_le (by omega), if_neg (fun h => ha h.1)]
    rfl
theorem AtD.con {x : Prt} (hg : GoodP x) {a : Nat} {D : Int} (h : AtD x a D) {d : Int} (hd : D ≤ d) (hm : d ≤ docAt x.l a) : conAt x a d = con x d :=
  (con_split hg (fun k hk _ => by have := h.2.1 k hk; omega) (fun ha => by unfold docAt at hm; rw [if_pos ha] at hm; exact hm)).symm
/-- what is at D or behind, in a list, isn't ahead of its cursor's document -/
theorem AtD.doc {x : Prt} (hg : GoodP x) {a : Nat} {D : Int} (h : AtD x a D) {p : Int × Int} (hp : p ∈ x.l) (hD : D ≤ p.1) : docAt x.l a ≤ p.1 := by
  obtain ⟨k, hk, rfl⟩ := List.mem_iff_getElem.1 hp
  unfold docAt
  by_cases hka : k < a
  · have := h.2.1 k hka
    rw [atP_get hk] at this
    omega
  · rw [if_pos (by omega), atP_get (show a < x.l.length by omega)]
    by_cases e : a = k
    · subst e; exact Int.le_refl _
    · have := PostM.rgt_rise hg.right a k (by omega) hk (by omega)
      omega
theorem AtD.passed {x : Prt} (hg : GoodP x) {a : Nat} {D m : Int} (h : AtD x a D) (hDm : D ≤ m) (hm : m ≤ docAt x.l a) : AtD x (passed x a m) (m + 1) := by
  unfold Go.Proofs.YtpinpnbhbngclaaGreat.passed
  by_cases ha : a < x.l.length
  · have hda : docAt x.l a = (atP x.l a).1 := by unfold docAt; rw [if_pos ha]
    rw [hda] at hm ⊢
    split
    · rename_i e
      refine ⟨by omega, fun k hk => ?_, fun hk => ?_⟩
      · by_cases c : k = a
        · subst c; omega
        · have := h.2.1 k (by omega); omega
      · have e2 : min (a + 1) x.l.length = a + 1 := by omega
        rw [e2] at hk ⊢
        have := PostM.rgt_rise hg.right a (a + 1) ha hk (by omega)
        rw [atP_get hk]
        rw [atP_get ha] at e
        omega
    · rename_i e
      exact ⟨h.1, fun k hk => by have := h.2.1 k hk; omega, fun hk => by omega⟩
  · have e : min (a + 1) x.l.length = x.l.length := by omega
    have ea : a = x.l.length := by have := h.1; omega
    split
    · rw [e]
      exact ⟨Nat.le_refl _, fun k hk => by have := h.2.1 k (by omega); omega, fun hk => by omega⟩
    · exact ⟨h.1, fun k hk => by have := h.2.1 k hk; omega, fun hk => by omega⟩
theorem passed_moves {x : Prt} {a : Nat} {m : Int} (ha : a < x.l.length) (e : docAt x.l a = m) : passed x a m = a + 1 := by
  unfold passed
  rw [if_pos e]
  omega
theorem passed_ge {x : Prt} {a : Nat} {m : Int} (ha : a ≤ x.l.length) : a ≤ passed x a m ∧ passed x a m ≤ x.l.length := by
  unfold passed
  split <;> omega
/-! ### all documents of any list, rising -/
def insD (d : Int) : List Int → List Int
  | [] => [d]
  | b :: t => if b < d then b :: insD d t else if b = d then b :: t else d :: b :: t
theorem mem_insD (d e : Int) : ∀ l, e ∈ insD d l ↔ e = d ∨ e ∈ l
  | [] => by simp [insD]
  | b :: t => by
    unfold insD
    split
    · rw [List.mem_cons, mem_insD d e t, List.mem_cons]
      constructor
      · rintro (h | h | h)
        · exact .inr (.inl h)
        · exact .inl h
        · exact .inr (.inr h)
      · rintro (h | h | h)
        · exact .inr (.inl h)
        · exact .inl h
        · exact .inr (.inr h)
    · split
      · rename_i h
        subst h
        simp
      · simp
theorem insD_rising (d : Int) : ∀ l, Rising l → Rising (insD d l)
  | [], _ => by unfold insD; exact List.pairwise_singleton _ _
  | b :: t, h => by
    have ht := List.pairwise_cons.1 h
    unfold insD
    split
    · refine List.pairwise_cons.2 ⟨fun e he => ?_, insD_rising d t ht.2⟩
      rcases (mem_insD d e t).1 he with e' | e'
      · omega
      · exact ht.1 e e'
    · split
      · exact h
      · refine List.pairwise_cons.2 ⟨fun e he => ?_, h⟩
        rcases List.mem_cons.1 he with e' | e'
        · omega
        · have := ht.1 e e'; omega
def docsQ (ps : List Prt) : List Int := (ps.flatMap fun x => x.l.map (·.1)).foldl (fun o d => insD d o) []
theorem fold_insD (m : List Int) : ∀ (o : List Int), Rising o → Rising (m.foldl (fun o d => insD d o) o) ∧ ∀ e, e ∈ m.foldl (fun o d => insD d o) o ↔ e ∈ m ∨ e ∈ o := by
  induction m with
  | nil => intro o ho; exact ⟨ho, fun e => by simp⟩
  | cons a t ih =>
    intro o ho
    obtain ⟨h1, h2⟩ := ih (insD a o) (insD_rising a o ho)
    refine ⟨h1, fun e => ?_⟩
    rw [List.foldl_cons, h2, mem_insD, List.mem_cons]
    constructor
    · rintro (h | h | h)
      · exact .inl (.inr h)
      · exact .inl (.inl h)
      · exact .inr h
    · rintro ((h | h) | h)
      · exact .inr (.inl h)
      · exact .inl h
      · exact .inr (.inr h)
theorem docsQ_rising (ps : List Prt) : Rising (docsQ ps) := (fold_insD _ [] List.Pairwise.nil).1
theorem mem_docsQ (ps : List Prt) (d : Int) : d ∈ docsQ ps ↔ ∃ x ∈ ps, ∃ p ∈ x.l, p.1 = d := by
  unfold docsQ
  rw [(fold_insD _ [] List.Pairwise.nil).2]
  simp
/-! ### the least document at which one stands -/
theorem foldl_min (l : List Int) : ∀ m : Int, l.foldl min m ≤ m ∧ (∀ d ∈ l, l.foldl min m ≤ d) ∧ (l.foldl min m = m ∨ l.foldl min m ∈ l) := by
  induction l with
  | nil => intro m; exact ⟨Int.le_refl _, fun d hd => by simp at hd, .inl rfl⟩
  | cons a t ih =>
    intro m
    obtain ⟨h1, h2, h3⟩ := ih (min m a)
    rw [List.foldl_cons]
    refine ⟨by omega, fun d hd => ?_, ?_⟩
    · rcases List.mem_cons.1 hd with e | e
      · subst e; omega
      · exact h2 d e
    · rcases h3 with e | e
      · rcases Int.le_total m a with c | c
        · left; omega
        · right; rw [e, Int.min_eq_right c]; simp
      · right; exact List.mem_cons_of_mem _ e
theorem minD_spec (l : List Int) : minD l ≤ 2147483648 ∧ (∀ d ∈ l, minD l ≤ d) ∧ (minD l = 2147483648 ∨ minD l ∈ l) := foldl_min l _
end Go.Proofs.YtpinpnbhbngclaaGreat

/- The first way: document by document. -/
namespace Go.Proofs.YtpinpnbhbngclaaGreat
open Go.RowKit

theorem SS.moved {w1 W0 W W' : World} {s g n cp : Nat} {mayv : Value} {tb sc k : Nat} {ps ps2 : List Prt} {off : List (Int × Int)} {cnt : Nat} (h : SS w1 W0 W s g n cp mayv tb sc k ps off cnt) (hsub : ∀ x ∈ ps2, x ∈ ps) (hT : Turned (curs ps2) W W') (hps : PS w1 W' ps2) : SS w1 W0 W' s g n cp mayv tb sc k ps off cnt := by
  have h1 := h.o1
  have h2 := h.o2
  have h4 := h.o4
  have h5 := h.o5
  have hlow : ∀ q, curs ps2 q → g < q ∧ q < tb := fun q hq => by
    obtain ⟨x, hx, rfl⟩ := hq
    have := h.o3 x (hsub x hx)
    omega
  have hlo : ∀ q, curs ps2 q → w1.heap.size ≤ q := fun q hq => by have := hlow q hq; omega
  obtain ⟨v, hh, ht, hbn⟩ := h.top
  have ht2 : TopAt W' tb tb k v hh := ⟨ht.old, (hT.block tb ht.lt (fun hq => by have := hlow _ hq; omega)).trans ht.blk, ht.row.kept (fun q hq => hT.block q (World.ownsRow.lt ht.row q hq).2 (fun hc => by have := (World.ownsRow.lt ht.row q hq).1; have := hlow q hc; omega))⟩
  refine ⟨(hT.block s (Array.getElem?_eq_some_iff.1 h.obj).1 (fun hq => by have := hlow _ hq; omega)).trans h.obj, ⟨h.row.len, h.row.row.turned_on hT (fun hq => by have := hlow _ hq; omega), h.row.new, h.row.far⟩, fun x hx => ?_, h.good, h.nod, ⟨v, hh, ht2, hbn⟩, (hT.block sc (Array.getElem?_eq_some_iff.1 h.cnt).1 (fun hq => by have := hlow _ hq; omega)).trans h.cnt, h1, h2, h.o3, h4, h5, h.o6, hT.below h.low hlo, h.kept.then hT (fun q hq => by have := h.o6; have := hlow q hq; omega)⟩
  by_cases hc : curs ps2 x.c
  · obtain ⟨y, hy, e⟩ := hc
    obtain ⟨i, hi, rfl⟩ := List.mem_iff_getElem.1 hx
    obtain ⟨j, hj, hjy⟩ := List.mem_iff_getElem.1 (hsub y hy)
    have : i = j := nodup_at h.nod hi hj (by rw [hjy]; exact e)
    subst this
    rw [hjy]
    exact hps y hy
  · refine ((h.pts x hx).turned_on hT hlo hc (fun hq => ?_)).canon
    obtain ⟨y, hy, e⟩ := hq
    exact (h.pts x hx).ne (h.pts y (hsub y hy)) e

section
variable {w1 W : World} {s g n cp : Nat} {mayv : Value} {tb sc k : Nat} {ps : List Prt} {off : List (Int × Int)} {cnt : Nat}
theorem docsAt_mem (W : World) (ps : List Prt) {x : Prt} (hx : x ∈ ps) : docAt x.l (atM W x.c) ∈ docsAt W ps := List.mem_map.2 ⟨x, hx, rfl⟩
/-- ahead of the least document at which one stands there is none -/
theorem none_ahead (hg : ∀ x ∈ ps, GoodP x) {D : Int} (hA : ∀ x ∈ ps, AtD x (atM W x.c) D) {d : Int} (hd : d ∈ docsQ ps) (hD : D ≤ d) : minD (docsAt W ps) ≤ d := by
  obtain ⟨x, hx, p, hp, rfl⟩ := (mem_docsQ ps d).1 hd
  exact Int.le_trans ((minD_spec _).2.1 _ (docsAt_mem W ps hx)) ((hA x hx).doc (hg x hx) hp hD)
theorem min_is {D : Int} (hA : ∀ x ∈ ps, AtD x (atM W x.c) D) (h : minD (docsAt W ps) < 2147483648) : minD (docsAt W ps) ∈ docsQ ps ∧ D ≤ minD (docsAt W ps) := by
  rcases (minD_spec (docsAt W ps)).2.2 with e | e
  · omega
  · obtain ⟨x, hx, e2⟩ := List.mem_map.1 e
    have hlt : atM W x.c < x.l.length := by
      rcases Nat.lt_or_ge (atM W x.c) x.l.length with c | c
      · exact c
      · unfold docAt at e2
        rw [if_neg (by omega)] at e2
        omega
    unfold docAt at e2
    rw [if_pos hlt] at e2
    have h2 := (hA x hx).2.2 hlt
    refine ⟨(mem_docsQ ps _).2 ⟨x, hx, x.l[atM W x.c], List.getElem_mem hlt, ?_⟩, by omega⟩
    rw [← atP_get hlt]
    exact e2
theorem sum_is (hg : ∀ x ∈ ps, GoodP x) {D m : Int} (hA : ∀ x ∈ ps, AtD x (atM W x.c) D) (hD : D ≤ m) (hm : m ≤ minD (docsAt W ps)) : sumL (consAt W ps m) = scoreQ ps m := by
  unfold consAt scoreQ
  congr 1
  refine List.map_congr_left (fun x hx => ?_)
  exact (hA x hx).con (hg x hx) hD (Int.le_trans hm ((minD_spec _).2.1 _ (docsAt_mem W ps hx)))
end

set_option maxHeartbeats 2000000 in
set_option maxRecDepth 100000 in
theorem sall_any {w1 W0 W : World} {s g n cp : Nat} {mayv : Value} {tb sc k : Nat} {ps : List Prt} {c0 : Nat} {may : Int → Bool} (h : SS w1 W0 W s g n cp mayv tb sc k ps [] c0) (hn : n ≤ 64) (hc0 : c0 ≤ 500000) (hdl : (docsQ ps).length ≤ 100000) (hA : ∀ x ∈ ps, AtD x (atM W x.c) 0) (hm : MayC W0 sc mayv may) :
    Calls Tryz.prog 43 #[.pointer (some ⟨s, 0, none⟩)] W fun e w' => e = .returned (.tuple #[]) ∧ SS w1 W0 w' s g n cp mayv tb sc k ps (vl (docsQ ps) may (scoreQ ps) 2147483648) (c0 + (vl (docsQ ps) may (scoreQ ps) 2147483648).length) := by
  obtain ⟨F, B, rfl, eg, hmay⟩ := hm
  have HM := Lib.hid hmay
  have HA := Lib.hid hA
  have H := Lib.hid h
  have HG := Lib.hid h.good
  have HN := Lib.hid h.nod
  have HR := Lib.hid (docsQ_rising ps)
  have hvl : ∀ D, (vl (docsQ ps) may (scoreQ ps) D).length ≤ 100000 := fun D => by
    unfold vl
    rw [List.length_map]
    exact Nat.le_trans (List.length_filter_le _ _) hdl
  have HV := Lib.hid hvl
  have k0 := cell_of_cells (i := 0) h.obj rfl
  have hfi := pfirst_any w1 W (some ⟨g, 0, none⟩) n cp ps (by omega) h.row.ptr h.pts
  have HFI := Lib.hid hfi
  clear hmay hA hvl hfi hdl h
  go_enter Tryz.func43, Tryz.ntmps43
  go_wp2_with fail
  refine HFI.out.mono ?_
  rintro e w2 ⟨rfl, hb⟩
  have H2 := Lib.hid (H.out.below hb)
  have hat : docsAt w2 ps = docsAt W ps := List.map_congr_left (fun x hx => by rw [H.out.pts.at_below hb hx])
  have HA2 : Hid (∀ x ∈ ps, AtD x (atM w2 x.c) 0) := Lib.hid (fun x hx => by rw [H.out.pts.at_below hb hx]; exact HA.out x hx)
  rw [← hat]
  clear hat hb k0
  go_wp2_with fail
  go_loopw [2] (fun x wr => ∃ (D : Int) (off : List (Int × Int)), x = .int .i64 (minD (docsAt wr ps)) ∧ SS w1 W0 wr s g n cp (.func (.func F) #[] B) tb sc k ps off (c0 + off.length) ∧ (∀ x ∈ ps, AtD x (atM wr x.c) D) ∧ off = vl (docsQ ps) may (scoreQ ps) D ∧ 0 ≤ D ∧ D ≤ 2147483648) (fun x _ => (2147483648 - intOf x).toNat)
  case atStart => exact ⟨0, [], rfl, H2.out, HA2.out, by
    have : vl (docsQ ps) may (scoreQ ps) 0 = [] := by
      unfold vl
      rw [List.filter_eq_nil_iff.2 (fun d hd hq => by
        obtain ⟨x, hx, p, hp, e⟩ := (mem_docsQ ps d).1 hd
        have := PostM.rgt_all (HG.out x hx).right p hp
        simp at hq
        omega)]
      rfl
    exact this.symm, by omega, by omega⟩
  case round =>
    obtain ⟨D, off, rfl, hss, hat, hoff, hD0, hD1⟩ := hrel
    have hspec := (minD_spec (docsAt wr ps)).1
    have hmin := fun hlt => min_is (W := wr) hat hlt
    have hnone := fun d hd hD => none_ahead (W := wr) HG.out hat (d := d) hd hD
    have hsum := fun m h1 h2 => sum_is (W := wr) (m := m) HG.out hat h1 h2
    have hps : ∀ x ∈ ps, minD (docsAt wr ps) ≤ docAt x.l (atM wr x.c) := fun x hx => (minD_spec _).2.1 _ (docsAt_mem wr ps hx)
    obtain ⟨m, hm⟩ : ∃ m, m = minD (docsAt wr ps) := ⟨_, rfl⟩
    rw [← hm] at hspec hmin hnone hsum hps ⊢
    by_cases hlt : m < 2147483648
    · have hdm : decide (m < 2147483648) = true := decide_eq_true hlt
      obtain ⟨hmd, hDm⟩ := hmin hlt
      have hsu := hsum m hDm (Int.le_refl _)
      have HSU := Lib.hid hsu
      have HMD := Lib.hid hmd
      have HNO := Lib.hid hnone
      have HPS := Lib.hid hps
      have HSS := Lib.hid hss
      have HAT := Lib.hid hat
      have HOF := Lib.hid hoff
      have k1 := cell_of_cells (i := 1) hss.obj rfl
      have k0 := cell_of_cells (i := 0) hss.obj rfl
      have hcall := HM.out wr hss.kept m
      obtain ⟨mb, hmb⟩ : ∃ mb, mb = may m := ⟨_, rfl⟩
      rw [← hmb] at hcall
      have HC := Lib.hid hcall
      have HMB := Lib.hid hmb
      clear hsum hmin hmd hnone hps hsu hss hat hoff hcall hmb hm hspec
      go_wp2_with fail
      refine HC.out.mono ?_
      rintro e3 w3 ⟨rfl, hb3⟩
      have H3 := Lib.hid (HSS.out.below hb3)
      have HAT3 : Hid (∀ x ∈ ps, AtD x (atM w3 x.c) D ∧ m ≤ docAt x.l (atM w3 x.c)) := Lib.hid (fun x hx => by rw [HSS.out.pts.at_below hb3 hx]; exact ⟨HAT.out x hx, HPS.out x hx⟩)
      have hcs : consAt w3 ps m = consAt wr ps m := List.map_congr_left (fun x hx => by rw [HSS.out.pts.at_below hb3 hx])
      have HCS := Lib.hid hcs
      clear hcs hb3 k0 k1 HC
      cases mb with
      | true =>
        have hsm := psum_any w1 w3 (some ⟨g, 0, none⟩) n cp ps m (by omega) H3.out.row.ptr H3.out.pts HG.out
        rw [HCS.out, HSU.out] at hsm
        have HSM := Lib.hid hsm
        clear hsm
        have kz := cell_of_cells (i := 0) H3.out.obj rfl
        obtain ⟨sq, hsq⟩ : ∃ sq, sq = scoreQ ps m := ⟨_, rfl⟩
        rw [← hsq] at HSM
        have HSQ := Lib.hid hsq
        clear hsq
        go_wp2_with fail
        refine HSM.out.mono ?_
        rintro e4 w4 ⟨rfl, hb4⟩
        have H4 := Lib.hid (H3.out.below hb4)
        have HAT4 : Hid (∀ x ∈ ps, AtD x (atM w4 x.c) D ∧ m ≤ docAt x.l (atM w4 x.c)) := Lib.hid (fun x hx => by rw [H3.out.pts.at_below hb4 hx]; exact HAT3.out x hx)
        have hol : off.length ≤ 100000 := by rw [HOF.out]; exact HV.out D
        have HKP := Lib.hid (skeep_any m sq H4.out (by omega) (by omega))
        clear hb4 kz hol
        go_wp2_with fail
        refine HKP.out.mono ?_
        rintro e5 w5 ⟨rfl, hss5, hT5⟩
        have H5 : Hid (SS w1 W0 w5 s g n cp (.func (.func F) #[] B) tb sc k ps (off ++ [(m, sq)]) (c0 + (off ++ [(m, sq)]).length)) := Lib.hid (by
          rw [List.length_append, List.length_cons, List.length_nil, ← Nat.add_assoc]
          exact hss5)
        have HAT5 : Hid (∀ x ∈ ps, AtD x (atM w5 x.c) D ∧ m ≤ docAt x.l (atM w5 x.c)) := Lib.hid (fun x hx => by rw [H4.out.at_turned hT5 hx]; exact HAT4.out x hx)
        have HOF5 : Hid (off ++ [(m, sq)] = vl (docsQ ps) may (scoreQ ps) (m + 1)) := Lib.hid (by
          rw [HOF.out, HSQ.out]
          exact (vl_one HR.out HMD.out hDm (fun d hd h1 h2 => by have := HNO.out d hd h1; omega) HMB.out.symm).symm)
        clear hss5 hT5 HKP
        have kz := cell_of_cells (i := 0) H5.out.obj rfl
        have HPA := Lib.hid (ppass_any w1 w5 (some ⟨g, 0, none⟩) n cp ps m (by omega) H5.out.row.ptr H5.out.pts HG.out HN.out (fun ad e hc => by
          injection e with e
          subst e
          obtain ⟨x, hx, e⟩ := hc
          have := H5.out.o3 x hx
          have e' : g = x.c := e
          omega))
        go_wp2_with fail
        refine HPA.out.mono ?_
        rintro e6 w6 ⟨rfl, hps6, hat6, hT6⟩
        have H6 := Lib.hid (H5.out.moved (fun x hx => hx) hT6 hps6)
        have HAT6 : Hid (∀ x ∈ ps, AtD x (atM w6 x.c) (m + 1)) := Lib.hid (fun x hx => by
          rw [hat6 x hx]
          exact (HAT5.out x hx).1.passed (HG.out x hx) hDm (HAT5.out x hx).2)
        clear hps6 hat6 hT6 HPA kz
        have kz := cell_of_cells (i := 0) H6.out.obj rfl
        have HFI := Lib.hid (pfirst_any w1 w6 (some ⟨g, 0, none⟩) n cp ps (by omega) H6.out.row.ptr H6.out.pts)
        go_wp2_with fail
        refine HFI.out.mono ?_
        rintro e7 w7 ⟨rfl, hb7⟩
        have H7 := Lib.hid (H6.out.below hb7)
        have hdd : docsAt w7 ps = docsAt w6 ps := List.map_congr_left (fun x hx => by rw [H6.out.pts.at_below hb7 hx])
        have HAT7 : Hid (∀ x ∈ ps, AtD x (atM w7 x.c) (m + 1)) := Lib.hid (fun x hx => by rw [H6.out.pts.at_below hb7 hx]; exact HAT6.out x hx)
        rw [← hdd]
        have hge : m + 1 ≤ minD (docsAt w7 ps) := by
          rcases (minD_spec (docsAt w7 ps)).2.2 with c | c
          · omega
          · obtain ⟨x, hx, e⟩ := List.mem_map.1 c
            rw [← e]
            unfold docAt
            split
            · rename_i hl
              exact (HAT7.out x hx).2.2 hl
            · omega
        have HGE := Lib.hid (And.intro hge (minD_spec (docsAt w7 ps)).1)
        clear hdd hb7 hge kz HFI
        go_wp2
        go_roundw
        case rel => exact ⟨m + 1, off ++ [(m, sq)], rfl, H7.out, HAT7.out, HOF5.out, by omega, by omega⟩
        case measure => have := HGE.out; simp [intOf]; omega
      | false =>
        have HOF5 : Hid (off = vl (docsQ ps) may (scoreQ ps) (m + 1)) := Lib.hid (by
          rw [HOF.out]
          refine (vl_same HR.out (by omega) (fun d hd h1 h2 => ?_)).symm
          have h3 := HNO.out d hd h1
          obtain rfl : d = m := by omega
          exact HMB.out.symm)
        have kz := cell_of_cells (i := 0) H3.out.obj rfl
        have HPA := Lib.hid (ppass_any w1 w3 (some ⟨g, 0, none⟩) n cp ps m (by omega) H3.out.row.ptr H3.out.pts HG.out HN.out (fun ad e hc => by
          injection e with e
          subst e
          obtain ⟨x, hx, e⟩ := hc
          have := H3.out.o3 x hx
          have e' : g = x.c := e
          omega))
        go_wp2_with fail
        refine HPA.out.mono ?_
        rintro e6 w6 ⟨rfl, hps6, hat6, hT6⟩
        have H6 := Lib.hid (H3.out.moved (fun x hx => hx) hT6 hps6)
        have HAT6 : Hid (∀ x ∈ ps, AtD x (atM w6 x.c) (m + 1)) := Lib.hid (fun x hx => by
          rw [hat6 x hx]
          exact (HAT3.out x hx).1.passed (HG.out x hx) hDm (HAT3.out x hx).2)
        clear hps6 hat6 hT6 HPA kz
        have kz := cell_of_cells (i := 0) H6.out.obj rfl
        have HFI := Lib.hid (pfirst_any w1 w6 (some ⟨g, 0, none⟩) n cp ps (by omega) H6.out.row.ptr H6.out.pts)
        go_wp2_with fail
        refine HFI.out.mono ?_
        rintro e7 w7 ⟨rfl, hb7⟩
        have H7 := Lib.hid (H6.out.below hb7)
        have hdd : docsAt w7 ps = docsAt w6 ps := List.map_congr_left (fun x hx => by rw [H6.out.pts.at_below hb7 hx])
        have HAT7 : Hid (∀ x ∈ ps, AtD x (atM w7 x.c) (m + 1)) := Lib.hid (fun x hx => by rw [H6.out.pts.at_below hb7 hx]; exact HAT6.out x hx)
        rw [← hdd]
        have hge : m + 1 ≤ minD (docsAt w7 ps) := by
          rcases (minD_spec (docsAt w7 ps)).2.2 with c | c
          · omega
          · obtain ⟨x, hx, e⟩ := List.mem_map.1 c
            rw [← e]
            unfold docAt
            split
            · rename_i hl
              exact (HAT7.out x hx).2.2 hl
            · omega
        have HGE := Lib.hid (And.intro hge (minD_spec (docsAt w7 ps)).1)
        clear hdd hb7 hge kz HFI
        go_wp2
        go_roundw
        case rel => exact ⟨m + 1, off, rfl, H7.out, HAT7.out, HOF5.out, by omega, by omega⟩
        case measure => have := HGE.out; simp [intOf]; omega
    · have hdm : decide (m < 2147483648) = false := decide_eq_false hlt
      have he : m = 2147483648 := by omega
      have hfin : vl (docsQ ps) may (scoreQ ps) 2147483648 = off := by
        rw [hoff]
        exact vl_same HR.out hD1 (fun d hd h1 h2 => by have := hnone d hd h1; omega)
      have HF : Hid (SS w1 W0 wr s g n cp (.func (.func F) #[] B) tb sc k ps (vl (docsQ ps) may (scoreQ ps) 2147483648) (c0 + (vl (docsQ ps) may (scoreQ ps) 2147483648).length)) := Lib.hid (by rw [hfin]; exact hss)
      clear hnone hmin hsum hps hfin hoff hss
      go_wp2
      go_end0
      exact ⟨rfl, HF.out⟩
end Go.Proofs.YtpinpnbhbngclaaGreat

/- A search on its way: the greatest contributions together. -/
namespace Go.Proofs.YtpinpnbhbngclaaGreat
open Go.RowKit

/-- a row of ints, at block g -/
def IAt (w : World) (g : Nat) (l : List Int) : Prop := (∃ cs, w.heap[g]? = some (.cells cs 3 (0, 0))) ∧ ∀ j (h : j < l.length), w.cell? ⟨g, j, none⟩ = some (.int .i64 l[j]) ∧ w.frozen? ⟨g, j, none⟩ = false
theorem IAt.set_ {w : World} {g : Nat} {l : List Int} (h : IAt w g l) (i : Nat) (x : Int) : IAt (w.setCell ⟨g, i, none⟩ (.int .i64 x)) g (l.set i x) := by
  refine ⟨by obtain ⟨cs, hc⟩ := h.1; exact ⟨_, heap_setCell_row hc i _⟩, ?_⟩
  intro j hj
  have hj' : j < l.length := by simpa using hj
  refine ⟨?_, by simp [(h.2 j hj').2]⟩
  by_cases e : i = j
  · subst e
    rw [World.cell?_setCell_same w _ _ (h.2 i hj').1]
    simp
  · rw [World.cell?_setCell_other w _ _ _ (fun x => e (by injection x)), (h.2 j hj').1]
    simp [e]
theorem IAt.same {w w' : World} {g : Nat} {l : List Int} (h : IAt w g l) (e : w'.heap[g]? = w.heap[g]?) : IAt w' g l :=
  ⟨by obtain ⟨cs, hc⟩ := h.1; exact ⟨cs, e.trans hc⟩, fun j hj => ⟨(World.cell?_of_block (a := ⟨g, j, none⟩) e).trans (h.2 j hj).1, (World.frozen?_of_block (a := ⟨g, j, none⟩) e).trans (h.2 j hj).2⟩⟩
theorem IAt.later {w w' : World} {g : Nat} {l : List Int} (h : IAt w g l) (hb : Below w.heap.size w w') (hg : g < w.heap.size) : IAt w' g l := h.same (hb.block g hg)
theorem IAt.turned {S : Nat → Prop} {w w' : World} {g : Nat} {l : List Int} (h : IAt w g l) (hT : Turned S w w') (hg : g < w.heap.size) (hn : ¬ S g) : IAt w' g l := h.same (hT.block g hg hn)
theorem made_is (L : Nat) (hL : L ≤ 1000000000) : ∃ M, (∀ w : World, (Instr.makeSlice 23 (.int .i64 (L : Int)) (.int .i64 (L : Int))).run Tryz.prog w = .ok (.slice (some ⟨w.heap.size, 0, none⟩) L L) (w.alloc (.cells M 3))) ∧ ∀ w : World, IAt (w.alloc (.cells M 3)) w.heap.size (List.replicate L 0) := by
  obtain ⟨i0, hi, hz0, hz1, hz2⟩ := info_parts int_info
  have h := fun w => run_make (P := Tryz.prog) w 23 3 i0 (.int .i64 0) Tryz.underlying23 hi hz0 .i64 .i64 (L : Int) (L : Int) (by omega) (by omega) (by rw [hz2]; omega) (by omega)
  rw [hz1, Int.toNat_natCast, Nat.mul_one] at h
  obtain ⟨M, hM⟩ : ∃ M, M = madeCells (Value.int .i64 0).cells L := ⟨_, rfl⟩
  rw [← hM] at h
  refine ⟨M, h, fun w => ⟨⟨M, heap_alloc_new w _⟩, ?_⟩⟩
  intro j hj
  rw [List.length_replicate] at hj
  have hrow := heap_alloc_new w (.cells M 3)
  refine ⟨?_, by unfold World.frozen?; simp only [hrow]; simp⟩
  unfold World.cell?
  simp only [hrow]
  rw [hM]
  simp [madeCells, Value.cells, hj, Nat.mod_one]
def mostP (x : Prt) : Int := x.wt * PostM.mx x.l
def togS (ps : List Prt) (k : Nat) : Int := sumL ((ps.take k).map mostP)
def togL (ps : List Prt) : List Int := (List.range ps.length).map fun i => togS ps (i + 1)
theorem togS_next (ps : List Prt) (k : Nat) (h : k < ps.length) : togS ps (k + 1) = togS ps k + mostP ps[k] := by
  unfold togS
  rw [List.take_succ_eq_append_getElem h, List.map_append]
  exact sumL_snoc _ _
theorem mx_bound {B : Int} (l : List (Int × Int)) (h : ∀ p ∈ l, p.2 ≤ B) : ∀ m, m ≤ B → l.foldl (fun m p => max m p.2) m ≤ B := by
  induction l with
  | nil => intro m hm; exact hm
  | cons a t ih =>
    intro m hm
    have := h a (by simp)
    exact ih (fun p hp => h p (by simp [hp])) (max m a.2) (by omega)
theorem mostP_le {x : Prt} (h : GoodP x) : 0 ≤ mostP x ∧ mostP x ≤ 4294836225 := by
  have h1 := PostM.mx_pos x.l
  have h2 : PostM.mx x.l ≤ 65535 := mx_bound x.l (fun p hp => (PostM.rgt_all h.right p hp).2.2.2) 0 (by omega)
  exact mul_le h.w1 h.w2 h1 h2

set_option maxHeartbeats 1000000 in
set_option maxRecDepth 100000 in
theorem stogether_any {w1 W0 W : World} {s g n cp : Nat} {mayv : Value} {tb sc k : Nat} {ps : List Prt} {off : List (Int × Int)} {cnt : Nat} (h : SS w1 W0 W s g n cp mayv tb sc k ps off cnt) (hn : n ≤ 64) :
    Calls Tryz.prog 68 #[.pointer (some ⟨s, 0, none⟩)] W fun e w' => (∃ gt, e = .returned (.slice (some ⟨gt, 0, none⟩) n n) ∧ W.heap.size ≤ gt ∧ gt < w'.heap.size ∧ IAt w' gt (togL ps)) ∧ Below W.heap.size W w' := by
  obtain ⟨M, hM, hI⟩ := made_is n (by omega)
  have k0 := cell_of_cells (i := 0) h.obj rfl
  have H := Lib.hid h
  have HI := Lib.hid hI
  clear h hI
  go_enter Tryz.func68, Tryz.ntmps68
  go_upto_region 1 with fail
  go_cut [3, 4] (fun x y wx => x = .int .i64 0 ∧ y = .slice (some ⟨W.heap.size, 0, none⟩) n n ∧ IAt wx W.heap.size (List.replicate n 0) ∧ Below W.heap.size W wx ∧ W.heap.size < wx.heap.size)
  case first =>
    go_region
    all_goals
      go_wp2
      go_meet
      first
        | exact ⟨rfl, rfl, HI.out W.drew, (Below.refl _ W).drew.alloc (Nat.le_refl _) _, by simp⟩
        | exact ⟨rfl, rfl, HI.out W, ((Below.refl _ W).alloc (Nat.le_refl _) _).drew, by simp⟩
  case rest =>
    obtain ⟨rfl, rfl, hI0, hb0, hsz⟩ := hcut
    have HS := Lib.hid (H.out.below hb0)
    have k02 := cell_of_cells (i := 0) HS.out.obj rfl
    obtain ⟨G, hG⟩ : ∃ G, G = W.heap.size := ⟨_, rfl⟩
    rw [← hG] at hI0 hsz ⊢
    have HG := Lib.hid hG
    have HB0 := Lib.hid hb0
    have HI0 := Lib.hid hI0
    have HLEN := Lib.hid H.out.row.len
    clear hb0 hG hI0 k0
    go_wp2
    go_loopw [18, 3] (fun x y wr => ∃ i : Nat, x = .int .i64 i ∧ y = .int .i64 (togS ps i) ∧ i ≤ n ∧ IAt wr G ((togL ps).take i ++ List.replicate (n - i) 0) ∧ Below W.heap.size W wr ∧ G < wr.heap.size) (fun x _ _ => n - (intOf x).toNat)
    case atStart => exact ⟨0, rfl, rfl, by omega, by simpa using HI0.out, HB0.out, hsz⟩
    case round =>
      obtain ⟨i, rfl, rfl, hin, hI, hb, hgw⟩ := hrel
      have hss := H.out.below hb
      by_cases hlt : i < n
      · have hmi : (i : Int) < (n : Int) := by omega
        have hil : i < ps.length := by rw [HLEN.out]; exact hlt
        obtain ⟨b, o, hAe, hbl, hc⟩ := hss.row.ptr.2 i hil
        have hob := (hss.pts ps[i] (List.getElem_mem hil)).obj
        have hbd := mostP_le (hss.good ps[i] (List.getElem_mem hil))
        have hnx := togS_next ps i hil
        have hsb : 0 ≤ togS ps i ∧ togS ps i ≤ (i : Int) * 4294836225 := by
          have : ∀ j, j ≤ ps.length → 0 ≤ togS ps j ∧ togS ps j ≤ (j : Int) * 4294836225 := by
            intro j
            induction j with
            | zero => intro _; exact ⟨Int.le_refl _, Int.le_refl _⟩
            | succ j ih =>
              intro hj
              have h1 := ih (by omega)
              have h2 := mostP_le (hss.good ps[j] (List.getElem_mem (by omega)))
              rw [togS_next ps j (by omega)]
              omega
          exact this i (by omega)
        injection hAe with hAe
        injection hAe with e1 e2 _
        subst e1
        subst e2
        rw [Nat.zero_add] at hc
        obtain ⟨T, hT⟩ : ∃ T, T = togS ps i := ⟨_, rfl⟩
        obtain ⟨T2, hT2⟩ : ∃ T2, T2 = togS ps (i + 1) := ⟨_, rfl⟩
        obtain ⟨mm, hmm⟩ : ∃ mm, mm = mostP ps[i] := ⟨_, rfl⟩
        have k2 := cell_of_cells (i := 2) hob rfl
        simp only [List.getElem_toArray, List.getElem_cons_succ, List.getElem_cons_zero] at k2
        rw [show ps[i].wt * PostM.mx ps[i].l = mm from hmm.symm] at k2
        obtain ⟨pk, hpk⟩ : ∃ pk, pk = ps[i].p := ⟨_, rfl⟩
        rw [← hpk] at hc k2
        rw [← hT, ← hT2, ← hmm] at hnx
        rw [← hT] at hsb ⊢
        rw [← hmm] at hbd
        have hsum : T + mm = T2 := hnx.symm
        have hTb : 0 ≤ T2 ∧ T2 ≤ 281474976710656 := by omega
        obtain ⟨hTb1, hTb2⟩ := hTb
        have htl : (togL ps).length = n := by unfold togL; rw [List.length_map, List.length_range, HLEN.out]
        have htg : (togL ps)[i]'(by omega) = T2 := by unfold togL; rw [List.getElem_map, List.getElem_range, ← hT2]
        have hlen1 : ((togL ps).take i).length = i := by rw [List.length_take]; omega
        have hset : ((togL ps).take i ++ List.replicate (n - i) 0).set i T2 = (togL ps).take (i + 1) ++ List.replicate (n - (i + 1)) 0 := by
          obtain ⟨q, hq⟩ : ∃ q, n - i = q + 1 := ⟨n - i - 1, by omega⟩
          rw [hq, List.set_append_right _ _ (by omega), hlen1, Nat.sub_self, List.replicate_succ, List.set_cons_zero, List.take_succ_eq_append_getElem (by omega), htg, List.append_assoc, show n - (i + 1) = q by omega]
          rfl
        have hone := hI.2 i (by rw [List.length_append, hlen1, List.length_replicate]; omega)
        obtain ⟨zv, hz⟩ : ∃ zv, wr.cell? ⟨G, i, none⟩ = some zv := ⟨_, hone.1⟩
        have hf := hone.2
        clear hone
        have HI := Lib.hid hI
        have HB := Lib.hid hb
        have HSET := Lib.hid hset
        have HT2 := Lib.hid hT2
        have hGW : W.heap.size ≤ G := Nat.le_of_eq HG.out.symm
        have HGW := Lib.hid hGW
        clear hI hb hset hT hT2 hmm hpk hss hob hbd hnx hsb htl htg hlen1 hGW k02
        go_wp2
        go_roundw
        case rel => exact ⟨i + 1, by go_num, by rw [← HT2.out], by omega, by rw [← HSET.out]; exact HI.out.set_ i T2, HB.out.setCell HGW.out _, by simpa [World.setCell] using hgw⟩
        case measure => simp [intOf]; omega
      · have hmi : ¬ (i : Int) < (n : Int) := by omega
        obtain rfl : i = n := by omega
        have htl : (togL ps).length = i := by unfold togL; rw [List.length_map, List.length_range, HLEN.out]
        rw [Nat.sub_self, List.replicate_zero, List.append_nil, List.take_of_length_le (by omega)] at hI
        go_wp2
        go_ret
        exact ⟨⟨G, rfl, Nat.le_of_eq HG.out.symm, hgw, hI⟩, hb⟩
end Go.Proofs.YtpinpnbhbngclaaGreat

/- A search on its way: how many parts are only sought in. -/
namespace Go.Proofs.YtpinpnbhbngclaaGreat
open Go.RowKit

/-- the worst one's score; 0, as long as there is room -/
def worstQ (k : Nat) (off : List (Int × Int)) : Int := if 0 < k ∧ k ≤ off.length then ((TopM.best k off).getLast?.map (·.2)).getD 0 else 0
theorem worst_is {k : Nat} {off hh : List (Int × Int)} (h : TopM.Bnd k off hh) : (worstV k hh).2 = worstQ k off := by
  have hl := TopM.bnd_len h
  unfold worstV worstQ fullB
  by_cases c : 0 < k ∧ k ≤ off.length
  · rw [if_pos c, if_pos (by simp; omega), TopM.bnd_worst h (by omega)]
    rfl
  · rw [if_neg c, if_neg (by simp; omega)]
theorem sworstQ_any {w1 W0 W : World} {s g n cp : Nat} {mayv : Value} {tb sc k : Nat} {ps : List Prt} {off : List (Int × Int)} {cnt : Nat} (h : SS w1 W0 W s g n cp mayv tb sc k ps off cnt) :
    Calls Tryz.prog 75 #[.pointer (some ⟨s, 0, none⟩)] W fun e w' => e = .returned (.int .i64 (worstQ k off)) ∧ Below W.heap.size W w' :=
  (sworst_any h).mono (fun e w' ⟨⟨hh, hb, he⟩, hbl⟩ => ⟨by rw [he, worst_is hb], hbl⟩)

set_option maxHeartbeats 1000000 in
set_option maxRecDepth 100000 in
theorem ssought_any {w1 W0 W : World} {s g n cp : Nat} {mayv : Value} {tb sc k : Nat} {ps : List Prt} {off : List (Int × Int)} {cnt : Nat} (h : SS w1 W0 W s g n cp mayv tb sc k ps off cnt) (gt m : Nat) (L : List Int) (hm : m ≤ 64) (hL : L.length = m) (hI : IAt W gt L) (hg : gt < W.heap.size) :
    Calls Tryz.prog 69 #[.pointer (some ⟨s, 0, none⟩), .slice (some ⟨gt, 0, none⟩) m m] W fun e w' => (∃ i : Nat, e = .returned (.int .i64 i) ∧ i ≤ m ∧ (∀ j, j < i → L.getD j 0 ≤ worstQ k off) ∧ (i < m → worstQ k off < L.getD i 0)) ∧ Below W.heap.size W w' := by
  have hw := sworstQ_any h
  obtain ⟨v, hv⟩ : ∃ v, v = worstQ k off := ⟨_, rfl⟩
  rw [← hv] at hw ⊢
  have HW := Lib.hid hw
  have HI := Lib.hid hI
  have HL := Lib.hid hL
  clear hw hI hv h hL
  go_enter Tryz.func69, Tryz.ntmps69
  go_wp2_with fail
  refine HW.out.mono ?_
  rintro e w2 ⟨rfl, hb⟩
  have HB := Lib.hid hb
  have HI2 := Lib.hid (HI.out.later hb hg)
  clear hb HW
  go_wp2
  go_loopw [6] (fun x wr => ∃ i : Nat, x = .int .i64 i ∧ i ≤ m ∧ (∀ j, j < i → L.getD j 0 ≤ v) ∧ wr = w2) (fun x _ => m - (intOf x).toNat)
  case atStart => exact ⟨0, rfl, by omega, fun j hj => by omega, rfl⟩
  case round =>
    obtain ⟨i, rfl, hi, hlo, rfl⟩ := hrel
    have HLO := Lib.hid hlo
    clear hlo
    by_cases hlt : i < m
    · have hmi : (i : Int) < (m : Int) := by omega
      have hdm : decide ((i : Int) < (m : Int)) = true := decide_eq_true hmi
      have hil : i < L.length := by rw [HL.out]; exact hlt
      obtain ⟨y, hy⟩ : ∃ y, y = L.getD i 0 := ⟨_, rfl⟩
      have hc : wr.cell? ⟨gt, i, none⟩ = some (.int .i64 y) := by
        rw [(HI2.out.2 i hil).1, hy, List.getD_eq_getElem?_getD, List.getElem?_eq_getElem hil]
        rfl
      have HY := Lib.hid hy
      clear hy hil
      by_cases hyv : y ≤ v
      · have hdy : decide (y ≤ v) = true := decide_eq_true hyv
        go_wp2
        go_roundw
        case rel => exact ⟨i + 1, by go_num, by omega, fun j hj => by
          by_cases c : j = i
          · subst c; rw [← HY.out]; exact hyv
          · exact HLO.out j (by omega), trivial⟩
        case measure => simp [intOf]; omega
      · have hdy : decide (y ≤ v) = false := decide_eq_false hyv
        have hgt : v < y := by omega
        go_wp2
        go_ret
        exact ⟨⟨i, rfl, hi, HLO.out, fun _ => by
          have h9 := HY.out
          rw [List.getD_eq_getElem?_getD] at h9
          rw [← h9]
          exact hgt⟩, HB.out⟩
    · have hmi : ¬ (i : Int) < (m : Int) := by omega
      have hdm : decide ((i : Int) < (m : Int)) = false := decide_eq_false hmi
      go_wp2
      go_ret
      exact ⟨⟨i, rfl, hi, HLO.out, fun h => by omega⟩, HB.out⟩
end Go.Proofs.YtpinpnbhbngclaaGreat

/- A search on its way: a document's score completed, or given up. -/
namespace Go.Proofs.YtpinpnbhbngclaaGreat
open Go.RowKit

theorem foldl_add (l : List Int) : ∀ m : Int, l.foldl (· + ·) m = m + l.foldl (· + ·) 0 := by
  induction l with
  | nil => intro m; simp
  | cons a t ih => intro m; rw [List.foldl_cons, List.foldl_cons, ih (m + a), ih (0 + a)]; omega
theorem sumL_cons (a : Int) (l : List Int) : sumL (a :: l) = a + sumL l := by unfold sumL; rw [List.foldl_cons, foldl_add]; omega
theorem sumL_append (a b : List Int) : sumL (a ++ b) = sumL a + sumL b := by unfold sumL; rw [List.foldl_append, foldl_add]
/-- no place ahead holds D or more -/
def NotBy (x : Prt) (a : Nat) (D : Int) : Prop := a ≤ x.l.length ∧ ∀ k, k < a → (atP x.l k).1 < D
theorem exists_at (x : Prt) (D : Int) : ∃ a, AtD x a D := by
  have : ∀ n, n ≤ x.l.length → (∃ a, AtD x a D) ∨ ∀ k, k < n → (atP x.l k).1 < D := by
    intro n
    induction n with
    | zero => intro _; exact .inr (fun k hk => by omega)
    | succ n ih =>
      intro hn
      rcases ih (by omega) with h | h
      · exact .inl h
      · by_cases c : (atP x.l n).1 < D
        · exact .inr (fun k hk => by
            by_cases e : k = n
            · subst e; exact c
            · exact h k (by omega))
        · exact .inl ⟨n, by omega, h, fun _ => by omega⟩
  rcases this x.l.length (Nat.le_refl _) with h | h
  · exact h
  · exact ⟨x.l.length, Nat.le_refl _, h, fun h => by omega⟩
theorem con_most {x : Prt} (hg : GoodP x) (d : Int) : 0 ≤ con x d ∧ con x d ≤ mostP x := by
  obtain ⟨a, ha⟩ := exists_at x d
  have hc : con x d = conAt x a d := con_split hg (fun k hk _ => ha.2.1 k hk) ha.2.2
  rw [hc]
  refine ⟨(conAt_le hg a d).1, ?_⟩
  unfold conAt
  split
  · rename_i h
    rw [atP_get h.1]
    exact Int.mul_le_mul_of_nonneg_left (PostM.mx_le _ _ (List.getElem_mem h.1)) (by have := hg.w1; omega)
  · exact (mostP_le hg).1
theorem sum_most {ps : List Prt} (hg : ∀ x ∈ ps, GoodP x) (d : Int) : 0 ≤ sumL (ps.map fun x => con x d) ∧ sumL (ps.map fun x => con x d) ≤ sumL (ps.map mostP) := by
  induction ps with
  | nil => exact ⟨Int.le_refl _, Int.le_refl _⟩
  | cons a t ih =>
    have h1 := con_most (hg a (by simp)) d
    have h2 := ih (fun x hx => hg x (by simp [hx]))
    rw [List.map_cons, List.map_cons, sumL_cons, sumL_cons]
    omega
def backS (ps : List Prt) (d : Int) (j : Nat) : Int := sumL ((ps.drop j).map fun x => con x d)
theorem backS_next (ps : List Prt) (d : Int) (j : Nat) (h : j < ps.length) : backS ps d j = con ps[j] d + backS ps d (j + 1) := by
  unfold backS
  rw [List.drop_eq_getElem_cons h, List.map_cons, sumL_cons]
theorem score_parts (ps : List Prt) (d : Int) (j : Nat) : scoreQ ps d = sumL ((ps.take j).map fun x => con x d) + backS ps d j := by
  unfold scoreQ backS
  rw [← sumL_append, ← List.map_append, List.take_append_drop]
theorem score_le {ps : List Prt} (hg : ∀ x ∈ ps, GoodP x) (d : Int) (j : Nat) : backS ps d j ≤ scoreQ ps d ∧ scoreQ ps d ≤ togS ps j + backS ps d j := by
  have h := sum_most (ps := ps.take j) (fun x hx => hg x (List.mem_of_mem_take hx)) d
  rw [score_parts ps d j]
  unfold togS
  omega
theorem score_bound {ps : List Prt} (hg : ∀ x ∈ ps, GoodP x) (hn : ps.length ≤ 64) (d : Int) : ∀ j, 0 ≤ backS ps d j ∧ backS ps d j ≤ 281474976710656 := by
  intro j
  have h1 := sum_most (ps := ps.drop j) (fun x hx => hg x (List.mem_of_mem_drop hx)) d
  have h2 : ∀ q : List Prt, (∀ x ∈ q, GoodP x) → sumL (q.map mostP) ≤ (q.length : Int) * 4294836225 := by
    intro q
    induction q with
    | nil => intro _; exact Int.le_refl _
    | cons a t ih =>
      intro hq
      have g1 := mostP_le (hq a (by simp))
      have g2 := ih (fun x hx => hq x (by simp [hx]))
      rw [List.map_cons, sumL_cons, List.length_cons]
      omega
  have h3 := h2 (ps.drop j) (fun x hx => hg x (List.mem_of_mem_drop hx))
  have h4 : (ps.drop j).length ≤ 64 := by rw [List.length_drop]; omega
  unfold backS
  omega
end Go.Proofs.YtpinpnbhbngclaaGreat

/- A search on its way: complete. -/
namespace Go.Proofs.YtpinpnbhbngclaaGreat
open Go.RowKit

/-- what stands behind 'complete': the document was kept, or can't come above the worst -/
def CpEnd (w1 W0 : World) (s g n cp : Nat) (mayv : Value) (tb sc k : Nat) (ps : List Prt) (off : List (Int × Int)) (cnt : Nat) (d : Int) (q gt : Nat) (W w' : World) : Prop :=
  IAt w' gt (togL ps) ∧ W.heap.size ≤ w'.heap.size ∧ (∀ x ∈ ps, NotBy x (atM w' x.c) d) ∧ (∀ x ∈ ps, atM W x.c ≤ atM w' x.c) ∧ (∀ j (h : j < ps.length), q ≤ j → atM w' ps[j].c = atM W ps[j].c) ∧
    ((scoreQ ps d ≤ worstQ k off ∧ SS w1 W0 w' s g n cp mayv tb sc k ps off cnt) ∨ SS w1 W0 w' s g n cp mayv tb sc k ps (off ++ [(d, scoreQ ps d)]) (cnt + 1))
theorem PS.one {w1 w : World} {x : Prt} {a : Nat} (h : PT w1 w x a) : PS w1 w [x] := fun y hy => by
  have : y = x := by simpa using hy
  subst this
  exact h.canon

set_option maxHeartbeats 2000000 in
set_option maxRecDepth 100000 in
theorem scomplete_any {w1 W0 W : World} {s g n cp : Nat} {mayv : Value} {tb sc k : Nat} {ps : List Prt} {off : List (Int × Int)} {cnt : Nat} (h : SS w1 W0 W s g n cp mayv tb sc k ps off cnt) (hn : n ≤ 64) (ho : off.length ≤ 1000000) (hc : cnt ≤ 1000000) (gt q m : Nat) (d : Int) (hq : q ≤ n) (hI : IAt W gt (togL ps)) (hg : gt < W.heap.size) (hgs : ∀ x ∈ ps, x.c ≠ gt) (hst : s < gt) (hN : ∀ x ∈ ps, NotBy x (atM W x.c) d) :
    Calls Tryz.prog 70 #[.pointer (some ⟨s, 0, none⟩), .int .i64 d, .int .i64 (backS ps d q), .slice (some ⟨gt, 0, none⟩) q m] W fun e w' => e = .returned (.tuple #[]) ∧ CpEnd w1 W0 s g n cp mayv tb sc k ps off cnt d q gt W w' := by
  have hw := sworstQ_any h
  obtain ⟨v, hv⟩ : ∃ v, v = worstQ k off := ⟨_, rfl⟩
  rw [← hv] at hw
  have HV := Lib.hid hv
  have HW := Lib.hid hw
  have H := Lib.hid h
  have HI := Lib.hid hI
  have HN := Lib.hid hN
  have HGS := Lib.hid hgs
  have HLEN := Lib.hid h.row.len
  have hbk := score_bound h.good (by rw [h.row.len]; exact hn) d
  have HBK := Lib.hid hbk
  clear hw hv h hI hN hgs hbk
  obtain ⟨S0, hS0⟩ : ∃ S0, S0 = backS ps d q := ⟨_, rfl⟩
  rw [← hS0]
  have HS0 := Lib.hid hS0
  clear hS0
  go_enter Tryz.func70, Tryz.ntmps70
  go_wp2_with fail
  refine HW.out.mono ?_
  rintro e w2 ⟨rfl, hb⟩
  have H2 := Lib.hid (H.out.below hb)
  have HI2 := Lib.hid (HI.out.later hb hg)
  have HAT2 : Hid (∀ x ∈ ps, atM w2 x.c = atM W x.c) := Lib.hid (fun x hx => H.out.pts.at_below hb hx)
  have hg2 : gt < w2.heap.size := Nat.lt_of_lt_of_le hg hb.size
  have hw2s : W.heap.size ≤ w2.heap.size := hb.size
  clear hb HW
  go_wp2
  go_loopw [9, 2] (fun x y wr => ∃ (j : Nat) (z : Int), x = .int .i64 z ∧ z = (j : Int) - 1 ∧ y = .int .i64 (backS ps d j) ∧ j ≤ q ∧ SS w1 W0 wr s g n cp mayv tb sc k ps off cnt ∧ (∀ x ∈ ps, NotBy x (atM wr x.c) d) ∧ (∀ i (h : i < ps.length), j ≤ i → q ≤ i → atM wr ps[i].c = atM W ps[i].c) ∧ (∀ i (h : i < ps.length), i < j → atM wr ps[i].c = atM W ps[i].c) ∧ IAt wr gt (togL ps) ∧ gt < wr.heap.size ∧ W.heap.size ≤ wr.heap.size ∧ (∀ x ∈ ps, atM W x.c ≤ atM wr x.c)) (fun x _ _ => (intOf x + 1).toNat)
  case atStart => exact ⟨q, (q : Int) - 1, rfl, rfl, by rw [← HS0.out], Nat.le_refl _, H2.out, fun x hx => by rw [HAT2.out x hx]; exact HN.out x hx, fun i h _ _ => HAT2.out _ (List.getElem_mem h), fun i h _ => HAT2.out _ (List.getElem_mem h), HI2.out, hg2, hw2s, fun x hx => Nat.le_of_eq (HAT2.out x hx).symm⟩
  case round =>
    obtain ⟨j, z, rfl, hz, rfl, hjq, hss, hnb, hat1, hat2, hI, hgw, hws, hmn⟩ := hrel
    have HMN := Lib.hid hmn
    clear hmn
    by_cases hj0 : j = 0
    · subst hj0
      have hz1 : ¬ (0 : Int) ≤ z := by omega
      have hdz : decide ((0 : Int) ≤ z) = false := decide_eq_false hz1
      clear hz
      have hsc : backS ps d 0 = scoreQ ps d := by unfold backS scoreQ; rw [List.drop_zero]
      rw [hsc]
      have HK := Lib.hid (skeep2_any d (scoreQ ps d) hss ho hc)
      have HSS := Lib.hid hss
      have HNB := Lib.hid hnb
      have HAT1 := Lib.hid hat1
      have HIk := Lib.hid hI
      clear hss hnb hat1 hat2 hI hsc
      go_wp2_with fail
      refine HK.out.mono ?_
      rintro e3 w3 ⟨rfl, hs3, hT3, hrow3⟩
      have HE : Hid (CpEnd w1 W0 s g n cp mayv tb sc k ps off cnt d q gt W w3) := Lib.hid ⟨HIk.out.same (by
        obtain ⟨cs, hcs⟩ := HIk.out.1
        exact hrow3 gt cs _ (by have := HSS.out.o4; omega) (by have := HSS.out.o2; have := HSS.out.o4; have := HSS.out.o5; omega) hcs), Nat.le_trans hws hT3.size, fun x hx => by rw [HSS.out.at_turned hT3 hx]; exact HNB.out x hx, fun x hx => by rw [HSS.out.at_turned hT3 hx]; exact HMN.out x hx, fun i h hqi => by rw [HSS.out.at_turned hT3 (List.getElem_mem h)]; exact HAT1.out i h (by omega) hqi, .inr hs3⟩
      clear hs3 hT3 hrow3
      go_wp2
      go_end0
      exact ⟨rfl, HE.out⟩
    · obtain ⟨i, hi⟩ : ∃ i, i = j - 1 := ⟨_, rfl⟩
      obtain rfl : j = i + 1 := by omega
      have hzi : z = (i : Int) := by omega
      subst hzi
      have hil : i < ps.length := by rw [HLEN.out]; omega
      have hin : (i : Int) < (n : Int) := by omega
      have hiq : (i : Int) < (q : Int) := by omega
      have htl : (togL ps).length = n := by unfold togL; rw [List.length_map, List.length_range, HLEN.out]
      have htg : (togL ps)[i]'(by omega) = togS ps (i + 1) := by unfold togL; rw [List.getElem_map, List.getElem_range]
      have hct := (hI.2 i (by omega)).1
      rw [htg] at hct
      obtain ⟨T, hT⟩ : ∃ T, T = togS ps (i + 1) := ⟨_, rfl⟩
      obtain ⟨S, hS⟩ : ∃ S, S = backS ps d (i + 1) := ⟨_, rfl⟩
      have hscl := (score_le hss.good d (i + 1)).2
      rw [← hT] at hct hscl
      have hSb := HBK.out (i + 1)
      rw [← hS] at hSb hscl ⊢
      have hTb : 0 ≤ T ∧ T ≤ 281474976710656 := by
        rw [hT]
        have g1 : ∀ r : List Prt, (∀ x ∈ r, GoodP x) → 0 ≤ sumL (r.map mostP) ∧ sumL (r.map mostP) ≤ (r.length : Int) * 4294836225 := by
          intro r
          induction r with
          | nil => intro _; exact ⟨Int.le_refl _, Int.le_refl _⟩
          | cons a t ih =>
            intro hr
            have g1 := mostP_le (hr a (by simp))
            have g2 := ih (fun x hx => hr x (by simp [hx]))
            rw [List.map_cons, sumL_cons, List.length_cons]
            omega
        have g2 := g1 (ps.take (i + 1)) (fun x hx => hss.good x (List.mem_of_mem_take hx))
        have g3 : (ps.take (i + 1)).length ≤ 64 := by rw [List.length_take]; omega
        unfold togS
        omega
      obtain ⟨hTb1, hTb2⟩ := hTb
      obtain ⟨hSb1, hSb2⟩ := hSb
      obtain ⟨U, hU⟩ : ∃ U, U = S + T := ⟨_, rfl⟩
      have hU2 : S + T = U := hU.symm
      have hUb : 0 ≤ U ∧ U ≤ 562949953421312 := by omega
      obtain ⟨hUb1, hUb2⟩ := hUb
      have HSC : Hid (scoreQ ps d ≤ U) := Lib.hid (by omega)
      obtain ⟨b, o, hAe, hbl, hcp⟩ := hss.row.ptr.2 i hil
      injection hAe with hAe
      injection hAe with e1 e2 _
      subst e1
      subst e2
      rw [Nat.zero_add] at hcp
      have k0 := cell_of_cells (i := 0) hss.obj rfl
      have hpt := hss.pts ps[i] (List.getElem_mem hil)
      have hgd := hss.good ps[i] (List.getElem_mem hil)
      have HBR := Lib.hid (pbrings_any w1 _ ps[i] _ d hpt hgd)
      obtain ⟨pk, hpk⟩ : ∃ pk, pk = ps[i].p := ⟨_, rfl⟩
      rw [← hpk] at hcp HBR
      have HSS := Lib.hid hss
      have HNB := Lib.hid hnb
      have HAT1 := Lib.hid hat1
      have HAT2b := Lib.hid hat2
      have HIr := Lib.hid hI
      have HTt := Lib.hid hT
      have HSs := Lib.hid hS
      clear hss hnb hat1 hat2 hI hT hS hU hscl hpk htl htg hz hi hpt hj0
      by_cases hle : U ≤ v
      · have hdl : decide (U ≤ v) = true := decide_eq_true hle
        have HE : Hid (CpEnd w1 W0 s g n cp mayv tb sc k ps off cnt d q gt W wr) := Lib.hid ⟨HIr.out, hws, HNB.out, HMN.out, fun i2 h hqi => HAT1.out i2 h (by omega) hqi, .inl ⟨by rw [← HV.out]; exact Int.le_trans HSC.out hle, HSS.out⟩⟩
        go_wp2
        refine bodyPost_ret (results_none rfl _ _ _) rfl ?_
        exact ⟨rfl, HE.out⟩
      · have hdl : decide (U ≤ v) = false := decide_eq_false hle
        go_wp2_with fail
        refine HBR.out.mono ?_
        rintro e3 w3 ⟨a', rfl, hpt3, hsk, hTb3⟩
        have hcon : conAt ps[i] a' d = con ps[i] d := (con_split hgd (fun k2 hk2 _ => by
          rcases Nat.lt_or_ge k2 (atM wr ps[i].c) with c | c
          · exact (HNB.out ps[i] (List.getElem_mem hil)).2 k2 c
          · exact hsk.2.2.1 k2 c hk2) hsk.2.2.2).symm
        rw [hcon]
        have hTc : Turned (curs [ps[i]]) wr w3 := hTb3.wide (fun q2 hq2 => ⟨ps[i], by simp, hq2⟩)
        have hss3 := HSS.out.moved (ps2 := [ps[i]]) (fun x hx => by
          have : x = ps[i] := by simpa using hx
          rw [this]; exact List.getElem_mem hil) hTc (PS.one hpt3)
        have hot : ∀ i2 (h2 : i2 < ps.length), i2 ≠ i → atM w3 ps[i2].c = atM wr ps[i2].c := fun i2 h2 hne =>
          atM_same (hTb3.block _ (HSS.out.pts _ (List.getElem_mem h2)).lt (fun e => hne (nodup_at HSS.out.nod h2 hil e)))
        have hnb3 : ∀ x ∈ ps, NotBy x (atM w3 x.c) d := fun x hx => by
          obtain ⟨i2, h2, rfl⟩ := List.mem_iff_getElem.1 hx
          by_cases e : i2 = i
          · subst e
            rw [hpt3.at_is]
            refine ⟨hsk.2.1, fun k2 hk2 => ?_⟩
            rcases Nat.lt_or_ge k2 (atM wr ps[i2].c) with c | c
            · exact (HNB.out ps[i2] (List.getElem_mem hil)).2 k2 c
            · exact hsk.2.2.1 k2 c hk2
          · rw [hot i2 h2 e]; exact HNB.out _ hx
        have hnx := backS_next ps d i hil
        rw [← HSs.out] at hnx
        obtain ⟨C, hC⟩ : ∃ C, C = con ps[i] d := ⟨_, rfl⟩
        have hCb := con_most hgd d
        have hCb2 := mostP_le hgd
        rw [← hC] at hnx hCb ⊢
        obtain ⟨S2, hS2⟩ : ∃ S2, S2 = backS ps d i := ⟨_, rfl⟩
        rw [← hS2] at hnx
        have hsum : S + C = S2 := by omega
        have hS2b : 0 ≤ S2 ∧ S2 ≤ 562949953421312 := by omega
        obtain ⟨hS2b1, hS2b2⟩ := hS2b
        have hmn3 : ∀ x ∈ ps, atM W x.c ≤ atM w3 x.c := fun x hx => by
          obtain ⟨i2, h2, rfl⟩ := List.mem_iff_getElem.1 hx
          refine Nat.le_trans (HMN.out _ hx) ?_
          by_cases e : i2 = i
          · subst e
            rw [hpt3.at_is]; exact hsk.1
          · rw [hot i2 h2 e]; exact Nat.le_refl _
        have HM3 := Lib.hid (And.intro (Nat.le_trans hws hTb3.size) hmn3)
        clear hmn3
        have HF := Lib.hid (And.intro hss3 (And.intro hnb3 hot))
        have hI3 : IAt w3 gt (togL ps) := HIr.out.turned hTb3 hgw (fun e => HGS.out ps[i] (List.getElem_mem hil) e.symm)
        have HI3 := Lib.hid (And.intro hI3 (Nat.lt_of_lt_of_le hgw hTb3.size))
        have HS2 := Lib.hid hS2
        clear hcon hTc hss3 hot hnb3 hnx hC hCb hCb2 hS2 hI3 hpt3 hsk hTb3 hct hcp k0 hbl
        go_wp2
        go_roundw
        case rel => exact ⟨i, (i : Int) - 1, by go_num, rfl, by rw [← HS2.out], by omega, HF.out.1, HF.out.2.1, fun i2 h2 h3 h4 => by
          by_cases e : i2 = i
          · omega
          · rw [HF.out.2.2 i2 h2 e]; exact HAT1.out i2 h2 (by omega) h4, fun i2 h2 h3 => by
          rw [HF.out.2.2 i2 h2 (by omega)]; exact HAT2b.out i2 h2 (by omega), HI3.out.1, HI3.out.2, HM3.out.1, HM3.out.2⟩
        case measure => simp [intOf]
end Go.Proofs.YtpinpnbhbngclaaGreat

/- A search on its way: the parts put in order, and what that leaves as it was. -/
namespace Go.Proofs.YtpinpnbhbngclaaGreat
open Go.RowKit

theorem SS.sorted {w1 W0 W W' : World} {s g n cp : Nat} {mayv : Value} {tb sc k : Nat} {ps ps' : List Prt} {off : List (Int × Int)} {cnt : Nat} (h : SS w1 W0 W s g n cp mayv tb sc k ps off cnt) (hp : ps'.Perm ps) (hr : PRow2 w1 W' g n ps') (hs : PS w1 W' ps') (hT : Turned (fun q => q = g) W W') : SS w1 W0 W' s g n cp mayv tb sc k ps' off cnt := by
  have h1 := h.o1
  have h2 := h.o2
  have h4 := h.o4
  have h5 := h.o5
  obtain ⟨v, hh, ht, hbn⟩ := h.top
  have ht2 : TopAt W' tb tb k v hh := ⟨ht.old, (hT.block tb ht.lt (by omega)).trans ht.blk, ht.row.kept (fun q hq => hT.block q (World.ownsRow.lt ht.row q hq).2 (by have := (World.ownsRow.lt ht.row q hq).1; omega))⟩
  exact ⟨(hT.block s (Array.getElem?_eq_some_iff.1 h.obj).1 (by omega)).trans h.obj, hr, hs, fun x hx => h.good x (hp.mem_iff.1 hx), ((hp.map (·.c)).nodup_iff).2 h.nod, ⟨v, hh, ht2, hbn⟩, (hT.block sc (Array.getElem?_eq_some_iff.1 h.cnt).1 (by omega)).trans h.cnt, h1, h2, fun x hx => h.o3 x (hp.mem_iff.1 hx), h4, h5, h.o6, hT.below h.low (fun q hq => by omega), h.kept.then hT (fun q hq => by have := h.o6; omega)⟩
theorem rising_ext : ∀ {a b : List Int}, Rising a → Rising b → (∀ d, d ∈ a ↔ d ∈ b) → a = b
  | [], [], _, _, _ => rfl
  | [], y :: t, _, _, h => by have := (h y).2 (by simp); simp at this
  | x :: t, [], _, _, h => by have := (h x).1 (by simp); simp at this
  | x :: t, y :: u, ha, hb, h => by
    have a1 := List.pairwise_cons.1 ha
    have b1 := List.pairwise_cons.1 hb
    have e : x = y := by
      have h1 := (h x).1 (by simp)
      have h2 := (h y).2 (by simp)
      rcases List.mem_cons.1 h1 with e | e
      · exact e
      · rcases List.mem_cons.1 h2 with e2 | e2
        · exact e2.symm
        · have := b1.1 x e; have := a1.1 y e2; omega
    subst e
    congr 1
    refine rising_ext a1.2 b1.2 (fun d => ?_)
    constructor
    · intro hd
      rcases List.mem_cons.1 ((h d).1 (by simp [hd])) with e | e
      · have := a1.1 d hd; omega
      · exact e
    · intro hd
      rcases List.mem_cons.1 ((h d).2 (by simp [hd])) with e | e
      · have := b1.1 d hd; omega
      · exact e
theorem docsQ_perm {ps ps' : List Prt} (h : ps'.Perm ps) : docsQ ps' = docsQ ps :=
  rising_ext (docsQ_rising _) (docsQ_rising _) (fun d => by
    rw [mem_docsQ, mem_docsQ]
    constructor
    · rintro ⟨x, hx, r⟩; exact ⟨x, h.mem_iff.1 hx, r⟩
    · rintro ⟨x, hx, r⟩; exact ⟨x, h.mem_iff.2 hx, r⟩)
theorem sumL_perm {a b : List Int} (h : a.Perm b) : sumL a = sumL b := by
  induction h with
  | nil => rfl
  | cons x _ ih => rw [sumL_cons, sumL_cons, ih]
  | swap x y l => rw [sumL_cons, sumL_cons, sumL_cons, sumL_cons]; omega
  | trans _ _ h1 h2 => exact h1.trans h2
theorem scoreQ_perm {ps ps' : List Prt} (h : ps'.Perm ps) (d : Int) : scoreQ ps' d = scoreQ ps d := sumL_perm (h.map _)
/-- what is left of all lists -/
def remQ (W : World) : List Prt → Nat
  | [] => 0
  | x :: t => (x.l.length - atM W x.c) + remQ W t
theorem remQ_le {W W' : World} : ∀ {ps : List Prt}, (∀ x ∈ ps, atM W x.c ≤ atM W' x.c) → remQ W' ps ≤ remQ W ps
  | [], _ => Nat.le_refl _
  | x :: t, h => by
    have h1 := h x (by simp)
    have h2 := remQ_le (W := W) (W' := W') (ps := t) (fun y hy => h y (by simp [hy]))
    unfold remQ
    omega
theorem remQ_lt {W W' : World} : ∀ {ps : List Prt}, (∀ x ∈ ps, atM W x.c ≤ atM W' x.c) → (∃ x ∈ ps, atM W x.c < atM W' x.c ∧ atM W x.c < x.l.length) → remQ W' ps < remQ W ps
  | [], _, h => by obtain ⟨x, hx, _⟩ := h; simp at hx
  | y :: t, h, ⟨x, hx, h1, h2⟩ => by
    have hy := h y (by simp)
    unfold remQ
    rcases List.mem_cons.1 hx with e | e
    · subst e
      have := remQ_le (W := W) (W' := W') (ps := t) (fun z hz => h z (by simp [hz]))
      omega
    · have := remQ_lt (W := W) (W' := W') (ps := t) (fun z hz => h z (by simp [hz])) ⟨x, e, h1, h2⟩
      omega
/-- how a way ends: what it was offered has the same best as all that may be, and is no more than these -/
def WayEnd (w1 W0 : World) (s g n cp : Nat) (mayv : Value) (tb sc k : Nat) (ps : List Prt) (may : Int → Bool) (c0 : Nat) (w' : World) : Prop :=
  ∃ ps' off', ps'.Perm ps ∧ SS w1 W0 w' s g n cp mayv tb sc k ps' off' (c0 + off'.length) ∧ TopM.best k off' = TopM.best k (vl (docsQ ps) may (scoreQ ps) 2147483648) ∧ off'.length ≤ (vl (docsQ ps) may (scoreQ ps) 2147483648).length
theorem sall_way {w1 W0 W : World} {s g n cp : Nat} {mayv : Value} {tb sc k : Nat} {ps : List Prt} {c0 : Nat} {may : Int → Bool} (h : SS w1 W0 W s g n cp mayv tb sc k ps [] c0) (hn : n ≤ 64) (hc0 : c0 ≤ 500000) (hdl : (docsQ ps).length ≤ 100000) (hA : ∀ x ∈ ps, AtD x (atM W x.c) 0) (hm : MayC W0 sc mayv may) :
    Calls Tryz.prog 43 #[.pointer (some ⟨s, 0, none⟩)] W fun e w' => e = .returned (.tuple #[]) ∧ WayEnd w1 W0 s g n cp mayv tb sc k ps may c0 w' :=
  (sall_any h hn hc0 hdl hA hm).mono (fun _ _ ⟨h1, h2⟩ => ⟨h1, ps, _, List.Perm.refl _, h2, rfl, Nat.le_refl _⟩)
/-- what holds between two rounds of a way that passes documents over: everything ahead of D is done -/
structure Done (k : Nat) (dl : List Int) (may : Int → Bool) (sc : Int → Int) (D : Int) (off : List (Int × Int)) : Prop where
  best : TopM.best k off = TopM.best k (vl dl may sc D)
  len : off.length ≤ (vl dl may sc D).length
  full : k ≤ (vl dl may sc D).length → k ≤ off.length
theorem Done.worst {k : Nat} {dl : List Int} {may : Int → Bool} {sc : Int → Int} {D : Int} {off : List (Int × Int)} (h : Done k dl may sc D off) (hk : 0 < k) : worstQ k off = worstQ k (vl dl may sc D) := by
  unfold worstQ
  rw [h.best]
  by_cases c : k ≤ off.length
  · rw [if_pos ⟨hk, c⟩, if_pos ⟨hk, by have := h.len; omega⟩]
  · rw [if_neg (fun x => c x.2), if_neg (fun x => c (h.full x.2))]
/-- what can't come above the worst is passed over -/
theorem Done.pass {k : Nat} {dl : List Int} {may : Int → Bool} {sc : Int → Int} {D E : Int} {off : List (Int × Int)} (h : Done k dl may sc D off) (hr : Rising dl) (hk : 0 < k) (hDE : D ≤ E) (hpos : ∀ d ∈ dl, 1 ≤ sc d) (hs : ∀ d ∈ dl, D ≤ d → d < E → may d = true → sc d ≤ worstQ k off) : Done k dl may sc E off := by
  have hle : (vl dl may sc D).length ≤ (vl dl may sc E).length := by rw [vl_split hr hDE, List.length_append]; omega
  by_cases c : k ≤ (vl dl may sc D).length
  · have hw := h.worst hk
    have hb := vl_pass (k := k) (may := may) (sc := sc) hr hDE c (fun d hd h1 h2 h3 w hw2 => by
      have := hs d hd h1 h2 h3
      rw [hw] at this
      unfold worstQ at this
      rw [if_pos ⟨hk, c⟩, hw2] at this
      exact this)
    exact ⟨by rw [hb]; exact h.best, by have := h.len; omega, fun _ => h.full c⟩
  · have e : vl dl may sc E = vl dl may sc D := vl_same hr hDE (fun d hd h1 h2 => by
      cases hm : may d with
      | false => rfl
      | true =>
        have g1 := hs d hd h1 h2 hm
        have g2 := hpos d hd
        have g3 := h.len
        unfold worstQ at g1
        rw [if_neg (by omega)] at g1
        omega)
    rw [← e] at c
    exact ⟨by rw [e]; exact h.best, by rw [e]; exact h.len, fun x => absurd x c⟩
/-- one that was kept -/
theorem Done.keep {k : Nat} {dl : List Int} {may : Int → Bool} {sc : Int → Int} {D a : Int} {off : List (Int × Int)} (h : Done k dl may sc D off) (hr : Rising dl) (ha : a ∈ dl) (hD : D ≤ a) (hn : ∀ d ∈ dl, D ≤ d → d < a → False) (hm : may a = true) : Done k dl may sc (a + 1) (off ++ [(a, sc a)]) := by
  have e := vl_one (may := may) (sc := sc) hr ha hD hn hm
  refine ⟨by rw [e]; exact best_cong h.best _, by rw [e, List.length_append, List.length_append]; have := h.len; simp; omega, fun c => ?_⟩
  rw [e, List.length_append] at c
  rw [List.length_append]
  have h1 := h.len
  by_cases c2 : k ≤ (vl dl may sc D).length
  · have := h.full c2; simp; omega
  · have hb := congrArg List.length h.best
    rw [TopM.best_len, TopM.best_len] at hb
    simp at c ⊢
    omega
theorem Done.start {k : Nat} {dl : List Int} {may : Int → Bool} {sc : Int → Int} (h : ∀ d ∈ dl, 0 ≤ d) : Done k dl may sc 0 [] := by
  have e : vl dl may sc 0 = [] := by
    unfold vl
    rw [List.filter_eq_nil_iff.2 (fun d hd hq => by have := h d hd; simp at hq; omega)]
    rfl
  exact ⟨by rw [e], by rw [e]; exact Nat.le_refl _, fun c => by rw [e] at c; exact c⟩
end Go.Proofs.YtpinpnbhbngclaaGreat

/- For the second way: the worst one never falls; the parts behind a place. -/
namespace Go.Proofs.YtpinpnbhbngclaaGreat
open Go.RowKit

theorem PtrAt.drop {W : World} {g n : Nat} {ps : List Prt} (h : PtrAt W (some ⟨g, 0, none⟩) n ps) (q : Nat) : PtrAt W (some ⟨g, q, none⟩) (n - q) (ps.drop q) :=
  ⟨by rw [List.length_drop, h.1], fun k hk => by
    have hk' : q + k < ps.length := by rw [List.length_drop] at hk; omega
    obtain ⟨b, o, e, hl, hc⟩ := h.2 (q + k) hk'
    injection e with e
    injection e with e1 e2 _
    subst e1
    subst e2
    refine ⟨g, q, rfl, hl, ?_⟩
    rw [List.getElem_drop]
    rw [Nat.zero_add] at hc
    exact hc⟩

/-- the worst one's score never falls -/
theorem worst_mono {k : Nat} {off : List (Int × Int)} {x : Int × Int} (h0 : 0 ≤ x.2) (hp : ∀ p ∈ off, 0 ≤ p.2) : worstQ k off ≤ worstQ k (off ++ [x]) := by
  have hpos : 0 ≤ worstQ k (off ++ [x]) := by
    unfold worstQ
    split
    · cases hw : (TopM.best k (off ++ [x])).getLast? with
      | none => exact Int.le_refl _
      | some w =>
        have hm : w ∈ off ++ [x] := by
          have : w ∈ TopM.best k (off ++ [x]) := List.mem_of_getLast? hw
          unfold TopM.best at this
          exact (TopM.srt_perm _).mem_iff.1 (List.mem_of_mem_take this)
        rcases List.mem_append.1 hm with e | e
        · exact hp w e
        · simp at e; subst e; exact h0
    · exact Int.le_refl _
  by_cases c : 0 < k ∧ k ≤ off.length
  · have hl : (TopM.best k off).length = k := by rw [TopM.best_len]; omega
    have hne : TopM.best k off ≠ [] := fun e => by rw [e] at hl; simp at hl; omega
    obtain ⟨A, w, hA⟩ : ∃ A w, TopM.best k off = A ++ [w] := ⟨_, _, (List.dropLast_concat_getLast hne).symm⟩
    have hw1 : worstQ k off = w.2 := by
      unfold worstQ
      rw [if_pos c, hA]
      simp
    have hsrt := TopM.best_srt k off
    rw [hA] at hsrt
    have hAw := (TopM.srt_parts hsrt).2.2
    rw [hw1]
    cases hx : TopM.bet x w with
    | false =>
      have hb := TopM.best_keep c.2 (by rw [hA]; simp) hx
      unfold worstQ
      rw [if_pos ⟨c.1, by rw [List.length_append]; omega⟩, hb, hA]
      simp
    | true =>
      have hpm := TopM.best_turn c.2 hA hx
      have hl2 : (TopM.best k (off ++ [x])).length = k := by rw [TopM.best_len, List.length_append]; omega
      cases hw2 : (TopM.best k (off ++ [x])).getLast? with
      | none =>
        have := List.getLast?_eq_none_iff.1 hw2
        rw [this] at hl2; simp at hl2; omega
      | some u =>
        have hq : worstQ k (off ++ [x]) = u.2 := by
          unfold worstQ
          rw [if_pos ⟨c.1, by rw [List.length_append]; omega⟩, hw2]
          rfl
        rw [hq]
        rcases List.mem_cons.1 (hpm.mem_iff.1 (List.mem_of_getLast? hw2)) with e | e
        · subst e
          rw [TopM.bet_iff] at hx
          omega
        · have := hAw u e w (by simp)
          rw [TopM.bet_not] at this
          omega
  · have : worstQ k off = 0 := by unfold worstQ; rw [if_neg c]
    rw [this]
    exact hpos
theorem con_none {x : Prt} {d : Int} (h : ∀ p ∈ x.l, p.1 ≠ d) : con x d = 0 := by
  unfold con
  rw [List.filter_eq_nil_iff.2 (fun p hp => by simpa using h p hp)]
  rfl
theorem score_none {ps : List Prt} {d : Int} (h : d ∉ docsQ ps) : scoreQ ps d = 0 := by
  have hz : ∀ x ∈ ps, con x d = 0 := fun x hx => con_none (fun p hp e => h ((mem_docsQ ps d).2 ⟨x, hx, p, hp, e⟩))
  clear h
  induction ps with
  | nil => rfl
  | cons a t ih =>
    have h1 := ih (fun x hx => hz x (List.mem_cons_of_mem _ hx))
    have h2 := hz a List.mem_cons_self
    unfold scoreQ at *
    rw [List.map_cons, sumL_cons, h1, h2]
    rfl
theorem togL_getD {ps : List Prt} {j : Nat} (h : j < ps.length) : (togL ps).getD j 0 = togS ps (j + 1) := by
  unfold togL
  rw [List.getD_eq_getElem?_getD, List.getElem?_map, List.getElem?_range h]
  rfl
/-- a document that no needed part has doesn't come above the worst one -/
theorem sought_low {ps : List Prt} {d v : Int} {q : Nat} (hg : ∀ x ∈ ps, GoodP x) (hq : q ≤ ps.length) (ht : ∀ j, j < q → (togL ps).getD j 0 ≤ v) (hd : d ∈ docsQ ps) (hn : d ∉ docsQ (ps.drop q)) : scoreQ ps d ≤ v := by
  have h1 := (score_le hg d q).2
  have h2 : backS ps d q = 0 := score_none hn
  cases q with
  | zero => exact absurd hd hn
  | succ j =>
    have h3 := ht j (by omega)
    rw [togL_getD (by omega)] at h3
    omega
theorem sum_mem {l : List Int} (h : ∀ x ∈ l, 0 ≤ x) : 0 ≤ sumL l ∧ ∀ a ∈ l, a ≤ sumL l := by
  induction l with
  | nil => exact ⟨Int.le_refl _, fun a ha => by simp at ha⟩
  | cons b t ih =>
    have h1 := ih (fun x hx => h x (List.mem_cons_of_mem _ hx))
    have h2 := h b List.mem_cons_self
    rw [sumL_cons]
    refine ⟨by omega, fun a ha => ?_⟩
    rcases List.mem_cons.1 ha with rfl | ha
    · omega
    · have := h1.2 a ha
      omega
theorem score_pos {ps : List Prt} (hg : ∀ x ∈ ps, GoodP x) {d : Int} (hd : d ∈ docsQ ps) : 1 ≤ scoreQ ps d := by
  obtain ⟨x, hx, p, hp, e⟩ := (mem_docsQ ps d).1 hd
  have h1 := (sum_mem (l := ps.map fun x => con x d) (fun y hy => by
    obtain ⟨z, hz, rfl⟩ := List.mem_map.1 hy
    exact (con_most (hg z hz) d).1)).2 _ (List.mem_map.2 ⟨x, hx, rfl⟩)
  have hr := PostM.rgt_all (hg x hx).right
  have hw := (hg x hx).w1
  have hmul : ∀ r ∈ x.l, 1 ≤ x.wt * r.2 := fun r hr2 => by
    have h := hr r hr2
    have := Int.mul_le_mul hw (show 1 ≤ r.2 by omega) (by omega) (by omega)
    omega
  have h2 := (sum_mem (l := (x.l.filter (fun p => p.1 == d)).map (fun p => x.wt * p.2)) (fun y hy => by
    obtain ⟨r, hr2, rfl⟩ := List.mem_map.1 hy
    have := hmul r (List.mem_filter.1 hr2).1
    omega)).2 _ (List.mem_map.2 ⟨p, List.mem_filter.2 ⟨hp, by simp [e]⟩, rfl⟩)
  have h3 := hmul p hp
  have h4 : con x d ≤ scoreQ ps d := h1
  have h5 : x.wt * p.2 ≤ con x d := h2
  omega
/-- the needed parts pass a document: where all then stand -/
theorem passed_all {w1 W W' : World} {ps : List Prt} {q : Nat} {D m : Int} (hps : PS w1 W ps) (hnod : (ps.map (·.c)).Nodup) (hg : ∀ x ∈ ps, GoodP x) (hNB : ∀ x ∈ ps, NotBy x (atM W x.c) m) (hAT : ∀ x ∈ ps.drop q, AtD x (atM W x.c) D ∧ m ≤ docAt x.l (atM W x.c)) (hDm : D ≤ m) (hp : ∀ x ∈ ps.drop q, atM W' x.c = passed x (atM W x.c) m) (hT : Turned (curs (ps.drop q)) W W') :
    (∀ x ∈ ps, NotBy x (atM W' x.c) (m + 1)) ∧ (∀ j (h : j < ps.length), q ≤ j → AtD ps[j] (atM W' ps[j].c) (m + 1)) ∧ (∀ x ∈ ps, atM W x.c ≤ atM W' x.c) := by
  have hd : ∀ x ∈ ps.drop q, AtD x (atM W' x.c) (m + 1) := fun x hx => by
    rw [hp x hx]
    exact (hAT x hx).1.passed (hg x (List.mem_of_mem_drop hx)) hDm (hAT x hx).2
  have ho : ∀ x ∈ ps, x ∉ ps.drop q → atM W' x.c = atM W x.c := fun x hx hn => by
    refine atM_same (hT.block x.c (hps x hx).lt ?_)
    rintro ⟨y, hy, e⟩
    obtain ⟨i, hi, rfl⟩ := List.mem_iff_getElem.1 hx
    obtain ⟨j, hj, e2⟩ := List.mem_iff_getElem.1 (List.mem_of_mem_drop hy)
    have := nodup_at hnod hi hj (by rw [e2]; exact e)
    subst this
    exact hn (by rw [e2]; exact hy)
  refine ⟨fun x hx => ?_, fun j h hq => ?_, fun x hx => ?_⟩
  · by_cases c : x ∈ ps.drop q
    · exact ⟨(hd x c).1, (hd x c).2.1⟩
    · rw [ho x hx c]
      exact ⟨(hNB x hx).1, fun k hk => by have := (hNB x hx).2 k hk; omega⟩
  · exact hd _ (List.mem_iff_getElem.2 ⟨j - q, by rw [List.length_drop]; omega, by rw [List.getElem_drop]; congr 1; omega⟩)
  · by_cases c : x ∈ ps.drop q
    · rw [hp x c]
      unfold passed
      have := (hNB x hx).1
      split <;> omega
    · rw [ho x hx c]
      exact Nat.le_refl _
theorem passed_one {W W' : World} {ps : List Prt} {q : Nat} {m : Int} (hm : m < 2147483648) (hp : ∀ x ∈ ps.drop q, atM W' x.c = passed x (atM W x.c) m) (he : ∃ x ∈ ps.drop q, docAt x.l (atM W x.c) = m) : ∃ x ∈ ps, atM W x.c < atM W' x.c ∧ atM W x.c < x.l.length := by
  obtain ⟨x, hx, e⟩ := he
  have hl : atM W x.c < x.l.length := by
    by_cases c : atM W x.c < x.l.length
    · exact c
    · unfold docAt at e
      rw [if_neg c] at e
      omega
  refine ⟨x, List.mem_of_mem_drop hx, ?_, hl⟩
  rw [hp x hx]
  unfold passed
  rw [if_pos e]
  omega
end Go.Proofs.YtpinpnbhbngclaaGreat
