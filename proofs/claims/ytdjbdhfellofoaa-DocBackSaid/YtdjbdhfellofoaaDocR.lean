
/- What the document reads, in plain words; an append into a variable's field, as one step; Read (the document's). -/
import Derived.Test.YtdjbdhfellofoaaDocP
import Derived.Test.YtdjbdhfellofoaaPackT
import Derived.Deep.RegionLaw
import Derived.Deep.DeepCutAuto
namespace Go.Proofs.Ytdjbdhfellofoaa.DocM
open Go.Proofs.Ytdjbdhfellofoaa
theorem rFix_nine (s : List UInt8) : PackM.rFix 8 9 s = (PackM.rFix 8 8 s).bind fun v => (PackM.rFix 8 1 v.2).bind fun t => some (v.1 ++ t.1, t.2) := by
  rw [PackM.rFix_eight, PackM.rFix_eight]
  by_cases h8 : s.length < 8
  · rw [if_pos (by omega), if_pos h8]
    rfl
  · rw [if_neg h8]
    simp only [Option.bind_some]
    rw [PackM.rFix_eight]
    by_cases h9 : s.length < 9
    · rw [if_pos h9, if_pos (by rw [List.length_drop]; omega)]
      rfl
    · rw [if_neg h9, if_neg (by rw [List.length_drop]; omega)]
      simp only [Option.bind_some]
      rw [← List.map_append, List.drop_drop]
      congr 2
      · congr 1
        rw [show (9 : Nat) = 8 + 1 from rfl, List.take_add]
theorem toI_app (a b : List Nat) : toI (a ++ b) = toI a ++ toI b := by simp [toI]
/-- the document's reading of what stands behind the two numbers -/
theorem doc_thread (d : Int) (s : List UInt8) :
    (bodyR d s = if fxB 8 9 (fxS 16 (rsV 64 s).length (rsS 64 s) (rsB 64 s false)) (fxB 16 (rsV 64 s).length (rsS 64 s) (rsB 64 s false)) = true then none else
        some (⟨d, (rsV 64 s).zip (fxV 16 (rsV 64 s).length (rsS 64 s) (rsB 64 s false)), ((fxV 8 9 (fxS 16 (rsV 64 s).length (rsS 64 s) (rsB 64 s false)) (fxB 16 (rsV 64 s).length (rsS 64 s) (rsB 64 s false))).take 8).map (· - 128),
          (fxV 8 9 (fxS 16 (rsV 64 s).length (rsS 64 s) (rsB 64 s false)) (fxB 16 (rsV 64 s).length (rsS 64 s) (rsB 64 s false))).getD 8 0, false⟩,
          fxS 8 9 (fxS 16 (rsV 64 s).length (rsS 64 s) (rsB 64 s false)) (fxB 16 (rsV 64 s).length (rsS 64 s) (rsB 64 s false)))) ∧
    (fxB 8 9 (fxS 16 (rsV 64 s).length (rsS 64 s) (rsB 64 s false)) (fxB 16 (rsV 64 s).length (rsS 64 s) (rsB 64 s false)) = false →
      (fxV 16 (rsV 64 s).length (rsS 64 s) (rsB 64 s false)).length = (rsV 64 s).length ∧ (fxV 8 9 (fxS 16 (rsV 64 s).length (rsS 64 s) (rsB 64 s false)) (fxB 16 (rsV 64 s).length (rsS 64 s) (rsB 64 s false))).length = 9) := by
  cases h1 : PackM.rRis 64 s with
  | none =>
    have e3 : rsB 64 s false = true := by unfold rsB; rw [h1]
    have e6 : fxB 8 9 (fxS 16 (rsV 64 s).length (rsS 64 s) (rsB 64 s false)) (fxB 16 (rsV 64 s).length (rsS 64 s) (rsB 64 s false)) = true := by rw [e3, fx_bad, fx_bad]
    rw [if_pos e6]
    refine ⟨?_, fun h => by rw [e6] at h; cases h⟩
    unfold bodyR
    rw [h1]
    rfl
  | some x =>
    have ea : rsV 64 s = x.1 := by unfold rsV; rw [h1]
    have es3 : rsS 64 s = x.2 := by unfold rsS; rw [h1]
    have e3 : rsB 64 s false = false := by unfold rsB; rw [h1]
    have hl : x.1.length ≤ 64 := by have := (PackM.rRis_here (l := x.1) (t := x.2) h1).2.2.2; omega
    rw [ea, es3, e3]
    unfold bodyR
    rw [h1]
    simp only [Option.bind_some]
    cases h2 : PackM.rFix 16 x.1.length x.2 with
    | none =>
      have hfx : fxR (16 : Int) (x.1.length : Int) x.2 false = none := (fx_rFix (w := 16) (by omega) (by omega)).trans h2
      have e4 : fxB 16 (x.1.length : Int) x.2 false = true := (fx_none hfx).2.2
      rw [e4, fx_bad]
      exact ⟨rfl, fun h => by cases h⟩
    | some y =>
      have hfx : fxR (16 : Int) (x.1.length : Int) x.2 false = some y := (fx_rFix (w := 16) (by omega) (by omega)).trans h2
      have ev1 : fxV 16 (x.1.length : Int) x.2 false = toI y.1 := by unfold fxV; rw [hfx]
      have es4 : fxS 16 (x.1.length : Int) x.2 false = y.2 := by unfold fxS; rw [hfx]
      have e4 : fxB 16 (x.1.length : Int) x.2 false = false := by unfold fxB; rw [hfx]
      have hy := (PackM.rFix_here (ns := y.1) (t := y.2) h2).2.1
      rw [ev1, es4, e4]
      simp only [Option.bind_some]
      have h9 := rFix_nine y.2
      cases h3 : PackM.rFix 8 8 y.2 with
      | none =>
        rw [h3] at h9
        have hfx2 : fxR (8 : Int) (9 : Int) y.2 false = none := (fx_rFix (w := 8) (n := 9) (by omega) (by omega)).trans h9
        have e5 : fxB 8 9 y.2 false = true := (fx_none hfx2).2.2
        rw [e5]
        exact ⟨rfl, fun h => by cases h⟩
      | some z =>
        rw [h3] at h9
        simp only [Option.bind_some] at h9 ⊢
        cases h4 : PackM.rFix 8 1 z.2 with
        | none =>
          rw [h4] at h9
          have hfx2 : fxR (8 : Int) (9 : Int) y.2 false = none := (fx_rFix (w := 8) (n := 9) (by omega) (by omega)).trans h9
          have e5 : fxB 8 9 y.2 false = true := (fx_none hfx2).2.2
          rw [e5]
          exact ⟨rfl, fun h => by cases h⟩
        | some q =>
          rw [h4] at h9
          simp only [Option.bind_some] at h9 ⊢
          have hz := (PackM.rFix_here (ns := z.1) (t := z.2) h3).2.1
          have hq := (PackM.rFix_here (ns := q.1) (t := q.2) h4).2.1
          have hfx2 : fxR (8 : Int) (9 : Int) y.2 false = some (z.1 ++ q.1, q.2) := (fx_rFix (w := 8) (n := 9) (by omega) (by omega)).trans h9
          have ev2 : fxV 8 9 y.2 false = toI z.1 ++ toI q.1 := by unfold fxV; rw [hfx2]; exact toI_app _ _
          have es5 : fxS 8 9 y.2 false = q.2 := by unfold fxS; rw [hfx2]
          have e5 : fxB 8 9 y.2 false = false := by unfold fxB; rw [hfx2]
          rw [ev2, es5, e5]
          have hzl : (toI z.1).length = 8 := by rw [toI_length, hz]
          have e8 : (toI z.1 ++ toI q.1).getD 8 0 = (toI q.1).getD 0 0 := by rw [List.getD_eq_getElem?_getD, List.getElem?_append_right (by omega), hzl, ← List.getD_eq_getElem?_getD]
          refine ⟨?_, fun _ => ⟨by rw [toI_length, hy], by rw [List.length_append, hzl, toI_length, hq]⟩⟩
          rw [if_neg (by simp), List.take_append_of_le_length (by omega), List.take_of_length_le (by omega), e8]
end Go.Proofs.Ytdjbdhfellofoaa.DocM
namespace Go.Proofs.Ytdjbdhfellofoaa.Do
open Go.RowKit Go.Proofs.Ytdjbdhfellofoaa DocM

theorem pld (U : World) (o : Obj) : Below U.heap.size U (U.alloc o).drew := (pl1 U o).drew
theorem new0d (U : World) (a b : Value) (t : TypeId) : (U.alloc (.cells #[a, b] t)).drew.cell? ⟨U.heap.size, 0, none⟩ = some a := cell_of_row _ _ 0 _ _ (0, 0) (heap_alloc_new U (.cells #[a, b] t))
theorem new1d (U : World) (a b : Value) (t : TypeId) : (U.alloc (.cells #[a, b] t)).drew.cell? ⟨U.heap.size, 1, none⟩ = some b := cell_of_row _ _ 1 _ _ (0, 0) (heap_alloc_new U (.cells #[a, b] t))
theorem new0o (U : World) (a : Value) (t : TypeId) : (U.alloc (.cells #[a] t)).drew.cell? ⟨U.heap.size, 0, none⟩ = some a := cell_of_row _ _ 0 _ _ (0, 0) (heap_alloc_new U (.cells #[a] t))
theorem grown_after {U w w' : World} {r : Option Nat} (hU : Below U.heap.size U w) (h : w.grownBy w' r) : U.grownBy w' r :=
  ⟨h.os.trans hU.os, h.tape.trans hU.tape, h.output.trans hU.output, Nat.le_trans hU.size h.size, fun k hk hne => (h.block k (Nat.lt_of_lt_of_le hk hU.size) hne).trans (hU.block k hk)⟩
/-- append of one pair onto a row of one's own, in a region that stores it into a variable's field behind -/
theorem step_pfield {e T : TypeId} {U w : World} {ops : Array Oper} {o : Oper} {a : Act} {K : Act → World → Prop} {Q : Exit → Act → World → Prop} {E : Prop} (ty : PairTy e T) (hU : Below U.heap.size U w) (hgd : o.guard = none) (s x : Operand)
    (ho : o.op = .call { callee := .builtin .append, args := #[s, x], argTypes := #[T, T] })
    (base : Nat) (v0 : Value) (n : Nat) (l0 : List (Int × Int)) (hs : a.eval s = v0) (hown : PRow e U base v0 l0) (hbase : base ≤ U.heap.size)
    (g c : Nat) (p : Int × Int) (hx : a.eval x = .slice (some ⟨g, 0, none⟩) 1 c) (hc0 : w.cell? ⟨g, 0, none⟩ = some (.int .i64 p.1)) (hc1 : w.cell? ⟨g, 1, none⟩ = some (.int .i64 p.2)) (hn : l0.length = n) (hn2 : n ≤ 1000000)
    (C i : Nat) (u : Value) (hC : C < U.heap.size) (cU : U.cell? ⟨C, i, none⟩ = some u) (fU : U.frozen? ⟨C, i, none⟩ = false) (hne : some C ≠ v0.ownBlock)
    (h : ∀ A' cp' w', PRow e w' base (.slice A' (n + 1) cp') (l0 ++ [p]) → U.grownBy w' v0.ownBlock → w'.cell? ⟨C, i, none⟩ = some u → w'.frozen? ⟨C, i, none⟩ = false → K (a.put o.dst (.slice A' (n + 1) cp')) w') :
    if Region.wanted o (yielded ops a.tmps) = true then Oper.wp Try.prog o a w K Q else E := by
  have hw : Region.wanted o (yielded ops a.tmps) = true := by simp [Region.wanted, hgd]
  rw [if_pos hw]
  refine wp_append_ps ty s x ho base v0 l0 hs (hown.later hU) (Nat.le_trans hbase hU.size) (some ⟨g, 0, none⟩) 1 c [p] hx ⟨rfl, fun k hk => ?_⟩ (fun e => by cases e) (by omega) fun v' w' h1 h2 => ?_
  · have e : k = 0 := by simpa using hk
    subst e
    refine ⟨g, 0, rfl, World.block_lt_of_cell? w _ hc0, ?_, ?_⟩
    · simpa using hc0
    · simpa using hc1
  · obtain ⟨A', cp', e1, _, _⟩ := h1.form
    rw [List.length_append, List.length_singleton, hn] at e1
    subst e1
    have hg := grown_after hU h2
    exact h A' cp' w' h1 hg ((hg.cell_far ⟨C, i, none⟩ hC hne).trans cU) ((hg.frozen_far ⟨C, i, none⟩ hC hne).trans fU)
/-- .. of one number -/
theorem step_ifield {U w : World} {ops : Array Oper} {o : Oper} {a : Act} {K : Act → World → Prop} {Q : Exit → Act → World → Prop} {E : Prop} (hU : Below U.heap.size U w) (hgd : o.guard = none) (s x : Operand)
    (ho : o.op = .call { callee := .builtin .append, args := #[s, x], argTypes := #[23, 23] })
    (base : Nat) (v0 : Value) (n : Nat) (l0 : List Int) (hs : a.eval s = v0) (hown : IvRow U base v0 l0) (hbase : base ≤ U.heap.size)
    (g c : Nat) (p : Int) (hx : a.eval x = .slice (some ⟨g, 0, none⟩) 1 c) (hc0 : w.cell? ⟨g, 0, none⟩ = some (.int .i64 p)) (hn : l0.length = n) (hn2 : n ≤ 1000000)
    (C i : Nat) (u : Value) (hC : C < U.heap.size) (cU : U.cell? ⟨C, i, none⟩ = some u) (fU : U.frozen? ⟨C, i, none⟩ = false) (hne : some C ≠ v0.ownBlock)
    (h : ∀ A' cp' w', IvRow w' base (.slice A' (n + 1) cp') (l0 ++ [p]) → U.grownBy w' v0.ownBlock → w'.cell? ⟨C, i, none⟩ = some u → w'.frozen? ⟨C, i, none⟩ = false → K (a.put o.dst (.slice A' (n + 1) cp')) w') :
    if Region.wanted o (yielded ops a.tmps) = true then Oper.wp Try.prog o a w K Q else E := by
  have hw : Region.wanted o (yielded ops a.tmps) = true := by simp [Region.wanted, hgd]
  rw [if_pos hw]
  refine wp_append_ivs s x ho base v0 l0 hs (hown.later hU) (Nat.le_trans hbase hU.size) (some ⟨g, 0, none⟩) 1 c [p] hx ⟨rfl, fun k hk => ?_⟩ (fun e => by cases e) (by omega) fun v' w' h1 h2 => ?_
  · have e : k = 0 := by simpa using hk
    subst e
    exact ⟨g, 0, rfl, World.block_lt_of_cell? w _ hc0, by simpa using hc0⟩
  · obtain ⟨A', cp', e1, _, _⟩ := h1.ivs
    rw [List.length_append, List.length_singleton, hn] at e1
    subst e1
    have hg := grown_after hU h2
    exact h A' cp' w' h1 hg ((hg.cell_far ⟨C, i, none⟩ hC hne).trans cU) ((hg.frozen_far ⟨C, i, none⟩ hC hne).trans fU)
end Go.Proofs.Ytdjbdhfellofoaa.Do
namespace Go.Proofs.Ytdjbdhfellofoaa.Do
open Go.RowKit Go.Proofs.Ytdjbdhfellofoaa DocM

/-- a variable of the document's type of changes -/
def Br (w : World) (B : Nat) (vs : Array Value) : Prop := w.heap[B]? = some (.cells vs 36 (0, 0))
section
variable {w w' : World} {B : Nat} {vs : Array Value}
theorem Br.lt (h : Br w B vs) : B < w.heap.size := (Array.getElem?_eq_some_iff.1 h).1
theorem Br.at_ (h : Br w B vs) (i : Nat) {v : Value} (hv : vs[i]? = some v) : w.cell? ⟨B, i, none⟩ = some v := (cell_of_row w B i _ _ (0, 0) h).trans hv
theorem Br.free (h : Br w B vs) (i : Nat) : w.frozen? ⟨B, i, none⟩ = false := by
  unfold Br at h
  simp [World.frozen?, h]
theorem Br.kept (h : Br w B vs) (hb : w'.heap[B]? = w.heap[B]?) : Br w' B vs := hb.trans h
theorem Br.later (h : Br w B vs) (hb : Below w.heap.size w w') : Br w' B vs := (hb.block B h.lt).trans h
theorem Br.grown {b : Nat} (h : Br w B vs) (hg : w.grownBy w' (some b)) (hne : B ≠ b) : Br w' B vs := (hg.block B h.lt (fun e => hne (by injection e))).trans h
theorem Br.set_ (h : Br w B vs) (i : Nat) (u : Value) : Br (w.setCell ⟨B, i, none⟩ u) B (vs.setIfInBounds i u) := by
  unfold Br
  rw [heap_setCell_row h]
theorem Br.away (h : Br w B vs) {C : Nat} (hne : B ≠ C) (i : Nat) (u : Value) : Br (w.setCell ⟨C, i, none⟩ u) B vs := h.kept (Below.heap_setCell w _ u B (fun e => hne e))
end
theorem Br.fill {w : World} {B : Nat} {v0 v1 v2 v3 v4 : Value} (h : Br w B #[v0, v1, v2, v3, v4]) (a0 a1 a2 a3 a4 : Value) :
    Br (((((w.setCell ⟨B, 0, none⟩ a0).setCell ⟨B, 1, none⟩ a1).setCell ⟨B, 2, none⟩ a2).setCell ⟨B, 3, none⟩ a3).setCell ⟨B, 4, none⟩ a4) B #[a0, a1, a2, a3, a4] := by
  have := ((((h.set_ 0 a0).set_ 1 a1).set_ 2 a2).set_ 3 a3).set_ 4 a4
  simpa using this
theorem mfixed16_any (w : World) (s : List UInt8) (bad : Bool) (n : Nat) (hl : s.length ≤ 100000) (hbad : bad = true → s = []) (hn : n ≤ 65536) :
    Calls Try.prog 32 #[.agg #[.string (ofBytes s), .bool bad], .int .i64 16, .int .i64 (n : Int)] w fun e w' => MEnd w.heap.size (fxV 16 n s bad) (fxS 16 n s bad) (fxB 16 n s bad) e w' ∧ Below w.heap.size w w' := mfixed_in w s bad 16 n hl hbad (by omega) hn
theorem mfixed9_any (w : World) (s : List UInt8) (bad : Bool) (hl : s.length ≤ 100000) (hbad : bad = true → s = []) :
    Calls Try.prog 32 #[.agg #[.string (ofBytes s), .bool bad], .int .i64 8, .int .i64 9] w fun e w' => MEnd w.heap.size (fxV 8 9 s bad) (fxS 8 9 s bad) (fxB 8 9 s bad) e w' ∧ Below w.heap.size w w' := mfixed_in w s bad 8 9 hl hbad (by omega) (by omega)
theorem mrising64_any (w : World) (s : List UInt8) (bad : Bool) (hl : s.length ≤ 100000) (hbad : bad = true → s = []) :
    Calls Try.prog 31 #[.agg #[.string (ofBytes s), .bool bad], .int .i64 64] w fun e w' => MEnd w.heap.size (rsV 64 s) (rsS 64 s) (rsB 64 s bad) e w' ∧ Below w.heap.size w w' := mrising_any w s bad 64 hl hbad
theorem field_round {w8 wr w' : World} {C : Nat} {v0 : Value} (hT : Turned (fun q => q = C) w8 wr) (hg : wr.grownBy w' v0.ownBlock) (hn : ∀ g, v0.ownBlock = some g → w8.heap.size ≤ g) (i : Nat) (u : Value) : Turned (fun q => q = C) w8 (w'.setCell ⟨C, i, none⟩ u) := by
  have h1 : Turned (fun q => q = C) w8 w' := ⟨hg.os.trans hT.os, hg.tape.trans hT.tape, hg.output.trans hT.output, Nat.le_trans hT.size hg.size, fun k hk hne => (hg.block k (Nat.lt_of_lt_of_le hk hT.size) (fun e => by
    have := hn k e.symm
    omega)).trans (hT.block k hk hne)⟩
  exact h1.set_ rfl i u
theorem NewS.irow {w : World} {base N : Nat} {A : Option Addr} {n cp : Nat} {l : List Int} (h : IvRow w base (.slice A n cp) l) (hN : N ≤ base) : NewS N (.slice A n cp) := fun A' n' cp' e1 ad e2 => by
  injection e1 with e1
  subst e1
  rcases h.2 with ⟨e3, _⟩ | ⟨g, cap, cur, e3, hbg, _⟩
  · injection e3 with e3
    rw [e2] at e3
    cases e3
  · injection e3 with e3
    rw [e2] at e3
    injection e3 with e3
    subst e3
    exact Nat.le_trans hN hbg
theorem own_far {w : World} {e : TypeId} {base s n : Nat} {v : Value} {xs : List Value} (h : w.ownsRow base e s v n xs) {C : Nat} (hC : C < base) : some C ≠ v.ownBlock := fun e1 => by
  have := (World.ownsRow.lt h C e1.symm).1
  omega
/-- where both ways have met: a change as it was taken -/
def Mid (w : World) (R C P : Nat) (s : List UInt8) (W : World) : Prop :=
  ∃ c A n cp A2 n2 cp2 s', Br W C #[.int .i64 c.doc, .slice A n cp, .slice A2 n2 cp2, .int .i64 c.tags, .bool c.gone] ∧ Prd W (.slice A n cp) c.ts ∧ Vrd W (.slice A2 n2 cp2) c.v ∧ MD W P s' false ∧ rawC s = some (c, s') ∧
    Br W R #[.int .i64 0, .slice none 0 0, .slice none 0 0, .int .i64 0, .bool false] ∧ Below w.heap.size w W ∧ (∀ ad, A = some ad → w.heap.size ≤ ad.block ∧ ad.block ≠ R) ∧ (∀ ad, A2 = some ad → w.heap.size ≤ ad.block ∧ ad.block ≠ R)
set_option maxHeartbeats 16000000 in
set_option maxRecDepth 100000 in
theorem refread10_any (w : World) (s : List UInt8) (hl : s.length ≤ 100000) :
    Calls Try.prog 14 #[.string (ofBytes s)] w fun e w' => (∃ T V, e = .returned (.tuple #[chV (rdV s) T V, .string (ofBytes (rdS s)), .bool (rdK s)]) ∧ Prd w' T (rdV s).ts ∧ Vrd w' V (rdV s).v ∧ NewS w.heap.size T ∧ NewS w.heap.size V) ∧ Below w.heap.size w w' := by
  have st0 : StK 100000 s false := ⟨(fun e => by cases e), hl⟩
  have hth := raw_thread s
  have st1 := st0.num (most := PackM.MAXI)
  have st2 := st1.num (most := PackM.MAXI)
  have V1 := Lib.hid (fun W => mvarint_any W s false (by omega) st0.nil_)
  obtain ⟨x, hx⟩ : ∃ x, x = nV PackM.MAXI s := ⟨_, rfl⟩
  obtain ⟨s1, hs1⟩ : ∃ x, x = nS PackM.MAXI s := ⟨_, rfl⟩
  obtain ⟨b1, hb1⟩ : ∃ x, x = nB PackM.MAXI s false := ⟨_, rfl⟩
  rw [← hx, ← hs1, ← hb1] at V1
  rw [← hs1, ← hb1] at st1 st2
  simp only [← hx, ← hs1, ← hb1] at hth
  have V2 := Lib.hid (fun W => mvarint_any W s1 b1 (by have := st1.len; omega) st1.nil_)
  obtain ⟨y, hy⟩ : ∃ x, x = nV PackM.MAXI s1 := ⟨_, rfl⟩
  obtain ⟨s2, hs2⟩ : ∃ x, x = nS PackM.MAXI s1 := ⟨_, rfl⟩
  obtain ⟨b2, hb2⟩ : ∃ x, x = nB PackM.MAXI s1 b1 := ⟨_, rfl⟩
  rw [← hy, ← hs2, ← hb2] at V2
  rw [← hs2, ← hb2] at st2
  simp only [← hy, ← hs2, ← hb2] at hth
  have HTH := Lib.hid hth
  have ST2 := Lib.hid st2
  unfold mR at V1 V2
  clear hx hs1 hb1 hy hs2 hb2 hth st0 st1 st2
  go_enter Try.func14, Try.ntmps14
  go_wp2_with fail
  obtain ⟨R, hR⟩ : ∃ R, R = w.heap.size := ⟨_, rfl⟩
  rw [← hR]
  have HRw : Hid (w.heap.size ≤ R) := Lib.hid (by omega)
  have A0 : Hid (Br (w.alloc (.cells #[.int .i64 0, .slice none 0 0, .slice none 0 0, .int .i64 0, .bool false] 36)) R #[.int .i64 0, .slice none 0 0, .slice none 0 0, .int .i64 0, .bool false]) := Lib.hid (by
    subst hR
    exact heap_alloc_new w _)
  have A3 := Lib.hid (pl1 w (.cells #[.int .i64 0, .slice none 0 0, .slice none 0 0, .int .i64 0, .bool false] 36))
  clear hR
  generalize (w.alloc (.cells #[.int .i64 0, .slice none 0 0, .slice none 0 0, .int .i64 0, .bool false] 36)) = wA at A0 A3 ⊢
  refine (V1.out _).mono ?_
  rintro e w1 ⟨rfl, hb⟩
  have B0 := Lib.hid (A0.out.later hb)
  have B3 := Lib.hid (A3.out.trans (hb.mono A3.out.size))
  clear hb A0 A3 V1
  go_wp2_with fail
  obtain ⟨P, hP⟩ : ∃ P, P = w1.heap.size := ⟨_, rfl⟩
  rw [← hP]
  have RP : Hid (R ≠ P) := Lib.hid (by have := B0.out.lt; omega)
  have HPw : Hid (w.heap.size ≤ P) := Lib.hid (by have := B3.out.size; omega)
  have PL := pl1 w1 (.cells #[.string (ofBytes s1), .bool b1] 69)
  have C0 := Lib.hid (B0.out.later PL)
  have C1 : Hid (MD (w1.alloc (.cells #[.string (ofBytes s1), .bool b1] 69)) P s1 b1) := Lib.hid (by
    subst hP
    exact MD.new w1 s1 b1)
  have C3 := Lib.hid (B3.out.trans (PL.mono B3.out.size))
  clear PL hP B0 B3
  generalize (w1.alloc (.cells #[.string (ofBytes s1), .bool b1] 69)) = w2 at C0 C1 C3 ⊢
  refine (V2.out _).mono ?_
  rintro e w3 ⟨rfl, hb⟩
  have C0 := Lib.hid (C0.out.later hb)
  have C1 := Lib.hid (C1.out.later hb)
  have C3 := Lib.hid (C3.out.trans (hb.mono C3.out.size))
  clear hb V2
  have p0 := C1.out.c0
  have p1 := C1.out.c1
  have g0 := C1.out.free 0
  have g1 := C1.out.free 1
  go_upto_region 4 with fail
  obtain ⟨C, hC⟩ : ∃ C, C = w3.heap.size := ⟨_, rfl⟩
  rw [← hC]
  have D0 : Hid (Br (((w3.setCell ⟨P, 0, none⟩ (.string (ofBytes s2))).setCell ⟨P, 1, none⟩ (.bool b2)).alloc (.cells #[.int .i64 (x : Int), .slice none 0 0, .slice none 0 0, .int .i64 0, .bool ((y : Int) == 1)] 36)) R #[.int .i64 0, .slice none 0 0, .slice none 0 0, .int .i64 0, .bool false]) := Lib.hid (((C0.out.away RP.out 0 (.string (ofBytes s2))).away RP.out 1 (.bool b2)).later (pl1 _ _))
  have D1 : Hid (MD (((w3.setCell ⟨P, 0, none⟩ (.string (ofBytes s2))).setCell ⟨P, 1, none⟩ (.bool b2)).alloc (.cells #[.int .i64 (x : Int), .slice none 0 0, .slice none 0 0, .int .i64 0, .bool ((y : Int) == 1)] 36)) P s2 b2) := Lib.hid ((C1.out.set2 s2 b2).alloc _)
  have D2 : Hid (Br (((w3.setCell ⟨P, 0, none⟩ (.string (ofBytes s2))).setCell ⟨P, 1, none⟩ (.bool b2)).alloc (.cells #[.int .i64 (x : Int), .slice none 0 0, .slice none 0 0, .int .i64 0, .bool ((y : Int) == 1)] 36)) C #[.int .i64 (x : Int), .slice none 0 0, .slice none 0 0, .int .i64 0, .bool ((y : Int) == 1)]) := Lib.hid (by
    have e : C = ((w3.setCell ⟨P, 0, none⟩ (.string (ofBytes s2))).setCell ⟨P, 1, none⟩ (.bool b2)).heap.size := by simp [hC]
    rw [e]
    exact heap_alloc_new _ _)
  have D3 : Hid (Below w.heap.size w (((w3.setCell ⟨P, 0, none⟩ (.string (ofBytes s2))).setCell ⟨P, 1, none⟩ (.bool b2)).alloc (.cells #[.int .i64 (x : Int), .slice none 0 0, .slice none 0 0, .int .i64 0, .bool ((y : Int) == 1)] 36))) := Lib.hid (by
    have h1 : Below w.heap.size w ((w3.setCell ⟨P, 0, none⟩ (.string (ofBytes s2))).setCell ⟨P, 1, none⟩ (.bool b2)) := (C3.out.setCell (by exact HPw.out) _).setCell (by exact HPw.out) _
    exact h1.trans ((pl1 _ _).mono h1.size))
  have RC : Hid (R ≠ C) := Lib.hid (by have := C0.out.lt; omega)
  have PC : Hid (P ≠ C) := Lib.hid (by have := C1.out.lt; omega)
  have HCw : Hid (w.heap.size ≤ C) := Lib.hid (by have := C3.out.size; omega)
  clear C0 C1 C3 p0 p1 g0 g1 hC
  generalize (((w3.setCell ⟨P, 0, none⟩ (.string (ofBytes s2))).setCell ⟨P, 1, none⟩ (.bool b2)).alloc (.cells #[.int .i64 (x : Int), .slice none 0 0, .slice none 0 0, .int .i64 0, .bool ((y : Int) == 1)] 36)) = w4 at D0 D1 D2 D3 ⊢
  have p0 := D1.out.c0
  have p1 := D1.out.c1
  have e0 := D0.out.at_ 0 rfl
  have e1 := D0.out.at_ 1 rfl
  have e2 := D0.out.at_ 2 rfl
  have e3 := D0.out.at_ 3 rfl
  have e4 := D0.out.at_ 4 rfl
  have k0 := D0.out.free 0
  have k1 := D0.out.free 1
  have k2 := D0.out.free 2
  have k3 := D0.out.free 3
  have k4 := D0.out.free 4
  cases b2 with
  | true =>
    have HN : Hid (rdC s = none) := Lib.hid (by
      have h1 : rawC s = none := by
        by_cases h0 : y = 0
        · rw [HTH.out.2.1 h0]; rfl
        · by_cases h1 : y = 1
          · have := (HTH.out.1 h1).1; cases this
          · exact HTH.out.2.2 h0 h1
      unfold rdC
      rw [h1]
      rfl)
    have HF : Hid (Br (((((w4.setCell ⟨R, 0, none⟩ (.int .i64 0)).setCell ⟨R, 1, none⟩ (.slice none 0 0)).setCell ⟨R, 2, none⟩ (.slice none 0 0)).setCell ⟨R, 3, none⟩ (.int .i64 0)).setCell ⟨R, 4, none⟩ (.bool false)) R #[.int .i64 0, .slice none 0 0, .slice none 0 0, .int .i64 0, .bool false] ∧ Below w.heap.size w (((((w4.setCell ⟨R, 0, none⟩ (.int .i64 0)).setCell ⟨R, 1, none⟩ (.slice none 0 0)).setCell ⟨R, 2, none⟩ (.slice none 0 0)).setCell ⟨R, 3, none⟩ (.int .i64 0)).setCell ⟨R, 4, none⟩ (.bool false))) := Lib.hid ⟨D0.out.fill (.int .i64 0) (.slice none 0 0) (.slice none 0 0) (.int .i64 0) (.bool false), below_fill D3.out HRw.out (.int .i64 0) (.slice none 0 0) (.slice none 0 0) (.int .i64 0) (.bool false)⟩
    go_wp2
    generalize (((((w4.setCell ⟨R, 0, none⟩ (.int .i64 0)).setCell ⟨R, 1, none⟩ (.slice none 0 0)).setCell ⟨R, 2, none⟩ (.slice none 0 0)).setCell ⟨R, 3, none⟩ (.int .i64 0)).setCell ⟨R, 4, none⟩ (.bool false)) = WZ at HF ⊢
    have z0 := HF.out.1.at_ 0 rfl
    have z1 := HF.out.1.at_ 1 rfl
    have z2 := HF.out.1.at_ 2 rfl
    have z3 := HF.out.1.at_ 3 rfl
    have z4 := HF.out.1.at_ 4 rfl
    obtain ⟨n1, n2, n3⟩ := rd_none HN.out
    exact bodyPost_ret (v := .tuple #[chV ch0 (.slice none 0 0) (.slice none 0 0), .string (ofBytes []), .bool false]) (by simp [results, Try.results14, go_sem, z0, z1, z2, z3, z4, chV, ch0, ofBytes]) rfl ⟨⟨_, _, by rw [n1, n2, n3], by rw [n1]; exact prd_nil _, by rw [n1]; exact Vrd.nil_ _, NewS.nil_ _, NewS.nil_ _⟩, HF.out.2⟩
  | false =>
    by_cases hy2 : 1 < y
    · have hd : decide ((1 : Int) < (y : Int)) = true := decide_eq_true (by omega)
      have HN : Hid (rdC s = none) := Lib.hid (by
        unfold rdC
        rw [HTH.out.2.2 (by omega) (by omega)]
        rfl)
      have HF : Hid (Br (((((w4.setCell ⟨R, 0, none⟩ (.int .i64 0)).setCell ⟨R, 1, none⟩ (.slice none 0 0)).setCell ⟨R, 2, none⟩ (.slice none 0 0)).setCell ⟨R, 3, none⟩ (.int .i64 0)).setCell ⟨R, 4, none⟩ (.bool false)) R #[.int .i64 0, .slice none 0 0, .slice none 0 0, .int .i64 0, .bool false] ∧ Below w.heap.size w (((((w4.setCell ⟨R, 0, none⟩ (.int .i64 0)).setCell ⟨R, 1, none⟩ (.slice none 0 0)).setCell ⟨R, 2, none⟩ (.slice none 0 0)).setCell ⟨R, 3, none⟩ (.int .i64 0)).setCell ⟨R, 4, none⟩ (.bool false))) := Lib.hid ⟨D0.out.fill (.int .i64 0) (.slice none 0 0) (.slice none 0 0) (.int .i64 0) (.bool false), below_fill D3.out HRw.out (.int .i64 0) (.slice none 0 0) (.slice none 0 0) (.int .i64 0) (.bool false)⟩
      go_wp2
      generalize (((((w4.setCell ⟨R, 0, none⟩ (.int .i64 0)).setCell ⟨R, 1, none⟩ (.slice none 0 0)).setCell ⟨R, 2, none⟩ (.slice none 0 0)).setCell ⟨R, 3, none⟩ (.int .i64 0)).setCell ⟨R, 4, none⟩ (.bool false)) = WZ at HF ⊢
      have z0 := HF.out.1.at_ 0 rfl
      have z1 := HF.out.1.at_ 1 rfl
      have z2 := HF.out.1.at_ 2 rfl
      have z3 := HF.out.1.at_ 3 rfl
      have z4 := HF.out.1.at_ 4 rfl
      obtain ⟨n1, n2, n3⟩ := rd_none HN.out
      exact bodyPost_ret (v := .tuple #[chV ch0 (.slice none 0 0) (.slice none 0 0), .string (ofBytes []), .bool false]) (by simp [results, Try.results14, go_sem, z0, z1, z2, z3, z4, chV, ch0, ofBytes]) rfl ⟨⟨_, _, by rw [n1, n2, n3], by rw [n1]; exact prd_nil _, by rw [n1]; exact Vrd.nil_ _, NewS.nil_ _, NewS.nil_ _⟩, HF.out.2⟩
    have hd : decide ((1 : Int) < (y : Int)) = false := decide_eq_false (by omega)
    go_upto_if 40 with fail
    go_cut [] (fun wx => Mid w R C P s wx)
    case first =>
      by_cases hy1 : y = 1
      · subst hy1
        have hn0 : (((1 : Nat) : Int) == 0) = false := rfl
        have D2 : Hid (Br w4 C #[.int .i64 (x : Int), .slice none 0 0, .slice none 0 0, .int .i64 0, .bool true]) := Lib.hid D2.out
        have HM : Hid (Mid w R C P s w4) := Lib.hid ⟨⟨x, [], [], 0, true⟩, none, 0, 0, none, 0, 0, s2, D2.out, prd_nil _, Vrd.nil_ _, D1.out, (HTH.out.1 rfl).2, D0.out, D3.out, (fun ad e => by cases e), fun ad e => by cases e⟩
        clear HTH D0 D1 D2 D3
        go_wp2
        go_meet
        exact HM.out
      · obtain rfl : y = 0 := by omega
        have hn0 : (((0 : Nat) : Int) == 0) = true := rfl
        have D2 : Hid (Br w4 C #[.int .i64 (x : Int), .slice none 0 0, .slice none 0 0, .int .i64 0, .bool false]) := Lib.hid D2.out
        obtain ⟨hdt, hdl⟩ := doc_thread (x : Int) s2
        have hraw : rawC s = bodyR (x : Int) s2 := by rw [HTH.out.2.1 rfl]; rfl
        rw [← hraw] at hdt
        have st3 := ST2.out.ris (most := 64)
        have K1 := Lib.hid (fun W => mrising64_any W s2 false ST2.out.len ST2.out.nil_)
        have hl64 := rs_len (most := 64) (s := s2) (by omega)
        obtain ⟨a, ha⟩ : ∃ x, x = rsV 64 s2 := ⟨_, rfl⟩
        obtain ⟨s3, hs3⟩ : ∃ x, x = rsS 64 s2 := ⟨_, rfl⟩
        obtain ⟨b3, hb3⟩ : ∃ x, x = rsB 64 s2 false := ⟨_, rfl⟩
        rw [← ha, ← hs3, ← hb3] at K1 hdt hdl
        rw [← hs3, ← hb3] at st3
        rw [← ha] at hl64
        obtain ⟨n, hn⟩ : ∃ n, n = a.length := ⟨_, rfl⟩
        rw [← hn] at hdt hdl hl64
        have st4 := st3.fix (m := 16) (n := n)
        have K2 := Lib.hid (fun W => mfixed16_any W s3 b3 n st3.len st3.nil_ (by omega))
        obtain ⟨wt, hwt⟩ : ∃ x, x = fxV 16 n s3 b3 := ⟨_, rfl⟩
        obtain ⟨s4, hs4⟩ : ∃ x, x = fxS 16 n s3 b3 := ⟨_, rfl⟩
        obtain ⟨b4, hb4⟩ : ∃ x, x = fxB 16 n s3 b3 := ⟨_, rfl⟩
        rw [← hwt, ← hs4, ← hb4] at K2 hdt hdl
        rw [← hs4, ← hb4] at st4
        have K3 := Lib.hid (fun W => mfixed9_any W s4 b4 st4.len st4.nil_)
        have hrg := (fx_form 8 9 s4 b4).2
        obtain ⟨vv, hvv⟩ : ∃ x, x = fxV 8 9 s4 b4 := ⟨_, rfl⟩
        obtain ⟨s5, hs5⟩ : ∃ x, x = fxS 8 9 s4 b4 := ⟨_, rfl⟩
        obtain ⟨b5, hb5⟩ : ∃ x, x = fxB 8 9 s4 b4 := ⟨_, rfl⟩
        rw [← hvv, ← hs5, ← hb5] at K3 hdt
        rw [← hvv, ← hb5] at hdl
        have hrg : ∀ v ∈ vv, 0 ≤ v ∧ v < 256 := by rw [hvv]; exact hrg
        have HRG := Lib.hid hrg
        have HDT := Lib.hid hdt
        have HDL := Lib.hid hdl
        have HNA := Lib.hid hn
        have hn64 : n ≤ 64 := by omega
        unfold MEnd mR at K1 K2 K3
        clear ha hs3 hb3 hwt hs4 hb4 hvv hs5 hb5 hdt hdl hraw st3 st4 hrg hn hl64 HTH
        have HLT : Hid (R < w4.heap.size ∧ C < w4.heap.size ∧ P < w4.heap.size) := Lib.hid ⟨D0.out.lt, D2.out.lt, D1.out.lt⟩
        go_wp2_with fail
        refine (K1.out _).mono ?_
        rintro e w5 ⟨⟨A1, cp1, rfl, hA1, hI1⟩, hb⟩
        rw [← HNA.out] at hI1 ⊢
        have D0 := Lib.hid (D0.out.later hb)
        have D1 := Lib.hid (D1.out.later hb)
        have D2 := Lib.hid (D2.out.later hb)
        have D3 := Lib.hid (D3.out.trans (hb.mono D3.out.size))
        have J1 : Hid (Ivs w5 A1 n a) := Lib.hid hI1
        have SZ := Lib.hid hb.size
        have F1 := Lib.hid hA1
        clear hb K1 hI1 hA1 p0 p1 e0 e1 e2 e3 e4 k0 k1 k2 k3 k4
        go_wp2_with fail
        have PL := pl1 w5 (.cells #[.string (ofBytes s3), .bool b3] 69)
        have D0 := Lib.hid (D0.out.later PL)
        have D1 := Lib.hid (D1.out.later PL)
        have D2 := Lib.hid (D2.out.later PL)
        have D3 := Lib.hid (D3.out.trans (PL.mono D3.out.size))
        have J1 := Lib.hid (J1.out.later PL)
        have SZ := Lib.hid (Nat.le_trans SZ.out PL.size)
        clear PL
        generalize (w5.alloc (.cells #[.string (ofBytes s3), .bool b3] 69)) = w5b at D0 D1 D2 D3 J1 SZ ⊢
        refine (K2.out _).mono ?_
        rintro e w6 ⟨⟨A2, cp2, rfl, hA2, hI2⟩, hb⟩
        have D0 := Lib.hid (D0.out.later hb)
        have D1 := Lib.hid (D1.out.later hb)
        have D2 := Lib.hid (D2.out.later hb)
        have D3 := Lib.hid (D3.out.trans (hb.mono D3.out.size))
        have J1 := Lib.hid (J1.out.later hb)
        have J2 : Hid (Ivs w6 A2 wt.length wt) := Lib.hid hI2
        have F2 : Hid (∀ ad, A2 = some ad → w4.heap.size ≤ ad.block) := Lib.hid (fun ad e => Nat.le_trans SZ.out (hA2 ad e))
        have SZ := Lib.hid (Nat.le_trans SZ.out hb.size)
        clear hb K2 hI2 hA2
        go_wp2_with fail
        have PL := pl1 w6 (.cells #[.string (ofBytes s4), .bool b4] 69)
        have D0 := Lib.hid (D0.out.later PL)
        have D1 := Lib.hid (D1.out.later PL)
        have D2 := Lib.hid (D2.out.later PL)
        have D3 := Lib.hid (D3.out.trans (PL.mono D3.out.size))
        have J1 := Lib.hid (J1.out.later PL)
        have J2 := Lib.hid (J2.out.later PL)
        have SZ := Lib.hid (Nat.le_trans SZ.out PL.size)
        clear PL
        generalize (w6.alloc (.cells #[.string (ofBytes s4), .bool b4] 69)) = w6b at D0 D1 D2 D3 J1 J2 SZ ⊢
        refine (K3.out _).mono ?_
        rintro e w7 ⟨⟨A3, cp3, rfl, hA3, hI3⟩, hb⟩
        have D0 := Lib.hid (D0.out.later hb)
        have D1 := Lib.hid (D1.out.later hb)
        have D2 := Lib.hid (D2.out.later hb)
        have D3 := Lib.hid (D3.out.trans (hb.mono D3.out.size))
        have J1 := Lib.hid (J1.out.later hb)
        have J2 := Lib.hid (J2.out.later hb)
        have J3 : Hid (Ivs w7 A3 vv.length vv) := Lib.hid hI3
        have F3 : Hid (∀ ad, A3 = some ad → w4.heap.size ≤ ad.block) := Lib.hid (fun ad e => Nat.le_trans SZ.out (hA3 ad e))
        have SZ := Lib.hid (Nat.le_trans SZ.out hb.size)
        have p0 := D1.out.c0
        have p1 := D1.out.c1
        have g0 := D1.out.free 0
        have g1 := D1.out.free 1
        have hPl := D1.out.lt
        have hPn : P ≠ w7.heap.size := by omega
        clear hb K3 hI3 hA3
        go_upto_region 11 with fail
        have D1 : Hid (MD (((w7.setCell ⟨P, 0, none⟩ (.string (ofBytes s5))).setCell ⟨P, 1, none⟩ (.bool b5)).alloc (.cells #[.string (ofBytes s5), .bool b5] 69)) P s5 b5) := Lib.hid ((D1.out.set2 s5 b5).alloc _)
        have D0 : Hid (Br (((w7.setCell ⟨P, 0, none⟩ (.string (ofBytes s5))).setCell ⟨P, 1, none⟩ (.bool b5)).alloc (.cells #[.string (ofBytes s5), .bool b5] 69)) R #[.int .i64 0, .slice none 0 0, .slice none 0 0, .int .i64 0, .bool false]) := Lib.hid (((D0.out.away RP.out 0 (.string (ofBytes s5))).away RP.out 1 (.bool b5)).later (pl1 _ _))
        have D2 : Hid (Br (((w7.setCell ⟨P, 0, none⟩ (.string (ofBytes s5))).setCell ⟨P, 1, none⟩ (.bool b5)).alloc (.cells #[.string (ofBytes s5), .bool b5] 69)) C #[.int .i64 (x : Int), .slice none 0 0, .slice none 0 0, .int .i64 0, .bool false]) := Lib.hid (((D2.out.away (Ne.symm PC.out) 0 (.string (ofBytes s5))).away (Ne.symm PC.out) 1 (.bool b5)).later (pl1 _ _))
        have HT7 : Hid (Turned (fun q => q = P) w7 (((w7.setCell ⟨P, 0, none⟩ (.string (ofBytes s5))).setCell ⟨P, 1, none⟩ (.bool b5)).alloc (.cells #[.string (ofBytes s5), .bool b5] 69))) := Lib.hid ((((Turned.refl (fun q => q = P) w7).set_ rfl 0 (.string (ofBytes s5))).set_ rfl 1 (.bool b5)).alloc _)
        have D3 : Hid (Below w.heap.size w (((w7.setCell ⟨P, 0, none⟩ (.string (ofBytes s5))).setCell ⟨P, 1, none⟩ (.bool b5)).alloc (.cells #[.string (ofBytes s5), .bool b5] 69))) := Lib.hid (by
          have h1 : Below w.heap.size w ((w7.setCell ⟨P, 0, none⟩ (.string (ofBytes s5))).setCell ⟨P, 1, none⟩ (.bool b5)) := (D3.out.setCell (by exact HPw.out) _).setCell (by exact HPw.out) _
          exact h1.trans ((pl1 _ _).mono h1.size))
        have J1 := Lib.hid (J1.out.turned HT7.out (fun ad e => by have h1 := F1.out ad e; have h2 := HLT.out.2.2; omega))
        have J2 := Lib.hid (J2.out.turned HT7.out (fun ad e => by have h1 := F2.out ad e; have h2 := HLT.out.2.2; omega))
        have J3 := Lib.hid (J3.out.turned HT7.out (fun ad e => by have h1 := F3.out ad e; have h2 := HLT.out.2.2; omega))
        have SZ := Lib.hid (Nat.le_trans SZ.out HT7.out.size)
        clear HT7 p0 p1 g0 g1 hPl hPn
        generalize (((w7.setCell ⟨P, 0, none⟩ (.string (ofBytes s5))).setCell ⟨P, 1, none⟩ (.bool b5)).alloc (.cells #[.string (ofBytes s5), .bool b5] 69)) = w8 at D0 D1 D2 D3 J1 J2 J3 SZ ⊢
        have p0 := D1.out.c0
        have p1 := D1.out.c1
        cases b5 with
        | true =>
          have HN : Hid (rdC s = none) := Lib.hid (by unfold rdC; rw [HDT.out]; rfl)
          have e0 := D0.out.at_ 0 rfl
          have e1 := D0.out.at_ 1 rfl
          have e2 := D0.out.at_ 2 rfl
          have e3 := D0.out.at_ 3 rfl
          have e4 := D0.out.at_ 4 rfl
          have k0 := D0.out.free 0
          have k1 := D0.out.free 1
          have k2 := D0.out.free 2
          have k3 := D0.out.free 3
          have k4 := D0.out.free 4
          have HF : Hid (Br (((((w8.setCell ⟨R, 0, none⟩ (.int .i64 0)).setCell ⟨R, 1, none⟩ (.slice none 0 0)).setCell ⟨R, 2, none⟩ (.slice none 0 0)).setCell ⟨R, 3, none⟩ (.int .i64 0)).setCell ⟨R, 4, none⟩ (.bool false)) R #[.int .i64 0, .slice none 0 0, .slice none 0 0, .int .i64 0, .bool false] ∧ Below w.heap.size w (((((w8.setCell ⟨R, 0, none⟩ (.int .i64 0)).setCell ⟨R, 1, none⟩ (.slice none 0 0)).setCell ⟨R, 2, none⟩ (.slice none 0 0)).setCell ⟨R, 3, none⟩ (.int .i64 0)).setCell ⟨R, 4, none⟩ (.bool false))) := Lib.hid ⟨D0.out.fill (.int .i64 0) (.slice none 0 0) (.slice none 0 0) (.int .i64 0) (.bool false), below_fill D3.out HRw.out (.int .i64 0) (.slice none 0 0) (.slice none 0 0) (.int .i64 0) (.bool false)⟩
          go_wp2
          generalize (((((w8.setCell ⟨R, 0, none⟩ (.int .i64 0)).setCell ⟨R, 1, none⟩ (.slice none 0 0)).setCell ⟨R, 2, none⟩ (.slice none 0 0)).setCell ⟨R, 3, none⟩ (.int .i64 0)).setCell ⟨R, 4, none⟩ (.bool false)) = WZ at HF ⊢
          have z0 := HF.out.1.at_ 0 rfl
          have z1 := HF.out.1.at_ 1 rfl
          have z2 := HF.out.1.at_ 2 rfl
          have z3 := HF.out.1.at_ 3 rfl
          have z4 := HF.out.1.at_ 4 rfl
          obtain ⟨n1, n2, n3⟩ := rd_none HN.out
          exact bodyPost_ret (v := .tuple #[chV ch0 (.slice none 0 0) (.slice none 0 0), .string (ofBytes []), .bool false]) (by simp [results, Try.results14, go_sem, z0, z1, z2, z3, z4, chV, ch0, ofBytes]) rfl ⟨⟨_, _, by rw [n1, n2, n3], by rw [n1]; exact prd_nil _, by rw [n1]; exact Vrd.nil_ _, NewS.nil_ _, NewS.nil_ _⟩, HF.out.2⟩
        | false =>
          have hraw : rawC s = some (⟨x, a.zip wt, (vv.take 8).map (· - 128), vv.getD 8 0, false⟩, s5) := by rw [HDT.out]; rfl
          have HRAW := Lib.hid hraw
          obtain ⟨hwl, hvl⟩ := HDL.out rfl
          rw [hwl] at J2 ⊢
          rw [hvl] at J3 ⊢
          have HWL := Lib.hid hwl
          have HVL := Lib.hid hvl
          have HZL : Hid ((a.zip wt).length = n) := Lib.hid (by rw [List.length_zip, ← HNA.out, hwl]; omega)
          have HC8 : Hid (C < w8.heap.size ∧ R < w8.heap.size ∧ P < w8.heap.size) := Lib.hid ⟨D2.out.lt, D0.out.lt, D1.out.lt⟩
          clear hraw hwl hvl HDT HDL
          go_wp2
          clear p0 p1
          go_loopw [15] (fun x15 wr => ∃ (k : Nat) (A : Option Addr) (cp : Nat), x15 = .int .i64 k ∧ k ≤ n ∧ PRow 56 wr w8.heap.size (.slice A k cp) ((a.zip wt).take k) ∧ Br wr C #[.int .i64 (x : Int), .slice A k cp, .slice none 0 0, .int .i64 0, .bool false] ∧ Turned (fun q => q = C) w8 wr) (fun z _ => n - (intOf z).toNat)
          case atStart => exact ⟨0, none, 0, by go_num, Nat.zero_le _, by rw [List.take_zero]; exact PRow.nil_ _ _, D2.out, Turned.refl _ _⟩
          case round =>
            obtain ⟨k, A, cp, rfl, hkn, hrow, hbr, hT⟩ := hrel
            by_cases hlt : k < n
            · have hmi : (k : Int) < (n : Int) := by omega
              have hmi2 : (k : Int) < (a.length : Int) := by rw [← HNA.out]; omega
              have hka : k < a.length := by rw [← HNA.out]; exact hlt
              have hkw : k < wt.length := by rw [HWL.out]; exact hlt
              have I1 := J1.out.turned hT (fun ad e => by have h1 := F1.out ad e; have h2 := HLT.out.2.1; omega)
              have I2 := J2.out.turned hT (fun ad e => by have h1 := F2.out ad e; have h2 := HLT.out.2.1; omega)
              obtain ⟨ga, oa, rfl, hga, ca⟩ := I1.2 k hka
              obtain ⟨gb, ob, rfl, hgb, cb⟩ := I2.2 k hkw
              have hnx : (a.zip wt).take (k + 1) = (a.zip wt).take k ++ [(a[k], wt[k])] := by
                rw [List.take_succ_eq_append_getElem (by rw [HZL.out]; exact hlt), List.getElem_zip]
              obtain ⟨xa, hxa⟩ : ∃ z, z = a[k] := ⟨_, rfl⟩
              obtain ⟨xb, hxb⟩ : ∃ z, z = wt[k] := ⟨_, rfl⟩
              rw [← hxa] at ca hnx
              rw [← hxb] at cb hnx
              have HNX := Lib.hid hnx
              have hrl : ((a.zip wt).take k).length = k := by rw [List.length_take, HZL.out]; omega
              have HRL := Lib.hid hrl
              have HROW := Lib.hid hrow
              have HBR := Lib.hid hbr
              have HT := Lib.hid hT
              have c1 := hbr.at_ 1 rfl
              have f1 := hbr.free 1
              have hCl := hbr.lt
              have HCL := Lib.hid hCl
              have hk0 : (0 : Int) ≤ (k : Int) := by omega
              have HNE : Hid (some C ≠ (Value.slice A k cp).ownBlock) := Lib.hid (own_far hrow HC8.out.1)
              have HC1 := Lib.hid c1
              have HF1 := Lib.hid f1
              have HSZ : Hid (w8.heap.size ≤ wr.heap.size) := Lib.hid hT.size
              clear I1 I2 hnx hxa hxb hrl hrow hbr hT
              go_wp2
              go_region_law
                ((refine step_pfield term_ty (pld _ _) (by rfl) _ _ (by rfl) w8.heap.size (.slice A k cp) k _ (by rfl) HROW.out HSZ.out wr.heap.size 1 (xa, xb) (by rfl) (new0d _ _ _ _) (new1d _ _ _ _) HRL.out (by omega) C 1 _ HCL.out HC1.out HF1.out HNE.out ?_; intro A' cp' w' hown hgrow k2 k2f))
              all_goals
                have HZ : Hid (PRow 56 (w'.setCell ⟨C, 1, none⟩ (.slice A' (k + 1) cp')) w8.heap.size (.slice A' (k + 1) cp') ((a.zip wt).take (k + 1)) ∧ Br (w'.setCell ⟨C, 1, none⟩ (.slice A' (k + 1) cp')) C #[.int .i64 (x : Int), .slice A' (k + 1) cp', .slice none 0 0, .int .i64 0, .bool false] ∧ Turned (fun q => q = C) w8 (w'.setCell ⟨C, 1, none⟩ (.slice A' (k + 1) cp'))) := Lib.hid ⟨by
                    rw [HNX.out]
                    refine hown.kept (fun g hg => Below.heap_setCell w' _ _ g (fun e => ?_))
                    have h1 := (World.ownsRow.lt hown g hg).1
                    have h2 := HC8.out.1
                    have e' : g = C := e
                    omega, (HBR.out.kept (hgrow.block C HCL.out HNE.out)).set_ 1 _, field_round HT.out hgrow (fun g hg => (World.ownsRow.lt HROW.out g hg).1) 1 _⟩
                clear hown hgrow k2 k2f
                go_wp2
                go_roundw
                case rel => exact ⟨k + 1, A', cp', by go_num, by omega, HZ.out.1, HZ.out.2.1, HZ.out.2.2⟩
                case measure => simp [intOf]; omega
            · have hmi : ¬ (k : Int) < (n : Int) := by omega
              obtain rfl : k = n := by omega
              rw [List.take_of_length_le (by rw [HZL.out]; exact Nat.le_refl _)] at hrow
              have ROW := Lib.hid hrow
              have HBR := Lib.hid hbr
              have HT := Lib.hid hT
              have J3 := Lib.hid (J3.out.turned hT (fun ad e => by have h1 := F3.out ad e; have h2 := HLT.out.2.1; omega))
              have HCW : Hid (C < wr.heap.size) := Lib.hid hbr.lt
              have HAC : Hid (k ≤ cp ∧ (A = none → cp = 0)) := Lib.hid (by
                obtain ⟨A5, c5, e5, h5, h6⟩ := hrow.form
                rw [HZL.out] at e5 h5
                injection e5 with e5 e6 e7
                subst e5; subst e7
                exact ⟨h5, h6⟩)
              clear hrow hbr hT J1 J2
              go_wp2
              generalize wr = w9 at ROW HBR HT J3 HCW ⊢
              have HVT : Hid (((vv.take 8).map (· - 128)).length = 8) := Lib.hid (by rw [List.length_map, List.length_take, HVL.out]; rfl)
              go_loopw [16] (fun x16 wr => ∃ (j : Nat) (A4 : Option Addr) (cp4 : Nat), x16 = .int .i64 j ∧ j ≤ 8 ∧ IvRow wr w9.heap.size (.slice A4 j cp4) (((vv.take 8).map (· - 128)).take j) ∧ Br wr C #[.int .i64 (x : Int), .slice A k cp, .slice A4 j cp4, .int .i64 0, .bool false] ∧ Turned (fun q => q = C) w9 wr) (fun z _ => 8 - (intOf z).toNat)
              case atStart => exact ⟨0, none, 0, by go_num, Nat.zero_le _, by rw [List.take_zero]; exact IvRow.nil_ _ _, HBR.out, Turned.refl _ _⟩
              case round =>
                obtain ⟨j, A4, cp4, rfl, hjn, hrow, hbr, hT⟩ := hrel
                by_cases hlt : j < 8
                · have hmi : (j : Int) < 8 := by omega
                  have hm9 : (j : Int) < 9 := by omega
                  have hjv : j < vv.length := by rw [HVL.out]; omega
                  obtain ⟨gv, ov, rfl, hgv, cv⟩ := (J3.out.turned hT (fun ad e => by have h1 := F3.out ad e; have h2 := HLT.out.2.1; omega)).2 j hjv
                  have hnx : ((vv.take 8).map (· - 128)).take (j + 1) = ((vv.take 8).map (· - 128)).take j ++ [vv[j] - 128] := by
                    rw [List.take_succ_eq_append_getElem (by rw [HVT.out]; exact hlt), List.getElem_map, List.getElem_take]
                  have hr := HRG.out vv[j] (List.getElem_mem hjv)
                  obtain ⟨xv, hxv⟩ : ∃ z, z = vv[j] := ⟨_, rfl⟩
                  rw [← hxv] at cv hnx hr
                  obtain ⟨yv, hyv⟩ : ∃ z, z = xv - 128 := ⟨_, rfl⟩
                  have hwy : IntKind.i64.wrap (xv - 128) = yv := by rw [IntKind.wrap_i64]; omega
                  rw [← hyv] at hnx
                  have HNX := Lib.hid hnx
                  have hrl : (((vv.take 8).map (· - 128)).take j).length = j := by rw [List.length_take, HVT.out]; omega
                  have HRL := Lib.hid hrl
                  have HROW := Lib.hid hrow
                  have HBR2 := Lib.hid hbr
                  have HT2 := Lib.hid hT
                  have c2 := hbr.at_ 2 rfl
                  have f2 := hbr.free 2
                  have hCl := hbr.lt
                  have HCL := Lib.hid hCl
                  have hk0 : (0 : Int) ≤ (j : Int) := by omega
                  have HNE : Hid (some C ≠ (Value.slice A4 j cp4).ownBlock) := Lib.hid (own_far hrow HCW.out)
                  have HC2 := Lib.hid c2
                  have HF2 := Lib.hid f2
                  have HSZ : Hid (w9.heap.size ≤ wr.heap.size) := Lib.hid hT.size
                  clear hnx hxv hyv hrl hrow hbr hT hr
                  go_wp2
                  go_region_law
                    ((refine step_ifield (pld _ _) (by rfl) _ _ (by rfl) w9.heap.size (.slice A4 j cp4) j _ (by rfl) HROW.out HSZ.out wr.heap.size 1 yv (by rfl) (new0o _ _ _) HRL.out (by omega) C 2 _ HCL.out HC2.out HF2.out HNE.out ?_; intro A' cp' w' hown hgrow k2 k2f))
                  all_goals
                    have HZ : Hid (IvRow (w'.setCell ⟨C, 2, none⟩ (.slice A' (j + 1) cp')) w9.heap.size (.slice A' (j + 1) cp') (((vv.take 8).map (· - 128)).take (j + 1)) ∧ Br (w'.setCell ⟨C, 2, none⟩ (.slice A' (j + 1) cp')) C #[.int .i64 (x : Int), .slice A k cp, .slice A' (j + 1) cp', .int .i64 0, .bool false] ∧ Turned (fun q => q = C) w9 (w'.setCell ⟨C, 2, none⟩ (.slice A' (j + 1) cp'))) := Lib.hid ⟨by
                        rw [HNX.out]
                        refine hown.kept (fun g hg => Below.heap_setCell w' _ _ g (fun e => ?_))
                        have h1 := (World.ownsRow.lt hown g hg).1
                        have h2 := HCW.out
                        have e' : g = C := e
                        omega, (HBR2.out.kept (hgrow.block C HCL.out HNE.out)).set_ 2 _, field_round HT2.out hgrow (fun g hg => (World.ownsRow.lt HROW.out g hg).1) 2 _⟩
                    clear hown hgrow k2 k2f
                    go_wp2
                    go_roundw
                    case rel => exact ⟨j + 1, A', cp', by go_num, by omega, HZ.out.1, HZ.out.2.1, HZ.out.2.2⟩
                    case measure => simp [intOf]; omega
                · obtain rfl : j = 8 := by omega
                  rw [List.take_of_length_le (by rw [HVT.out]; exact Nat.le_refl _)] at hrow
                  have h8v : 8 < vv.length := by rw [HVL.out]; omega
                  obtain ⟨gv, ov, rfl, hgv, cv⟩ := (J3.out.turned hT (fun ad e => by have h1 := F3.out ad e; have h2 := HLT.out.2.1; omega)).2 8 h8v
                  have he8 : vv.getD 8 0 = vv[8] := by rw [List.getD_eq_getElem?_getD, List.getElem?_eq_getElem h8v]; rfl
                  obtain ⟨tg, htg⟩ : ∃ z, z = vv[8] := ⟨_, rfl⟩
                  rw [← htg] at cv he8
                  have HE8 := Lib.hid he8
                  have c3 := hbr.at_ 3 rfl
                  have f3 := hbr.free 3
                  have HROW := Lib.hid hrow
                  have HBR2 := Lib.hid hbr
                  have HT2 := Lib.hid hT
                  clear hrow hbr hT he8 htg
                  go_wp2
                  go_meet
                  have q9 : ∀ g, g < w9.heap.size → g ≠ C → (wr.setCell ⟨C, 3, none⟩ (.int .i64 tg)).heap[g]? = w9.heap[g]? := fun g hg hne => (Below.heap_setCell wr _ _ g (fun e => hne e)).trans (HT2.out.block g hg hne)
                  have q8 : ∀ g, g < w8.heap.size → g ≠ C → (wr.setCell ⟨C, 3, none⟩ (.int .i64 tg)).heap[g]? = w8.heap[g]? := fun g hg hne => (q9 g (Nat.lt_of_lt_of_le hg HT.out.size) hne).trans (HT.out.block g hg hne)
                  refine ⟨⟨x, a.zip wt, (vv.take 8).map (· - 128), vv.getD 8 0, false⟩, A, k, cp, A4, 8, cp4, s5, ?_, ?_, ?_, ?_, HRAW.out, ?_, ?_, ?_, ?_⟩
                  · rw [HE8.out]
                    exact HBR2.out.set_ 3 _
                  · exact (ROW.out.kept (fun g hg => by
                      have h1 := World.ownsRow.lt ROW.out g hg
                      have h2 := HC8.out.1
                      exact q9 g h1.2 (by omega))).prd
                  · obtain ⟨A5, c5, e5, _, _, h5⟩ := (HROW.out.kept (w' := (wr.setCell ⟨C, 3, none⟩ (.int .i64 tg))) (fun g hg => by
                      have h1 := World.ownsRow.lt HROW.out g hg
                      have h2 := HCW.out
                      exact Below.heap_setCell wr _ _ g (fun e => by
                        have e' : g = C := e
                        omega))).ivs
                    exact ⟨A5, c5, e5, h5⟩
                  · exact D1.out.kept (q8 P HC8.out.2.2 PC.out)
                  · exact D0.out.kept (q8 R HC8.out.2.1 RC.out)
                  · have h1 : Turned (fun q => q = C) w8 (wr.setCell ⟨C, 3, none⟩ (.int .i64 tg)) := (HT.out.trans HT2.out).set_ rfl 3 _
                    exact h1.below D3.out (fun g hg => by rw [hg]; exact HCw.out)
                  · intro ad e
                    have h1 := NewS.row ROW.out (Nat.le_refl _) A k cp rfl ad e
                    have h2 := HC8.out.2.1
                    have h3 := D3.out.size
                    exact ⟨by omega, by omega⟩
                  · intro ad e
                    have h1 := NewS.irow HROW.out (Nat.le_refl _) A4 8 cp4 rfl ad e
                    have h2 := HC8.out.2.1
                    have h3 := D3.out.size
                    have h4 := HT.out.size
                    exact ⟨by omega, by omega⟩
    case rest =>
      clear p0 p1 e0 e1 e2 e3 e4 k0 k1 k2 k3 k4 D0 D1 D2 D3 HTH
      obtain ⟨c, A, n, cp, A2, n2, cp2, s', hbr, hp, hv, hmd, hraw, hbz, hbw, hA, hA2⟩ := hcut
      obtain ⟨AT, cT, eT, hcT, hAT, hPT⟩ := hp
      obtain ⟨AV, cV, eV, hIV⟩ := hv
      injection eT with eT eT2 eT3
      injection eV with eV eV2 eV3
      subst eT; subst eT3; subst eV; subst eV3
      rw [← eT2] at hPT hcT
      rw [← eV2] at hIV
      have HNT := Lib.hid eT2
      have HNV := Lib.hid eV2
      obtain ⟨hl1, hl2⟩ := (raw_here hraw).2
      have hn1 : n ≤ 1000000 := by omega
      have hn2 : n2 ≤ 1000000 := by omega
      have RR := Lib.hid (refright10_any c A A2 n cp n2 cp2 wc hPT hIV hn1 hn2)
      unfold chV at RR
      obtain ⟨d, hd⟩ : ∃ d, d = c.doc := ⟨_, rfl⟩
      obtain ⟨tg, htg⟩ : ∃ d, d = c.tags := ⟨_, rfl⟩
      obtain ⟨gn, hgn⟩ : ∃ d, d = c.gone := ⟨_, rfl⟩
      rw [← hd, ← htg, ← hgn] at RR hbr
      have HD := Lib.hid (show d = c.doc ∧ tg = c.tags ∧ gn = c.gone from ⟨hd, htg, hgn⟩)
      obtain ⟨rc, hrc⟩ : ∃ x, x = rightC c := ⟨_, rfl⟩
      rw [← hrc] at RR
      have HRC := Lib.hid hrc
      have HR := Lib.hid hraw
      have HAT := Lib.hid (show n ≤ cp ∧ (A = none → cp = 0) from ⟨hcT, hAT⟩)
      have FAR := Lib.hid (show (∀ ad, A = some ad → w.heap.size ≤ ad.block ∧ ad.block ≠ R) ∧ (∀ ad, A2 = some ad → w.heap.size ≤ ad.block ∧ ad.block ≠ R) from ⟨hA, hA2⟩)
      have C0 := Lib.hid hbr
      have B0 := Lib.hid hbz
      have B2 := Lib.hid hmd
      have B3 := Lib.hid hbw
      have HPT := Lib.hid hPT
      have HIV := Lib.hid hIV
      clear hbr hmd hraw hbz hbw hA hA2 hcT hAT hPT hIV eT2 eV2 hl1 hl2 hd htg hgn hrc
      have c0 := C0.out.at_ 0 rfl
      have c1 := C0.out.at_ 1 rfl
      have c2 := C0.out.at_ 2 rfl
      have c3 := C0.out.at_ 3 rfl
      have c4 := C0.out.at_ 4 rfl
      go_wp2_with fail
      refine RR.out.mono ?_
      rintro e w9 ⟨rfl, hb⟩
      have C0 := Lib.hid (C0.out.later hb)
      have B0 := Lib.hid (B0.out.later hb)
      have B2 := Lib.hid (B2.out.later hb)
      have B3 := Lib.hid (B3.out.trans (hb.mono B3.out.size))
      have HPT := Lib.hid (HPT.out.later hb)
      have HIV := Lib.hid (HIV.out.later hb)
      clear hb c0 c1 c2 c3 c4 RR
      have c0 := C0.out.at_ 0 rfl
      have c1 := C0.out.at_ 1 rfl
      have c2 := C0.out.at_ 2 rfl
      have c3 := C0.out.at_ 3 rfl
      have c4 := C0.out.at_ 4 rfl
      have e0 := B0.out.at_ 0 rfl
      have e1 := B0.out.at_ 1 rfl
      have e2 := B0.out.at_ 2 rfl
      have e3 := B0.out.at_ 3 rfl
      have e4 := B0.out.at_ 4 rfl
      have k0 := B0.out.free 0
      have k1 := B0.out.free 1
      have k2 := B0.out.free 2
      have k3 := B0.out.free 3
      have k4 := B0.out.free 4
      have p0 := B2.out.c0
      have p1 := B2.out.c1
      by_cases hz : rc = 0
      · have hz2 : (rc != 0) = false := by subst hz; rfl
        have HY : Hid (rdC s = some (c, s')) := Lib.hid (by
          unfold rdC
          rw [HR.out]
          simp only [Option.bind_some]
          rw [if_pos (by rw [← HRC.out]; exact hz)])
        have HF : Hid (Br (((((w9.setCell ⟨R, 0, none⟩ (.int .i64 d)).setCell ⟨R, 1, none⟩ (.slice A n cp)).setCell ⟨R, 2, none⟩ (.slice A2 n2 cp2)).setCell ⟨R, 3, none⟩ (.int .i64 tg)).setCell ⟨R, 4, none⟩ (.bool gn)).drew R #[.int .i64 d, .slice A n cp, .slice A2 n2 cp2, .int .i64 tg, .bool gn] ∧ Below w.heap.size w (((((w9.setCell ⟨R, 0, none⟩ (.int .i64 d)).setCell ⟨R, 1, none⟩ (.slice A n cp)).setCell ⟨R, 2, none⟩ (.slice A2 n2 cp2)).setCell ⟨R, 3, none⟩ (.int .i64 tg)).setCell ⟨R, 4, none⟩ (.bool gn)).drew) := Lib.hid ⟨B0.out.fill (.int .i64 d) (.slice A n cp) (.slice A2 n2 cp2) (.int .i64 tg) (.bool gn), (below_fill B3.out HRw.out (.int .i64 d) (.slice A n cp) (.slice A2 n2 cp2) (.int .i64 tg) (.bool gn)).drew⟩
        have HK : Hid (∀ g, g ≠ R → (((((w9.setCell ⟨R, 0, none⟩ (.int .i64 d)).setCell ⟨R, 1, none⟩ (.slice A n cp)).setCell ⟨R, 2, none⟩ (.slice A2 n2 cp2)).setCell ⟨R, 3, none⟩ (.int .i64 tg)).setCell ⟨R, 4, none⟩ (.bool gn)).drew.heap[g]? = w9.heap[g]?) := Lib.hid (fun g hg => by
          have q : ∀ (W : World) (i : Nat) (u : Value), (W.setCell ⟨R, i, none⟩ u).heap[g]? = W.heap[g]? := fun W i u => Below.heap_setCell W _ u g (fun e => hg e)
          show (((((w9.setCell ⟨R, 0, none⟩ (.int .i64 d)).setCell ⟨R, 1, none⟩ (.slice A n cp)).setCell ⟨R, 2, none⟩ (.slice A2 n2 cp2)).setCell ⟨R, 3, none⟩ (.int .i64 tg)).setCell ⟨R, 4, none⟩ (.bool gn)).heap[g]? = _
          rw [q, q, q, q, q])
        have hRC := RC.out
        have hRP := RP.out
        have HS : Hid (w9.heap.size ≤ (((((w9.setCell ⟨R, 0, none⟩ (.int .i64 d)).setCell ⟨R, 1, none⟩ (.slice A n cp)).setCell ⟨R, 2, none⟩ (.slice A2 n2 cp2)).setCell ⟨R, 3, none⟩ (.int .i64 tg)).setCell ⟨R, 4, none⟩ (.bool gn)).drew.heap.size) := Lib.hid (by simp)
        go_wp2
        go_region
        go_wp2
        generalize (((((w9.setCell ⟨R, 0, none⟩ (.int .i64 d)).setCell ⟨R, 1, none⟩ (.slice A n cp)).setCell ⟨R, 2, none⟩ (.slice A2 n2 cp2)).setCell ⟨R, 3, none⟩ (.int .i64 tg)).setCell ⟨R, 4, none⟩ (.bool gn)).drew = WZ at HF HK HS ⊢
        have z0 := HF.out.1.at_ 0 rfl
        have z1 := HF.out.1.at_ 1 rfl
        have z2 := HF.out.1.at_ 2 rfl
        have z3 := HF.out.1.at_ 3 rfl
        have z4 := HF.out.1.at_ 4 rfl
        obtain ⟨n1, n2', n3⟩ := rd_some HY.out
        have HP : Pairs WZ A n c.ts := ⟨HPT.out.1, fun k hk => by
          obtain ⟨g, o, e, hg, q0, q1⟩ := HPT.out.2 k hk
          have hk' := HK.out g (FAR.out.1 _ e).2
          exact ⟨g, o, e, Nat.lt_of_lt_of_le hg HS.out, (World.cell?_of_block (a := ⟨g, _, none⟩) hk').trans q0, (World.cell?_of_block (a := ⟨g, _, none⟩) hk').trans q1⟩⟩
        have HQ : Ivs WZ A2 n2 c.v := ⟨HIV.out.1, fun k hk => by
          obtain ⟨g, o, e, hg, q0⟩ := HIV.out.2 k hk
          have hk' := HK.out g (FAR.out.2 _ e).2
          exact ⟨g, o, e, Nat.lt_of_lt_of_le hg HS.out, (World.cell?_of_block (a := ⟨g, _, none⟩) hk').trans q0⟩⟩
        have e1 : chV c (.slice A n cp) (.slice A2 n2 cp2) = .agg #[.int .i64 d, .slice A n cp, .slice A2 n2 cp2, .int .i64 tg, .bool gn] := by
          unfold chV
          rw [← HD.out.1, ← HD.out.2.1, ← HD.out.2.2]
        refine bodyPost_ret (v := .tuple #[.agg #[.int .i64 d, .slice A n cp, .slice A2 n2 cp2, .int .i64 tg, .bool gn], .string (ofBytes s'), .bool true]) ?_ rfl ?_
        · simp [results, Try.results14, go_sem, z0, z1, z2, z3, z4]
        refine ⟨⟨.slice A n cp, .slice A2 n2 cp2, by rw [n1, n2', n3, e1], ?_, ?_, ?_, ?_⟩, HF.out.2⟩
        · rw [n1]
          exact ⟨A, cp, by rw [HNT.out], by rw [← HNT.out]; exact HAT.out.1, HAT.out.2, by rw [← HNT.out]; exact HP⟩
        · rw [n1]
          exact ⟨A2, cp2, by rw [HNV.out], by rw [← HNV.out]; exact HQ⟩
        · intro _ _ _ e ad e2
          injection e with e
          subst e
          exact (FAR.out.1 _ e2).1
        · intro _ _ _ e ad e2
          injection e with e
          subst e
          exact (FAR.out.2 _ e2).1
      · have hz2 : (rc != 0) = true := by simpa using hz
        have HN : Hid (rdC s = none) := Lib.hid (by
          unfold rdC
          rw [HR.out]
          simp only [Option.bind_some]
          rw [if_neg (by rw [← HRC.out]; exact hz)])
        have HF : Hid (Br (((((w9.setCell ⟨R, 0, none⟩ (.int .i64 0)).setCell ⟨R, 1, none⟩ (.slice none 0 0)).setCell ⟨R, 2, none⟩ (.slice none 0 0)).setCell ⟨R, 3, none⟩ (.int .i64 0)).setCell ⟨R, 4, none⟩ (.bool false)) R #[.int .i64 0, .slice none 0 0, .slice none 0 0, .int .i64 0, .bool false] ∧ Below w.heap.size w (((((w9.setCell ⟨R, 0, none⟩ (.int .i64 0)).setCell ⟨R, 1, none⟩ (.slice none 0 0)).setCell ⟨R, 2, none⟩ (.slice none 0 0)).setCell ⟨R, 3, none⟩ (.int .i64 0)).setCell ⟨R, 4, none⟩ (.bool false))) := Lib.hid ⟨B0.out.fill (.int .i64 0) (.slice none 0 0) (.slice none 0 0) (.int .i64 0) (.bool false), below_fill B3.out HRw.out (.int .i64 0) (.slice none 0 0) (.slice none 0 0) (.int .i64 0) (.bool false)⟩
        go_wp2
        generalize (((((w9.setCell ⟨R, 0, none⟩ (.int .i64 0)).setCell ⟨R, 1, none⟩ (.slice none 0 0)).setCell ⟨R, 2, none⟩ (.slice none 0 0)).setCell ⟨R, 3, none⟩ (.int .i64 0)).setCell ⟨R, 4, none⟩ (.bool false)) = WZ at HF ⊢
        have z0 := HF.out.1.at_ 0 rfl
        have z1 := HF.out.1.at_ 1 rfl
        have z2 := HF.out.1.at_ 2 rfl
        have z3 := HF.out.1.at_ 3 rfl
        have z4 := HF.out.1.at_ 4 rfl
        obtain ⟨n1, n2, n3⟩ := rd_none HN.out
        exact bodyPost_ret (v := .tuple #[chV ch0 (.slice none 0 0) (.slice none 0 0), .string (ofBytes []), .bool false]) (by simp [results, Try.results14, go_sem, z0, z1, z2, z3, z4, chV, ch0, ofBytes]) rfl ⟨⟨_, _, by rw [n1, n2, n3], by rw [n1]; exact prd_nil _, by rw [n1]; exact Vrd.nil_ _, NewS.nil_ _, NewS.nil_ _⟩, HF.out.2⟩
end Go.Proofs.Ytdjbdhfellofoaa.Do
