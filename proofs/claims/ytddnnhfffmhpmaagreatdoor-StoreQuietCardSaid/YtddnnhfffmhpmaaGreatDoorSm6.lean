/- Own texts, merged (6 of 42). -/
import Derived.Test.YtddnnhfffmhpmaaGreatDoorSm2
import Derived.Deep.RegionHeld3
import Derived.RangeFuncCalls
import Derived.OrdersIn
import Derived.OwnWalkIn
import Derived.LaidEqlPtr
import Derived.Maps.OwnSet
import Derived.Maps.RangeWalk

/- A region that draws its order, in a number of steps that grows with its operations, not with its orders: each operation's value is told by a property that stays as memory is made. -/
namespace Go.Proofs.YtddnnhfffmhpmaaGreatDoor
open Go.RowKit

/-- of what was there only blocks of S have turned -/
structure Turned (S : Nat → Prop) (w w' : World) : Prop where
  os : w'.os = w.os
  tape : w'.tape = w.tape
  output : w'.output = w.output
  size : w.heap.size ≤ w'.heap.size
  block : ∀ k, k < w.heap.size → ¬ S k → w'.heap[k]? = w.heap[k]?
section
variable {S : Nat → Prop} {w w' w'' : World}
theorem Turned.refl (S : Nat → Prop) (w : World) : Turned S w w := ⟨rfl, rfl, rfl, Nat.le_refl _, fun _ _ _ => rfl⟩
theorem Turned.trans (h1 : Turned S w w') (h2 : Turned S w' w'') : Turned S w w'' :=
  ⟨h2.os.trans h1.os, h2.tape.trans h1.tape, h2.output.trans h1.output, Nat.le_trans h1.size h2.size, fun k hk hs => (h2.block k (Nat.lt_of_lt_of_le hk h1.size) hs).trans (h1.block k hk hs)⟩
theorem Turned.wide {T : Nat → Prop} (h : Turned S w w') (hT : ∀ k, S k → T k) : Turned T w w' := ⟨h.os, h.tape, h.output, h.size, fun k hk hs => h.block k hk (fun x => hs (hT k x))⟩
theorem Turned.of_grown {b : Nat} (h : w.grownBy w' (some b)) (hS : S b) : Turned S w w' :=
  ⟨h.os, h.tape, h.output, h.size, fun k hk hs => h.block k hk (fun e => hs (by injection e with e; rw [e]; exact hS))⟩
theorem Turned.set_ (h : Turned S w w') {b : Nat} (hS : S b) (i : Nat) (u : Value) : Turned S w (w'.setCell ⟨b, i, none⟩ u) :=
  h.trans (Turned.of_grown (only_set (World.grownBy.refl w' _) i u) hS)
theorem Turned.alloc (h : Turned S w w') (o : Obj) : Turned S w (w'.alloc o) :=
  ⟨h.os, h.tape, h.output, Nat.le_trans h.size (by simp), fun k hk hs => (Below.heap_alloc w' o k (Nat.lt_of_lt_of_le hk h.size)).trans (h.block k hk hs)⟩
theorem Turned.cell (h : Turned S w w') {p : Addr} (hp : p.block < w.heap.size) (hS : ¬ S p.block) : w'.cell? p = w.cell? p := World.cell?_of_block (h.block p.block hp hS)
theorem Turned.frozen (h : Turned S w w') {p : Addr} (hp : p.block < w.heap.size) (hS : ¬ S p.block) : w'.frozen? p = w.frozen? p := World.frozen?_of_block (h.block p.block hp hS)
theorem Turned.grown (h : Turned S w w') {b : Nat} (hS : ∀ k, k < w.heap.size → S k → k = b) : w.grownBy w' (some b) :=
  ⟨h.os, h.tape, h.output, h.size, fun k hk hne => h.block k hk (fun s => hne (by rw [hS k hk s]))⟩
/-- blocks that are new may turn besides -/
theorem Turned.from_new (h1 : Turned S w w') (h2 : Turned (fun k => S k ∨ w.heap.size ≤ k) w' w'') : Turned S w w'' :=
  ⟨h2.os.trans h1.os, h2.tape.trans h1.tape, h2.output.trans h1.output, Nat.le_trans h1.size h2.size, fun k hk hs => (h2.block k (Nat.lt_of_lt_of_le hk h1.size) (fun x => x.elim hs (fun y => by omega))).trans (h1.block k hk hs)⟩
end
theorem Turned.drew {S : Nat → Prop} {w w' : World} (h : Turned S w w') : Turned S w w'.drew := ⟨h.os, h.tape, h.output, h.size, h.block⟩
theorem Turned.of_below {S : Nat → Prop} {w w' : World} (h : Below w.heap.size w w') : Turned S w w' := ⟨h.os, h.tape, h.output, h.size, fun k hk _ => h.block k hk⟩
/-- made memory behind a turned world -/
theorem Turned.on {S : Nat → Prop} {w w' w'' : World} (h : Turned S w w') (hb : Below w'.heap.size w' w'') : Turned S w w'' := h.trans (Turned.of_below hb)
/-- seen from a world ahead of the blocks that turned -/
theorem Turned.below {S : Nat → Prop} {u w w' : World} (h : Turned S w w') (hu : Below u.heap.size u w) (hS : ∀ k, S k → u.heap.size ≤ k) : Below u.heap.size u w' :=
  hu.trans ⟨h.os, h.tape, h.output, h.size, fun k hk => h.block k (Nat.lt_of_lt_of_le hk hu.size) (fun s => absurd (hS k s) (by omega))⟩
section
variable {P : Program} {ops : Array Oper} {Q : Exit → Act → World → Prop}

end
/-! small things that every layer's walks use -/
theorem frozen_of_cells {w : World} {k i : Nat} {cs : Array Value} {t : TypeId} (h : w.heap[k]? = some (.cells cs t (0, 0))) : w.frozen? ⟨k, i, none⟩ = false := by simp [World.frozen?, h]
theorem cell_of_cells {w : World} {k i : Nat} {cs : Array Value} {t : TypeId} {v : Value} (h : w.heap[k]? = some (.cells cs t (0, 0))) (hv : cs[i]? = some v) : w.cell? ⟨k, i, none⟩ = some v := by simp [World.cell?, h, hv]
theorem below_block {B : Nat} {w w' : World} {k : Nat} {o : Obj} (hb : Below B w w') (hk : k < B) (h : w.heap[k]? = some o) : w'.heap[k]? = some o := (hb.block k hk).trans h
theorem blk_stay {w w' : World} {k : Nat} {o : Obj} (hb : Below w.heap.size w w') (h : w.heap[k]? = some o) : w'.heap[k]? = some o := below_block hb (Array.getElem?_eq_some_iff.1 h).1 h
theorem pl1 (w : World) (a : Obj) : Below w.heap.size w (w.alloc a) := (Below.refl _ _).alloc (Nat.le_refl _) _
theorem below_drewN_p (w : World) : ∀ n, Below w.heap.size w (w.drewN n)
  | 0 => Below.refl _ _
  | n + 1 => (below_drewN_p w n).drew
end Go.Proofs.YtddnnhfffmhpmaaGreatDoor

/- Steps, done one behind the other. -/
namespace Go.Proofs.YtddnnhfffmhpmaaGreatDoor.St
open Go.RowKit Go.Proofs.YtddnnhfffmhpmaaGreatDoor

/-- the function value v, called in W, ends so -/
def Stp (v : Value) (W : World) (post : Ending → World → Prop) : Prop := ∃ f bd cp, v = .func (.func f) bd cp ∧ (∀ args w, (callFunc f args).run Tryz.prog w = .ok (.enter f args) w) ∧ Calls Tryz.prog f (bd ++ cp) W post
/-- how a row of steps ends: all done, or one with an error -/
def OrdEnd (P : World → Prop) (Q : World → Int → Prop) (e : Ending) (w' : World) : Prop := (e = .returned (.int .i64 0) ∧ P w') ∨ ∃ c : Int, c ≠ 0 ∧ e = .returned (.int .i64 c) ∧ Q w' c
set_option maxHeartbeats 1600000 in
set_option maxRecDepth 100000 in
theorem inorder_any (w : World) (g n cp : Nat) (vs : List Value) (hn : vs.length = n) (hn9 : n ≤ 1000000000) (P : Nat → World → Prop) (Q : World → Int → Prop) (h0 : P 0 w) (hcell : ∀ i W, P i W → ∀ j (h : j < vs.length), W.cell? ⟨g, j, none⟩ = some vs[j])
    (hstep : ∀ i (h : i < vs.length) W, P i W → Stp vs[i] W (OrdEnd (P (i + 1)) Q)) :
    Calls Tryz.prog 29 #[.slice (some ⟨g, 0, none⟩) n cp] w (OrdEnd (P n) Q) := by
  have HC := Lib.hid hcell
  have HS := Lib.hid hstep
  have HN := Lib.hid hn
  clear hcell hstep hn
  go_enter Tryz.func29, Tryz.ntmps29
  go_wp2
  go_loopw [8] (fun x wr => ∃ k : Nat, x = .int .i64 k ∧ k ≤ n ∧ P k wr) (fun x _ => n - (intOf x).toNat)
  case atStart => exact ⟨0, rfl, Nat.zero_le _, h0⟩
  case round =>
    obtain ⟨k, rfl, hkn, hP⟩ := hrel
    by_cases hlt : k < n
    · have hmi : (k : Int) < (n : Int) := by omega
      have hkl : k < vs.length := by rw [HN.out]; exact hlt
      have c0 := HC.out k wr hP k hkl
      obtain ⟨f, bd, cp', hv, hcall, hst⟩ := HS.out k hkl wr hP
      rw [hv] at c0
      have HST := Lib.hid hst
      clear hst hv hP
      go_wp2_with fail
      refine HST.out.mono ?_
      rintro e w2 (⟨rfl, hp⟩ | ⟨c, hc, rfl, hq⟩)
      · have HP := Lib.hid hp
        clear hp hcall c0
        go_wp2
        go_roundw
        case rel => exact ⟨k + 1, by go_num, by omega, HP.out⟩
        case measure => simp [intOf]; omega
      · have HQ := Lib.hid hq
        have hb : ((c : Int) != 0) = true := by simpa using hc
        clear hq hcall c0
        go_wp2
        go_ret
        exact .inr ⟨c, hc, rfl, HQ.out⟩
    · have hmi : ¬ (k : Int) < (n : Int) := by omega
      obtain rfl : k = n := by omega
      have HP := Lib.hid hP
      clear hP
      go_wp2
      go_ret
      exact .inl ⟨rfl, HP.out⟩
set_option maxRecDepth 100000 in
theorem inorder_none (w : World) (P : World → Prop) (Q : World → Int → Prop) (h0 : P w) :
    Calls Tryz.prog 29 #[.slice none 0 0] w (OrdEnd P Q) := by
  have H0 := Lib.hid h0
  clear h0
  go_enter Tryz.func29, Tryz.ntmps29
  go_wp2
  refine wp_loop_rounds 1 ?_
  rw [rounds_succ]
  go_wp2
  go_ret
  exact .inl ⟨rfl, H0.out⟩
end Go.Proofs.YtddnnhfffmhpmaaGreatDoor.St

/- A map[int]struct{} of one's own: which numbers it holds. -/
namespace Go.Proofs.YtddnnhfffmhpmaaGreatDoor.Ks
open Go.RowKit Go.Proofs.YtddnnhfffmhpmaaGreatDoor Go.Maps

abbrev KD := DataW Unit
def keyL (d : Int) : Lit := .int .i64 d
theorem keyL_ne {d e : Int} (h : d ≠ e) : keyL d ≠ keyL e := fun k => by
  unfold keyL at k
  injection k with _ k
  exact h k
theorem key_law : Keyed Tryz.prog 3 := int_keyed Tryz.underlying3
theorem key_is {d : Int} (h : -9223372036854775808 ≤ d ∧ d ≤ 9223372036854775807) : keyOf Tryz.prog 3 (.int .i64 d) = some (keyL d) := keyOf_int_mk Tryz.underlying3 (WalkArith.wf_i64 (by omega))
theorem mk_hint (n : Nat) (w : World) : (Instr.makeMap 189 (some (.int .i64 (n : Int)))).run Tryz.prog w = .ok (.map (some w.heap.size)) (w.alloc (.map #[] 0)) := by
  simp [Instr.makeMap, run_underlying Tryz.underlying189, asInt, asIntOf, Result.andThen]
theorem zero_unit (w : World) : (zeroValue 63).run Tryz.prog w = .ok (.agg #[]) w := by kernel_rfl
abbrev OwnU (w : World) (b n : Nat) (D : KD) : Prop := w.ownsMap Tryz.prog 3 (unitElem (H := Unit)) b n D
theorem OwnU.later {w w' : World} {b n : Nat} {D : KD} (h : OwnU w b n D) (hb : Below w.heap.size w w') : OwnU w' b n D := by
  have hg : w.grownBy w' none := ⟨hb.os, hb.tape, hb.output, hb.size, fun k hk _ => hb.block k hk⟩
  exact h.kept hg (by simp)
/-- the map's datum D is the set S -/
structure RepU (D : KD) (S : List Int) : Prop where
  map : IsMap D
  has : ∀ d, Maps.has D (keyL d) = decide (d ∈ S)
theorem RepU.none_ : RepU (.map [] : KD) [] := ⟨⟨[], rfl⟩, fun _ => rfl⟩
theorem RepU.put {D : KD} {S : List Int} (h : RepU D S) (d : Int) : RepU (D.put (keyL d) (.agg [])) (S ++ [d]) := by
  refine ⟨h.map.put _ _, fun e => ?_⟩
  by_cases c : e = d
  · subst c
    rw [has_put_same h.map (show WideAt.IsKeyLit (keyL e) from trivial)]
    simp
  · rw [has_put_other (keyL_ne c), h.has e]
    simp [c]
end Go.Proofs.YtddnnhfffmhpmaaGreatDoor.Ks

/- What is kept in a region: cells, and that nothing older has turned (made by a program). -/
namespace Go.Proofs.YtddnnhfffmhpmaaGreatDoor.Kp
open Go.RowKit Go.Proofs.YtddnnhfffmhpmaaGreatDoor

theorem ck {X w1 : World} {p : Addr} {v : Value} (hb : Below X.heap.size X w1) (h : X.cell? p = some v) : w1.cell? p = some v := (hb.cell (World.block_lt_of_cell? X _ h)).trans h
theorem c1 {V X w1 : World} {p0 : Addr} {v0 : Value} (hb : Below X.heap.size X w1) (h : X.cell? p0 = some v0 ∧ Below V.heap.size V X) : w1.cell? p0 = some v0 ∧ Below V.heap.size V w1 := ⟨ck hb h.1, h.2.trans (hb.mono h.2.size)⟩
theorem a1 {V X : World} {p0 : Addr} {v0 : Value} {o : Obj} (h : X.cell? p0 = some v0 ∧ Below V.heap.size V X) : (X.alloc o).cell? p0 = some v0 ∧ Below V.heap.size V (X.alloc o) := c1 ((Below.refl _ _).alloc (Nat.le_refl _) _) h
theorem d1 {V : World} {p0 : Addr} {v0 : Value} (h0 : V.cell? p0 = some v0) : V.drew.cell? p0 = some v0 ∧ Below V.heap.size V V.drew := ⟨h0, (Below.refl _ _).drew⟩
theorem c2 {V X w1 : World} {p0 p1 : Addr} {v0 v1 : Value} (hb : Below X.heap.size X w1) (h : X.cell? p0 = some v0 ∧ X.cell? p1 = some v1 ∧ Below V.heap.size V X) : w1.cell? p0 = some v0 ∧ w1.cell? p1 = some v1 ∧ Below V.heap.size V w1 := ⟨ck hb h.1, ck hb h.2.1, h.2.2.trans (hb.mono h.2.2.size)⟩
theorem a2 {V X : World} {p0 p1 : Addr} {v0 v1 : Value} {o : Obj} (h : X.cell? p0 = some v0 ∧ X.cell? p1 = some v1 ∧ Below V.heap.size V X) : (X.alloc o).cell? p0 = some v0 ∧ (X.alloc o).cell? p1 = some v1 ∧ Below V.heap.size V (X.alloc o) := c2 ((Below.refl _ _).alloc (Nat.le_refl _) _) h
theorem d2 {V : World} {p0 p1 : Addr} {v0 v1 : Value} (h0 : V.cell? p0 = some v0) (h1 : V.cell? p1 = some v1) : V.drew.cell? p0 = some v0 ∧ V.drew.cell? p1 = some v1 ∧ Below V.heap.size V V.drew := ⟨h0, h1, (Below.refl _ _).drew⟩
theorem c3 {V X w1 : World} {p0 p1 p2 : Addr} {v0 v1 v2 : Value} (hb : Below X.heap.size X w1) (h : X.cell? p0 = some v0 ∧ X.cell? p1 = some v1 ∧ X.cell? p2 = some v2 ∧ Below V.heap.size V X) : w1.cell? p0 = some v0 ∧ w1.cell? p1 = some v1 ∧ w1.cell? p2 = some v2 ∧ Below V.heap.size V w1 := ⟨ck hb h.1, ck hb h.2.1, ck hb h.2.2.1, h.2.2.2.trans (hb.mono h.2.2.2.size)⟩
theorem a3 {V X : World} {p0 p1 p2 : Addr} {v0 v1 v2 : Value} {o : Obj} (h : X.cell? p0 = some v0 ∧ X.cell? p1 = some v1 ∧ X.cell? p2 = some v2 ∧ Below V.heap.size V X) : (X.alloc o).cell? p0 = some v0 ∧ (X.alloc o).cell? p1 = some v1 ∧ (X.alloc o).cell? p2 = some v2 ∧ Below V.heap.size V (X.alloc o) := c3 ((Below.refl _ _).alloc (Nat.le_refl _) _) h
theorem d3 {V : World} {p0 p1 p2 : Addr} {v0 v1 v2 : Value} (h0 : V.cell? p0 = some v0) (h1 : V.cell? p1 = some v1) (h2 : V.cell? p2 = some v2) : V.drew.cell? p0 = some v0 ∧ V.drew.cell? p1 = some v1 ∧ V.drew.cell? p2 = some v2 ∧ Below V.heap.size V V.drew := ⟨h0, h1, h2, (Below.refl _ _).drew⟩
theorem c4 {V X w1 : World} {p0 p1 p2 p3 : Addr} {v0 v1 v2 v3 : Value} (hb : Below X.heap.size X w1) (h : X.cell? p0 = some v0 ∧ X.cell? p1 = some v1 ∧ X.cell? p2 = some v2 ∧ X.cell? p3 = some v3 ∧ Below V.heap.size V X) : w1.cell? p0 = some v0 ∧ w1.cell? p1 = some v1 ∧ w1.cell? p2 = some v2 ∧ w1.cell? p3 = some v3 ∧ Below V.heap.size V w1 := ⟨ck hb h.1, ck hb h.2.1, ck hb h.2.2.1, ck hb h.2.2.2.1, h.2.2.2.2.trans (hb.mono h.2.2.2.2.size)⟩
theorem a4 {V X : World} {p0 p1 p2 p3 : Addr} {v0 v1 v2 v3 : Value} {o : Obj} (h : X.cell? p0 = some v0 ∧ X.cell? p1 = some v1 ∧ X.cell? p2 = some v2 ∧ X.cell? p3 = some v3 ∧ Below V.heap.size V X) : (X.alloc o).cell? p0 = some v0 ∧ (X.alloc o).cell? p1 = some v1 ∧ (X.alloc o).cell? p2 = some v2 ∧ (X.alloc o).cell? p3 = some v3 ∧ Below V.heap.size V (X.alloc o) := c4 ((Below.refl _ _).alloc (Nat.le_refl _) _) h
theorem d4 {V : World} {p0 p1 p2 p3 : Addr} {v0 v1 v2 v3 : Value} (h0 : V.cell? p0 = some v0) (h1 : V.cell? p1 = some v1) (h2 : V.cell? p2 = some v2) (h3 : V.cell? p3 = some v3) : V.drew.cell? p0 = some v0 ∧ V.drew.cell? p1 = some v1 ∧ V.drew.cell? p2 = some v2 ∧ V.drew.cell? p3 = some v3 ∧ Below V.heap.size V V.drew := ⟨h0, h1, h2, h3, (Below.refl _ _).drew⟩
theorem c5 {V X w1 : World} {p0 p1 p2 p3 p4 : Addr} {v0 v1 v2 v3 v4 : Value} (hb : Below X.heap.size X w1) (h : X.cell? p0 = some v0 ∧ X.cell? p1 = some v1 ∧ X.cell? p2 = some v2 ∧ X.cell? p3 = some v3 ∧ X.cell? p4 = some v4 ∧ Below V.heap.size V X) : w1.cell? p0 = some v0 ∧ w1.cell? p1 = some v1 ∧ w1.cell? p2 = some v2 ∧ w1.cell? p3 = some v3 ∧ w1.cell? p4 = some v4 ∧ Below V.heap.size V w1 := ⟨ck hb h.1, ck hb h.2.1, ck hb h.2.2.1, ck hb h.2.2.2.1, ck hb h.2.2.2.2.1, h.2.2.2.2.2.trans (hb.mono h.2.2.2.2.2.size)⟩
theorem a5 {V X : World} {p0 p1 p2 p3 p4 : Addr} {v0 v1 v2 v3 v4 : Value} {o : Obj} (h : X.cell? p0 = some v0 ∧ X.cell? p1 = some v1 ∧ X.cell? p2 = some v2 ∧ X.cell? p3 = some v3 ∧ X.cell? p4 = some v4 ∧ Below V.heap.size V X) : (X.alloc o).cell? p0 = some v0 ∧ (X.alloc o).cell? p1 = some v1 ∧ (X.alloc o).cell? p2 = some v2 ∧ (X.alloc o).cell? p3 = some v3 ∧ (X.alloc o).cell? p4 = some v4 ∧ Below V.heap.size V (X.alloc o) := c5 ((Below.refl _ _).alloc (Nat.le_refl _) _) h
theorem c6 {V X w1 : World} {p0 p1 p2 p3 p4 p5 : Addr} {v0 v1 v2 v3 v4 v5 : Value} (hb : Below X.heap.size X w1) (h : X.cell? p0 = some v0 ∧ X.cell? p1 = some v1 ∧ X.cell? p2 = some v2 ∧ X.cell? p3 = some v3 ∧ X.cell? p4 = some v4 ∧ X.cell? p5 = some v5 ∧ Below V.heap.size V X) : w1.cell? p0 = some v0 ∧ w1.cell? p1 = some v1 ∧ w1.cell? p2 = some v2 ∧ w1.cell? p3 = some v3 ∧ w1.cell? p4 = some v4 ∧ w1.cell? p5 = some v5 ∧ Below V.heap.size V w1 := ⟨ck hb h.1, ck hb h.2.1, ck hb h.2.2.1, ck hb h.2.2.2.1, ck hb h.2.2.2.2.1, ck hb h.2.2.2.2.2.1, h.2.2.2.2.2.2.trans (hb.mono h.2.2.2.2.2.2.size)⟩
theorem a6 {V X : World} {p0 p1 p2 p3 p4 p5 : Addr} {v0 v1 v2 v3 v4 v5 : Value} {o : Obj} (h : X.cell? p0 = some v0 ∧ X.cell? p1 = some v1 ∧ X.cell? p2 = some v2 ∧ X.cell? p3 = some v3 ∧ X.cell? p4 = some v4 ∧ X.cell? p5 = some v5 ∧ Below V.heap.size V X) : (X.alloc o).cell? p0 = some v0 ∧ (X.alloc o).cell? p1 = some v1 ∧ (X.alloc o).cell? p2 = some v2 ∧ (X.alloc o).cell? p3 = some v3 ∧ (X.alloc o).cell? p4 = some v4 ∧ (X.alloc o).cell? p5 = some v5 ∧ Below V.heap.size V (X.alloc o) := c6 ((Below.refl _ _).alloc (Nat.le_refl _) _) h
theorem c7 {V X w1 : World} {p0 p1 p2 p3 p4 p5 p6 : Addr} {v0 v1 v2 v3 v4 v5 v6 : Value} (hb : Below X.heap.size X w1) (h : X.cell? p0 = some v0 ∧ X.cell? p1 = some v1 ∧ X.cell? p2 = some v2 ∧ X.cell? p3 = some v3 ∧ X.cell? p4 = some v4 ∧ X.cell? p5 = some v5 ∧ X.cell? p6 = some v6 ∧ Below V.heap.size V X) : w1.cell? p0 = some v0 ∧ w1.cell? p1 = some v1 ∧ w1.cell? p2 = some v2 ∧ w1.cell? p3 = some v3 ∧ w1.cell? p4 = some v4 ∧ w1.cell? p5 = some v5 ∧ w1.cell? p6 = some v6 ∧ Below V.heap.size V w1 := ⟨ck hb h.1, ck hb h.2.1, ck hb h.2.2.1, ck hb h.2.2.2.1, ck hb h.2.2.2.2.1, ck hb h.2.2.2.2.2.1, ck hb h.2.2.2.2.2.2.1, h.2.2.2.2.2.2.2.trans (hb.mono h.2.2.2.2.2.2.2.size)⟩
theorem a7 {V X : World} {p0 p1 p2 p3 p4 p5 p6 : Addr} {v0 v1 v2 v3 v4 v5 v6 : Value} {o : Obj} (h : X.cell? p0 = some v0 ∧ X.cell? p1 = some v1 ∧ X.cell? p2 = some v2 ∧ X.cell? p3 = some v3 ∧ X.cell? p4 = some v4 ∧ X.cell? p5 = some v5 ∧ X.cell? p6 = some v6 ∧ Below V.heap.size V X) : (X.alloc o).cell? p0 = some v0 ∧ (X.alloc o).cell? p1 = some v1 ∧ (X.alloc o).cell? p2 = some v2 ∧ (X.alloc o).cell? p3 = some v3 ∧ (X.alloc o).cell? p4 = some v4 ∧ (X.alloc o).cell? p5 = some v5 ∧ (X.alloc o).cell? p6 = some v6 ∧ Below V.heap.size V (X.alloc o) := c7 ((Below.refl _ _).alloc (Nat.le_refl _) _) h
theorem c8 {V X w1 : World} {p0 p1 p2 p3 p4 p5 p6 p7 : Addr} {v0 v1 v2 v3 v4 v5 v6 v7 : Value} (hb : Below X.heap.size X w1) (h : X.cell? p0 = some v0 ∧ X.cell? p1 = some v1 ∧ X.cell? p2 = some v2 ∧ X.cell? p3 = some v3 ∧ X.cell? p4 = some v4 ∧ X.cell? p5 = some v5 ∧ X.cell? p6 = some v6 ∧ X.cell? p7 = some v7 ∧ Below V.heap.size V X) : w1.cell? p0 = some v0 ∧ w1.cell? p1 = some v1 ∧ w1.cell? p2 = some v2 ∧ w1.cell? p3 = some v3 ∧ w1.cell? p4 = some v4 ∧ w1.cell? p5 = some v5 ∧ w1.cell? p6 = some v6 ∧ w1.cell? p7 = some v7 ∧ Below V.heap.size V w1 := ⟨ck hb h.1, ck hb h.2.1, ck hb h.2.2.1, ck hb h.2.2.2.1, ck hb h.2.2.2.2.1, ck hb h.2.2.2.2.2.1, ck hb h.2.2.2.2.2.2.1, ck hb h.2.2.2.2.2.2.2.1, h.2.2.2.2.2.2.2.2.trans (hb.mono h.2.2.2.2.2.2.2.2.size)⟩
theorem a8 {V X : World} {p0 p1 p2 p3 p4 p5 p6 p7 : Addr} {v0 v1 v2 v3 v4 v5 v6 v7 : Value} {o : Obj} (h : X.cell? p0 = some v0 ∧ X.cell? p1 = some v1 ∧ X.cell? p2 = some v2 ∧ X.cell? p3 = some v3 ∧ X.cell? p4 = some v4 ∧ X.cell? p5 = some v5 ∧ X.cell? p6 = some v6 ∧ X.cell? p7 = some v7 ∧ Below V.heap.size V X) : (X.alloc o).cell? p0 = some v0 ∧ (X.alloc o).cell? p1 = some v1 ∧ (X.alloc o).cell? p2 = some v2 ∧ (X.alloc o).cell? p3 = some v3 ∧ (X.alloc o).cell? p4 = some v4 ∧ (X.alloc o).cell? p5 = some v5 ∧ (X.alloc o).cell? p6 = some v6 ∧ (X.alloc o).cell? p7 = some v7 ∧ Below V.heap.size V (X.alloc o) := c8 ((Below.refl _ _).alloc (Nat.le_refl _) _) h
end Go.Proofs.YtddnnhfffmhpmaaGreatDoor.Kp

/- Blocks made in a row. -/
namespace Go.Proofs.YtddnnhfffmhpmaaGreatDoor
open Go.RowKit

def als (w : World) : List Obj → World
  | [] => w
  | o :: r => als (w.alloc o) r
theorem als_below : ∀ (os : List Obj) (w : World), Below w.heap.size w (als w os)
  | [], w => Below.refl _ _
  | o :: r, w => (pl1 w o).trans ((als_below r (w.alloc o)).mono (by simp))
theorem als_at : ∀ (os : List Obj) (w : World) (i : Nat) (h : i < os.length), (als w os).heap[w.heap.size + i]? = some os[i]
  | [], w, i, h => by simp at h
  | o :: r, w, 0, _ => by
    show (als (w.alloc o) r).heap[w.heap.size]? = some o
    exact blk_stay (als_below r (w.alloc o)) (heap_alloc_new w o)
  | o :: r, w, i + 1, h => by
    have := als_at r (w.alloc o) i (by simpa using h)
    rw [show (w.alloc o).heap.size = w.heap.size + 1 from by simp] at this
    rw [show w.heap.size + (i + 1) = w.heap.size + 1 + i by omega]
    exact this
end Go.Proofs.YtddnnhfffmhpmaaGreatDoor
