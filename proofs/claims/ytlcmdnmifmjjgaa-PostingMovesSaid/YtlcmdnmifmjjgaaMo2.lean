/- Own texts, merged (2 of 9). -/
import Derived.RangeFuncNested
import Derived.RangeFuncBound
import Derived.RangeFuncCalls
import Derived.RangeFuncLeaves
import Derived.Shelf.Abstract
import Derived.Shelf.RegionOpen
import Derived.WalkKit
import Derived.OwnWalkIn
import Derived.TacticsInMore
import Derived.LoopNIn
import Derived.LoopIn
import Derived.Laws.IdiomStrings
import Derived.Laws.AppendOwnNone
import Derived.Lib.Strings
import Derived.Lib.BufferWrite
import Derived.Lib.UnsafeStr
import Derived.Lib.IndexBytes
import Derived.Laws.MakeOwn
import Derived.Test.YtlcmdnmifmjjgaaMo1

/- Posts: the iterator that cuts into pieces. -/
namespace Go.Proofs.Ytlcmdnmifmjjgaa
open Go.RowKit Go.Shelf

attribute [local go_sem] Oper.semAt_some

/-- piece number i of N things, s in each -/
abbrev Pc (N s : Nat) := { i : Nat // i * s < N }
def encP (N s : Nat) (i : Pc N s) : Array Value := #[.int .i64 ((i.1 * s : Nat) : Int), .int .i64 ((min (i.1 * s + s) N : Nat) : Int)]
def pcNo {N s : Nat} (l : List (Pc N s)) : List Nat := l.map (·.1)
theorem pcNo_succ {N s k : Nat} {l : List (Pc N s)} (h : pcNo l = List.range k) (hk : k * s < N) : pcNo (l ++ [⟨k, hk⟩]) = List.range (k + 1) := by
  unfold pcNo at *
  rw [List.map_append, h, List.range_succ]
  rfl
theorem pcNo_len {N s k : Nat} {l : List (Pc N s)} (h : pcNo l = List.range k) : l.length = k := by
  have := congrArg List.length h
  simpa [pcNo] using this

/-- two blocks stay -/
def Keep2 (p q : Nat) (W W' : World) : Prop := W'.heap[p]? = W.heap[p]? ∧ W'.heap[q]? = W.heap[q]?
theorem Keep2.refl (p q : Nat) (W : World) : Keep2 p q W W := ⟨rfl, rfl⟩
theorem Keep2.trans {p q : Nat} {A B C : World} (h : Keep2 p q A B) (k : Keep2 p q B C) : Keep2 p q A C := ⟨k.1.trans h.1, k.2.trans h.2⟩
theorem Keep2.below {p q B : Nat} {W W' : World} (h : Below B W W') (hp : p < B) (hq : q < B) : Keep2 p q W W' := ⟨h.block p hp, h.block q hq⟩
theorem Keep2.put_ {p q k : Nat} {W : World} {o : Obj} (hp : p ≠ k) (hq : q ≠ k) : Keep2 p q W (W.putObj k o) := ⟨World.putObj_heap_other hp, World.putObj_heap_other hq⟩
set_option maxHeartbeats 1000000 in
set_option maxRecDepth 100000 in
/-- 'pieces': the numbers are boxed, the function value holds the boxes -/
theorem pieces_any (N s : Int) (w : World) :
    Calls Try.prog 41 #[.int .i64 N, .int .i64 s] w fun e w' => e = .returned (.func (.func 57) #[] #[.pointer (some ⟨w.heap.size, 0, none⟩), .pointer (some ⟨w.heap.size + 1, 0, none⟩)]) ∧ w' = (w.alloc (.cells #[.int .i64 N] 3)).alloc (.cells #[.int .i64 s] 3) := by
  go_enter Try.func41, Try.ntmps41
  go_wp2
  go_ret
  exact ⟨rfl, rfl⟩

set_option maxRecDepth 100000 in
set_option maxHeartbeats 2000000 in
theorem pieces1_in (F : Fence) (n : Nat) (h7 : F.fn 57) (hro : F.round = none) (hn : 1 ≤ n) (r Bn Bs N s : Nat) (hs : 0 < s) (hs2 : s ≤ 65536) (hN : N ≤ 1000000000) (J Jx : List (Pc N s) → World → Prop)
    (hY : ∀ pre x W, J pre W → pre.length < N → YieldAt F (n - 1) Try.prog r (encP N s x) W fun e W' =>
      (e = .returned (.bool true) ∧ J (pre ++ [x]) W' ∧ Keep2 Bn Bs W W') ∨ (e = .returned (.bool false) ∧ Jx (pre ++ [x]) W'))
    (W : World) (hcn : W.cell? ⟨Bn, 0, none⟩ = some (.int .i64 (N : Int))) (hcs : W.cell? ⟨Bs, 0, none⟩ = some (.int .i64 (s : Int))) (h0 : J [] W) :
    CallsIn F n Try.prog 57 #[.func (.yield r) #[] #[], .pointer (some ⟨Bn, 0, none⟩), .pointer (some ⟨Bs, 0, none⟩)] W fun e W' => (∃ v, e = .returned v) ∧
      ((∃ ys, (∃ k, pcNo ys = List.range k ∧ N ≤ k * s) ∧ J ys W') ∨ (∃ pre, True ∧ Jx pre W')) := by
  refine callsIn_of_wp Try.func57 rfl h7 ?_ hro
  simp only [Try.ntmps57, List.size_toArray, List.length_cons, List.length_nil, Nat.reduceAdd, Nat.reduceSub, Array.replicate_succ, Array.replicate_zero, List.push_toArray, List.append_toArray, List.nil_append, List.cons_append]
  gi_wp2
  gi_loopw [4] (fun x wr => ∃ (k f : Nat) (pre : List (Pc N s)), f = k * s ∧ x = .int .i64 f ∧ f ≤ N + s ∧ pcNo pre = List.range k ∧ J pre wr ∧ Keep2 Bn Bs W wr) (fun x _ => N - (intOf x).toNat)
  case atStart => exact ⟨0, 0, [], by simp, rfl, by omega, rfl, h0, Keep2.refl _ _ _⟩
  case round =>
    obtain ⟨k, f, pre, hf, rfl, hfl, hpn, hJs, hnx⟩ := hrel
    have kn := (World.cell?_of_block (a := ⟨Bn, 0, none⟩) hnx.1).trans hcn
    have ks := (World.cell?_of_block (a := ⟨Bs, 0, none⟩) hnx.2).trans hcs
    by_cases hlt : f < N
    · have hkN : k < N := by
        have : k ≤ k * s := Nat.le_mul_of_pos_right k hs
        omega
      have hks : k * s < N := by rw [← hf]; exact hlt
      obtain ⟨fn, tmps, assign, body, hy, hR⟩ := hY pre ⟨k, hks⟩ wr hJs (by rw [pcNo_len hpn]; exact hkN)
      obtain ⟨t, ht⟩ : ∃ t, t = min (f + s) N := ⟨_, rfl⟩
      unfold encP at hy
      simp only at hy
      rw [← hf, ← ht] at hy
      have HF := Lib.hid hf
      have HP := Lib.hid (pcNo_succ hpn hks)
      clear hf hpn
      by_cases hm : N < f + s
      · obtain rfl : t = N := by omega
        have hmi : (t : Int) < (f : Int) + (s : Int) := by omega
        clear ht hm
        gi_wp2
        refine hR.mono ?_
        rintro e W3 (⟨rfl, hJ3, hk3⟩ | ⟨rfl, hJx3⟩)
        · have ks3 := (World.cell?_of_block (a := ⟨Bs, 0, none⟩) hk3.2).trans ks
          gi_wp2
          go_roundw
          case rel => exact ⟨k + 1, f + s, _, by rw [Nat.succ_mul, HF.out], by go_num, by omega, HP.out, hJ3, hnx.trans hk3⟩
          case measure => simp [intOf]; omega
        · gi_wp2
          refine bodyPost_ret (results_none rfl _ _ _) rfl ?_
          exact ⟨⟨_, rfl⟩, .inr ⟨_, trivial, hJx3⟩⟩
      · obtain rfl : t = f + s := by omega
        have hmi : (f : Int) + (s : Int) ≤ (N : Int) := by omega
        have hmj : ¬ (N : Int) < (f : Int) + (s : Int) := by omega
        rw [Int.natCast_add] at hy
        clear ht hm
        gi_wp2
        refine hR.mono ?_
        rintro e W3 (⟨rfl, hJ3, hk3⟩ | ⟨rfl, hJx3⟩)
        · have ks3 := (World.cell?_of_block (a := ⟨Bs, 0, none⟩) hk3.2).trans ks
          gi_wp2
          go_roundw
          case rel => exact ⟨k + 1, f + s, _, by rw [Nat.succ_mul, HF.out], by go_num, by omega, HP.out, hJ3, hnx.trans hk3⟩
          case measure => simp [intOf]; omega
        · gi_wp2
          refine bodyPost_ret (results_none rfl _ _ _) rfl ?_
          exact ⟨⟨_, rfl⟩, .inr ⟨_, trivial, hJx3⟩⟩
    · have HF := Lib.hid hf
      clear hf
      gi_wp2
      go_end0
      exact ⟨⟨_, rfl⟩, .inl ⟨_, ⟨k, hpn, by rw [← HF.out]; omega⟩, hJs⟩⟩

theorem pieces_stops (F : Fence) (n : Nat) (h7 : F.fn 57) (hro : F.round = none) (hn : 1 ≤ n) (Bn Bs N s : Nat) (hs : 0 < s) (hs2 : s ≤ 65536) (hN : N ≤ 1000000000) (w : World)
    (hcn : w.cell? ⟨Bn, 0, none⟩ = some (.int .i64 (N : Int))) (hcs : w.cell? ⟨Bs, 0, none⟩ = some (.int .i64 (s : Int))) :
    SeqStopsK F n Try.prog 57 #[.pointer (some ⟨Bn, 0, none⟩), .pointer (some ⟨Bs, 0, none⟩)] (encP N s) (Keep2 Bn Bs) (fun ys => ∃ k, pcNo ys = List.range k ∧ N ≤ k * s) (fun _ => True) N w := fun r J Jx W hW _ _ hY h0 =>
  pieces1_in F n h7 hro hn r Bn Bs N s hs hs2 hN J Jx hY W ((hW.cell (p := ⟨Bn, 0, none⟩) (World.block_lt_of_cell? w _ hcn)).trans hcn) ((hW.cell (p := ⟨Bs, 0, none⟩) (World.block_lt_of_cell? w _ hcs)).trans hcs) h0
end Go.Proofs.Ytlcmdnmifmjjgaa

/- Posts: the two statements of the body that makes a list. -/
namespace Go.Proofs.Ytlcmdnmifmjjgaa
open Go.RowKit Go.Shelf

attribute [local go_sem] Oper.semAt_some

def slA : Value → Option Addr
  | .slice a _ _ => a
  | _ => none
def slN : Value → Nat
  | .slice _ n _ => n
  | _ => 0
def slC : Value → Nat
  | .slice _ _ c => c
  | _ => 0
theorem PRow.shape {e : TypeId} {w : World} {base : Nat} {v : Value} {l : List (Int × Int)} (h : PRow e w base v l) : v = .slice (slA v) (slN v) (slC v) := by
  obtain ⟨A, c, e, _⟩ := h.form
  rw [e]
  rfl
/-- what holds amid 'l.blocks = append(l.blocks, b)' -/
structure A6I (B1 B2 K6 base : Nat) (v vb : Value) (bl : List (Int × Int)) (b1 b2 M : Int) (L : Nat → Bool) (W : World) : Prop where
  hp : W.heap[B2]? = some (.cells #[.pointer (some ⟨B1, 0, none⟩)] 24 (0, 0))
  hb : W.heap[K6]? = some (.cells #[.int .i64 b1, .int .i64 b2] 82 (0, 0))
  row : L 7 = false → PRow 82 W base vb bl
  hc : L 10 = false → W.heap[B1]? = some (.cells #[v, vb, .int .i64 M] 59 (0, 0))
  fin : L 10 = true → ∃ v', W.heap[B1]? = some (.cells #[v, v', .int .i64 M] 59 (0, 0)) ∧ PRow 82 W base v' (bl ++ [(b1, b2)])
def A6G (B1 base : Nat) (vb : Value) (bl : List (Int × Int)) (b1 b2 : Int) (i : Nat) (L : Nat → Bool) (x : Value) (W : World) : Prop :=
  match i with
  | 0 => x = .pointer (some ⟨B1, 0, none⟩)
  | 1 => x = .pointer (some ⟨B1, 0, none⟩)
  | 2 => x = .pointer (some ⟨B1, 0, none⟩)
  | 3 => x = .pointer (some ⟨B1, 1, none⟩)
  | 4 => x = vb
  | 5 => x = .agg #[.int .i64 b1, .int .i64 b2]
  | 6 => ∃ g, x = .slice (some ⟨g, 0, none⟩) 1 1 ∧ g ≠ B1 ∧ (L 7 = false → g < W.heap.size ∧ W.cell? ⟨g, 0, none⟩ = some (.int .i64 b1) ∧ W.cell? ⟨g, 1, none⟩ = some (.int .i64 b2))
  | 7 => x = .slice (slA x) (slN x) (slC x) ∧ (L 10 = false → PRow 82 W base x (bl ++ [(b1, b2)]))
  | 8 => x = .pointer (some ⟨B1, 0, none⟩)
  | 9 => x = .pointer (some ⟨B1, 1, none⟩)
  | _ => True
theorem linUp_at {L : Nat → Bool} {k s : Nat} (h : k ≠ s) : linUp L k s = L s := by unfold linUp; rw [if_neg (fun e => h e.symm)]
theorem blk_stay {w w' : World} {k : Nat} {o : Obj} (hb : Below w.heap.size w w') (h : w.heap[k]? = some o) : w'.heap[k]? = some o := below_block hb (Array.getElem?_eq_some_iff.1 h).1 h
theorem turned_of_own {S : Nat → Prop} {w w' : World} {r : Option Nat} (h : w.grownBy w' r) (hS : ∀ g, r = some g → S g) : Turned S w w' :=
  ⟨h.os, h.tape, h.output, h.size, fun k hk hs => h.block k hk (fun e => hs (hS k e.symm))⟩
theorem Turned.others {S : Nat → Prop} {w w' : World} (h : Turned S w w') (hS : ∀ k o, S k → w.heap[k]? = some o → o.isCells = true) : KeepsOthers w w' :=
  ⟨h.size, fun k o hk ho => by
    refine (h.block k (Array.getElem?_eq_some_iff.1 hk).1 (fun s => ?_)).trans hk
    rw [hS k o s hk] at ho
    cases ho⟩
section
variable {B1 B2 K6 base : Nat} {v vb : Value} {bl : List (Int × Int)} {b1 b2 M : Int} {L : Nat → Bool} {k : Nat} {w w' : World}
theorem A6I_keep (hk : (k == 7 || k == 10) = false) (hb : Below w.heap.size w w') (h : A6I B1 B2 K6 base v vb bl b1 b2 M L w) : A6I B1 B2 K6 base v vb bl b1 b2 M (linUp L k) w' := by
  simp at hk
  have e7 : linUp L k 7 = L 7 := linUp_at hk.1
  have e10 : linUp L k 10 = L 10 := linUp_at hk.2
  refine ⟨blk_stay hb h.hp, blk_stay hb h.hb, fun e => (h.row (by rw [← e7]; exact e)).later hb, fun e => blk_stay hb (h.hc (by rw [← e10]; exact e)), fun e => ?_⟩
  obtain ⟨v', f1, f2⟩ := h.fin (by rw [← e10]; exact e)
  exact ⟨v', blk_stay hb f1, f2.later hb⟩
theorem A6G_keep : ∀ (i : Nat) {x : Value}, (k == 7 || k == 10) = false → Below w.heap.size w w' → A6G B1 base vb bl b1 b2 i L x w → A6G B1 base vb bl b1 b2 i (linUp L k) x w'
  | 0, _, _, _, h => h
  | 1, _, _, _, h => h
  | 2, _, _, _, h => h
  | 3, _, _, _, h => h
  | 4, _, _, _, h => h
  | 5, _, _, _, h => h
  | 6, _, hk, hb, h => by
    obtain ⟨g, e, hne, hc⟩ := h
    simp at hk
    refine ⟨g, e, hne, fun e7 => ?_⟩
    rw [linUp_at hk.1] at e7
    obtain ⟨h1, h2, h3⟩ := hc e7
    exact ⟨Nat.lt_of_lt_of_le h1 hb.size, (hb.cell (p := ⟨g, 0, none⟩) h1).trans h2, (hb.cell (p := ⟨g, 1, none⟩) h1).trans h3⟩
  | 7, _, hk, hb, h => ⟨h.1, fun e => by
    simp at hk
    rw [linUp_at hk.2] at e
    exact (h.2 e).later hb⟩
  | 8, _, _, _, h => h
  | 9, _, _, _, h => h
  | _ + 10, _, _, _, _ => trivial
theorem A6I_seven (h : A6I B1 B2 K6 base v vb bl b1 b2 M L w) (hg : w.grownBy w' vb.ownBlock) (hv : ∀ g, vb.ownBlock = some g → base ≤ g ∧ g ≠ K6) (hB : B1 < base ∧ B2 < base) (h10 : L 10 = false) : A6I B1 B2 K6 base v vb bl b1 b2 M (linUp L 7) w' := by
  have st : ∀ {q : Nat} {o : Obj}, w.heap[q]? = some o → (q < base ∨ q = K6) → w'.heap[q]? = some o := fun hq hc => (hg.block _ (Array.getElem?_eq_some_iff.1 hq).1 (fun e => by
    have := hv _ e.symm
    omega)).trans hq
  exact ⟨st h.hp (.inl hB.2), st h.hb (.inr rfl), fun e => (by rw [linUp_same] at e; cases e), fun e => st (h.hc h10) (.inl hB.1), fun e => (by rw [linUp_at (by omega), h10] at e; cases e)⟩
theorem A6G_seven : ∀ (i : Nat) {x : Value}, i ≠ 7 → A6G B1 base vb bl b1 b2 i L x w → A6G B1 base vb bl b1 b2 i (linUp L 7) x w'
  | 0, _, _, h => h
  | 1, _, _, h => h
  | 2, _, _, h => h
  | 3, _, _, h => h
  | 4, _, _, h => h
  | 5, _, _, h => h
  | 6, _, _, h => by
    obtain ⟨g, e, hne, _⟩ := h
    exact ⟨g, e, hne, fun e7 => (by rw [linUp_same] at e7; cases e7)⟩
  | 7, _, h7, _ => absurd rfl h7
  | 8, _, _, h => h
  | 9, _, _, h => h
  | _ + 10, _, _, _ => trivial
theorem A6I_ten {v' : Value} (h : A6I B1 B2 K6 base v vb bl b1 b2 M L w) (hL : L 10 = false) (hvb : ∀ g, vb.ownBlock = some g → base ≤ g) (hrow : PRow 82 w base v' (bl ++ [(b1, b2)])) (hB : B1 < base ∧ B2 < base) (hne : B1 ≠ B2 ∧ B1 ≠ K6) : A6I B1 B2 K6 base v vb bl b1 b2 M (linUp L 10) (w.setCell ⟨B1, 1, none⟩ v') := by
  have st : ∀ {q : Nat} {o : Obj}, w.heap[q]? = some o → q ≠ B1 → (w.setCell ⟨B1, 1, none⟩ v').heap[q]? = some o := fun hq hc => (Below.heap_setCell w _ _ _ hc).trans hq
  refine ⟨st h.hp (fun e => hne.1 e.symm), st h.hb (fun e => hne.2 e.symm), fun e => (h.row (by rw [linUp_at (by omega)] at e; exact e)).kept (fun g hg => Below.heap_setCell w _ _ _ (fun e => by have := hvb g hg; have e' : g = B1 := e; omega)), fun e => (by rw [linUp_same] at e; cases e), fun _ => ⟨v', ?_, hrow.kept (fun g hg => Below.heap_setCell w _ _ _ (fun e => ?_))⟩⟩
  · rw [heap_setCell_row (h.hc hL) 1 _]
    simp
  · have := (World.ownsRow.lt hrow g hg).1
    have e' : g = B1 := e
    omega
theorem A6G_ten {v' : Value} : ∀ (i : Nat) {x : Value}, A6G B1 base vb bl b1 b2 i L x w → A6G B1 base vb bl b1 b2 i (linUp L 10) x (w.setCell ⟨B1, 1, none⟩ v')
  | 0, _, h => h
  | 1, _, h => h
  | 2, _, h => h
  | 3, _, h => h
  | 4, _, h => h
  | 5, _, h => h
  | 6, _, h => by
    obtain ⟨g, e, hne, hc⟩ := h
    refine ⟨g, e, hne, fun e7 => ?_⟩
    rw [linUp_at (by omega)] at e7
    obtain ⟨h1, h2, h3⟩ := hc e7
    refine ⟨by simpa [World.setCell] using h1, ?_, ?_⟩
    · rw [World.cell?_setCell_other _ _ _ _ (fun e => hne (by injection e with e; exact e.symm))]; exact h2
    · rw [World.cell?_setCell_other _ _ _ _ (fun e => hne (by injection e with e; exact e.symm))]; exact h3
  | 7, _, h => ⟨h.1, fun e => (by rw [linUp_same] at e; cases e)⟩
  | 8, _, h => h
  | 9, _, h => h
  | _ + 10, _, _ => trivial
/-- what holds amid 'l.most = max(l.most, b.most)' -/
structure A7I (B1 B2 K6 base : Nat) (v vb : Value) (bl : List (Int × Int)) (b1 b2 M M' : Int) (L : Nat → Bool) (W : World) : Prop where
  hp : W.heap[B2]? = some (.cells #[.pointer (some ⟨B1, 0, none⟩)] 24 (0, 0))
  hb : W.heap[K6]? = some (.cells #[.int .i64 b1, .int .i64 b2] 82 (0, 0))
  row : PRow 82 W base vb bl
  hc : L 10 = false → W.heap[B1]? = some (.cells #[v, vb, .int .i64 M] 59 (0, 0))
  fin : L 10 = true → W.heap[B1]? = some (.cells #[v, vb, .int .i64 M'] 59 (0, 0))
def A7G (B1 K6 : Nat) (b1 M M' : Int) (i : Nat) (x : Value) : Prop :=
  match i with
  | 0 => x = .pointer (some ⟨B1, 0, none⟩)
  | 1 => x = .pointer (some ⟨B1, 0, none⟩)
  | 2 => x = .pointer (some ⟨B1, 0, none⟩)
  | 3 => x = .pointer (some ⟨B1, 2, none⟩)
  | 4 => x = .int .i64 M
  | 5 => x = .pointer (some ⟨K6, 0, none⟩)
  | 6 => x = .int .i64 b1
  | 7 => x = .int .i64 M'
  | 8 => x = .pointer (some ⟨B1, 0, none⟩)
  | 9 => x = .pointer (some ⟨B1, 2, none⟩)
  | _ => True
theorem A7I_keep {M' : Int} (hk : (k == 10) = false) (hb : Below w.heap.size w w') (h : A7I B1 B2 K6 base v vb bl b1 b2 M M' L w) : A7I B1 B2 K6 base v vb bl b1 b2 M M' (linUp L k) w' := by
  simp at hk
  have e10 : linUp L k 10 = L 10 := linUp_at hk
  exact ⟨blk_stay hb h.hp, blk_stay hb h.hb, h.row.later hb, fun e => blk_stay hb (h.hc (by rw [← e10]; exact e)), fun e => blk_stay hb (h.fin (by rw [← e10]; exact e))⟩
theorem A7I_ten {M' : Int} (h : A7I B1 B2 K6 base v vb bl b1 b2 M M' L w) (hL : L 10 = false) (hB : B1 < base) (hne : B1 ≠ B2 ∧ B1 ≠ K6) : A7I B1 B2 K6 base v vb bl b1 b2 M M' (linUp L 10) (w.setCell ⟨B1, 2, none⟩ (.int .i64 M')) := by
  have st : ∀ {q : Nat} {o : Obj}, w.heap[q]? = some o → q ≠ B1 → (w.setCell ⟨B1, 2, none⟩ (.int .i64 M')).heap[q]? = some o := fun hq hc => (Below.heap_setCell w _ _ _ hc).trans hq
  refine ⟨st h.hp (fun e => hne.1 e.symm), st h.hb (fun e => hne.2 e.symm), h.row.kept (fun g hg => Below.heap_setCell w _ _ _ (fun e => ?_)), fun e => (by rw [linUp_same] at e; cases e), fun _ => ?_⟩
  · have := (World.ownsRow.lt h.row g hg).1
    have e' : g = B1 := e
    omega
  · rw [heap_setCell_row (h.hc hL) 2 _]
    simp
end
end Go.Proofs.Ytlcmdnmifmjjgaa

/- Posts: a list is made of posts. -/
namespace Go.Proofs.Ytlcmdnmifmjjgaa
open Go.RowKit Go.Shelf

attribute [local go_sem] Oper.semAt_some

/-- the list l, at block b -/
def PL (w : World) (b : Nat) (l : List (Int × Int)) : Prop :=
  ∃ vp vb, w.heap[b]? = some (.cells #[vp, vb, .int .i64 (PostM.mx l)] 59 (0, 0)) ∧ Prd w vp l ∧ Prd w vb (PostM.blks l)
theorem PL.below {w w' : World} {b : Nat} {l : List (Int × Int)} (h : PL w b l) (hb : Below w.heap.size w w') : PL w' b l := by
  obtain ⟨vp, vb, h1, h2, h3⟩ := h
  exact ⟨vp, vb, below_block hb (Array.getElem?_eq_some_iff.1 h1).1 h1, h2.later hb, h3.later hb⟩
/-- a block of cells stays where a block that is none turns -/
theorem cells_stay {W W' : World} {k : Nat} {cs : Array Value} {t : TypeId} {row : Option Nat} (h : W.heap[k]? = some (.cells cs t (0, 0))) (hg : W.grownBy W' row) (hr : ∀ r, row = some r → ∃ o : Obj, W.heap[r]? = some o ∧ o.isCells = false) : W'.heap[k]? = some (.cells cs t (0, 0)) := by
  refine (hg.block k (Array.getElem?_eq_some_iff.1 h).1 (fun e => ?_)).trans h
  obtain ⟨o, ho, hc⟩ := hr k e.symm
  rw [h] at ho
  injection ho with ho
  subst ho
  cases hc
theorem prow_stay {e : TypeId} {W W' : World} {base : Nat} {v : Value} {l : List (Int × Int)} {row : Option Nat} (h : PRow e W base v l) (hg : W.grownBy W' row) (hr : ∀ r, row = some r → ∃ o : Obj, W.heap[r]? = some o ∧ o.isCells = false) : PRow e W' base v l := by
  refine ⟨h.1, ?_⟩
  rcases h.2 with hn | ⟨g, cap, cur, rfl, hbg, hgg, rest⟩
  · exact .inl hn
  · exact .inr ⟨g, cap, cur, rfl, hbg, cells_stay hgg hg hr, rest⟩

theorem old_at {w : World} {k : Nat} {o x : Obj} (h : w.heap[k]? = some o) : (w.alloc x).heap[k]? = some o := (Below.heap_alloc w x k (Array.getElem?_eq_some_iff.1 h).1).trans h
theorem new_at {w : World} {k : Nat} {o : Obj} (h : w.heap.size = k) : (w.alloc o).heap[k]? = some o := by subst h; exact heap_alloc_new w o
/-- the greatest weight of the pieces that have come -/
def mxs {N s : Nat} (l : List (Int × Int)) (pre : List (Pc N s)) : Int := pre.foldl (fun m x => max m (PostM.mx (PostM.piece l x.1))) 0
theorem mxs_snoc {N s : Nat} (l : List (Int × Int)) (pre : List (Pc N s)) (x : Pc N s) : mxs l (pre ++ [x]) = max (mxs l pre) (PostM.mx (PostM.piece l x.1)) := by simp [mxs]
theorem mxs_range {N s : Nat} (l : List (Int × Int)) (k : Nat) : ∀ pre : List (Pc N s), pcNo pre = List.range k → mxs l pre = PostM.mx (l.take (4 * k)) := by
  intro pre hp
  have e : mxs l pre = (pcNo pre).foldl (fun m i => max m (PostM.mx (PostM.piece l i))) 0 := by unfold mxs pcNo; rw [List.foldl_map]
  rw [e, hp]
  clear e hp pre
  induction k with
  | zero => simp [PostM.mx]
  | succ k ih => rw [List.range_succ, List.foldl_append, ih, PostM.mx_take_piece]; rfl
def blkOf {N s : Nat} (l : List (Int × Int)) (pre : List (Pc N s)) : List (Int × Int) := pre.map fun x => PostM.blk (PostM.piece l x.1)
theorem blkOf_range {N s : Nat} (l : List (Int × Int)) (k : Nat) (pre : List (Pc N s)) (hp : pcNo pre = List.range k) : blkOf l pre = (List.range k).map fun i => PostM.blk (PostM.piece l i) := by
  rw [← hp]; unfold blkOf pcNo; rw [List.map_map]; rfl
theorem pcNo_end {N k : Nat} {pre : List (Pc N 4)} (hp : pcNo pre = List.range k) (hk : N ≤ k * 4) : k = PostM.cnt N := by
  unfold PostM.cnt
  rcases Nat.eq_zero_or_pos k with rfl | h0
  · omega
  · have hm : k - 1 ∈ pcNo pre := by rw [hp, List.mem_range]; omega
    unfold pcNo at hm
    obtain ⟨x, _, hx⟩ := List.mem_map.1 hm
    have := x.2
    omega
/-- what stands between two rounds: v = the posts, pre = the pieces that have come -/
structure LofI (w : World) (base : Nat) (v : Value) (l : List (Int × Int)) (N : Nat) (pre : List (Pc N 4)) (W : World) : Prop where
  h0 : W.heap[w.heap.size]? = some (.cells #[v] 22 (0, 0))
  h2 : W.heap[w.heap.size + 1 + 1]? = some (.cells #[.pointer (some ⟨w.heap.size + 1, 0, none⟩)] 24 (0, 0))
  h1 : ∃ vb, W.heap[w.heap.size + 1]? = some (.cells #[v, vb, .int .i64 (mxs l pre)] 59 (0, 0)) ∧ PRow 82 W base vb (blkOf l pre)
theorem LofI.stay {w W W' : World} {base : Nat} {v : Value} {l : List (Int × Int)} {N : Nat} {pre : List (Pc N 4)} {row : Option Nat} (h : LofI w base v l N pre W) (hg : W.grownBy W' row) (hr : ∀ r, row = some r → ∃ o : Obj, W.heap[r]? = some o ∧ o.isCells = false) : LofI w base v l N pre W' := by
  obtain ⟨b, c, vb, d, e⟩ := h
  exact ⟨cells_stay b hg hr, cells_stay c hg hr, vb, cells_stay d hg hr, prow_stay e hg hr⟩
/-- a part of what was read -/
theorem Prd.part {w : World} {b o n cp : Nat} {l : List (Int × Int)} (h : Prd w (.slice (some ⟨b, o, none⟩) n cp) l) (f m c : Nat) (hf : f + m ≤ l.length) (hc : m ≤ c) : Prd w (.slice (some ⟨b, o + f * 2, none⟩) m c) ((l.drop f).take m) := by
  obtain ⟨A', cp', e, _, _, hP⟩ := h
  injection e with e1 e2 e3
  subst e1
  have hd := hP.drop f
  have ht := hd.take m (by omega)
  have hlen : ((l.drop f).take m).length = m := by rw [List.length_take, List.length_drop]; omega
  exact ⟨some ⟨b, o + f * 2, none⟩, c, by rw [hlen], by rw [hlen]; exact hc, (fun e => by cases e), by rw [hlen]; exact ht⟩

set_option maxHeartbeats 2000000 in
set_option maxRecDepth 100000 in
theorem listof_any (v : Value) (l : List (Int × Int)) (w : World) (h : Prd w v l) (hl : l.length ≤ 1000000) :
    Calls Try.prog 27 #[v] w fun e w' => ∃ b, e = .returned (.pointer (some ⟨b, 0, none⟩)) ∧ w.heap.size ≤ b ∧ PL w' b l ∧ Below w.heap.size w w' := by
  have hP := h
  obtain ⟨A, cp, rfl, hcp⟩ := h.form
  obtain ⟨n, hn⟩ : ∃ n, n = l.length := ⟨_, rfl⟩
  rw [← hn] at hl hcp hP ⊢
  have HP := Lib.hid hP
  have HN := Lib.hid hn
  clear h hP hn
  refine (callsIn_wide (n := 4)).1 ?_
  refine callsIn_of_wp_marks Try.func27 rfl trivial ?_ rfl
  simp only [Try.ntmps27, List.size_toArray, List.length_cons, List.length_nil, Nat.reduceAdd, Nat.reduceSub, Array.replicate_succ, Array.replicate_zero, List.push_toArray, List.append_toArray, List.nil_append, List.cons_append]
  gi_wp2
  refine ⟨trivial, ?_⟩
  refine (callsIn_wide.2 (pieces_any _ _ _)).mono ?_
  rintro e w' ⟨rfl, rfl⟩
  gi_wp2
  obtain ⟨W0, hW0⟩ : ∃ W0, W0 = ((((w.alloc (.cells #[.slice A n cp] 22)).alloc (.cells #[.slice A n cp, .slice none 0 0, .int .i64 0] 59)).alloc (.cells #[.pointer (some ⟨w.heap.size + 1, 0, none⟩)] 24)).alloc (.cells #[.int .i64 (n : Int)] 3)).alloc (.cells #[.int .i64 4] 3) := ⟨_, rfl⟩
  have sz : W0.heap.size = w.heap.size + 5 := by rw [hW0]; simp
  have b0 : Below w.heap.size w W0 := by rw [hW0]; exact (((((Below.refl _ _).alloc (Nat.le_refl _) _).alloc (by simp) _).alloc (by simp; omega) _).alloc (by simp; omega) _).alloc (by simp; omega) _
  have g0 : W0.heap[w.heap.size]? = some (.cells #[.slice A n cp] 22 (0, 0)) := by rw [hW0]; exact old_at (old_at (old_at (old_at (heap_alloc_new _ _))))
  have g1 : W0.heap[w.heap.size + 1]? = some (.cells #[.slice A n cp, .slice none 0 0, .int .i64 0] 59 (0, 0)) := by rw [hW0]; exact old_at (old_at (old_at (new_at (by simp))))
  have g2 : W0.heap[w.heap.size + 1 + 1]? = some (.cells #[.pointer (some ⟨w.heap.size + 1, 0, none⟩)] 24 (0, 0)) := by rw [hW0]; exact old_at (old_at (new_at (by simp)))
  have g3 : W0.heap[w.heap.size + 1 + 1 + 1]? = some (.cells #[.int .i64 (n : Int)] 3 (0, 0)) := by rw [hW0]; exact old_at (new_at (by simp))
  have g4 : W0.heap[w.heap.size + 1 + 1 + 1 + 1]? = some (.cells #[.int .i64 4] 3 (0, 0)) := by rw [hW0]; exact new_at (by simp)
  rw [← hW0]
  clear hW0
  have k3 := cell_of_cells (i := 0) g3 rfl
  have k4 := cell_of_cells (i := 0) g4 rfl
  refine wpIn_rangeFunc_ownF (F := Fence.wide) (n := 4) rfl (by omega) (gf := 57) (lb := #[.pointer (some ⟨w.heap.size + 1 + 1 + 1, 0, none⟩), .pointer (some ⟨w.heap.size + 1 + 1 + 1 + 1, 0, none⟩)]) rfl trivial (enters_of Try.func57 (by kernel_rfl) rfl)
    (pieces_stops Fence.wide 3 trivial rfl (by omega) (w.heap.size + 1 + 1 + 1) (w.heap.size + 1 + 1 + 1 + 1) n 4 (by omega) (by omega) (by omega) W0 k3 k4)
    (fun h k => Keep2.trans h k) (fun W r o o' hr hW hc _ => Keep2.put_ (by omega) (by omega)) (Below.refl _ _) (fun _ => rfl)
    (fun pre W => LofI w W0.heap.size (.slice A n cp) l n pre W ∧ Below w.heap.size w W ∧ W0.heap.size ≤ W.heap.size)
    (fun _ _ _ => False)
    (OwnFrom.and (Own.from (fun s A B row hs hg hr => hs.stay hg hr) _) (OwnFrom.and (ownFrom_below (Nat.le_refl _) (by omega)) (fun _ X Y row hs hg _ => Nat.le_trans hs hg.size)))
    (fun _ _ _ _ _ hs _ _ => hs)
    ⟨⟨g0, g2, _, g1, PRow.nil_ _ _⟩, b0, Nat.le_refl _⟩
    (fun x => { tmps := #[.slice A n cp, .pointer (some ⟨w.heap.size, 0, none⟩), .pointer none, .pointer (some ⟨w.heap.size + 1 + 1, 0, none⟩), .int .i64 ((x.1 * 4 : Nat) : Int), .int .i64 ((min (x.1 * 4 + 4) n : Nat) : Int), undef, .slice A n cp, .agg #[.slice A n cp, .slice none 0 0, .int .i64 0], .pointer (some ⟨w.heap.size + 1, 0, none⟩), .slice A n cp, .int .i64 (n : Int), .func (.func 57) #[] #[.pointer (some ⟨w.heap.size + 1 + 1 + 1, 0, none⟩), .pointer (some ⟨w.heap.size + 1 + 1 + 1 + 1, 0, none⟩)], .int .i64 ((x.1 * 4 : Nat) : Int), .int .i64 ((min (x.1 * 4 + 4) n : Nat) : Int), undef, undef, undef, undef, undef, undef, undef, undef, undef, undef, undef, undef, undef, undef, undef, undef, undef, undef, undef, undef, undef, undef, undef, undef, undef, undef], defers := [] }) ?assign ?body ?done ?stop
  case assign =>
    rintro r ⟨x, hx⟩ W K hK
    simp only [encP] at hK ⊢
    generalize x * 4 = f at hK ⊢
    generalize min (f + 4) n = t at hK ⊢
    gi_wp2
    exact hK
  case body =>
    rintro r pre ⟨x, hx⟩ W ⟨⟨h0, h2, vb, h1, hrow⟩, hB', hBW⟩ hplen
    obtain ⟨b, o, rfl, hbw, _, _⟩ := (HP.out).at_ (x * 4) (by rw [← HN.out]; exact hx)
    have hPW := HP.out.later hB'
    obtain ⟨f, hf⟩ : ∃ f, f = x * 4 := ⟨_, rfl⟩
    obtain ⟨t, ht⟩ : ∃ t, t = min (f + 4) n := ⟨_, rfl⟩
    have hpart := hPW.part f (t - f) (cp - f) (by rw [← HN.out]; omega) (by omega)
    have hpc : (l.drop f).take (t - f) = PostM.piece l x := by
      unfold PostM.piece
      rw [show 4 * x = f by omega]
      by_cases e : f + 4 ≤ n
      · rw [show t - f = 4 by omega]
      · rw [show t - f = n - f by omega, HN.out, List.take_of_length_le (by simp), List.take_of_length_le (by simp; rw [← HN.out]; omega)]
    rw [hpc] at hpart
    have hpl : (PostM.piece l x).length = t - f := by rw [← hpc, List.length_take, List.length_drop, ← HN.out]; omega
    have hsn := mxs_snoc l pre ⟨x, hx⟩
    have hsb : blkOf l (pre ++ [⟨x, hx⟩]) = blkOf l pre ++ [PostM.blk (PostM.piece l x)] := by simp [blkOf]
    simp only
    rw [← hf, ← ht]
    have k0 := cell_of_cells (i := 0) h0 rfl
    have q1 : (f : Int) ≤ (t : Int) := by omega
    have q2 : (t : Int) ≤ (cp : Int) := by omega
    have q3 : (0 : Int) ≤ (f : Int) := by omega
    have q4 : ¬ cp = f := by omega
    have q5 : ¬ (cp : Int) = (f : Int) := by omega
    have hbo := blockof_any _ _ W hpart (by rw [hpl]; omega) (by rw [hpl]; omega)
    unfold sv at hbo
    obtain ⟨⟨b1, b2⟩, hbk⟩ : ∃ q, q = PostM.blk (PostM.piece l x) := ⟨_, rfl⟩
    have hb1m : PostM.mx (PostM.piece l x) = b1 := by have := congrArg Prod.fst hbk; exact this.symm
    rw [← hbk] at hbo hsb
    rw [hb1m] at hsn
    simp only at hbo
    have HBO := Lib.hid hbo
    have HSN := Lib.hid hsn
    have HSB := Lib.hid hsb
    clear hf ht hpc hpart hpl hsn hsb hbk hb1m hbo
    gi_wp2
    refine ⟨trivial, ?_⟩
    refine (CallsIn.inRound r (callsIn_wide.2 HBO.out)).mono ?_
    rintro e W1 ⟨rfl, hw1⟩
    clear HBO k0 q1 q2 q3 q4 q5
    gi_wp2
    obtain ⟨B1, hB1⟩ : ∃ B1, B1 = w.heap.size + 1 := ⟨_, rfl⟩
    rw [← hB1] at h1 h2 ⊢
    obtain ⟨B2, hB2⟩ : ∃ B2, B2 = B1 + 1 := ⟨_, rfl⟩
    rw [← hB2] at h2 ⊢
    obtain ⟨K6, hK6⟩ : ∃ K6, K6 = W1.heap.size := ⟨_, rfl⟩
    obtain ⟨base, hbase⟩ : ∃ base, base = W0.heap.size := ⟨_, rfl⟩
    rw [← hK6]
    rw [← hbase] at hrow
    obtain ⟨W2, hW2⟩ : ∃ W2, W2 = W1.alloc (.cells #[.int .i64 b1, .int .i64 b2] 82) := ⟨_, rfl⟩
    have hw2 : Below W.heap.size W W2 := by rw [hW2]; exact hw1.alloc hw1.size _
    have e6 : W2.heap[K6]? = some (.cells #[.int .i64 b1, .int .i64 b2] 82 (0, 0)) := by rw [hW2, hK6]; exact heap_alloc_new _ _
    rw [← hW2]
    have e1 := blk_stay hw2 h1
    have e2 := blk_stay hw2 h2
    have er := hrow.later hw2
    have hv : ∀ g, vb.ownBlock = some g → base ≤ g ∧ g ≠ K6 := fun g hg => by
      have h1 := World.ownsRow.lt hrow g hg
      have h2 := hw1.size
      exact ⟨h1.1, by omega⟩
    have hle : base ≤ W2.heap.size := by have := hw2.size; omega
    have hlk : base ≤ K6 := by have := hw1.size; omega
    have hB : B1 < base ∧ B2 < base := by omega
    have hne : B1 ≠ B2 ∧ B1 ≠ K6 := by omega
    have hbl : (blkOf l pre).length ≤ n + 1 := by
      have : (blkOf l pre).length = pre.length := by simp [blkOf]
      omega
    obtain ⟨bl, hbl2⟩ : ∃ bl, bl = blkOf l pre := ⟨_, rfl⟩
    obtain ⟨M, hM⟩ : ∃ M, M = mxs l pre := ⟨_, rfl⟩
    rw [← hbl2] at er hbl
    rw [← hM] at e1
    have HX := Lib.hid (And.intro hbl2 hM)
    have HW := Lib.hid (And.intro h0 (And.intro h1 h2))
    have HRW := Lib.hid hrow
    have HEQ := Lib.hid (And.intro hB1 (And.intro hB2 (And.intro hK6 (And.intro hbase sz))))
    clear h0 h1 h2 hrow hbl2 hM hW2 k3 k4 g0 g1 g2 g3 g4 hB1 hB2 hK6 hbase sz
    have hS7 : ∀ g, vb.ownBlock = some g → (fun k => k = B1 ∨ vb.ownBlock = some k) g := fun g hg => .inr hg
    refine wpIn_region_lin (ds := [20, 21, 22, 23, 24, 25, 26, 27, 28, 29]) (by kernel_rfl) (by kernel_rfl) (by rintro ⟨a', w', h⟩; exact h) (by kernel_rfl) (by kernel_rfl) (fun k => k = B1 ∨ vb.ownBlock = some k) (fun k => k == 7 || k == 10)
      (A6I B1 B2 K6 base (.slice (some ⟨b, o, none⟩) n cp) vb bl b1 b2 M) (A6G B1 base vb bl b1 b2) ⟨e2, e6, fun _ => er, fun _ => e1, fun e => by cases e⟩ (fun L k w1 w2 hk hb h => A6I_keep hk hb h) (fun i L k v w1 w2 hk hb h => A6G_keep i hk hb h) ?_ ?_
    · intro l' HL'
      refine LinSteps.cons (fun f L w1 hT hI hsh hL hd K hK => ?_) ?_
      · have kk := cell_of_cells (i := 0) hI.hp rfl
        simp only [linFill, List.foldl_cons, List.foldl_nil, Act.put, List.setIfInBounds_toArray, List.set_cons_zero, List.set_cons_succ] at hK ⊢
        go_simp
        exact hK.out _ _ hT (.inl ⟨rfl, Below.refl _ _⟩) rfl
      refine LinSteps.cons (fun f L w1 hT hI hsh hL hd K hK => ?_) ?_
      · have kk := cell_of_cells (i := 0) hI.hp rfl
        simp only [linFill, List.foldl_cons, List.foldl_nil, Act.put, List.setIfInBounds_toArray, List.set_cons_zero, List.set_cons_succ] at hK ⊢
        go_simp
        exact hK.out _ _ hT (.inl ⟨rfl, Below.refl _ _⟩) rfl
      refine LinSteps.cons (fun f L w1 hT hI hsh hL hd K hK => ?_) ?_
      · have d1 : f 21 = .pointer (some ⟨B1, 0, none⟩) := hd 1 21 (by rw [HL'.out]; kernel_rfl) (by rw [HL'.out]; kernel_rfl)
        simp only [linFill, List.foldl_cons, List.foldl_nil, Act.put, List.setIfInBounds_toArray, List.set_cons_zero, List.set_cons_succ, d1] at hK ⊢
        clear d1
        go_simp
        exact hK.out _ _ hT (.inl ⟨rfl, Below.refl _ _⟩) rfl
      refine LinSteps.cons (fun f L w1 hT hI hsh hL hd K hK => ?_) ?_
      · have d2 : f 22 = .pointer (some ⟨B1, 0, none⟩) := hd 2 22 (by rw [HL'.out]; kernel_rfl) (by rw [HL'.out]; kernel_rfl)
        simp only [linFill, List.foldl_cons, List.foldl_nil, Act.put, List.setIfInBounds_toArray, List.set_cons_zero, List.set_cons_succ, d2] at hK ⊢
        clear d2
        go_simp
        exact hK.out _ _ hT (.inl ⟨rfl, Below.refl _ _⟩) rfl
      refine LinSteps.cons (fun f L w1 hT hI hsh hL hd K hK => ?_) ?_
      · have d3 : f 23 = .pointer (some ⟨B1, 1, none⟩) := hd 3 23 (by rw [HL'.out]; kernel_rfl) (by rw [HL'.out]; kernel_rfl)
        have h10 : L 10 = false := hsh.late 4 hL [7, 4] 10 (by rw [HL'.out]; kernel_rfl) rfl
        have kk := cell_of_cells (i := 1) (hI.hc h10) rfl
        simp only [linFill, List.foldl_cons, List.foldl_nil, Act.put, List.setIfInBounds_toArray, List.set_cons_zero, List.set_cons_succ, d3] at hK ⊢
        clear d3
        go_simp
        exact hK.out _ _ hT (.inl ⟨rfl, Below.refl _ _⟩) rfl
      refine LinSteps.cons (fun f L w1 hT hI hsh hL hd K hK => ?_) ?_
      · have kk := cell_of_cells (i := 0) hI.hb rfl
        have kk2 := cell_of_cells (i := 1) hI.hb rfl
        simp only [linFill, List.foldl_cons, List.foldl_nil, Act.put, List.setIfInBounds_toArray, List.set_cons_zero, List.set_cons_succ] at hK ⊢
        go_simp
        exact hK.out _ _ hT (.inl ⟨rfl, Below.refl _ _⟩) rfl
      refine LinSteps.cons (fun f L w1 hT hI hsh hL hd K hK => ?_) ?_
      · have d5 : f 25 = .agg #[.int .i64 b1, .int .i64 b2] := hd 5 25 (by rw [HL'.out]; kernel_rfl) (by rw [HL'.out]; kernel_rfl)
        simp only [linFill, List.foldl_cons, List.foldl_nil, Act.put, List.setIfInBounds_toArray, List.set_cons_zero, List.set_cons_succ, d5] at hK ⊢
        clear d5
        go_simp
        exact hK.out _ _ (hT.alloc _) (.inl ⟨rfl, pl1 _ _⟩) ⟨_, rfl, (by have hsz : W2.heap.size ≤ w1.heap.size := hT.size; omega), fun _ => ⟨by simp, by go_simp, by go_simp⟩⟩
      refine LinSteps.cons (fun f L w1 hT hI hsh hL hd K hK => ?_) ?_
      · have d4 : f 24 = vb := hd 4 24 (by rw [HL'.out]; kernel_rfl) (by rw [HL'.out]; kernel_rfl)
        have d6 : ∃ g, f 26 = .slice (some ⟨g, 0, none⟩) 1 1 ∧ g ≠ B1 ∧ (L 7 = false → g < w1.heap.size ∧ w1.cell? ⟨g, 0, none⟩ = some (.int .i64 b1) ∧ w1.cell? ⟨g, 1, none⟩ = some (.int .i64 b2)) := hd 6 26 (by rw [HL'.out]; kernel_rfl) (by rw [HL'.out]; kernel_rfl)
        have h10 : L 10 = false := hsh.late 7 hL [7] 10 (by rw [HL'.out]; kernel_rfl) rfl
        obtain ⟨g, hge, _, hgc⟩ := d6
        obtain ⟨hg1, hg2, hg3⟩ := hgc hL
        have hS : Pairs w1 (some ⟨g, 0, none⟩) 1 [(b1, b2)] := ⟨rfl, fun k hk => ⟨g, 0, rfl, hg1, by simp at hk; subst hk; exact ⟨hg2, hg3⟩⟩⟩
        simp only [linFill, List.foldl_cons, List.foldl_nil, Act.put, List.setIfInBounds_toArray, List.set_cons_zero, List.set_cons_succ, d4, hge] at hK ⊢
        clear d4
        rw [if_pos (by rfl)]
        refine wp_append_ps block_ty _ _ rfl base vb bl rfl (hI.row hL) (Nat.le_trans hle hT.size) (some ⟨g, 0, none⟩) 1 1 [(b1, b2)] rfl hS (fun e => by cases e) (by simp; omega) ?_
        intro v' w2 hown hg
        exact hK.out _ _ (hT.trans (turned_of_own hg hS7)) (.inr ⟨A6I_seven hI hg hv hB h10, fun j d hj _ h => A6G_seven j (fun e => by subst e; rw [hL] at hj; cases hj) h⟩) ⟨hown.shape, fun _ => hown⟩
      refine LinSteps.cons (fun f L w1 hT hI hsh hL hd K hK => ?_) ?_
      · have d0 : f 20 = .pointer (some ⟨B1, 0, none⟩) := hd 0 20 (by rw [HL'.out]; kernel_rfl) (by rw [HL'.out]; kernel_rfl)
        simp only [linFill, List.foldl_cons, List.foldl_nil, Act.put, List.setIfInBounds_toArray, List.set_cons_zero, List.set_cons_succ, d0] at hK ⊢
        clear d0
        go_simp
        exact hK.out _ _ hT (.inl ⟨rfl, Below.refl _ _⟩) rfl
      refine LinSteps.cons (fun f L w1 hT hI hsh hL hd K hK => ?_) ?_
      · have d8 : f 28 = .pointer (some ⟨B1, 0, none⟩) := hd 8 28 (by rw [HL'.out]; kernel_rfl) (by rw [HL'.out]; kernel_rfl)
        simp only [linFill, List.foldl_cons, List.foldl_nil, Act.put, List.setIfInBounds_toArray, List.set_cons_zero, List.set_cons_succ, d8] at hK ⊢
        clear d8
        go_simp
        exact hK.out _ _ hT (.inl ⟨rfl, Below.refl _ _⟩) rfl
      refine LinSteps.cons (fun f L w1 hT hI hsh hL hd K hK => ?_) ?_
      · have d7 : f 27 = .slice (slA (f 27)) (slN (f 27)) (slC (f 27)) ∧ (L 10 = false → PRow 82 w1 base (f 27) (bl ++ [(b1, b2)])) := hd 7 27 (by rw [HL'.out]; kernel_rfl) (by rw [HL'.out]; kernel_rfl)
        have d9 : f 29 = .pointer (some ⟨B1, 1, none⟩) := hd 9 29 (by rw [HL'.out]; kernel_rfl) (by rw [HL'.out]; kernel_rfl)
        have hv' := d7.1
        have hrow := d7.2 hL
        clear d7
        generalize slA (f 27) = A' at hv'
        generalize slN (f 27) = mm at hv'
        generalize slC (f 27) = cap' at hv'
        rw [hv'] at hrow
        have hb1 := hI.hc hL
        have kk := cell_of_cells (i := 1) hb1 rfl
        have ff := frozen_of_cells (i := 1) hb1
        simp only [linFill, List.foldl_cons, List.foldl_nil, Act.put, List.setIfInBounds_toArray, List.set_cons_zero, List.set_cons_succ, d9, hv'] at hK ⊢
        clear d9
        go_simp
        exact hK.out undef _ (hT.put_ (.inl (.inl rfl)) _ _) (.inr ⟨A6I_ten hI hL (fun g hg => (hv g hg).1) hrow hB hne, fun j d _ _ h => A6G_ten j h⟩) trivial
      exact LinSteps.nil
    · intro l' HL' f6 L w3 hT hI hall hf
      obtain ⟨v', f1, f2⟩ := hI.fin (hall 10 (by decide))
      have e6 := hI.hb
      have e2 := hI.hp
      clear hf
      simp only [linFill, List.foldl_cons, List.foldl_nil, List.setIfInBounds_toArray, List.set_cons_zero, List.set_cons_succ]
      gi_wp2
      have HT6 := Lib.hid hT
      have c1 : (fun k => k = B1) = (fun k => k = B1) := rfl
      obtain ⟨M', hM'⟩ : ∃ M', M' = max M b1 := ⟨_, rfl⟩
      have hMM : (if M < b1 then b1 else M) = M' := by omega
      have HM' := Lib.hid hM'
      clear hI hall hT c1 hM'
      refine wpIn_region_lin (ds := [30, 31, 32, 33, 34, 35, 36, 37, 38, 39]) (by kernel_rfl) (by kernel_rfl) (by rintro ⟨a', w', h⟩; exact h) (by kernel_rfl) (by kernel_rfl) (fun k => k = B1) (fun k => k == 10)
        (A7I B1 B2 K6 base (.slice (some ⟨b, o, none⟩) n cp) v' (bl ++ [(b1, b2)]) b1 b2 M M') (fun i _ x _ => A7G B1 K6 b1 M M' i x) ⟨e2, e6, f2, fun _ => f1, fun e => by cases e⟩ (fun L k w1 w2 hk hb h => A7I_keep hk hb h) (fun i L k v w1 w2 hk hb h => h) ?_ ?_
      · intro l' HL'
        refine LinSteps.cons (fun f L w1 hT hI hsh hL hd K hK => ?_) ?_
        · have kk := cell_of_cells (i := 0) hI.hp rfl
          simp only [linFill, List.foldl_cons, List.foldl_nil, Act.put, List.setIfInBounds_toArray, List.set_cons_zero, List.set_cons_succ] at hK ⊢
          go_simp
          exact hK.out _ _ hT (.inl ⟨rfl, Below.refl _ _⟩) rfl
        refine LinSteps.cons (fun f L w1 hT hI hsh hL hd K hK => ?_) ?_
        · have kk := cell_of_cells (i := 0) hI.hp rfl
          simp only [linFill, List.foldl_cons, List.foldl_nil, Act.put, List.setIfInBounds_toArray, List.set_cons_zero, List.set_cons_succ] at hK ⊢
          go_simp
          exact hK.out _ _ hT (.inl ⟨rfl, Below.refl _ _⟩) rfl
        refine LinSteps.cons (fun f L w1 hT hI hsh hL hd K hK => ?_) ?_
        · have d1 : f 31 = .pointer (some ⟨B1, 0, none⟩) := hd 1 31 (by rw [HL'.out]; kernel_rfl) (by rw [HL'.out]; kernel_rfl)
          simp only [linFill, List.foldl_cons, List.foldl_nil, Act.put, List.setIfInBounds_toArray, List.set_cons_zero, List.set_cons_succ, d1] at hK ⊢
          clear d1
          go_simp
          exact hK.out _ _ hT (.inl ⟨rfl, Below.refl _ _⟩) rfl
        refine LinSteps.cons (fun f L w1 hT hI hsh hL hd K hK => ?_) ?_
        · have d2 : f 32 = .pointer (some ⟨B1, 0, none⟩) := hd 2 32 (by rw [HL'.out]; kernel_rfl) (by rw [HL'.out]; kernel_rfl)
          simp only [linFill, List.foldl_cons, List.foldl_nil, Act.put, List.setIfInBounds_toArray, List.set_cons_zero, List.set_cons_succ, d2] at hK ⊢
          clear d2
          go_simp
          exact hK.out _ _ hT (.inl ⟨rfl, Below.refl _ _⟩) rfl
        refine LinSteps.cons (fun f L w1 hT hI hsh hL hd K hK => ?_) ?_
        · have d3 : f 33 = .pointer (some ⟨B1, 2, none⟩) := hd 3 33 (by rw [HL'.out]; kernel_rfl) (by rw [HL'.out]; kernel_rfl)
          have h10 : L 10 = false := hsh.late 4 hL [7, 4] 10 (by rw [HL'.out]; kernel_rfl) rfl
          have kk := cell_of_cells (i := 2) (hI.hc h10) rfl
          simp only [linFill, List.foldl_cons, List.foldl_nil, Act.put, List.setIfInBounds_toArray, List.set_cons_zero, List.set_cons_succ, d3] at hK ⊢
          clear d3
          go_simp
          exact hK.out _ _ hT (.inl ⟨rfl, Below.refl _ _⟩) rfl
        refine LinSteps.cons (fun f L w1 hT hI hsh hL hd K hK => ?_) ?_
        · simp only [linFill, List.foldl_cons, List.foldl_nil, Act.put, List.setIfInBounds_toArray, List.set_cons_zero, List.set_cons_succ] at hK ⊢
          go_simp
          exact hK.out _ _ hT (.inl ⟨rfl, Below.refl _ _⟩) rfl
        refine LinSteps.cons (fun f L w1 hT hI hsh hL hd K hK => ?_) ?_
        · have d5 : f 35 = .pointer (some ⟨K6, 0, none⟩) := hd 5 35 (by rw [HL'.out]; kernel_rfl) (by rw [HL'.out]; kernel_rfl)
          have kk := cell_of_cells (i := 0) hI.hb rfl
          simp only [linFill, List.foldl_cons, List.foldl_nil, Act.put, List.setIfInBounds_toArray, List.set_cons_zero, List.set_cons_succ, d5] at hK ⊢
          clear d5
          go_simp
          exact hK.out _ _ hT (.inl ⟨rfl, Below.refl _ _⟩) rfl
        refine LinSteps.cons (fun f L w1 hT hI hsh hL hd K hK => ?_) ?_
        · have d4 : f 34 = .int .i64 M := hd 4 34 (by rw [HL'.out]; kernel_rfl) (by rw [HL'.out]; kernel_rfl)
          have d6 : f 36 = .int .i64 b1 := hd 6 36 (by rw [HL'.out]; kernel_rfl) (by rw [HL'.out]; kernel_rfl)
          simp only [linFill, List.foldl_cons, List.foldl_nil, Act.put, List.setIfInBounds_toArray, List.set_cons_zero, List.set_cons_succ, d4, d6] at hK ⊢
          clear d4 d6
          go_simp
          exact hK.out _ _ hT (.inl ⟨rfl, Below.refl _ _⟩) rfl
        refine LinSteps.cons (fun f L w1 hT hI hsh hL hd K hK => ?_) ?_
        · have d0 : f 30 = .pointer (some ⟨B1, 0, none⟩) := hd 0 30 (by rw [HL'.out]; kernel_rfl) (by rw [HL'.out]; kernel_rfl)
          simp only [linFill, List.foldl_cons, List.foldl_nil, Act.put, List.setIfInBounds_toArray, List.set_cons_zero, List.set_cons_succ, d0] at hK ⊢
          clear d0
          go_simp
          exact hK.out _ _ hT (.inl ⟨rfl, Below.refl _ _⟩) rfl
        refine LinSteps.cons (fun f L w1 hT hI hsh hL hd K hK => ?_) ?_
        · have d8 : f 38 = .pointer (some ⟨B1, 0, none⟩) := hd 8 38 (by rw [HL'.out]; kernel_rfl) (by rw [HL'.out]; kernel_rfl)
          simp only [linFill, List.foldl_cons, List.foldl_nil, Act.put, List.setIfInBounds_toArray, List.set_cons_zero, List.set_cons_succ, d8] at hK ⊢
          clear d8
          go_simp
          exact hK.out _ _ hT (.inl ⟨rfl, Below.refl _ _⟩) rfl
        refine LinSteps.cons (fun f L w1 hT hI hsh hL hd K hK => ?_) ?_
        · have d7 : f 37 = .int .i64 M' := hd 7 37 (by rw [HL'.out]; kernel_rfl) (by rw [HL'.out]; kernel_rfl)
          have d9 : f 39 = .pointer (some ⟨B1, 2, none⟩) := hd 9 39 (by rw [HL'.out]; kernel_rfl) (by rw [HL'.out]; kernel_rfl)
          have hb1 := hI.hc hL
          have kk := cell_of_cells (i := 2) hb1 rfl
          have ff := frozen_of_cells (i := 2) hb1
          simp only [linFill, List.foldl_cons, List.foldl_nil, Act.put, List.setIfInBounds_toArray, List.set_cons_zero, List.set_cons_succ, d7, d9] at hK ⊢
          clear d7 d9
          go_simp
          exact hK.out undef _ (hT.put_ (.inl rfl) _ _) (.inr ⟨A7I_ten hI hL hB.1 hne, fun j d _ _ h => h⟩) trivial
        exact LinSteps.nil
      · intro l' HL' f7 L7 w4 hT7 hI7 hall7 hf7
        have z1 := hI7.fin (hall7 10 (by decide))
        clear hf7
        simp only [linFill, List.foldl_cons, List.foldl_nil, List.setIfInBounds_toArray, List.set_cons_zero, List.set_cons_succ]
        gi_wp2
        obtain ⟨hB1, hB2, hK6, hbase, sz⟩ := HEQ.out
        obtain ⟨h0, h1, h2⟩ := HW.out
        obtain ⟨hbl2, hM⟩ := HX.out
        have ta : Turned (fun _ => False) W W2.drew := (Turned.of_below hw2).drew
        have tb : Turned (fun k => k = B1 ∨ vb.ownBlock = some k) W2.drew w3 := HT6.out
        have tc : Turned (fun k => k = B1) w3.drew w4 := hT7
        have ka : KeepsOthers W W2.drew := ta.others (fun k o h _ => h.elim)
        have kb : KeepsOthers W2.drew w3 := tb.others (fun k o h ho => by
          rcases h with h | h
          · have := blk_stay hw2 h1
            rw [h] at ho
            rw [show W2.drew.heap[B1]? = W2.heap[B1]? from rfl, this] at ho
            injection ho with ho
            subst ho; rfl
          · rcases HRW.out.2 with ⟨e, _⟩ | ⟨g, cap, cur, e, _, hgg, _⟩
            · rw [e] at h; simp [Value.ownBlock] at h
            · rw [e] at h
              have h' : g = k := by simpa [Value.ownBlock] using h
              subst h'
              have := blk_stay hw2 hgg
              rw [show W2.drew.heap[g]? = W2.heap[g]? from rfl, this] at ho
              injection ho with ho
              subst ho; rfl)
        have kc : KeepsOthers w3 w4 := (KeepsOthers.drew w3).trans (tc.others (fun k o h ho => by
          rw [h] at ho
          rw [show w3.drew.heap[B1]? = w3.heap[B1]? from rfl, f1] at ho
          injection ho with ho
          subst ho; rfl))
        have far : ∀ q, q < W0.heap.size → q ≠ B1 → w4.heap[q]? = W.heap[q]? := fun q hq hqB => by
          have s1 := hw2.size
          have s2 : W2.heap.size ≤ w3.heap.size := tb.size
          have e1 := ta.block q (by omega) (fun h => h)
          have e2 := tb.block q (show q < W2.heap.size by omega) (fun h => by
            rcases h with h | h
            · exact hqB h
            · have := (hv q h).1; omega)
          have e3 := tc.block q (show q < w3.heap.size by omega) hqB
          exact e3.trans (e2.trans e1)
        have hB4 : Below w.heap.size w w4 := by
          have t1 := tb.below (u := w) (hB'.trans ((hw2.mono hB'.size).drew)) (fun k h => by
            rcases h with h | h
            · omega
            · have := (hv k h).1; omega)
          exact tc.below t1.drew (fun k h => by omega)
        refine ⟨(ka.trans kb).trans kc, ⟨far _ (by omega) (by omega), far _ (by omega) (by omega)⟩, ⟨?_, ?_, v', ?_, ?_⟩, hB4, ?_⟩
        · rw [far _ (by omega) (by omega)]; exact h0
        · rw [← hB1, ← hB2, far _ (by omega) (by omega)]; exact h2
        · rw [← hB1, HSN.out, ← hM, ← HM'.out]; exact z1
        · rw [← hbase, HSB.out, ← hbl2]; exact hI7.row
        · have s1 := hw2.size
          have s2 : W2.heap.size ≤ w3.heap.size := tb.size
          have s3 : w3.heap.size ≤ w4.heap.size := tc.size
          omega
  case done =>
    rintro D xs W hD ⟨k, hk1, hk2⟩ ⟨⟨h0, h2, vb, h1, hrow⟩, hB, _⟩ hK
    have hkc := pcNo_end hk1 hk2
    rw [mxs_range l k xs hk1] at h1
    rw [blkOf_range l k xs hk1] at hrow
    have k2 := cell_of_cells (i := 0) h2 rfl
    have HL : Hid (l.take (4 * k) = l) := Lib.hid (List.take_of_length_le (by rw [← HN.out]; omega))
    have HK := Lib.hid hkc
    rw [HL.out] at h1
    clear hk1 hk2 hkc k3 k4 g0 g1 g2 g3 g4
    gi_wp2
    refine ⟨by simp, .inl ⟨_, _, rfl, run_takeDeferred hK, ?_⟩⟩
    have hg := grownBy_putObj' W D (.deferred none)
    have hr : ∀ r, some D = some r → ∃ o : Obj, W.heap[r]? = some o ∧ o.isCells = false := fun r e => by cases e; exact ⟨_, hK, rfl⟩
    have hBz : Below w.heap.size w (W.putObj D (.deferred none)) := hB.grown hg hB.size (fun k e => by cases e; omega)
    refine ⟨_, results_tmp rfl _ _ _, _, rfl, by omega, ⟨_, vb, cells_stay h1 hg hr, HP.out.later hBz, ?_⟩, hBz⟩
    have := (prow_stay hrow hg hr).prd
    unfold PostM.blks
    rw [← HN.out, ← HK.out]
    exact this
  case stop =>
    rintro D c pre W _ _ h _
    exact h.elim
end Go.Proofs.Ytlcmdnmifmjjgaa

/- Posts: Build, and what is asked of a list. -/
namespace Go.Proofs.Ytlcmdnmifmjjgaa
open Go.RowKit

set_option maxHeartbeats 1000000 in
set_option maxRecDepth 100000 in
theorem build_no (v : Value) (l : List (Int × Int)) (w : World) (h : Prd w v l) (hl : l.length ≤ 1000000) (hr : PostM.rightL l = false) :
    Calls Try.prog 7 #[v] w fun e w' => e = .returned (.tuple #[.pointer none, .int .i64 1]) ∧ Below w.heap.size w w' := by
  have hR := fun W (hW : Below w.heap.size w W) => pright_any v l W (h.later hW) hl
  rw [hr] at hR
  have HR := Lib.hid hR
  clear hR hr h
  go_enter Try.func7, Try.ntmps7
  go_wp2_with fail
  refine (HR.out _ (Below.refl _ _)).mono ?_
  rintro e W1 ⟨rfl, hb⟩
  go_wp2
  go_ret2
  exact ⟨rfl, hb⟩
set_option maxHeartbeats 1000000 in
set_option maxRecDepth 100000 in
theorem build_yes (v : Value) (l : List (Int × Int)) (w : World) (h : Prd w v l) (hl : l.length ≤ 1000000) (hr : PostM.rightL l = true) :
    Calls Try.prog 7 #[v] w fun e w' => ∃ b, e = .returned (.tuple #[.pointer (some ⟨b, 0, none⟩), .int .i64 0]) ∧ w.heap.size ≤ b ∧ PL w' b l ∧ Below w.heap.size w w' := by
  have hR := fun W (hW : Below w.heap.size w W) => pright_any v l W (h.later hW) hl
  rw [hr] at hR
  have hC := fun W (hW : Below w.heap.size w W) => pclone_any v l W (h.later hW) hl
  have HR := Lib.hid hR
  have HC := Lib.hid hC
  clear hR hr h hC
  go_enter Try.func7, Try.ntmps7
  go_wp2_with fail
  refine (HR.out _ (Below.refl _ _)).mono ?_
  rintro e W1 ⟨rfl, hb⟩
  go_wp2_with fail
  refine (HC.out _ hb).mono ?_
  rintro e W2 ⟨v', rfl, hrow, hb2⟩
  have hb3 := hb.trans (hb2.mono hb.size)
  have hL := listof_any v' l W2 hrow.prd hl
  have HL := Lib.hid hL
  clear hrow hL hb2
  go_wp2_with fail
  refine HL.out.mono ?_
  rintro e W3 ⟨b, rfl, hle, hpl, hb4⟩
  have hb5 := hb3.trans (hb4.mono hb3.size)
  have hle2 : w.heap.size ≤ b := Nat.le_trans hb3.size hle
  clear hb hb3 hb4 HL HR HC
  go_wp2
  go_ret2
  exact ⟨b, rfl, hle2, hpl, hb5⟩

theorem PL.cells {w : World} {b : Nat} {l : List (Int × Int)} (h : PL w b l) : ∃ A c A' c', w.cell? ⟨b, 0, none⟩ = some (.slice A l.length c) ∧ w.cell? ⟨b, 1, none⟩ = some (.slice A' (PostM.cnt l.length) c') ∧ w.cell? ⟨b, 2, none⟩ = some (.int .i64 (PostM.mx l)) ∧ Prd w (.slice A l.length c) l ∧ Prd w (.slice A' (PostM.cnt l.length) c') (PostM.blks l) ∧ b < w.heap.size := by
  obtain ⟨vp, vb, h1, h2, h3⟩ := h
  have g2 := h2
  have g3 := h3
  obtain ⟨A, c, rfl, _⟩ := h2.form
  obtain ⟨A', c', rfl, _⟩ := h3.form
  rw [PostM.blks_len] at *
  exact ⟨A, c, A', c', cell_of_cells h1 rfl, cell_of_cells h1 rfl, cell_of_cells h1 rfl, g2, g3, (Array.getElem?_eq_some_iff.1 h1).1⟩
set_option maxHeartbeats 400000 in
set_option maxRecDepth 100000 in
theorem plen_any (b : Nat) (l : List (Int × Int)) (w : World) (h : PL w b l) :
    Calls Try.prog 9 #[.pointer (some ⟨b, 0, none⟩)] w fun e w' => e = .returned (.int .i64 l.length) ∧ w = w' := by
  obtain ⟨A, c, A', c', k0, k1, k2, _⟩ := h.cells
  obtain ⟨n, hn⟩ : ∃ n, n = l.length := ⟨_, rfl⟩
  rw [← hn] at k0 ⊢
  clear hn h k1
  go_enter Try.func9, Try.ntmps9
  go_wp2
  go_ret
  exact ⟨rfl, rfl⟩
set_option maxHeartbeats 400000 in
set_option maxRecDepth 100000 in
theorem pmax_any (b : Nat) (l : List (Int × Int)) (w : World) (h : PL w b l) :
    Calls Try.prog 10 #[.pointer (some ⟨b, 0, none⟩)] w fun e w' => e = .returned (.int .i64 (PostM.mx l)) ∧ w = w' := by
  obtain ⟨A, c, A', c', k0, k1, k2, _⟩ := h.cells
  clear h k1 k0
  go_enter Try.func10, Try.ntmps10
  go_wp2
  go_ret
  exact ⟨rfl, rfl⟩
set_option maxHeartbeats 400000 in
set_option maxRecDepth 100000 in
theorem pblocks_any (b : Nat) (l : List (Int × Int)) (w : World) (h : PL w b l) :
    Calls Try.prog 12 #[.pointer (some ⟨b, 0, none⟩)] w fun e w' => e = .returned (.int .i64 (PostM.cnt l.length : Nat)) ∧ w = w' := by
  obtain ⟨A, c, A', c', k0, k1, k2, _⟩ := h.cells
  generalize PostM.cnt l.length = m at k1 ⊢
  clear h k0
  go_enter Try.func12, Try.ntmps12
  go_wp2
  go_ret
  exact ⟨rfl, rfl⟩
set_option maxHeartbeats 400000 in
set_option maxRecDepth 100000 in
theorem pposts_any (b : Nat) (l : List (Int × Int)) (w : World) (h : PL w b l) (hl : l.length ≤ 1000000) :
    Calls Try.prog 14 #[.pointer (some ⟨b, 0, none⟩)] w fun e w' => ∃ v, e = .returned v ∧ Prd w' v l ∧ Below w.heap.size w w' := by
  obtain ⟨A, c, A', c', k0, k1, k2, hp, _⟩ := h.cells
  have hC := pclone_any _ l w hp hl
  have HC := Lib.hid hC
  obtain ⟨n, hn⟩ : ∃ n, n = l.length := ⟨_, rfl⟩
  rw [← hn] at k0 HC
  clear hn h k1 hC hp k2
  go_enter Try.func14, Try.ntmps14
  go_wp2_with fail
  refine HC.out.mono ?_
  rintro e W1 ⟨v', rfl, hrow, hb⟩
  have HX := Lib.hid hrow.prd
  clear hrow HC k0
  go_wp2
  go_ret
  exact ⟨_, rfl, HX.out, hb⟩
end Go.Proofs.Ytlcmdnmifmjjgaa

/- What every layer's walks use: bytes as strings and as rows, what turns of the world, strings.Clone. -/
namespace Go.Proofs.Ytlcmdnmifmjjgaa
open Go.RowKit

def ofBytes (l : List UInt8) : ByteArray := ⟨l.toArray⟩
theorem ofBytes_list (l : List UInt8) : (ofBytes l).data.toList = l := by simp [ofBytes]
theorem ofBytes_self (t : ByteArray) : ofBytes t.data.toList = t := by cases t; simp [ofBytes]
theorem ofBytes_app (t : ByteArray) (l : List UInt8) : t ++ ofBytes l = ofBytes (t.data.toList ++ l) := by
  apply ByteArray.ext
  simp [ofBytes]
theorem ret_str {a b : ByteArray} (h : a = b) : Ending.returned (.string a) = .returned (.string b) := by rw [h]
def BytesAt (w : World) (g : Nat) (l : List UInt8) : Prop := ∀ j (h : j < l.length), w.cell? ⟨g, j, none⟩ = some (.int .u8 (l[j].toNat : Int)) ∧ w.frozen? ⟨g, j, none⟩ = false
theorem BytesAt.set_ {w : World} {g : Nat} {l : List UInt8} (h : BytesAt w g l) (i : Nat) (x : UInt8) : BytesAt (w.setCell ⟨g, i, none⟩ (.int .u8 (x.toNat : Int))) g (l.set i x) := by
  intro j hj
  have hj' : j < l.length := by simpa using hj
  refine ⟨?_, by simp [(h j hj').2]⟩
  by_cases e : i = j
  · subst e
    rw [World.cell?_setCell_same w _ _ (h i hj').1]
    simp
  · rw [World.cell?_setCell_other w _ _ _ (fun h => e (by injection h)), (h j hj').1]
    simp [e]
theorem size_ofBytes (l : List UInt8) : (ofBytes l).size = l.length := by simp [ofBytes, ByteArray.size]
theorem conv_bytes (w : World) (T : ByteArray) : ∃ C W, (convert 9 87 (.string T)).run Try.prog w = .ok (.slice (some ⟨w.heap.size, 0, none⟩) T.size C) W ∧ BytesAt W w.heap.size T.data.toList ∧ Below w.heap.size w W := by
  have hcv := run_bytes_of_string (P := Try.prog) w 9 87 5 T Try.underlying9 Try.underlying87 Try.underlying5
  refine ⟨_, _, hcv, ?_, (Below.refl _ w).drew.alloc (Nat.le_refl _) _⟩
  generalize grownCap w T.size 0 5 = C
  intro j hj
  have hj' : j < T.size := by simpa using hj
  have hrow : (w.drew.alloc (.cells (bytesRow T C) 5 ((bytesRow T C).size, (bytesRow T C).size + 1))).heap[w.heap.size]? = some (.cells (bytesRow T C) 5 ((bytesRow T C).size, (bytesRow T C).size + 1)) := heap_alloc_new w.drew _
  have hsz : T.size ≤ (bytesRow T C).size := by simp [bytesRow]
  refine ⟨?_, ?_⟩
  · rw [cell_of_row _ _ _ _ _ _ hrow]
    unfold bytesRow
    rw [Array.getElem?_append_left (by simpa using hj')]
    simp [hj']
  · unfold World.frozen?
    simp only [hrow]
    simp
    omega
theorem conv_string (W : World) (g C : Nat) (l : List UInt8) (h : BytesAt W g l) : (convert 87 9 (.slice (some ⟨g, 0, none⟩) l.length C)).run Try.prog W = .ok (.string (ofBytes l)) W :=
  run_convert_bytes_back W 87 9 5 ⟨g, 0, none⟩ C l Try.underlying87 Try.underlying5 Try.underlying9 (fun j hj => by
    have hadd : (⟨g, 0, none⟩ : Addr).add j = ⟨g, j, none⟩ := by unfold Addr.add; split <;> simp_all
    rw [hadd]
    exact (h j hj).1)
theorem append_ofBytes (x : List UInt8) (t : ByteArray) : ofBytes x ++ t = ofBytes (x ++ t.data.toList) := by
  apply ByteArray.ext
  simp [ofBytes]
theorem byte_info : (Try.prog.info? 5).map (fun i => (i.zero, i.size, i.bytes)) = some (some (.int .u8 0), 1, 1) := by kernel_rfl
set_option maxHeartbeats 4000000 in
set_option maxRecDepth 100000 in
theorem slClone_any (s : ByteArray) (w : World) (hlim : s.size ≤ 100000000) :
    Calls Try.prog 59 #[.string s] w fun e w' => e = .returned (.string s) ∧ Below w.heap.size w w' := by
  by_cases h0 : s.size = 0
  · have hs : s = ⟨#[]⟩ := by
      apply ByteArray.ext
      exact Array.eq_empty_of_size_eq_zero h0
    subst hs
    go_enter Try.func59, Try.ntmps59
    go_wp2
    go_ret
    exact ⟨rfl, Below.refl _ _⟩
  · obtain ⟨i0, hi, hz0, hz1, hz2⟩ := info_parts byte_info
    have hinfo : (Try.prog.info? 5).map (·.size) = some 1 := by rw [hi]; simp [hz1]
    have hco : Try.prog.cellsOf 5 = 1 := by simp [Program.cellsOf, hi, hz1]
    obtain ⟨M, hM⟩ : ∃ M, M = madeCells (Value.int .u8 0).cells (((s.size : Nat) : Int).toNat * i0.size) := ⟨_, rfl⟩
    have hMs : M.size = s.size := by rw [hM, size_madeCells, hz1]; simp
    have hmk : ∀ W : World, (Instr.makeSlice 87 (.int .i64 (s.size : Int)) (.int .i64 (s.size : Int))).run Try.prog W = .ok (.slice (some ⟨W.heap.size, 0, none⟩) s.size s.size) (W.alloc (.cells M 5)) := fun W => by
      have h := run_make (P := Try.prog) W 87 5 i0 (.int .u8 0) Try.underlying87 hi hz0 .i64 .i64 (s.size : Int) (s.size : Int) (by omega) (by omega) (by rw [hz2]; omega) (by omega)
      rw [← hM] at h
      simpa using h
    clear hM
    have hcp := Lib.run_copy_row_string (P := Try.prog) (w.alloc (.cells M 5)) 87 9 3 5 w.heap.size 0 s.size s.size s M 5 Try.underlying87 hinfo (heap_alloc_new w _) (Nat.le_refl _) (by omega)
    obtain ⟨Y, hY⟩ : ∃ Y, Y = (M.toList.take 0 ++ Lib.byteCells s.data.toList ++ M.toList.drop (0 + s.size)).toArray := ⟨_, rfl⟩
    rw [← hY] at hcp
    have hYl : Y.toList = Lib.byteCells s.data.toList := by
      rw [hY, List.toList_toArray, List.take_zero, List.nil_append, List.drop_of_length_le (by rw [Array.length_toList]; omega), List.append_nil]
    have hYs : Y.size = s.size := by rw [← Array.length_toList, hYl, Lib.byteCells_length, ← Lib.size_eq]
    have hgY : ((w.alloc (.cells M 5)).setRow w.heap.size Y).heap[w.heap.size]? = some (.cells Y 5 (0, 0)) := setRow_heap _ _ M _ 5 (0, 0) (heap_alloc_new w _)
    have hne : s.data.toList ≠ [] := fun e => h0 (by rw [Lib.size_eq, e]; rfl)
    have hUS := Lib.run_unsafeString_row (P := Try.prog) ((w.alloc (.cells M 5)).setRow w.heap.size Y) 116 3 9 5 Try.underlying116 hco w.heap.size Y.size (by unfold World.shape?; rw [hgY]) s.data.toList hne (by rw [← Lib.size_eq]; omega) (by rw [← Lib.size_eq]; omega)
      (fun j x hx => Lib.cells_of_row hgY Y.size j _ (by rw [List.take_of_length_le (by rw [Array.length_toList]; exact Nat.le_refl _), hYl]; simp [Lib.byteCells, hx]))
    rw [← Lib.size_eq] at hUS
    clear hY
    go_enter Try.func59, Try.ntmps59
    go_wp2
    go_ret
    have hb1 : Below w.heap.size w (w.alloc (.cells M 5)) := (Below.refl _ w).alloc (Nat.le_refl _) _
    have hb2 : Below w.heap.size (w.alloc (.cells M 5)) ((w.alloc (.cells M 5)).setRow w.heap.size Y) := ⟨rfl, rfl, rfl, by simp, fun k hk => setRow_other _ _ _ _ (by omega)⟩
    exact ⟨rfl, Lib.below_freeze (hb1.trans hb2) (p := ⟨w.heap.size, 0, none⟩) (Nat.le_refl _) _⟩
theorem clone_any (s : ByteArray) (w : World) (hlim : s.size ≤ 100000000) :
    Calls Try.prog 48 #[.string s] w fun e w' => e = .returned (.string s) ∧ Below w.heap.size w w' := by
  go_enter Try.func48, Try.ntmps48
  go_wp2_with (go_at_call 59; refine (slClone_any _ _ hlim).mono ?_; rintro e w' ⟨rfl, hb⟩)
  go_ret
  exact ⟨rfl, hb⟩
end Go.Proofs.Ytlcmdnmifmjjgaa

/- Varints, zigzags, rising rows and packed rows as plain lists: what is written, what is read, there and back. Nothing of the program. -/
namespace PackM

theorem u8_of (b : UInt8) : UInt8.ofNat b.toNat = b := by simp
theorem toNat_of (n : Nat) (h : n < 256) : (UInt8.ofNat n).toNat = n := by rw [UInt8.toNat_ofNat']; omega

/-- a varint -/
def vw (n : Nat) : List UInt8 := if n < 128 then [UInt8.ofNat n] else UInt8.ofNat (n % 128 + 128) :: vw (n / 128)
  termination_by n
theorem vw_lt {n : Nat} (h : n < 128) : vw n = [UInt8.ofNat n] := by rw [vw, if_pos h]
theorem vw_ge {n : Nat} (h : ¬ n < 128) : vw n = UInt8.ofNat (n % 128 + 128) :: vw (n / 128) := by rw [vw, if_neg h]
theorem vw_pos (n : Nat) : 0 < (vw n).length := by
  by_cases h : n < 128
  · rw [vw_lt h]; simp
  · rw [vw_ge h]; simp
theorem vw_len : ∀ (k n : Nat), n < 128 ^ (k + 1) → (vw n).length ≤ k + 1
  | 0, n, h => by rw [vw_lt (by simpa using h)]; simp
  | k + 1, n, h => by
    by_cases h1 : n < 128
    · rw [vw_lt h1]; simp
    · rw [vw_ge h1]
      have := vw_len k (n / 128) (by rw [Nat.div_lt_iff_lt_mul (by decide)]; rw [Nat.pow_succ] at h; exact h)
      simp; omega
theorem vw_len10 (n : Nat) (h : n < 18446744073709551616) : (vw n).length ≤ 10 := vw_len 9 n (by omega)

/-- the varint of a number up to most, off the front: place i, what is ahead is u -/
def num (most : Nat) : Nat → Nat → List UInt8 → Option (Nat × List UInt8)
  | _, _, [] => none
  | i, u, b :: t =>
    if most < u + b.toNat % 128 * 128 ^ i then none
    else if 128 ≤ b.toNat then num most (i + 1) (u + b.toNat % 128 * 128 ^ i) t
    else if b.toNat = 0 ∧ 0 < i then none
    else some (u + b.toNat % 128 * 128 ^ i, t)

theorem num_nil (most i u : Nat) : num most i u [] = none := rfl
theorem num_over {most i u : Nat} {b : UInt8} {t : List UInt8} (h : most < u + b.toNat % 128 * 128 ^ i) : num most i u (b :: t) = none := by
  rw [num, if_pos h]
theorem num_more {most i u : Nat} {b : UInt8} {t : List UInt8} (h : ¬ most < u + b.toNat % 128 * 128 ^ i) (h1 : 128 ≤ b.toNat) : num most i u (b :: t) = num most (i + 1) (u + b.toNat % 128 * 128 ^ i) t := by
  rw [num, if_neg h, if_pos h1]
theorem num_null {most i u : Nat} {b : UInt8} {t : List UInt8} (h : ¬ most < u + b.toNat % 128 * 128 ^ i) (h1 : b.toNat = 0) (h2 : 0 < i) : num most i u (b :: t) = none := by
  rw [num, if_neg h, if_neg (by omega), if_pos ⟨h1, h2⟩]
theorem num_end {most i u : Nat} {b : UInt8} {t : List UInt8} (h : ¬ most < u + b.toNat % 128 * 128 ^ i) (h1 : ¬ 128 ≤ b.toNat) (h2 : ¬ (b.toNat = 0 ∧ 0 < i)) : num most i u (b :: t) = some (u + b.toNat % 128 * 128 ^ i, t) := by
  rw [num, if_neg h, if_neg h1, if_neg h2]

theorem num_far {most : Nat} (hm : most < 18446744073709551616) : ∀ (s : List UInt8) (i u : Nat), 10 ≤ i → num most i u s = none
  | [], _, _, _ => rfl
  | b :: t, i, u, hi => by
    by_cases h : most < u + b.toNat % 128 * 128 ^ i
    · exact num_over h
    · by_cases h1 : 128 ≤ b.toNat
      · rw [num_more h h1]; exact num_far hm t _ _ (by omega)
      · have h0 : b.toNat % 128 = 0 := by
          rcases Nat.eq_zero_or_pos (b.toNat % 128) with e | e
          · exact e
          · exfalso
            apply h
            have h2 : 128 ^ 10 ≤ 128 ^ i := Nat.pow_le_pow_right (by decide) hi
            have h3 : 1 * 128 ^ i ≤ b.toNat % 128 * 128 ^ i := Nat.mul_le_mul_right _ e
            omega
        exact num_null h (by omega) (by omega)

theorem num_ge {most : Nat} : ∀ (s : List UInt8) (i u v : Nat) (t : List UInt8), num most i u s = some (v, t) → u ≤ v ∧ v ≤ most
  | [], _, _, _, _, h => by cases h
  | b :: r, i, u, v, t, h => by
    by_cases h0 : most < u + b.toNat % 128 * 128 ^ i
    · rw [num_over h0] at h; cases h
    · by_cases h1 : 128 ≤ b.toNat
      · rw [num_more h0 h1] at h
        have := num_ge r _ _ _ _ h
        omega
      · by_cases h2 : b.toNat = 0 ∧ 0 < i
        · rw [num_null h0 h2.1 h2.2] at h; cases h
        · rw [num_end h0 h1 h2] at h
          injection h with h
          injection h with h3 h4
          omega

/-- what is read by a greater bound, and goes into a less one, is read by this too -/
theorem num_less {m M : Nat} (hmM : m ≤ M) : ∀ (s : List UInt8) (i u : Nat), num m i u s = (num M i u s).bind fun x => if x.1 ≤ m then some x else none
  | [], _, _ => rfl
  | b :: r, i, u => by
    by_cases h0 : m < u + b.toNat % 128 * 128 ^ i
    · rw [num_over h0]
      cases hN : num M i u (b :: r) with
      | none => rfl
      | some x =>
        obtain ⟨v, t⟩ := x
        have hv : m < v := by
          by_cases h0' : M < u + b.toNat % 128 * 128 ^ i
          · rw [num_over h0'] at hN; cases hN
          · by_cases h1 : 128 ≤ b.toNat
            · rw [num_more h0' h1] at hN
              have := num_ge r _ _ _ _ hN
              omega
            · by_cases h2 : b.toNat = 0 ∧ 0 < i
              · rw [num_null h0' h2.1 h2.2] at hN; cases hN
              · rw [num_end h0' h1 h2] at hN
                injection hN with h
                injection h with h3 h4
                omega
        simp [Option.bind]; omega
    · have h0' : ¬ M < u + b.toNat % 128 * 128 ^ i := by omega
      by_cases h1 : 128 ≤ b.toNat
      · rw [num_more h0 h1, num_more h0' h1]; exact num_less hmM r _ _
      · by_cases h2 : b.toNat = 0 ∧ 0 < i
        · rw [num_null h0 h2.1 h2.2, num_null h0' h2.1 h2.2]; rfl
        · rw [num_end h0 h1 h2, num_end h0' h1 h2]
          simp [Option.bind]; omega

/-- there and back -/
theorem num_vw {most : Nat} (s : List UInt8) : ∀ (n i u : Nat), u + n * 128 ^ i ≤ most → (0 < i → 0 < n) → num most i u (vw n ++ s) = some (u + n * 128 ^ i, s) := by
  intro n
  induction n using Nat.strongRecOn with
  | _ n ih =>
    intro i u hb hp
    by_cases h : n < 128
    · rw [vw_lt h]
      have e : (UInt8.ofNat n).toNat = n := toNat_of n (by omega)
      have e2 : n % 128 = n := Nat.mod_eq_of_lt h
      rw [List.singleton_append, num_end (by rw [e, e2]; omega) (by rw [e]; omega) (by rw [e]; omega), e, e2]
    · rw [vw_ge h]
      have e : (UInt8.ofNat (n % 128 + 128)).toNat = n % 128 + 128 := toNat_of _ (by omega)
      have e2 : (n % 128 + 128) % 128 = n % 128 := by omega
      have e3 : n / 128 * 128 ^ (i + 1) + n % 128 * 128 ^ i = n * 128 ^ i := by
        rw [Nat.pow_succ, Nat.mul_comm (128 ^ i) 128, ← Nat.mul_assoc, ← Nat.add_mul]
        congr 1
        omega
      have hle : u + n % 128 * 128 ^ i ≤ most := by omega
      rw [List.cons_append, num_more (by rw [e, e2]; omega) (by rw [e]; omega), e, e2, ih (n / 128) (by omega) (i + 1) _ (by omega) (by omega)]
      congr 2
      omega
theorem num_back {most : Nat} : ∀ (s : List UInt8) (i u v : Nat) (t : List UInt8), num most i u s = some (v, t) → ∃ n, s = vw n ++ t ∧ v = u + n * 128 ^ i ∧ (0 < i → 0 < n)
  | [], _, _, _, _, h => by cases h
  | b :: r, i, u, v, t, h => by
    have hb := b.toNat_lt
    by_cases h0 : most < u + b.toNat % 128 * 128 ^ i
    · rw [num_over h0] at h; cases h
    · by_cases h1 : 128 ≤ b.toNat
      · rw [num_more h0 h1] at h
        obtain ⟨n, rfl, hv, hn⟩ := num_back r _ _ _ _ h
        have hn' := hn (by omega)
        refine ⟨b.toNat % 128 + 128 * n, ?_, ?_, fun _ => by omega⟩
        · rw [vw_ge (n := b.toNat % 128 + 128 * n) (by omega), show (b.toNat % 128 + 128 * n) / 128 = n from by omega, show (b.toNat % 128 + 128 * n) % 128 + 128 = b.toNat from by omega, u8_of]
          rfl
        · rw [hv, Nat.pow_succ, Nat.add_mul, Nat.mul_comm 128 n, Nat.mul_assoc, Nat.mul_comm 128 (128 ^ i)]
          omega
      · by_cases h2 : b.toNat = 0 ∧ 0 < i
        · rw [num_null h0 h2.1 h2.2] at h; cases h
        · rw [num_end h0 h1 h2] at h
          injection h with h
          injection h with h3 h4
          subst h4
          refine ⟨b.toNat, ?_, ?_, by omega⟩
          · rw [vw_lt (by omega), u8_of]; rfl
          · rw [Nat.mod_eq_of_lt (by omega)] at h3; omega

theorem num_there (most n : Nat) (s : List UInt8) (h : n ≤ most) : num most 0 0 (vw n ++ s) = some (n, s) := by
  have := num_vw (most := most) s n 0 0 (by simpa using h) (by omega)
  simpa using this
theorem num_here {most : Nat} {s : List UInt8} {v : Nat} {t : List UInt8} (h : num most 0 0 s = some (v, t)) : s = vw v ++ t := by
  obtain ⟨n, h1, h2, _⟩ := num_back s 0 0 v t h
  simp at h2
  rw [h2]; exact h1
theorem num_short {most : Nat} {s : List UInt8} {v : Nat} {t : List UInt8} (h : num most 0 0 s = some (v, t)) : t.length < s.length := by
  have := num_here h
  have h2 := vw_pos v
  rw [this, List.length_append]; omega

/-- a zigzag -/
def zz (v : Int) : Nat := if 0 ≤ v then (2 * v).toNat else (-(2 * v) - 1).toNat
def unzz (u : Nat) : Int := if u % 2 = 0 then ((u / 2 : Nat) : Int) else -((u / 2 : Nat) : Int) - 1
theorem unzz_zz (v : Int) : unzz (zz v) = v := by
  unfold zz
  by_cases h : 0 ≤ v
  · rw [if_pos h]; unfold unzz; rw [if_pos (by omega)]; omega
  · rw [if_neg h]; unfold unzz; rw [if_neg (by omega)]; omega
theorem zz_unzz (u : Nat) : zz (unzz u) = u := by
  unfold unzz
  by_cases h : u % 2 = 0
  · rw [if_pos h]; unfold zz; rw [if_pos (by omega)]; omega
  · rw [if_neg h]; unfold zz; rw [if_neg (by omega)]; omega
theorem zz_lt (v : Int) (h1 : -9223372036854775808 ≤ v) (h2 : v ≤ 9223372036854775807) : zz v < 18446744073709551616 := by
  unfold zz; split <;> omega

/-- a rising row -/
def rises : Int → List Int → Bool
  | _, [] => true
  | last, v :: t => decide (last < v) && rises v t
def diffs : Int → List Int → List UInt8
  | _, [] => []
  | last, v :: t => vw (v - 1 - last).toNat ++ diffs v t
def risB (l : List Int) : List UInt8 := vw l.length ++ diffs (-1) l

def MAXI : Nat := 9223372036854775807
def MAXU : Nat := 18446744073709551615

/-- n numbers of a rising row, behind last -/
def ris : Int → Nat → List UInt8 → Option (List Int × List UInt8)
  | _, 0, s => some ([], s)
  | last, n + 1, s => (num MAXI 0 0 s).bind fun x => if (MAXI : Int) - 1 - last < (x.1 : Int) then none else (ris (last + 1 + x.1) n x.2).bind fun y => some ((last + 1 + x.1) :: y.1, y.2)
def rRis (most : Int) (s : List UInt8) : Option (List Int × List UInt8) := (num MAXI 0 0 s).bind fun x => if most < (x.1 : Int) then none else ris (-1) x.1 x.2

theorem ris_short : ∀ (n : Nat) (last : Int) (s : List UInt8) (l : List Int) (t : List UInt8), ris last n s = some (l, t) → n + t.length ≤ s.length ∧ l.length = n
  | 0, last, s, l, t, h => by
    simp only [ris] at h
    injection h with h; injection h with h1 h2
    subst h1; subst h2
    simp
  | n + 1, last, s, l, t, h => by
    simp only [ris] at h
    cases hN : num MAXI 0 0 s with
    | none => rw [hN] at h; cases h
    | some x =>
      rw [hN] at h
      simp only [Option.bind] at h
      have hsh := num_short (v := x.1) (t := x.2) hN
      split at h
      · cases h
      · cases hR : ris (last + 1 + x.1) n x.2 with
        | none => rw [hR] at h; cases h
        | some y =>
          rw [hR] at h
          simp only at h
          injection h with h; injection h with h1 h2
          have := ris_short n _ _ y.1 y.2 hR
          subst h1; subst h2
          simp; omega

theorem ris_there : ∀ (l : List Int) (last : Int) (s : List UInt8), -1 ≤ last → rises last l = true → (∀ v ∈ l, v ≤ 9223372036854775807) → ris last l.length (diffs last l ++ s) = some (l, s)
  | [], _, _, _, _, _ => rfl
  | v :: t, last, s, hl, hr, hm => by
    simp only [rises, Bool.and_eq_true, decide_eq_true_eq] at hr
    have hv := hm v (by simp)
    simp only [List.length_cons, ris, diffs, List.append_assoc]
    rw [num_there MAXI _ _ (by unfold MAXI; omega)]
    simp only [Option.bind]
    rw [if_neg (by unfold MAXI; omega), show last + 1 + ((v - 1 - last).toNat : Int) = v from by omega, ris_there t v s (by omega) hr.2 (fun x hx => hm x (by simp [hx]))]
theorem rRis_there (l : List Int) (s : List UInt8) (hl : l.length ≤ 1000000) (hr : rises (-1) l = true) (hm : ∀ v ∈ l, v ≤ 9223372036854775807) : rRis l.length (risB l ++ s) = some (l, s) := by
  unfold rRis risB
  rw [List.append_assoc, num_there MAXI _ _ (by unfold MAXI; omega)]
  simp only [Option.bind]
  rw [if_neg (by omega), ris_there l (-1) s (by omega) hr hm]
end PackM

/- Rows of numbers of w bits each, packed, as plain lists: what is written, what is read, there and back. Nothing of the program. -/
namespace PackM

/-- the bits of a number, the lowest first -/
def bitsN (w v : Nat) : List Nat := (List.range w).map fun i => v / 2 ^ i % 2
def allBits (w : Nat) (ns : List Nat) : List Nat := (ns.map (bitsN w)).flatten
/-- byte j of a row of bits -/
def byt (B : List Nat) (j : Nat) : Nat :=
  B.getD (8 * j) 0 + 2 * B.getD (8 * j + 1) 0 + 4 * B.getD (8 * j + 2) 0 + 8 * B.getD (8 * j + 3) 0 + 16 * B.getD (8 * j + 4) 0 + 32 * B.getD (8 * j + 5) 0 + 64 * B.getD (8 * j + 6) 0 + 128 * B.getD (8 * j + 7) 0
def packed (B : List Nat) (L : Nat) : List UInt8 := (List.range L).map fun j => UInt8.ofNat (byt B j)
theorem packed_length (B : List Nat) (L : Nat) : (packed B L).length = L := by simp [packed]

def Bits (B : List Nat) : Prop := ∀ x ∈ B, x ≤ 1
theorem Bits.getD {B : List Nat} (h : Bits B) (q : Nat) : B.getD q 0 ≤ 1 := by
  rw [List.getD_eq_getElem?_getD]
  by_cases hq : q < B.length
  · rw [List.getElem?_eq_getElem hq]; exact h _ (List.getElem_mem hq)
  · rw [List.getElem?_eq_none (by omega)]; simp
theorem bitsN_ok (w v : Nat) : Bits (bitsN w v) := by
  intro x hx
  simp only [bitsN, List.mem_map] at hx
  obtain ⟨i, _, rfl⟩ := hx
  omega
theorem allBits_ok (w : Nat) (ns : List Nat) : Bits (allBits w ns) := by
  intro x hx
  simp only [allBits, List.mem_flatten, List.mem_map] at hx
  obtain ⟨l, ⟨v, _, rfl⟩, hx⟩ := hx
  exact bitsN_ok w v x hx
theorem allBits_length (w : Nat) (ns : List Nat) : (allBits w ns).length = ns.length * w := by
  induction ns with
  | nil => simp [allBits]
  | cons v t ih =>
    have : allBits w (v :: t) = bitsN w v ++ allBits w t := by simp [allBits]
    rw [this, List.length_append, ih, List.length_cons, Nat.succ_mul, Nat.add_comm]
    simp [bitsN]
theorem allBits_cons (w v : Nat) (t : List Nat) : allBits w (v :: t) = bitsN w v ++ allBits w t := by simp [allBits]
theorem allBits_snoc (w v : Nat) (t : List Nat) : allBits w (t ++ [v]) = allBits w t ++ bitsN w v := by simp [allBits]
theorem bitsN_succ (w v : Nat) : bitsN (w + 1) v = bitsN w v ++ [v / 2 ^ w % 2] := by simp [bitsN, List.range_succ]
theorem bitsN_length (w v : Nat) : (bitsN w v).length = w := by simp [bitsN]
theorem bitsN_getD (w v i : Nat) (h : i < w) : (bitsN w v).getD i 0 = v / 2 ^ i % 2 := by
  rw [List.getD_eq_getElem?_getD]; simp [bitsN, h]
theorem allBits_getD (w : Nat) : ∀ (ns : List Nat) (k i : Nat) (_ : k < ns.length) (_ : i < w), (allBits w ns).getD (k * w + i) 0 = ns[k] / 2 ^ i % 2
  | v :: t, 0, i, hk, hi => by
    rw [allBits_cons, List.getD_eq_getElem?_getD, List.getElem?_append_left (by rw [bitsN_length]; omega), ← List.getD_eq_getElem?_getD, Nat.zero_mul, Nat.zero_add, bitsN_getD w v i hi]
    rfl
  | v :: t, k + 1, i, hk, hi => by
    have e : (k + 1) * w + i = w + (k * w + i) := by rw [Nat.succ_mul]; omega
    rw [allBits_cons, List.getD_eq_getElem?_getD, List.getElem?_append_right (by rw [bitsN_length, e]; omega), ← List.getD_eq_getElem?_getD, bitsN_length, e, Nat.add_sub_cancel_left, allBits_getD w t k i (by simpa using hk) hi]
    rfl

theorem getD_snoc (B : List Nat) (x q : Nat) : (B ++ [x]).getD q 0 = B.getD q 0 + if q = B.length then x else 0 := by
  rw [List.getD_eq_getElem?_getD, List.getD_eq_getElem?_getD]
  by_cases h : q < B.length
  · rw [List.getElem?_append_left h, if_neg (by omega), Nat.add_zero]
  · rw [List.getElem?_append_right (by omega), List.getElem?_eq_none (l := B) (by omega)]
    by_cases h2 : q = B.length
    · subst h2; simp
    · rw [if_neg h2, List.getElem?_eq_none (by simp; omega)]
      rfl
theorem getD_past (B : List Nat) (q : Nat) (h : B.length ≤ q) : B.getD q 0 = 0 := by
  rw [List.getD_eq_getElem?_getD, List.getElem?_eq_none h]; rfl

theorem pow_le7 {m : Nat} (h : m < 8) : m = 0 ∨ m = 1 ∨ m = 2 ∨ m = 3 ∨ m = 4 ∨ m = 5 ∨ m = 6 ∨ m = 7 := by omega

theorem byt_snoc (B : List Nat) (x j : Nat) : byt (B ++ [x]) j = byt B j + if j = B.length / 8 then x * 2 ^ (B.length % 8) else 0 := by
  unfold byt
  simp only [getD_snoc]
  by_cases hj : j = B.length / 8
  · rw [if_pos hj]
    have h8 : B.length = 8 * j + B.length % 8 := by omega
    generalize B.length % 8 = m at h8
    have hm : m < 8 := by omega
    rw [h8]
    rcases pow_le7 hm with rfl | rfl | rfl | rfl | rfl | rfl | rfl | rfl <;> simp <;> omega
  · rw [if_neg hj]
    rw [if_neg (by omega), if_neg (by omega), if_neg (by omega), if_neg (by omega), if_neg (by omega), if_neg (by omega), if_neg (by omega), if_neg (by omega)]
    omega
theorem byt_past (B : List Nat) (j : Nat) (h : B.length ≤ 8 * j) : byt B j = 0 := by
  unfold byt
  rw [getD_past _ _ (by omega), getD_past _ _ (by omega), getD_past _ _ (by omega), getD_past _ _ (by omega), getD_past _ _ (by omega), getD_past _ _ (by omega), getD_past _ _ (by omega), getD_past _ _ (by omega)]
theorem byt_lt {B : List Nat} (h : Bits B) (j : Nat) : byt B j < 256 := by
  have h0 := h.getD (8 * j)
  have h1 := h.getD (8 * j + 1)
  have h2 := h.getD (8 * j + 2)
  have h3 := h.getD (8 * j + 3)
  have h4 := h.getD (8 * j + 4)
  have h5 := h.getD (8 * j + 5)
  have h6 := h.getD (8 * j + 6)
  have h7 := h.getD (8 * j + 7)
  unfold byt; omega
theorem byt_open {B : List Nat} (h : Bits B) : byt B (B.length / 8) < 2 ^ (B.length % 8) := by
  obtain ⟨j, hj⟩ : ∃ j, j = B.length / 8 := ⟨_, rfl⟩
  have h0 := h.getD (8 * j)
  have h1 := h.getD (8 * j + 1)
  have h2 := h.getD (8 * j + 2)
  have h3 := h.getD (8 * j + 3)
  have h4 := h.getD (8 * j + 4)
  have h5 := h.getD (8 * j + 5)
  have h6 := h.getD (8 * j + 6)
  have p := fun q hq => getD_past B q hq
  rw [← hj]
  have h8 : B.length = 8 * j + B.length % 8 := by omega
  generalize B.length % 8 = m at h8
  have hm : m < 8 := by omega
  unfold byt
  rcases pow_le7 hm with rfl | rfl | rfl | rfl | rfl | rfl | rfl | rfl
  · rw [p (8 * j) (by omega), p (8 * j + 1) (by omega), p (8 * j + 2) (by omega), p (8 * j + 3) (by omega), p (8 * j + 4) (by omega), p (8 * j + 5) (by omega), p (8 * j + 6) (by omega), p (8 * j + 7) (by omega)]; decide
  · rw [p (8 * j + 1) (by omega), p (8 * j + 2) (by omega), p (8 * j + 3) (by omega), p (8 * j + 4) (by omega), p (8 * j + 5) (by omega), p (8 * j + 6) (by omega), p (8 * j + 7) (by omega)]; omega
  · rw [p (8 * j + 2) (by omega), p (8 * j + 3) (by omega), p (8 * j + 4) (by omega), p (8 * j + 5) (by omega), p (8 * j + 6) (by omega), p (8 * j + 7) (by omega)]; omega
  · rw [p (8 * j + 3) (by omega), p (8 * j + 4) (by omega), p (8 * j + 5) (by omega), p (8 * j + 6) (by omega), p (8 * j + 7) (by omega)]; omega
  · rw [p (8 * j + 4) (by omega), p (8 * j + 5) (by omega), p (8 * j + 6) (by omega), p (8 * j + 7) (by omega)]; omega
  · rw [p (8 * j + 5) (by omega), p (8 * j + 6) (by omega), p (8 * j + 7) (by omega)]; omega
  · rw [p (8 * j + 6) (by omega), p (8 * j + 7) (by omega)]; omega
  · rw [p (8 * j + 7) (by omega)]; omega

/-- a bit more: by 'or' and by '+' -/
theorem byt_or {B : List Nat} (h : Bits B) (x : Nat) : byt B (B.length / 8) ||| x * 2 ^ (B.length % 8) = byt B (B.length / 8) + x * 2 ^ (B.length % 8) := by
  have := Nat.shiftLeft_add_eq_or_of_lt (byt_open h) x
  rw [Nat.shiftLeft_eq] at this
  rw [Nat.or_comm, Nat.add_comm, this]
theorem packed_snoc {B : List Nat} (x L : Nat) : packed (B ++ [x]) L = (packed B L).set (B.length / 8) (UInt8.ofNat (byt B (B.length / 8) + x * 2 ^ (B.length % 8))) := by
  apply List.ext_getElem
  · simp [packed]
  · intro j h1 h2
    have hj : j < L := by simpa [packed] using h1
    rw [List.getElem_set]
    simp only [packed, List.getElem_map, List.getElem_range, byt_snoc]
    by_cases e : B.length / 8 = j
    · rw [if_pos e, if_pos e.symm, e]
    · rw [if_neg e, if_neg (fun h => e h.symm), Nat.add_zero]
theorem packed_zero (L : Nat) : packed [] L = List.replicate L 0 := by
  apply List.ext_getElem
  · simp [packed]
  · intro j h1 h2
    simp only [packed, List.getElem_map, List.getElem_range, List.getElem_replicate]
    rw [byt_past [] j (by simp)]
    rfl
theorem packed_grow {B : List Nat} (h : B.length % 8 = 0) : packed B (B.length / 8 + 1) = packed B (B.length / 8) ++ [0] := by
  unfold packed
  rw [List.range_succ, List.map_append, List.map_singleton, byt_past B (B.length / 8) (by omega)]
  rfl

/-- reading -/
def bitAt (s : List UInt8) (p : Nat) : Nat := (s.getD (p / 8) 0).toNat / 2 ^ (p % 8) % 2
def bv (s : List UInt8) : Nat → Nat → Nat
  | _, 0 => 0
  | p, w + 1 => bitAt s p + 2 * bv s (p + 1) w
theorem bitAt_le (s : List UInt8) (p : Nat) : bitAt s p ≤ 1 := by unfold bitAt; omega
theorem bv_back (s : List UInt8) : ∀ (w p : Nat), bv s p (w + 1) = bv s p w + bitAt s (p + w) * 2 ^ w
  | 0, p => by simp [bv]
  | w + 1, p => by
    rw [bv, bv_back s w (p + 1), bv]
    have e : p + 1 + w = p + (w + 1) := by omega
    rw [e, Nat.mul_add, Nat.pow_succ, Nat.mul_comm (2 ^ w) 2, Nat.mul_left_comm 2, Nat.add_assoc]
theorem bv_lt (s : List UInt8) : ∀ (w p : Nat), bv s p w < 2 ^ w
  | 0, p => by simp [bv]
  | w + 1, p => by
    have := bv_lt s w (p + 1)
    have h2 := bitAt_le s p
    rw [bv, Nat.pow_succ]; omega
theorem bv_of (s : List UInt8) : ∀ (w p v : Nat), v < 2 ^ w → (∀ i, i < w → bitAt s (p + i) = v / 2 ^ i % 2) → bv s p w = v
  | 0, p, v, hv, _ => by simp at hv; simp [bv, hv]
  | w + 1, p, v, hv, h => by
    have h0 := h 0 (by omega)
    simp at h0
    have := bv_of s w (p + 1) (v / 2) (by rw [Nat.pow_succ] at hv; omega) (fun i hi => by
      have := h (i + 1) (by omega)
      rw [show p + (i + 1) = p + 1 + i from by omega, Nat.pow_succ, Nat.mul_comm, ← Nat.div_div_eq_div_mul] at this
      exact this)
    rw [bv, this, h0]; omega
theorem bv_zero (s : List UInt8) : ∀ (w p : Nat), bv s p w = 0 ↔ ∀ i, i < w → bitAt s (p + i) = 0
  | 0, p => by simp [bv]
  | w + 1, p => by
    rw [bv]
    have ih := bv_zero s w (p + 1)
    constructor
    · intro h i hi
      rcases Nat.eq_zero_or_pos i with e | e
      · subst e; rw [Nat.add_zero]; omega
      · have := ih.1 (by omega) (i - 1) (by omega)
        rw [show p + 1 + (i - 1) = p + i from by omega] at this
        exact this
    · intro h
      have h0 := h 0 (by omega)
      rw [Nat.add_zero] at h0
      have := ih.2 (fun i hi => by have := h (i + 1) (by omega); rw [show p + (i + 1) = p + 1 + i from by omega] at this; exact this)
      omega
theorem bitAt_packed {B : List Nat} (h : Bits B) (L p : Nat) (hp : p < 8 * L) : bitAt (packed B L) p = B.getD p 0 := by
  unfold bitAt
  have hj : p / 8 < L := by omega
  have e : (packed B L).getD (p / 8) 0 = UInt8.ofNat (byt B (p / 8)) := by
    rw [List.getD_eq_getElem?_getD]; simp [packed, hj]
  rw [e, toNat_of _ (byt_lt h _)]
  obtain ⟨j, hjE⟩ : ∃ j, j = p / 8 := ⟨_, rfl⟩
  rw [← hjE]
  have h0 := h.getD (8 * j)
  have h1 := h.getD (8 * j + 1)
  have h2 := h.getD (8 * j + 2)
  have h3 := h.getD (8 * j + 3)
  have h4 := h.getD (8 * j + 4)
  have h5 := h.getD (8 * j + 5)
  have h6 := h.getD (8 * j + 6)
  have h7 := h.getD (8 * j + 7)
  have h8 : p = 8 * j + p % 8 := by omega
  generalize p % 8 = m at h8
  have hm : m < 8 := by omega
  subst h8
  unfold byt
  rcases pow_le7 hm with rfl | rfl | rfl | rfl | rfl | rfl | rfl | rfl <;> simp only [Nat.reducePow, Nat.add_zero] <;> omega

/-- n numbers of w bits each, out of their bytes -/
def nums (b : List UInt8) (w n : Nat) : List Nat := (List.range n).map fun k => bv b (k * w) w
/-- Fixed, in its range: the numbers, and what is behind -/
def rFix (w n : Nat) (s : List UInt8) : Option (List Nat × List UInt8) :=
  if s.length < (w * n + 7) / 8 then none
  else if bv (s.take ((w * n + 7) / 8)) (w * n) ((w * n + 7) / 8 * 8 - w * n) = 0 then some (nums (s.take ((w * n + 7) / 8)) w n, s.drop ((w * n + 7) / 8)) else none
def fixB (w : Nat) (ns : List Nat) : List UInt8 := packed (allBits w ns) ((w * ns.length + 7) / 8)

theorem rFix_there (w : Nat) (ns : List Nat) (s : List UInt8) (h : ∀ v ∈ ns, v < 2 ^ w) : rFix w ns.length (fixB w ns ++ s) = some (ns, s) := by
  obtain ⟨L, hL⟩ : ∃ L, L = (w * ns.length + 7) / 8 := ⟨_, rfl⟩
  have hlen : (fixB w ns).length = L := by rw [fixB, packed_length, hL]
  unfold rFix
  rw [← hL]
  rw [if_neg (by rw [List.length_append, hlen]; omega), List.take_append_of_le_length (by omega), List.take_of_length_le (by omega), List.drop_append_of_le_length (by omega), List.drop_of_length_le (by omega), List.nil_append]
  have hB := allBits_ok w ns
  have hlb := allBits_length w ns
  rw [Nat.mul_comm] at hlb
  have hfill : bv (fixB w ns) (w * ns.length) (L * 8 - w * ns.length) = 0 := by
    rw [bv_zero]
    intro i hi
    rw [fixB, bitAt_packed hB _ _ (by rw [← hL]; omega), getD_past _ _ (by omega)]
  rw [if_pos hfill]
  congr 2
  apply List.ext_getElem
  · simp [nums]
  · intro k h1 h2
    simp only [nums, List.getElem_map, List.getElem_range]
    apply bv_of
    · exact h _ (List.getElem_mem h2)
    · intro i hi
      have hlt : k * w + i < w * ns.length := by
        have : k * w + w ≤ ns.length * w := by rw [← Nat.succ_mul]; exact Nat.mul_le_mul_right _ h2
        rw [Nat.mul_comm w]; omega
      rw [fixB, bitAt_packed hB _ _ (by rw [← hL]; omega), allBits_getD w ns k i h2 hi]
end PackM

/- Bytes laid behind bytes: the program's varint, and the document's word. -/
namespace Go.Proofs.Ytlcmdnmifmjjgaa
open Go.RowKit

def byteV (b : UInt8) : Value := .int .u8 (b.toNat : Int)
/-- the slice v is one's own row of bytes l, in a block from base on -/
def ByteRow (w : World) (base : Nat) (v : Value) (l : List UInt8) : Prop := w.ownsRow base 5 1 v l.length (l.map byteV)

theorem ByteRow.nil_ (w : World) (base : Nat) : ByteRow w base (.slice none 0 0) [] := World.ownsRow_nil _ _ _ _
theorem ByteRow.below {w w' : World} {base B : Nat} {v : Value} {l : List UInt8} (h : ByteRow w base v l) (hb : Below B w w') (hB : ∀ k, v.ownBlock = some k → k < B) : ByteRow w' base v l := by
  refine ⟨h.1, ?_⟩
  rcases h.2 with hn | ⟨g, cap, cur, rfl, hbg, hgg, rest⟩
  · exact .inl hn
  · exact .inr ⟨g, cap, cur, rfl, hbg, (hb.block g (hB g rfl)).trans hgg, rest⟩
theorem ByteRow.later {w w' : World} {base : Nat} {v : Value} {l : List UInt8} (h : ByteRow w base v l) (hb : Below w.heap.size w w') : ByteRow w' base v l :=
  h.below hb (fun k hk => (World.ownsRow.lt h k hk).2)

/-- append of one byte onto one's own row -/
theorem wpList_append_byte {w : World} {ops : Array Oper} {rest : List Oper} {o : Oper} {a : Act} {Q : Exit → Act → World → Prop} (hgd : o.guard = none) (s x : Operand)
    (ho : o.op = .call { callee := .builtin .append, args := #[s, x], argTypes := #[87, 87] })
    (base : Nat) (v : Value) (l : List UInt8) (hs : a.eval s = v) (hown : ByteRow w base v l)
    (g c : Nat) (b : UInt8) (hx : a.eval x = .slice (some ⟨g, 0, none⟩) 1 c) (hc : w.cell? ⟨g, 0, none⟩ = some (byteV b)) (hbase : base ≤ w.heap.size) (hn : l.length ≤ 1000000000)
    (h : ∀ v' w', ByteRow w' base v' (l ++ [b]) → Below base w w' → v' ≠ .slice none 0 0 → wpList Try.prog ops Q rest (a.put o.dst v') w') : wpList Try.prog ops Q (o :: rest) a w := by
  obtain ⟨i0, hi, hz0, hz1, hz2⟩ := info_parts byte_info
  refine wpList_append_own w hgd s x 87 ho base 5 i0 _ 1 1 Try.underlying87 hi hz0 hz1 hz2 rfl (by omega) _ _ _ hs hown ⟨g, 0, none⟩ 1 c [byteV b] hx rfl (fun j u hu => ?_) (fun u hu => ?_) (by simp [maxLen]; omega) (by omega) hbase ?_
  · match j, hu with
    | 0, hu => simp at hu; subst hu; rw [add_none]; exact hc
  · simp at hu; subst hu; rfl
  · intro v' w' hown' hg' hiff
    have hb : Below base w w' := (Below.refl _ _).grown hg' hbase (fun k hk => (World.ownsRow.lt hown k hk).1)
    refine h v' w' ?_ hb (fun e => by have := hiff.1 e; omega)
    unfold ByteRow
    rw [List.length_append, List.map_append]
    exact hown'

theorem and127 (u : Nat) (h : u < 18446744073709551616) : bits .and .u64 (u : Int) 127 = ((u % 128 : Nat) : Int) := by
  have := u64_and_nat u 127 h (by decide)
  have e : u &&& 127 = u % 128 := Nat.and_two_pow_sub_one_eq_mod u 7
  rw [e] at this
  exact this
theorem or128 (x : Nat) (h : x < 128) : bits .or .u64 (x : Int) 128 = ((x + 128 : Nat) : Int) := by
  have := u64_or_nat x 128 (by omega) (by decide)
  have e : x ||| 128 = x + 128 := by
    have := Nat.shiftLeft_add_eq_or_of_lt (i := 7) h 1
    rw [show 1 <<< 7 = 128 from rfl] at this
    rw [Nat.or_comm]
    omega
  rw [e] at this
  exact this

set_option maxHeartbeats 1600000 in
set_option maxRecDepth 100000 in
theorem appendVarint_any (base : Nat) (l : List UInt8) (v : Value) (u : Nat) (w : World) (hu : u < 18446744073709551616) (hl : l.length ≤ 100000000) (hbase : base ≤ w.heap.size) (hown : ByteRow w base v l) :
    Calls Try.prog 43 #[v, .int .u64 u] w fun e w' => ∃ v', e = .returned v' ∧ ByteRow w' base v' (l ++ PackM.vw u) ∧ Below base w w' ∧ v' ≠ .slice none 0 0 := by
  have h10 := PackM.vw_len10 u hu
  go_enter Try.func43, Try.ntmps43
  go_wp2
  go_loopw [0, 1] (fun x y wr => ∃ (l' : List UInt8) (k : Nat), y = .int .u64 k ∧ k < 18446744073709551616 ∧ l'.length + (PackM.vw k).length ≤ l.length + 10 ∧ l ++ PackM.vw u = l' ++ PackM.vw k ∧ ByteRow wr base x l' ∧ Below base w wr) (fun _ y _ => (intOf y).toNat)
  case atStart => exact ⟨l, u, rfl, hu, by omega, rfl, hown, Below.refl _ _⟩
  case round =>
    clear hown
    obtain ⟨l', k, rfl, hk, hlen, heq, hown, hb⟩ := hrel
    have HE := Lib.hid heq
    clear heq
    have hsz := hb.size
    by_cases hlt : k < 128
    · have hd : decide ((127 : Int) < (k : Int)) = false := decide_eq_false (by omega)
      have hvw := PackM.vw_lt hlt
      rw [hvw] at hlen
      simp only [List.length_singleton] at hlen
      have HV := Lib.hid hvw
      clear hvw
      obtain ⟨b, hbE⟩ : ∃ b : UInt8, b = UInt8.ofNat k := ⟨_, rfl⟩
      have hbk : (k : Int) = (b.toNat : Int) := by rw [hbE, PackM.toNat_of k (by omega)]
      have HB := Lib.hid hbE
      have HK := Lib.hid hbk
      clear hbE hbk
      go_wp2_with (at_builtin; refine wpList_append_byte rfl _ _ rfl base _ l' rfl (World.ownsRow.alloc hown _) wr.heap.size _ b rfl (by simp [byteV, HK.out]) (by simp; omega) (by omega) ?_; intro v' w1 hown' hb1 hne)
      go_ret
      refine ⟨_, rfl, ?_, (hb.alloc (by omega) _).trans hb1, hne⟩
      rw [HE.out, HV.out, ← HB.out]
      exact hown'
    · have hd : decide ((127 : Int) < (k : Int)) = true := decide_eq_true (by omega)
      have hvw := PackM.vw_ge hlt
      have hl1 : (PackM.vw k).length = (PackM.vw (k / 128)).length + 1 := by rw [hvw]; rfl
      have hp := PackM.vw_pos (k / 128)
      have ha := and127 k hk
      obtain ⟨x, hx⟩ : ∃ x, x = k % 128 := ⟨_, rfl⟩
      have hx1 : x < 128 := by omega
      rw [← hx] at ha hvw
      have ho := or128 x hx1
      obtain ⟨b, hbE⟩ : ∃ b : UInt8, b = UInt8.ofNat (x + 128) := ⟨_, rfl⟩
      have hbk : ((x + 128 : Nat) : Int) = (b.toNat : Int) := by rw [hbE, PackM.toNat_of _ (by omega)]
      rw [hbk] at ho
      rw [← hbE] at hvw
      have hb256 := b.toNat_lt
      have hlen2 : l'.length + 1 + (PackM.vw (k / 128)).length ≤ l.length + 10 := by omega
      have HV := Lib.hid hvw
      have HB := Lib.hid hbE
      have HK := Lib.hid hbk
      clear hbE hbk hvw hx hl1
      go_wp2_with (at_builtin; refine wpList_append_byte rfl _ _ rfl base _ l' rfl (World.ownsRow.alloc hown _) wr.heap.size _ b rfl (by simp [byteV]) (by simp; omega) (by omega) ?_; intro v' w1 hown' hb1 hne)
      go_wp2
      go_roundw
      case rel =>
        refine ⟨l' ++ [b], k / 128, by go_num, by omega, by simp; omega, ?_, hown', (hb.alloc (by omega) _).trans hb1⟩
        rw [HE.out, HV.out, List.append_assoc]
        rfl
      case measure => simp [intOf]; omega
end Go.Proofs.Ytlcmdnmifmjjgaa
