/- Own texts, merged (30 of 42). -/
import Derived.Test.YtddnnhfffmhpmaaGreatDoorSm29
import Derived.Test.YtddnnhfffmhpmaaGreatDoorSm25
import Derived.Test.YtddnnhfffmhpmaaGreatDoorSm24
import Derived.Test.YtddnnhfffmhpmaaGreatDoorSm13
import Derived.Test.YtddnnhfffmhpmaaGreatDoorSm9
import Derived.Deep.AppendLies
import Derived.Test.YtddnnhfffmhpmaaGreatDoorSm19
import Derived.Sort.MapsRangeIn

/- replace, whole. -/
namespace Go.Proofs.YtddnnhfffmhpmaaGreatDoor.St
open Go.RowKit Go.Proofs.YtddnnhfffmhpmaaGreatDoor DocM StoM Do
open VdM

theorem Repl.trans {U0 U W : World} {Fd0 Fd : Nat → Prop} {p : Pl} {k : Dsk} {f : Nat} {segs : List Nat} {f' : Nat} {segs' : List Nat} {lg : Nat} {begun lost : Bool} {lv st cm : Chs} {c : Int} (h : Repl U Fd0 p k f segs f' segs' lg begun lost lv st cm c W) (hT : Turned (fullF p Fd) U0 U) (hF : ∀ b, Fd0 b → Fd b ∨ U0.heap.size ≤ b) : Repl U0 Fd p k f segs f' segs' lg begun lost lv st cm c W := by
  rcases h with ⟨h1, h2⟩ | ⟨h1, h2⟩ | ⟨h1, h6, h2⟩
  · exact .inl ⟨h1, h2.trans hT hF⟩
  · exact .inr (.inl ⟨h1, h2.trans hT hF⟩)
  · exact .inr (.inr ⟨h1, h6, h2.trans hT hF⟩)
set_option maxHeartbeats 2000000 in
set_option maxRecDepth 100000 in
theorem repl_any (w : World) (Fd : Nat → Prop) (p : Pl) (k : Dsk) (f f' n' cp' : Nat) (segs segs' : List Nat) (lg : Nat) (begun lost : Bool) (lv st cm : Chs) (b x L S : Nat) (A' : Option Addr) (l : Chs)
    (h : StAt w Fd p k f segs lg begun lost lv st cm) (hbl : (b = p.mc ∧ l = cm) ∨ (b = p.ms ∧ l = st))
    (hI : Ivs w A' n' (segs'.map Int.ofNat)) (ha : Away (fullF p Fd) (.slice A' n' cp')) (hx : segs'.getLast? = some x) (hx1 : x < S) (hn : n' ≤ 1000) (hr : ∀ c ∈ l, rightC c = 0) (hl : l.length ≤ 1000)
    (hnm : Nm L S k.fs) (hL : L ≤ 100) (hS : S ≤ 100) (hf : f < 100) (hf' : f' < 100) (hsl : segs.length ≤ 100) (hs : ∀ y ∈ segs, y < 100) (hs' : ∀ y ∈ segs', y < 100) (hri : segs'.Pairwise (· < ·)) (he : k.eff + 5000 ≤ 1000000000) :
    Calls Tryz.prog 42 #[.pointer (some ⟨p.s, 0, none⟩), .agg #[.int .i64 (f' : Int), .slice A' n' cp'], .map (some b)] w fun e w' => ∃ c : Int, e = .returned (.int .i64 c) ∧ c = (chainK (replR f segs f' segs' x l) k).2 ∧
      ((c = 7 ∧ At1 w Fd p (chainK (replR f segs f' segs' x l) k).1 0 [] lg begun true [] [] [] w') ∨ (c ≠ 7 ∧ Repl w Fd p (chainK (replR f segs f' segs' x l) k).1 f segs f' segs' lg begun lost lv st cm c w')) := by
  obtain ⟨N, hN⟩ : ∃ N, N = w.heap.size := ⟨_, rfl⟩
  have hb3 := als_below [.cells #[.pointer (some ⟨p.s, 0, none⟩)] 26, .cells #[.int .i64 (f' : Int), .slice A' n' cp'] 76, .cells #[.map (some b)] 74] w
  have h0 := als_at [.cells #[.pointer (some ⟨p.s, 0, none⟩)] 26, .cells #[.int .i64 (f' : Int), .slice A' n' cp'] 76, .cells #[.map (some b)] 74] w 0 (by simp)
  have h1 := als_at [.cells #[.pointer (some ⟨p.s, 0, none⟩)] 26, .cells #[.int .i64 (f' : Int), .slice A' n' cp'] 76, .cells #[.map (some b)] 74] w 1 (by simp)
  have h2 := als_at [.cells #[.pointer (some ⟨p.s, 0, none⟩)] 26, .cells #[.int .i64 (f' : Int), .slice A' n' cp'] 76, .cells #[.map (some b)] 74] w 2 (by simp)
  simp only [als] at hb3 h0 h1 h2
  simp only [List.getElem_cons_zero, List.getElem_cons_succ] at h0 h1 h2
  rw [← hN] at h0 h1 h2
  have HP := Lib.hid (manprint_any f' n' cp' A' segs' _ (hI.later hb3) hri hs' hn (by omega))
  have HB3 := Lib.hid hb3
  have H0 := Lib.hid h0
  have H1 := Lib.hid h1
  have H2 := Lib.hid h2
  have c0 := cell_of_cells h0 (i := 0) rfl
  have c1 := cell_of_cells h1 (i := 0) rfl
  have c2 := cell_of_cells h1 (i := 1) rfl
  have c3 := cell_of_cells h2 (i := 0) rfl
  have HNE := Lib.hid hN
  clear h0 h1 h2 hb3 hN
  go_enter Tryz.func42, Tryz.ntmps42
  go_wp2_with fail
  rw [← HNE.out]
  generalize ((w.alloc (.cells #[.pointer (some ⟨p.s, 0, none⟩)] 26)).alloc (.cells #[.int .i64 (f' : Int), .slice A' n' cp'] 76)).alloc (.cells #[.map (some b)] 74) = U at HP HB3 H0 H1 H2 c0 c1 c2 c3 ⊢
  refine HP.out.mono ?_
  rintro e w1 ⟨rfl, hb⟩
  have HB1 := Lib.hid hb
  have hbt := pl1 w1 (.cells #[.string (ofBytes (manB f' segs'))] 9)
  have d0 : (w1.alloc (.cells #[.string (ofBytes (manB f' segs'))] 9)).cell? ⟨N, 0, none⟩ = some (.pointer (some ⟨p.s, 0, none⟩)) := ((hb.trans (hbt.mono hb.size)).cell (p := ⟨N, 0, none⟩) (World.block_lt_of_cell? U _ c0)).trans c0
  have HBT := Lib.hid (hb.trans (hbt.mono hb.size))
  have hbY := als_below [.cells #[.string (ofBytes (manB f' segs'))] 9, .cells #[.func (.func 68) #[.pointer (some ⟨p.s, 0, none⟩)] #[], .func (.func 69) #[] #[.pointer (some ⟨N, 0, none⟩), .pointer (some ⟨N + 1, 0, none⟩), .pointer (some ⟨N + 1 + 1, 0, none⟩)], .func (.func 71) #[] #[.pointer (some ⟨N, 0, none⟩), .pointer (some ⟨w1.heap.size, 0, none⟩)], .func (.func 73) #[] #[.pointer (some ⟨N + 1, 0, none⟩), .pointer (some ⟨N, 0, none⟩)]] 57] w1
  have y0 := als_at [.cells #[.string (ofBytes (manB f' segs'))] 9, .cells #[.func (.func 68) #[.pointer (some ⟨p.s, 0, none⟩)] #[], .func (.func 69) #[] #[.pointer (some ⟨N, 0, none⟩), .pointer (some ⟨N + 1, 0, none⟩), .pointer (some ⟨N + 1 + 1, 0, none⟩)], .func (.func 71) #[] #[.pointer (some ⟨N, 0, none⟩), .pointer (some ⟨w1.heap.size, 0, none⟩)], .func (.func 73) #[] #[.pointer (some ⟨N + 1, 0, none⟩), .pointer (some ⟨N, 0, none⟩)]] 57] w1 0 (by simp)
  have y1 := als_at [.cells #[.string (ofBytes (manB f' segs'))] 9, .cells #[.func (.func 68) #[.pointer (some ⟨p.s, 0, none⟩)] #[], .func (.func 69) #[] #[.pointer (some ⟨N, 0, none⟩), .pointer (some ⟨N + 1, 0, none⟩), .pointer (some ⟨N + 1 + 1, 0, none⟩)], .func (.func 71) #[] #[.pointer (some ⟨N, 0, none⟩), .pointer (some ⟨w1.heap.size, 0, none⟩)], .func (.func 73) #[] #[.pointer (some ⟨N + 1, 0, none⟩), .pointer (some ⟨N, 0, none⟩)]] 57] w1 1 (by simp)
  simp only [als] at hbY y0 y1
  simp only [List.getElem_cons_zero, List.getElem_cons_succ, Nat.add_zero] at y0 y1
  have HC := Lib.hid (fun (Y : World) (hbY : Below w1.heap.size w1 Y) (y0 : Y.heap[w1.heap.size]? = some (.cells #[.string (ofBytes (manB f' segs'))] 9 (0, 0))) (y1 : Y.heap[w1.heap.size + 1]? = some (.cells #[.func (.func 68) #[.pointer (some ⟨p.s, 0, none⟩)] #[], .func (.func 69) #[] #[.pointer (some ⟨N, 0, none⟩), .pointer (some ⟨N + 1, 0, none⟩), .pointer (some ⟨N + 1 + 1, 0, none⟩)], .func (.func 71) #[] #[.pointer (some ⟨N, 0, none⟩), .pointer (some ⟨w1.heap.size, 0, none⟩)], .func (.func 73) #[] #[.pointer (some ⟨N + 1, 0, none⟩), .pointer (some ⟨N, 0, none⟩)]] 57 (0, 0))) => by
    have hU1 : w.heap.size ≤ U.heap.size := HB3.out.size
    have hU2 : U.heap.size ≤ w1.heap.size := HB1.out.size
    have hUY := HB1.out.trans (hbY.mono HB1.out.size)
    have hwY := HB3.out.trans (hUY.mono HB3.out.size)
    have nN : ∀ B, N ≤ B → ¬ fullF p Fd B := fun B hB hb => by
      have := h.lt B hb
      have := HNE.out
      omega
    have hNN := HNE.out
    have t0 : Turned (fullF p Fd) w Y := Turned.of_below hwY
    have hin := repl_in Y Fd p k f f' n' cp' segs segs' lg begun lost lv st cm N (N + 1) (N + 1 + 1) w1.heap.size (w1.heap.size + 1) b x L S A' l (h.later hwY) hbl
      (cell_of_cells (blk_stay hUY H0.out) rfl) (cell_of_cells (blk_stay hUY H1.out) rfl) (cell_of_cells (blk_stay hUY H1.out) rfl) (cell_of_cells (blk_stay hUY H2.out) rfl) (cell_of_cells y0 rfl)
      (cell_of_cells y1 rfl) (cell_of_cells y1 rfl) (cell_of_cells y1 rfl) (cell_of_cells y1 rfl) (nN _ (by omega)) (nN _ (by omega)) (nN _ (by omega)) (nN _ (by omega)) (nN _ (by omega))
      (hI.later hwY) ha hx hx1 hn hr hl hnm hL hS hf hf' hsl hs hs' he
    exact act_any Y p.s (.slice (some ⟨w1.heap.size + 1, 0, none⟩) 4 4) (fun W c => c = (chainK (replR f segs f' segs' x l) k).2 ∧ Repl w Fd p (chainK (replR f segs f' segs' x l) k).1 f segs f' segs' lg begun lost lv st cm c W)
      (fun W => (chainK (replR f segs f' segs' x l) k).2 = 7 ∧ At1 w Fd p (chainK (replR f segs f' segs' x l) k).1 0 [] lg begun true [] [] [] W)
      (hin.mono fun e w' ⟨c, h1, h2, h3⟩ => ⟨c, h1, h2, h3.trans t0 fun _ h => .inl h⟩)
      (fun W' ⟨h1, h2⟩ => by
        rcases h2 with ⟨h3, _⟩ | ⟨_, h3⟩ | ⟨_, _, h3⟩
        · omega
        · exact (lose_any W' w Fd p _ f segs lg begun lost lv st cm h3).mono fun e w'' ⟨e1, e2⟩ => ⟨e1, h1.symm, e2⟩
        · exact (lose_any W' w Fd p _ f' segs' lg begun lost lv st cm h3).mono fun e w'' ⟨e1, e2⟩ => ⟨e1, h1.symm, e2⟩))
  have HCC := Lib.hid (HC.out _ hbY y0 y1)
  clear c0 c1 c2 c3 hb hbt hbY y0 y1 HC
  go_wp2_with fail
  refine HCC.out.mono ?_
  rintro e w3 ⟨c, rfl, hc⟩
  have HR := Lib.hid hc
  clear hc
  go_wp2
  go_ret
  refine ⟨c, rfl, ?_⟩
  rcases HR.out with ⟨h1, h2, h3⟩ | ⟨rfl, h2, h3⟩
  · exact ⟨h2, .inr ⟨h1, h3⟩⟩
  · exact ⟨h2.symm, .inl ⟨rfl, h3⟩⟩
end Go.Proofs.YtddnnhfffmhpmaaGreatDoor.St

/- What a store is asked. -/
namespace Go.Proofs.YtddnnhfffmhpmaaGreatDoor.St
open Go.RowKit Go.Proofs.YtddnnhfffmhpmaaGreatDoor DocM StoM Do
open VdM

def nextL (lg : Nat) (begun : Bool) : Nat := if begun then lg + 1 else lg
section
variable {w : World} {Fd : Nat → Prop} {p : Pl} {k : Dsk} {f : Nat} {segs : List Nat} {lg : Nat} {begun lost : Bool} {lv st cm : Chs}
set_option maxHeartbeats 2000000 in
set_option maxRecDepth 100000 in
theorem nextlog_any (h : StAt w Fd p k f segs lg begun lost lv st cm) (hl : lg ≤ 1000000) :
    Calls Tryz.prog 39 #[.pointer (some ⟨p.s, 0, none⟩)] w fun e w' => e = .returned (.int .i64 (nextL lg begun : Int)) ∧ w' = w := by
  obtain ⟨A, n, cp, _, _, hblk, s0, s1, s2, s3, s4, s5, s6, s7, s8, sf⟩ := h.cells
  clear h hblk sf
  cases begun with
  | true =>
    go_enter Tryz.func39, Tryz.ntmps39
    go_wp2
    go_ret
    exact ⟨rfl, rfl⟩
  | false =>
    go_enter Tryz.func39, Tryz.ntmps39
    go_wp2
    go_ret
    exact ⟨rfl, rfl⟩
set_option maxHeartbeats 2000000 in
set_option maxRecDepth 100000 in
theorem segments_any (h : StAt w Fd p k f segs lg begun lost lv st cm) :
    Calls Tryz.prog 16 #[.pointer (some ⟨p.s, 0, none⟩)] w fun e w' => e = .returned (.int .i64 (segs.length : Int)) ∧ w' = w := by
  obtain ⟨A, n, cp, hI, _, hblk, s0, s1, s2, s3, s4, s5, s6, s7, s8, sf⟩ := h.cells
  obtain rfl : n = segs.length := by
    have := hI.1
    rw [List.length_map] at this
    omega
  clear h hblk sf hI
  go_enter Tryz.func16, Tryz.ntmps16
  go_wp2
  go_ret
  exact ⟨rfl, rfl⟩
set_option maxHeartbeats 2000000 in
set_option maxRecDepth 100000 in
theorem docs_any (h : StAt w Fd p k f segs lg begun lost lv st cm) (hl : lv.length ≤ 1000) :
    Calls Tryz.prog 20 #[.pointer (some ⟨p.s, 0, none⟩)] w fun e w' => ∃ A cp, e = .returned (.slice A lv.length cp) ∧ w'.ownsRow w.heap.size 3 1 (.slice A lv.length cp) (lv.map (·.doc)).length ((lv.map (·.doc)).map iv) ∧ Below w.heap.size w w' := by
  obtain ⟨A, n, cp, hI, _, hblk, s0, s1, s2, s3, s4, s5, s6, s7, s8, sf⟩ := h.cells
  have HM := Lib.hid h.live
  clear h hblk sf hI
  go_enter Tryz.func20, Tryz.ntmps20
  go_wp2_with fail
  refine (dkeys_any (some p.ml) w).mono ?_
  rintro e w2 ⟨rfl, rfl⟩
  go_wp2_with fail
  refine (dsorted_map w _ p.ml lv HM.out (by omega)).mono ?_
  rintro e w3 ⟨A, cp, rfl, hrow, hb⟩
  have HR := Lib.hid hrow
  have HB := Lib.hid hb
  clear hrow hb
  go_wp2
  go_ret
  exact ⟨A, cp, rfl, HR.out, HB.out⟩
theorem rec_of (d t : Int) (g : Bool) (p q : Option Addr) (n k m j : Nat) (w : World) : (Instr.field 35 (.agg #[.int .i64 d, .slice p n k, .slice q m j, .int .i64 t, .bool g]) 0).run Tryz.prog w = .ok (.agg #[.int .i64 d, .slice p n k, .slice q m j, .int .i64 t]) w := by kernel_rfl
theorem vrd_nil (w : World) : Vrd w (.slice none 0 0) [] := ⟨none, 0, rfl, rfl, fun k hk => by simp at hk⟩
set_option maxHeartbeats 4000000 in
set_option maxRecDepth 100000 in
/-- a look-up's change, in memory of its own -/
theorem get_any (h : StAt w Fd p k f segs lg begun lost lv st cm) (n : Int) (hn : -9223372036854775808 ≤ n ∧ n ≤ 9223372036854775807) (hr : ∀ c ∈ lv, rightC c = 0) :
    Calls Tryz.prog 17 #[.pointer (some ⟨p.s, 0, none⟩), .int .i64 n] w fun e w' => ∃ T V : Value, e = .returned (.tuple #[.agg #[.int .i64 ((lkC lv n).getD ch0).doc, T, V, .int .i64 ((lkC lv n).getD ch0).tags], .bool (lkC lv n).isSome]) ∧ Prd w' T ((lkC lv n).getD ch0).ts ∧ Vrd w' V ((lkC lv n).getD ch0).v ∧ NewS w.heap.size T ∧ NewS w.heap.size V ∧ Below w.heap.size w w' := by
  have hb0 := pl1 w (.cells #[.int .i64 0, .slice none 0 0, .slice none 0 0, .int .i64 0] 33)
  obtain ⟨c, hc⟩ : ∃ c, c = (lkC lv n).getD ch0 := ⟨_, rfl⟩
  obtain ⟨bb, hbb⟩ : ∃ bb, bb = (lkC lv n).isSome := ⟨_, rfl⟩
  obtain ⟨X, hX⟩ : ∃ X, X = w.alloc (.cells #[.int .i64 0, .slice none 0 0, .slice none 0 0, .int .i64 0] 33) := ⟨_, rfl⟩
  have hblk : X.heap[w.heap.size]? = some (.cells #[.int .i64 0, .slice none 0 0, .slice none 0 0, .int .i64 0] 33 (0, 0)) := by rw [hX]; exact heap_alloc_new w _
  rw [← hX] at hb0
  have hlook : ∃ (p1 q1 : Option Addr) (n1 k1 m1 j1 : Nat), (Instr.lookup 74 (.map (some p.ml)) (.int .i64 n) true).run Tryz.prog X = .ok (.tuple #[chV c (.slice p1 n1 k1) (.slice q1 m1 j1), .bool bb]) X ∧ Prd X (.slice p1 n1 k1) c.ts ∧ Vrd X (.slice q1 m1 j1) c.v ∧ c.ts.length ≤ 1000000 ∧ c.v.length ≤ 1000000 := by
    obtain ⟨D2, T2, ho2, hrep2, hri2, hct2⟩ := h.live.later hb0
    have hlk := look_run_ok ho2 hrep2 hn
    rw [← hbb] at hlk
    unfold lkV at hlk
    cases hl : lkC lv n with
    | none =>
      rw [hl] at hlk hc
      have hc' : c = ch0 := hc
      rw [hc']
      exact ⟨none, none, 0, 0, 0, 0, hlk, prd_nil X, vrd_nil X, by decide, by decide⟩
    | some c' =>
      rw [hl] at hlk hc
      have hc' : c = c' := hc
      rw [hc']
      have hct' := hct2 n c' hl
      obtain ⟨p1, n1, k1, q1, m1, j1, e1, e2⟩ := hct'.shape
      simp only at hlk
      have ht := hct'.t
      have hv := hct'.v
      rw [e1] at hlk ht
      rw [e2] at hlk hv
      have hg := rgt_of (hr c' (lk_doc hl).2)
      have hl2 : c'.v.length ≤ 1000000 := by
        cases hgo : c'.gone with
        | true => rw [(hg.none_ hgo).2.1]; decide
        | false => have := ((DenM.vec_iff _).1 (hg.there hgo)).1; omega
      have h1 := hg.len
      exact ⟨p1, q1, n1, k1, m1, j1, hlk, ht, hv, by omega, hl2⟩
  obtain ⟨p1, q1, n1, k1, m1, j1, hrun, hprd, hvrd, hl1, hl2⟩ := hlook
  have hb1 := pl1 X (.cells #[.int .i64 c.doc, .slice p1 n1 k1, .slice q1 m1 j1, .int .i64 c.tags, .bool c.gone] 35)
  have HCL := Lib.hid (cloned_any (X.alloc (.cells #[.int .i64 c.doc, .slice p1 n1 k1, .slice q1 m1 j1, .int .i64 c.tags, .bool c.gone] 35)) c p1 q1 n1 k1 m1 j1 (hprd.later hb1) (hvrd.later hb1) hl1 hl2)
  obtain ⟨A, n2, cp, hI, _, hblk2, s0, s1, s2, s3, s4, s5, s6, s7, s8, sf⟩ := (h.later hb0).cells
  have HB0 := Lib.hid hb0
  have HB1 := Lib.hid hb1
  have HBK := Lib.hid hblk
  have HC := Lib.hid hc
  have HBB := Lib.hid hbb
  have HX := Lib.hid hX
  rw [← hc, ← hbb]
  unfold chV at HCL hrun
  have hws : w.heap.size < X.heap.size := (Array.getElem?_eq_some_iff.1 hblk).1
  clear h hr hb0 hb1 hblk hc hbb hX hprd hvrd hl1 hl2 hI hblk2 s0 s1 s2 s3 s4 s6 s7 s8 sf
  go_enter Tryz.func17, Tryz.ntmps17
  go_upto_region 1 with fail
  rw [← HX.out]
  go_wp2_with fail
  generalize X.alloc (.cells #[.int .i64 c.doc, .slice p1 n1 k1, .slice q1 m1 j1, .int .i64 c.tags, .bool c.gone] 35) = Y at HCL HB1 ⊢
  refine HCL.out.mono ?_
  rintro e w3 ⟨p2, n2, k2, q2, m2, j2, rfl, ht, hv, nt, nv, hb⟩
  have hXw := HB1.out.trans (hb.mono HB1.out.size)
  have B0 := blk_stay hXw HBK.out
  have HT := Lib.hid ht
  have HV := Lib.hid hv
  have HNT := Lib.hid nt
  have HNV := Lib.hid nv
  have z0 := cell_of_cells B0 (i := 0) rfl
  have z1 := cell_of_cells B0 (i := 1) rfl
  have z2 := cell_of_cells B0 (i := 2) rfl
  have z3 := cell_of_cells B0 (i := 3) rfl
  have f0 : w3.frozen? ⟨w.heap.size, 0, none⟩ = false := frozen_of_cells B0
  have f1 : w3.frozen? ⟨w.heap.size, 1, none⟩ = false := frozen_of_cells B0
  have f2 : w3.frozen? ⟨w.heap.size, 2, none⟩ = false := frozen_of_cells B0
  have f3 : w3.frozen? ⟨w.heap.size, 3, none⟩ = false := frozen_of_cells B0
  have HBX := Lib.hid hXw
  clear ht hv nt nv hb hXw
  have hfld := rec_of c.doc c.tags c.gone p2 q2 n2 k2 m2 j2 w3
  go_wp2
  have hwY : w.heap.size < Y.heap.size := Nat.lt_of_lt_of_le hws HB1.out.size
  have hTR : Turned (fun b => b = w.heap.size) w3 ((((w3.setCell ⟨w.heap.size, 0, none⟩ (.int .i64 c.doc)).setCell ⟨w.heap.size, 1, none⟩ (.slice p2 n2 k2)).setCell ⟨w.heap.size, 2, none⟩ (.slice q2 m2 j2)).setCell ⟨w.heap.size, 3, none⟩ (.int .i64 c.tags)) := ((((Turned.refl (fun b => b = w.heap.size) w3).set_ rfl 0 _).set_ rfl 1 _).set_ rfl 2 _).set_ rfl 3 _
  have hblkZ := heap_setCell_row (heap_setCell_row (heap_setCell_row (heap_setCell_row B0 0 (.int .i64 c.doc)) 1 (.slice p2 n2 k2)) 2 (.slice q2 m2 j2)) 3 (.int .i64 c.tags)
  have hp := prd_turned HT.out hTR (fun A n cp e hn a ha hb => by
    have := HNT.out A n cp e a ha
    omega)
  have hq := vrd_turned HV.out hTR (fun A n cp e hn a ha hb => by
    have := HNV.out A n cp e a ha
    omega)
  have hbZ : Below w.heap.size w ((((w3.setCell ⟨w.heap.size, 0, none⟩ (.int .i64 c.doc)).setCell ⟨w.heap.size, 1, none⟩ (.slice p2 n2 k2)).setCell ⟨w.heap.size, 2, none⟩ (.slice q2 m2 j2)).setCell ⟨w.heap.size, 3, none⟩ (.int .i64 c.tags)) := hTR.below (HB0.out.trans (HBX.out.mono HB0.out.size)) (fun k hk => by omega)
  generalize (((w3.setCell ⟨w.heap.size, 0, none⟩ (.int .i64 c.doc)).setCell ⟨w.heap.size, 1, none⟩ (.slice p2 n2 k2)).setCell ⟨w.heap.size, 2, none⟩ (.slice q2 m2 j2)).setCell ⟨w.heap.size, 3, none⟩ (.int .i64 c.tags) = Z at hblkZ hp hq hbZ ⊢
  have r0 : Z.cell? ⟨w.heap.size, 0, none⟩ = some (.int .i64 c.doc) := cell_of_cells hblkZ rfl
  have r1 : Z.cell? ⟨w.heap.size, 1, none⟩ = some (.slice p2 n2 k2) := cell_of_cells hblkZ rfl
  have r2 : Z.cell? ⟨w.heap.size, 2, none⟩ = some (.slice q2 m2 j2) := cell_of_cells hblkZ rfl
  have r3 : Z.cell? ⟨w.heap.size, 3, none⟩ = some (.int .i64 c.tags) := cell_of_cells hblkZ rfl
  exact bodyPost_ret (v := .tuple #[.agg #[.int .i64 c.doc, .slice p2 n2 k2, .slice q2 m2 j2, .int .i64 c.tags], .bool bb]) (by simp [results, Tryz.results17, go_sem, r0, r1, r2, r3]) rfl ⟨.slice p2 n2 k2, .slice q2 m2 j2, rfl, hp, hq, fun A n cp e a ha => by have := HNT.out A n cp e a ha; omega, fun A n cp e a ha => by have := HNV.out A n cp e a ha; omega, hbZ⟩
end
end Go.Proofs.YtddnnhfffmhpmaaGreatDoor.St

/- Merge. -/
namespace Go.Proofs.YtddnnhfffmhpmaaGreatDoor.St
open Go.RowKit Go.Proofs.YtddnnhfffmhpmaaGreatDoor DocM StoM Do
open VdM

theorem st2 {V X : World} {p0 p1 : Addr} {v0 v1 a b : Value} {g : Nat} (h : X.cell? p0 = some v0 ∧ X.cell? p1 = some v1 ∧ Below V.heap.size V X) (hg : V.heap.size ≤ g) (h0 : p0.block < V.heap.size) (h1 : p1.block < V.heap.size) :
    ((X.setCell ⟨g, 0, none⟩ a).setCell ⟨g, 1, none⟩ b).cell? p0 = some v0 ∧ ((X.setCell ⟨g, 0, none⟩ a).setCell ⟨g, 1, none⟩ b).cell? p1 = some v1 ∧ Below V.heap.size V ((X.setCell ⟨g, 0, none⟩ a).setCell ⟨g, 1, none⟩ b) := by
  have hb : Below X.heap.size X X := Below.refl _ _
  have hT : Turned (fun x => x = g) X ((X.setCell ⟨g, 0, none⟩ a).setCell ⟨g, 1, none⟩ b) := ((Turned.refl (fun x => x = g) X).set_ rfl 0 _).set_ rfl 1 _
  refine ⟨(hT.cell (World.block_lt_of_cell? X _ h.1) (fun e => ?_)).trans h.1, (hT.cell (World.block_lt_of_cell? X _ h.2.1) (fun e => ?_)).trans h.2.1, (h.2.2.setCell hg _).setCell hg _⟩
  · have e' : p0.block = g := e
    omega
  · have e' : p1.block = g := e
    omega
set_option maxHeartbeats 4000000 in
set_option maxRecDepth 100000 in
theorem merge_any (w : World) (Fd : Nat → Prop) (p : Pl) (k : Dsk) (f : Nat) (segs : List Nat) (lg : Nat) (begun : Bool) (lv st cm : Chs) (h : StAt w Fd p k f segs lg begun false lv st cm) (hs0 : segs ≠ []) (hs : ∀ y ∈ segs, y < 100) (hsl : segs.length ≤ 1000)
    (R : World → Int → Prop) (hrep : ∀ (W : World) (g : Nat), Below w.heap.size w W → W.cell? ⟨g, 0, none⟩ = some (.int .i64 (nextN segs : Int)) → w.heap.size ≤ g → Calls Tryz.prog 42 #[.pointer (some ⟨p.s, 0, none⟩), .agg #[.int .i64 (f : Int), .slice (some ⟨g, 0, none⟩) 1 1], .map (some p.ms)] W fun e w' => ∃ c : Int, e = .returned (.int .i64 c) ∧ R w' c) :
    Calls Tryz.prog 22 #[.pointer (some ⟨p.s, 0, none⟩)] w fun e w' => ∃ c : Int, e = .returned (.int .i64 c) ∧ R w' c := by
  have HSG := Lib.hid (segments_any h)
  obtain ⟨A, n, cp, hI, _, hblk, s0, s1, s2, s3, s4, s5, s6, s7, s8, sf⟩ := h.cells
  have HI := Lib.hid hI
  have HN := Lib.hid (fun W (hk : Below w.heap.size w W) => nextseg_any (f : Int) A n cp segs W (hI.later hk) hs (by have := hI.1; rw [List.length_map] at this; omega))
  have hnz : ((segs.length : Int) == 0) = false := by
    cases segs with
    | nil => exact absurd rfl hs0
    | cons a t => simp; omega
  obtain ⟨x, hx⟩ : ∃ x, x = nextN segs := ⟨_, rfl⟩
  rw [← hx] at HN hrep
  obtain ⟨ln, hln⟩ : ∃ ln, ln = segs.length := ⟨_, rfl⟩
  rw [← hln] at HSG hnz
  have HRP := Lib.hid hrep
  clear h hblk hI hs0 hs hsl hx hln sf s0 s3 s4 s5 s7 hrep
  go_enter Tryz.func22, Tryz.ntmps22
  go_wp2_with fail
  refine HSG.out.mono ?_
  rintro e w1 ⟨rfl, rfl⟩
  go_upto_region 5 with fail
  have HSL : Hid (p.s < w1.heap.size) := Lib.hid (World.block_lt_of_cell? w1 _ s1)
  have HBa : Hid (Below w1.heap.size w1 w1.drew) := Lib.hid (Below.refl _ _).drew
  have hbz := (pl1 w1 (.cells #[.int .i64 0, .slice none 0 0] 76))
  have HBb : Hid (Below w1.heap.size w1 (w1.alloc (.cells #[.int .i64 0, .slice none 0 0] 76)).drew) := Lib.hid hbz.drew
  have HZB : Hid ((w1.alloc (.cells #[.int .i64 0, .slice none 0 0] 76)).drew.heap[w1.heap.size]? = some (.cells #[.int .i64 0, .slice none 0 0] 76 (0, 0))) := Lib.hid (heap_alloc_new w1 _)
  have HK0 : Hid (w1.cell? ⟨p.s, 1, none⟩ = some (.int .i64 (f : Int)) ∧ w1.cell? ⟨p.s, 2, none⟩ = some (.slice A n cp) ∧ Below w1.heap.size w1 w1) := Lib.hid ⟨s1, s2, Below.refl _ _⟩
  have HKb : Hid ((w1.alloc (.cells #[.int .i64 0, .slice none 0 0] 76)).drew.cell? ⟨p.s, 1, none⟩ = some (.int .i64 (f : Int)) ∧ (w1.alloc (.cells #[.int .i64 0, .slice none 0 0] 76)).drew.cell? ⟨p.s, 2, none⟩ = some (.slice A n cp) ∧ Below w1.heap.size w1 (w1.alloc (.cells #[.int .i64 0, .slice none 0 0] 76)).drew) := Lib.hid (Kp.c2 (Below.refl _ _).drew (Kp.a2 HK0.out))
  clear hbz
  go_cut [3] (fun t wx => ∃ m g, t = .pointer (some ⟨m, 0, none⟩) ∧ wx.heap[m]? = some (.cells #[.int .i64 (f : Int), .slice (some ⟨g, 0, none⟩) 1 1] 76 (0, 0)) ∧ wx.cell? ⟨g, 0, none⟩ = some (.int .i64 (x : Int)) ∧ w1.heap.size ≤ g ∧ Below w1.heap.size w1 wx)
  case first =>
    go_region_held3 (fun Y => Y.cell? ⟨p.s, 1, none⟩ = some (.int .i64 (f : Int)) ∧ Y.cell? ⟨p.s, 2, none⟩ = some (.slice A n cp) ∧ Below w1.heap.size w1 Y)
      ((first | exact hk2 | exact Kp.d2 s1 s2 | exact Kp.a2 hk2 | exact Kp.a2 (Kp.a2 hk2) | exact HKb.out | exact Kp.a2 HK0.out | exact (Kp.a2 HK0.out) | exact st2 (Kp.a2 hk2) (Nat.le_refl _) HSL.out HSL.out | exact st2 (Kp.a2 (Kp.a2 hk2)) hk2.2.2.size HSL.out HSL.out | go_keep))
      (first
        | (go_at_call 41; first
          | ((with_reducible refine (HN.out _ HBa.out).mono ?_); rintro e w2 ⟨rfl, hb⟩; have hk2 : w2.cell? ⟨p.s, 1, none⟩ = some (.int .i64 (f : Int)) ∧ w2.cell? ⟨p.s, 2, none⟩ = some (.slice A n cp) ∧ Below w1.heap.size w1 w2 := Kp.c2 hb (by assumption); have HK2 := Lib.hid hk2; have hq' := blk_stay (pl1 (w2.alloc (.cells #[.int .i64 0, .slice none 0 0] 76)) (.cells #[.int .i64 (x : Int)] 3)) (heap_alloc_new w2 (.cells #[.int .i64 0, .slice none 0 0] 76)); have q0' := cell_of_cells hq' (i := 0) rfl; have q1' := cell_of_cells hq' (i := 1) rfl; have r0' : ((w2.alloc (.cells #[.int .i64 0, .slice none 0 0] 76)).alloc (.cells #[.int .i64 (x : Int)] 3)).frozen? ⟨w2.heap.size, 0, none⟩ = false := frozen_of_cells hq'; have r1' : ((w2.alloc (.cells #[.int .i64 0, .slice none 0 0] 76)).alloc (.cells #[.int .i64 (x : Int)] 3)).frozen? ⟨w2.heap.size, 1, none⟩ = false := frozen_of_cells hq'; have HQ := Lib.hid hq')
          | ((with_reducible refine (HN.out _ HBb.out).mono ?_); rintro e w2 ⟨rfl, hb⟩; have hk2 : w2.cell? ⟨p.s, 1, none⟩ = some (.int .i64 (f : Int)) ∧ w2.cell? ⟨p.s, 2, none⟩ = some (.slice A n cp) ∧ Below w1.heap.size w1 w2 := Kp.c2 hb (by assumption); have HK2 := Lib.hid hk2; have hq := blk_stay hb HZB.out; have hq' := blk_stay (pl1 w2 (.cells #[.int .i64 (x : Int)] 3)) hq; have q0' := cell_of_cells hq' (i := 0) rfl; have q1' := cell_of_cells hq' (i := 1) rfl; have r0' : (w2.alloc (.cells #[.int .i64 (x : Int)] 3)).frozen? ⟨w1.heap.size, 0, none⟩ = false := frozen_of_cells hq'; have r1' : (w2.alloc (.cells #[.int .i64 (x : Int)] 3)).frozen? ⟨w1.heap.size, 1, none⟩ = false := frozen_of_cells hq'; have HW12 : Hid (w1.heap.size < w2.heap.size) := Lib.hid (Nat.lt_of_lt_of_le (by simp) hb.size); have HQ := Lib.hid hq')))
    all_goals
      go_wp2_with fail
      go_meet
    · refine ⟨w2.heap.size + 1, w2.heap.size, rfl, ?_, ?_, HK2.out.2.2.size, ?_⟩
      · have := heap_alloc_new (w2.alloc (.cells #[.int .i64 (x : Int)] 3)) (.cells #[.int .i64 (f : Int), .slice (some ⟨w2.heap.size, 0, none⟩) 1 1] 76)
        rw [World.size_alloc] at this
        exact this
      · exact cell_of_cells (blk_stay (pl1 (w2.alloc (.cells #[.int .i64 (x : Int)] 3)) _) (heap_alloc_new w2 (.cells #[.int .i64 (x : Int)] 3))) rfl
      · exact (Kp.a2 (Kp.a2 HK2.out)).2.2
    · refine ⟨w2.heap.size, w2.heap.size + 1, rfl, ?_, ?_, Nat.le_succ_of_le HK2.out.2.2.size, ?_⟩
      · exact blk_stay (pl1 (w2.alloc (.cells #[.int .i64 (f : Int), .slice (some ⟨w2.heap.size + 1, 0, none⟩) 1 1] 76)) _) (heap_alloc_new w2 _)
      · have := heap_alloc_new (w2.alloc (.cells #[.int .i64 (f : Int), .slice (some ⟨w2.heap.size + 1, 0, none⟩) 1 1] 76)) (.cells #[.int .i64 (x : Int)] 3)
        rw [World.size_alloc] at this
        exact cell_of_cells this rfl
      · exact (Kp.a2 (Kp.a2 HK2.out)).2.2
    · refine ⟨w1.heap.size, w2.heap.size, rfl, ?_, ?_, HK2.out.2.2.size, ?_⟩
      · have := heap_setCell_row (heap_setCell_row HQ.out 0 (.int .i64 (f : Int))) 1 (.slice (some ⟨w2.heap.size, 0, none⟩) 1 1)
        rw [this]
        rfl
      · have hne : w2.heap.size ≠ w1.heap.size := fun e => by
          have := (Array.getElem?_eq_some_iff.1 HQ.out).1
          have := HW12.out
          omega
        have hT : Turned (fun b => b = w1.heap.size) (w2.alloc (.cells #[.int .i64 (x : Int)] 3)) (((w2.alloc (.cells #[.int .i64 (x : Int)] 3)).setCell ⟨w1.heap.size, 0, none⟩ (.int .i64 (f : Int))).setCell ⟨w1.heap.size, 1, none⟩ (.slice (some ⟨w2.heap.size, 0, none⟩) 1 1)) := ((Turned.refl (fun b => b = w1.heap.size) _).set_ rfl 0 _).set_ rfl 1 _
        have hc := cell_of_cells (heap_alloc_new w2 (.cells #[.int .i64 (x : Int)] 3)) (i := 0) rfl
        exact (hT.cell (World.block_lt_of_cell? _ _ hc) hne).trans hc
      · exact (st2 (Kp.a2 HK2.out) (Nat.le_refl _) HSL.out HSL.out).2.2
  case rest =>
    obtain ⟨m, g, rfl, hm, hg, hgb, hb⟩ := hcut
    have z6 := (hb.cell (p := ⟨p.s, 6, none⟩) (World.block_lt_of_cell? w1 _ s6)).trans s6
    have m0 := cell_of_cells hm (i := 0) rfl
    have m1 := cell_of_cells hm (i := 1) rfl
    have HC := Lib.hid (HRP.out wc.drew g hb.drew hg hgb)
    clear hm hg hgb hb
    go_wp2
    go_region_with ((with_reducible refine HC.out.mono ?_); rintro e w3 ⟨c, rfl, hR⟩; have HR := Lib.hid hR; clear hR)
    all_goals
      go_wp2
      go_ret
      exact ⟨c, rfl, HR.out⟩
set_option maxHeartbeats 2000000 in
set_option maxRecDepth 100000 in
theorem merge_none (w : World) (Fd : Nat → Prop) (p : Pl) (k : Dsk) (f : Nat) (lg : Nat) (begun : Bool) (lv st cm : Chs) (h : StAt w Fd p k f [] lg begun false lv st cm) :
    Calls Tryz.prog 22 #[.pointer (some ⟨p.s, 0, none⟩)] w fun e w' => e = .returned (.int .i64 0) ∧ w' = w := by
  have HSG := Lib.hid (segments_any h)
  obtain ⟨A, n, cp, _, _, hblk, s0, s1, s2, s3, s4, s5, s6, s7, s8, sf⟩ := h.cells
  clear h hblk sf
  go_enter Tryz.func22, Tryz.ntmps22
  go_wp2_with fail
  refine HSG.out.mono ?_
  rintro e w1 ⟨rfl, rfl⟩
  go_wp2
  go_ret
  exact ⟨rfl, rfl⟩
set_option maxHeartbeats 2000000 in
set_option maxRecDepth 100000 in
theorem flush_none (w : World) (Fd : Nat → Prop) (p : Pl) (k : Dsk) (f : Nat) (segs : List Nat) (lg : Nat) (begun : Bool) (lv st : Chs) (h : StAt w Fd p k f segs lg begun false lv st []) :
    Calls Tryz.prog 21 #[.pointer (some ⟨p.s, 0, none⟩)] w fun e w' => e = .returned (.int .i64 0) ∧ w' = w := by
  obtain ⟨A, n, cp, _, _, hblk, s0, s1, s2, s3, s4, s5, s6, s7, s8, sf⟩ := h.cells
  have hlen := len_run h.came
  simp only [List.length_nil] at hlen
  clear h hblk sf
  go_enter Tryz.func21, Tryz.ntmps21
  go_wp2
  go_ret
  exact ⟨rfl, rfl⟩
end Go.Proofs.YtddnnhfffmhpmaaGreatDoor.St

/- A manifest's variable, made amid a region. -/
namespace Go.Proofs.YtddnnhfffmhpmaaGreatDoor.St
open Go.RowKit Go.Proofs.YtddnnhfffmhpmaaGreatDoor DocM StoM Do
open VdM

/-- a manifest's variable that is made but not set -/
abbrev ZB (W : World) (m : Nat) : Prop := W.heap[m]? = some (.cells #[.int .i64 0, .slice none 0 0] 76 (0, 0))
theorem zb_cells {W : World} {m : Nat} (h : ZB W m) : W.cell? ⟨m, 0, none⟩ = some (.int .i64 0) ∧ W.cell? ⟨m, 1, none⟩ = some (.slice none 0 0) ∧ W.frozen? ⟨m, 0, none⟩ = false ∧ W.frozen? ⟨m, 1, none⟩ = false := ⟨cell_of_cells h rfl, cell_of_cells h rfl, frozen_of_cells h, frozen_of_cells h⟩
theorem ivrow_shape {w : World} {base : Nat} {v : Value} {l : List Int} (h : IvRow w base v l) : ∃ A n cp, v = .slice A n cp ∧ Ivs w A n l := by
  obtain ⟨A, cp, e, _, _, h4⟩ := h.ivs
  exact ⟨A, _, cp, e, h4⟩
theorem ivs_new2 (W : World) (o : Obj) (x : Int) : Ivs ((W.alloc o).alloc (.cells #[.int .i64 x] 3)) (some ⟨W.heap.size + 1, 0, none⟩) 1 [x] := by
  have := ivs_new1 (W.alloc o) x
  rw [World.size_alloc] at this
  exact this
theorem zb_next (W : World) (o : Obj) : ZB ((W.alloc o).alloc (.cells #[.int .i64 0, .slice none 0 0] 76)) (W.heap.size + 1) := by
  have := heap_alloc_new (W.alloc o) (.cells #[.int .i64 0, .slice none 0 0] 76)
  rw [World.size_alloc] at this
  exact this
theorem zb_row {W w' : World} {base m : Nat} {v : Value} {l : List Int} (h : ZB W m) (hr : IvRow W base v l) (hk : ∀ g, g < W.heap.size → some g ≠ v.ownBlock → w'.heap[g]? = W.heap[g]?) : ZB w' m :=
  (hk m (Array.getElem?_eq_some_iff.1 h).1 fun e => by
    obtain ⟨cur, hc⟩ := row_blk hr e.symm
    rw [h] at hc
    injection hc with hc
    injection hc with _ hc
    exact absurd hc (by decide)).trans h
/-- the next manifest stands in the variable t -/
def NextM (w : World) (NL : Int) (l : List Int) (t : Value) (wx : World) : Prop := ∃ m A3 n3 cp3, t = .pointer (some ⟨m, 0, none⟩) ∧ wx.heap[m]? = some (.cells #[.int .i64 NL, .slice A3 n3 cp3] 76 (0, 0)) ∧ Ivs wx A3 n3 l ∧ NewS w.heap.size (.slice A3 n3 cp3) ∧ w.heap.size ≤ m ∧ Below w.heap.size w wx
theorem nextm_set {w w4 : World} {m n3 cp3 : Nat} {A3 : Option Addr} {NL : Int} {l : List Int} (hz : ZB w4 m) (hm : w.heap.size ≤ m) (ho : IvRow w4 w.heap.size (.slice A3 n3 cp3) l) (hI : Ivs w4 A3 n3 l) (hb : Below w.heap.size w w4) :
    NextM w NL l (.pointer (some ⟨m, 0, none⟩)) ((w4.setCell ⟨m, 0, none⟩ (.int .i64 NL)).setCell ⟨m, 1, none⟩ (.slice A3 n3 cp3)) := by
  have hT : Turned (fun b => b = m) w4 ((w4.setCell ⟨m, 0, none⟩ (.int .i64 NL)).setCell ⟨m, 1, none⟩ (.slice A3 n3 cp3)) := ((Turned.refl (fun b => b = m) _).set_ rfl 0 _).set_ rfl 1 _
  refine ⟨m, A3, n3, cp3, rfl, ?_, ivs_away (cp := cp3) hI hT (fun A n cp e hn a ha hb => ?_), row_news ho, hm, (hb.setCell hm _).setCell hm _⟩
  · have := heap_setCell_row (heap_setCell_row hz 0 (.int .i64 NL)) 1 (.slice A3 n3 cp3)
    rw [this]
    rfl
  · have hbm : a.block = m := hb
    rcases ho.form2 with ⟨e2, _⟩ | ⟨g, cap, e2, _⟩
    · rw [e] at e2
      injection e2 with _ e3
      omega
    · obtain ⟨cur, hc⟩ := row_blk ho (k := g) (by rw [e2]; rfl)
      rw [e] at e2
      injection e2 with e3
      rw [ha] at e3
      injection e3 with e3
      have : g = m := by rw [← hbm, e3]
      rw [this, hz] at hc
      injection hc with hc
      injection hc with _ hc
      exact absurd hc (by decide)
theorem nextm_new {w w4 : World} {n3 cp3 : Nat} {A3 : Option Addr} {NL : Int} {l : List Int} (ho : IvRow w4 w.heap.size (.slice A3 n3 cp3) l) (hI : Ivs w4 A3 n3 l) (hb : Below w.heap.size w w4) :
    NextM w NL l (.pointer (some ⟨w4.heap.size, 0, none⟩)) (w4.alloc (.cells #[.int .i64 NL, .slice A3 n3 cp3] 76)) :=
  ⟨_, A3, n3, cp3, rfl, heap_alloc_new w4 _, hI.later (pl1 w4 _), row_news ho, hb.size, hb.trans ((pl1 w4 _).mono hb.size)⟩
end Go.Proofs.YtddnnhfffmhpmaaGreatDoor.St

/- A manifest's bytes read; plain: what they tell. -/
namespace Go.Proofs.YtddnnhfffmhpmaaGreatDoor.St
open Go.RowKit Go.Proofs.YtddnnhfffmhpmaaGreatDoor DocM StoM Do

/-- a manifest's numbers, as its bytes tell them -/
def pmF (s : List UInt8) : Nat := nV PackM.MAXI (opL s)
def pmR (s : List UInt8) : List UInt8 := nS PackM.MAXI (opL s)
def pmB (s : List UInt8) : Bool := nB PackM.MAXI (opL s) false
def pmL (s : List UInt8) : List Int := rsV 1048576 (pmR s)
def pmK (s : List UInt8) : Bool := decide (opC s = 0) && (!rsB 1048576 (pmR s) (pmB s) && decide ((rsS 1048576 (pmR s)).length = 0)) && decide (pmF s ≤ 1073741824)
theorem opL_len (x : List UInt8) : (opL x).length ≤ x.length := by
  unfold opL
  split
  · simp
  · split
    · rw [List.length_take]; omega
    · simp
theorem pm_bad (s : List UInt8) : pmB s = true → pmR s = [] := by
  unfold pmB pmR nB nS
  cases PackM.num PackM.MAXI 0 0 (opL s) with
  | none => intro _; rfl
  | some x => intro h; cases h
theorem pm_no {s : List UInt8} (h : opC s ≠ 0) : pmK s = false := by
  unfold pmK
  rw [decide_eq_false h]
  rfl
def ManEnd (w : World) (q : Bool) (f : Nat) (l : List Int) (e : Ending) (w' : World) : Prop :=
  (∃ A n cp, e = .returned (.tuple #[.agg #[.int .i64 (if q then (f : Int) else 0), .slice A n cp], .bool q]) ∧ Ivs w' A n (if q then l else []) ∧ NewS w.heap.size (.slice A n cp)) ∧ Below w.heap.size w w'
theorem ivs_none (w : World) : Ivs w none 0 [] := ⟨rfl, fun k hk => by simp at hk⟩
theorem fin2 {w W : World} {r0 : Nat} (h : ZB W r0) (hb : Below w.heap.size w W) (hr : w.heap.size ≤ r0) (a v : Value) :
    ((W.setCell ⟨r0, 0, none⟩ a).setCell ⟨r0, 1, none⟩ v).cell? ⟨r0, 0, none⟩ = some a ∧ ((W.setCell ⟨r0, 0, none⟩ a).setCell ⟨r0, 1, none⟩ v).cell? ⟨r0, 1, none⟩ = some v ∧ Below w.heap.size w ((W.setCell ⟨r0, 0, none⟩ a).setCell ⟨r0, 1, none⟩ v) ∧ Turned (fun b => b = r0) W ((W.setCell ⟨r0, 0, none⟩ a).setCell ⟨r0, 1, none⟩ v) := by
  have hx := heap_setCell_row (heap_setCell_row h 0 a) 1 v
  exact ⟨cell_of_cells hx rfl, cell_of_cells hx rfl, (hb.setCell hr _).setCell hr _, ((Turned.refl (fun b => b = r0) W).set_ rfl 0 _).set_ rfl 1 _⟩
set_option maxHeartbeats 2000000 in
set_option maxRecDepth 100000 in
theorem parseman_any (w : World) (s : List UInt8) (hl : s.length ≤ 100000000) :
    Calls Tryz.prog 55 #[.string (ofBytes s)] w fun e w' => ManEnd w (pmK s) (pmF s) (pmL s) e w' := by
  have hol := opL_len s
  have HOP := Lib.hid (fun W => open_list s W hl)
  have HRN := Lib.hid (fun W => rnew_any W (opL s) (by omega))
  have HRV := Lib.hid (fun W b (h : RD W b (opL s) false) => rvarint_any W b (opL s) false (by omega) h)
  have hnl := nS_len (opL s)
  have HRR := Lib.hid (fun W b (h : RD W b (pmR s) (pmB s)) => rrising_any W b (pmR s) (pmB s) 1048576 (by unfold pmR; omega) (pm_bad s) h)
  have HAE := Lib.hid (fun W b (h : RD W b (rsS 1048576 (pmR s)) (rsB 1048576 (pmR s) (pmB s))) => isatend_any W b _ _ h)
  obtain ⟨r0, hr0⟩ : ∃ r0, r0 = w.heap.size := ⟨_, rfl⟩
  have hz0 : ZB (w.alloc (.cells #[.int .i64 0, .slice none 0 0] 76)) r0 := by rw [hr0]; exact heap_alloc_new w _
  have HZ0 := Lib.hid hz0
  have HB0 := Lib.hid (pl1 w (.cells #[.int .i64 0, .slice none 0 0] 76))
  have HR0 := Lib.hid hr0
  change Hid (∀ W b, RD W b (opL s) false → Calls _ _ _ W fun e w' => e = .returned (.int .i64 (pmF s : Int)) ∧ RD w' b (pmR s) (pmB s) ∧ _) at HRV
  change Hid (∀ W b, RD W b (pmR s) (pmB s) → Calls _ _ _ W fun e w' => RowEnd W.heap.size b (pmL s) _ _ e w' ∧ _) at HRR
  have hfm : pmF s ≤ 9223372036854775807 := nV_le PackM.MAXI (opL s)
  unfold pmK
  obtain ⟨oc, hoc⟩ : ∃ x, x = opC s := ⟨_, rfl⟩
  rw [← hoc] at HOP ⊢
  obtain ⟨ae, hae⟩ : ∃ x, x = (!rsB 1048576 (pmR s) (pmB s) && decide ((rsS 1048576 (pmR s)).length = 0)) := ⟨_, rfl⟩
  rw [← hae] at HAE ⊢
  generalize rsS 1048576 (pmR s) = rs at HRR HAE
  generalize rsB 1048576 (pmR s) (pmB s) = rb at HRR HAE
  generalize pmB s = pb at HRV HRR
  generalize pmR s = pr at HRV HRR
  generalize pmL s = pl at HRR ⊢
  generalize pmF s = pf at HRV hfm ⊢
  generalize opL s = ol at HOP HRN HRV
  generalize ofBytes s = sb at HOP ⊢
  obtain ⟨q, hq⟩ : ∃ x, x = (decide (oc = 0) && ae && decide (pf ≤ 1073741824)) := ⟨_, rfl⟩
  rw [← hq]
  have HQ := Lib.hid hq
  clear hol hnl hz0 hr0 hoc hae hl hq
  go_enter Tryz.func55, Tryz.ntmps55
  go_wp2_with fail
  rw [← HR0.out]
  generalize w.alloc (.cells #[.int .i64 0, .slice none 0 0] 76) = w0 at HZ0 HB0 ⊢
  refine (HOP.out w0).mono ?_
  rintro e w1 ⟨rfl, hb1⟩
  have HB1 := Lib.hid (HB0.out.trans (hb1.mono HB0.out.size))
  have HZ1 := Lib.hid (blk_stay hb1 HZ0.out)
  clear hb1 HZ0 HB0 HOP
  go_wp2_with fail
  refine (HRN.out w1).mono ?_
  rintro e w2 ⟨b, rfl, hbn, rd2, hb2⟩
  have HB2 := Lib.hid (HB1.out.trans (hb2.mono HB1.out.size))
  have HZ2 := Lib.hid (blk_stay hb2 HZ1.out)
  have HRB : Hid (r0 ≠ b ∧ r0 < w1.heap.size ∧ w.heap.size ≤ b) := Lib.hid ⟨fun e => by
    have := (Array.getElem?_eq_some_iff.1 HZ1.out).1
    omega, (Array.getElem?_eq_some_iff.1 HZ1.out).1, Nat.le_trans HB1.out.size hbn⟩
  have HR2 := Lib.hid rd2
  clear hbn rd2 hb2 HB1 HZ1 HRN
  go_wp2_with fail
  refine (HRV.out w2 b HR2.out).mono ?_
  rintro e w3 ⟨rfl, rd3, g3⟩
  have HR3 := Lib.hid rd3
  have HB3 := Lib.hid (below_rd HB2.out HRB.out.2.2 g3)
  have HZ3 : Hid (ZB w3 r0) := Lib.hid ((g3.block r0 (Array.getElem?_eq_some_iff.1 HZ2.out).1 (fun e => HRB.out.1 (Option.some.inj e))).trans HZ2.out)
  clear rd3 g3 HR2 HB2 HZ2 HRV
  go_wp2_with fail
  refine (HRR.out w3 b HR3.out).mono ?_
  rintro e w4 ⟨⟨A, cp, rfl, hn, hI, rd4⟩, g4⟩
  obtain ⟨ln, hln⟩ : ∃ ln, ln = pl.length := ⟨_, rfl⟩
  rw [← hln] at hI ⊢
  have HN4 : Hid (∀ ad, A = some ad → r0 ≠ ad.block ∧ w.heap.size ≤ ad.block) := Lib.hid (fun ad e => by
    have h1 := hn ad e
    have h2 := (Array.getElem?_eq_some_iff.1 HZ3.out).1
    have h3 := HB3.out.size
    exact ⟨by omega, by omega⟩)
  have HR4 := Lib.hid rd4
  have HI4 : Hid (Ivs w4 A ln pl) := Lib.hid hI
  have HB4 := Lib.hid (below_rd HB3.out HRB.out.2.2 g4)
  have HZ4 : Hid (ZB w4 r0) := Lib.hid ((g4.block r0 (Array.getElem?_eq_some_iff.1 HZ3.out).1 (fun e => HRB.out.1 (Option.some.inj e))).trans HZ3.out)
  clear rd4 g4 hn hI HR3 HB3 HZ3 HRR
  have hb5 := pl1 w4 (.cells #[.int .i64 (pf : Int), .slice A ln cp] 76)
  have hm5 := heap_alloc_new w4 (.cells #[.int .i64 (pf : Int), .slice A ln cp] 76)
  have HB5 := Lib.hid (HB4.out.trans (hb5.mono HB4.out.size))
  have HZ5 := Lib.hid (blk_stay hb5 HZ4.out)
  have HI5 := Lib.hid (HI4.out.later hb5)
  have HR5 := Lib.hid (HR4.out.later hb5)
  have HM5 := Lib.hid hm5
  obtain ⟨N, hN⟩ : ∃ N, N = w4.heap.size := ⟨_, rfl⟩
  have HNE := Lib.hid hN
  clear hb5 hm5 HB4 HZ4 HI4 HR4 hN hln
  rw [← HNE.out] at HM5
  have HRW : Hid (w.heap.size ≤ r0) := Lib.hid (by rw [HR0.out]; exact Nat.le_refl _)
  have HNO := Lib.hid (fin2 HZ5.out HB5.out HRW.out (.int .i64 0) (.slice none 0 0))
  obtain ⟨e0, e1, f0, f1⟩ := zb_cells HZ5.out
  by_cases hoc : oc = 0
  rotate_left
  · have hob : (oc != 0) = true := by simpa using hoc
    have HK : Hid (q = false) := Lib.hid (by rw [HQ.out, decide_eq_false hoc]; rfl)
    clear hoc hfm
    go_wp2
    generalize ((w4.alloc (.cells #[.int .i64 (pf : Int), .slice A ln cp] 76)).setCell ⟨r0, 0, none⟩ (.int .i64 0)).setCell ⟨r0, 1, none⟩ (.slice none 0 0) = Z at HNO ⊢
    obtain ⟨z0, z1, hbZ, -⟩ := HNO.out
    have hk := HK.out
    subst hk
    exact bodyPost_ret (v := .tuple #[.agg #[.int .i64 0, .slice none 0 0], .bool false]) (by simp [results, Tryz.results55, go_sem, z0, z1]) rfl ⟨⟨none, 0, 0, rfl, ivs_none Z, NewS.nil_ _⟩, hbZ⟩
  subst hoc
  go_wp2_with fail
  refine (HAE.out _ b HR5.out).mono ?_
  rintro e w6 ⟨rfl, rfl⟩
  cases ae with
  | false =>
    have HK : Hid (q = false) := Lib.hid (by rw [HQ.out]; rfl)
    clear hfm
    go_wp2
    generalize ((w4.alloc (.cells #[.int .i64 (pf : Int), .slice A ln cp] 76)).setCell ⟨r0, 0, none⟩ (.int .i64 0)).setCell ⟨r0, 1, none⟩ (.slice none 0 0) = Z at HNO ⊢
    obtain ⟨z0, z1, hbZ, -⟩ := HNO.out
    have hk := HK.out
    subst hk
    exact bodyPost_ret (v := .tuple #[.agg #[.int .i64 0, .slice none 0 0], .bool false]) (by simp [results, Tryz.results55, go_sem, z0, z1]) rfl ⟨⟨none, 0, 0, rfl, ivs_none Z, NewS.nil_ _⟩, hbZ⟩
  | true =>
    have m0 : (w4.alloc (.cells #[.int .i64 (pf : Int), .slice A ln cp] 76)).cell? ⟨N, 0, none⟩ = some (.int .i64 (pf : Int)) := cell_of_cells HM5.out rfl
    have m1 : (w4.alloc (.cells #[.int .i64 (pf : Int), .slice A ln cp] 76)).cell? ⟨N, 1, none⟩ = some (.slice A ln cp) := cell_of_cells HM5.out rfl
    by_cases hpf : pf ≤ 1073741824
    rotate_left
    · have hpb : decide ((1073741824 : Int) < (pf : Int)) = true := decide_eq_true (by omega)
      have HK : Hid (q = false) := Lib.hid (by rw [HQ.out, decide_eq_false hpf]; rfl)
      clear hfm hpf
      go_wp2
      generalize ((w4.alloc (.cells #[.int .i64 (pf : Int), .slice A ln cp] 76)).setCell ⟨r0, 0, none⟩ (.int .i64 0)).setCell ⟨r0, 1, none⟩ (.slice none 0 0) = Z at HNO ⊢
      obtain ⟨z0, z1, hbZ, -⟩ := HNO.out
      have hk := HK.out
      subst hk
      exact bodyPost_ret (v := .tuple #[.agg #[.int .i64 0, .slice none 0 0], .bool false]) (by simp [results, Tryz.results55, go_sem, z0, z1]) rfl ⟨⟨none, 0, 0, rfl, ivs_none Z, NewS.nil_ _⟩, hbZ⟩
    · have hpb : decide ((1073741824 : Int) < (pf : Int)) = false := decide_eq_false (by omega)
      have HK : Hid (q = true) := Lib.hid (by rw [HQ.out, decide_eq_true hpf]; rfl)
      have HYES := Lib.hid (fin2 HZ5.out HB5.out HRW.out (.int .i64 (pf : Int)) (.slice A ln cp))
      clear hfm hpf
      go_wp2
      generalize ((w4.alloc (.cells #[.int .i64 (pf : Int), .slice A ln cp] 76)).setCell ⟨r0, 0, none⟩ (.int .i64 (pf : Int))).setCell ⟨r0, 1, none⟩ (.slice A ln cp) = Z at HYES ⊢
      obtain ⟨z0, z1, hbZ, hTZ⟩ := HYES.out
      have hk := HK.out
      subst hk
      exact bodyPost_ret (v := .tuple #[.agg #[.int .i64 (pf : Int), .slice A ln cp], .bool true]) (by simp [results, Tryz.results55, go_sem, z0, z1]) rfl ⟨⟨A, ln, cp, rfl, ivs_away (cp := cp) HI5.out hTZ (fun A' n' cp' e hn a ha hb => by
        injection e with e1
        rw [← e1] at ha
        exact (HN4.out a ha).1 hb.symm), fun A' n' cp' e a ha => by
        injection e with e1
        rw [← e1] at ha
        exact (HN4.out a ha).2⟩, hbZ⟩
end Go.Proofs.YtddnnhfffmhpmaaGreatDoor.St

/- A segment's bytes read. -/
namespace Go.Proofs.YtddnnhfffmhpmaaGreatDoor.St
open Go.RowKit Go.Proofs.YtddnnhfffmhpmaaGreatDoor DocM StoM Do

/-- a change with its slices -/
abbrev Cx := Ch × Value × Value
def enc5 (x : Cx) : List Value := [.int .i64 x.1.doc, x.2.1, x.2.2, .int .i64 x.1.tags, .bool x.1.gone]
theorem chTy : RowTy 35 103 (.agg #[.int .i64 0, .slice none 0 0, .slice none 0 0, .int .i64 0, .bool false]) 5 72 := ⟨by kernel_rfl, Tryz.underlying103, rfl, by decide, by decide⟩
theorem flat5_get (l : List Cx) (k : Nat) (h : k < l.length) : (l.flatMap enc5)[k * 5]? = some (.int .i64 l[k].1.doc) ∧ (l.flatMap enc5)[k * 5 + 1]? = some l[k].2.1 ∧ (l.flatMap enc5)[k * 5 + 2]? = some l[k].2.2 ∧ (l.flatMap enc5)[k * 5 + 3]? = some (.int .i64 l[k].1.tags) ∧ (l.flatMap enc5)[k * 5 + 4]? = some (.bool l[k].1.gone) := by
  induction l generalizing k with
  | nil => simp at h
  | cons a t ih =>
    cases k with
    | zero => exact ⟨rfl, rfl, rfl, rfl, rfl⟩
    | succ k =>
      have := ih k (by simpa using h)
      rw [show (k + 1) * 5 = k * 5 + 1 + 1 + 1 + 1 + 1 by omega]
      exact this
theorem row_wider {e : TypeId} {size base B n : Nat} {w : World} {v : Value} {xs : List Value} (h : w.ownsRow B e size v n xs) (hB : base ≤ B) : w.ownsRow base e size v n xs := by
  refine ⟨h.1, ?_⟩
  rcases h.2 with hn | ⟨g, cap, cur, e, hbg, rest⟩
  · exact .inl hn
  · exact .inr ⟨g, cap, cur, e, Nat.le_trans hB hbg, rest⟩
/-- v is a row of one's own of such changes, made behind base -/
structure Crow (w : World) (base : Nat) (v : Value) (xs : List Cx) : Prop where
  own : w.ownsRow base 35 5 v xs.length (xs.flatMap enc5)
  rd : ∀ x ∈ xs, Prd w x.2.1 x.1.ts ∧ Vrd w x.2.2 x.1.v ∧ NewS base x.2.1 ∧ NewS base x.2.2 ∧ ∀ g, v.ownBlock = some g → Away (fun b => b = g) x.2.1 ∧ Away (fun b => b = g) x.2.2
theorem Crow.nil_ (w : World) (base : Nat) : Crow w base (.slice none 0 0) [] := ⟨World.ownsRow_nil _ _ _ _, fun x hx => by simp at hx⟩
section
variable {w w' : World} {base : Nat} {v : Value} {xs : List Cx}
theorem Crow.later (h : Crow w base v xs) (hb : Below w.heap.size w w') : Crow w' base v xs :=
  ⟨row_later h.own hb, fun x hx => by
    obtain ⟨h1, h2, h3⟩ := h.rd x hx
    exact ⟨h1.later hb, h2.later hb, h3⟩⟩
theorem Crow.turned {S : Nat → Prop} (h : Crow w base v xs) (hT : Turned S w w') (hS : ∀ b, S b → b < base) : Crow w' base v xs :=
  ⟨row_turned h.own hT fun g hg hs => by
      have := hS _ hs
      have := (World.ownsRow.lt h.own g hg).1
      omega, fun x hx => by
    obtain ⟨h1, h2, h3, h4, h5⟩ := h.rd x hx
    exact ⟨prd_turned h1 hT (Away.new h3 hS), vrd_turned h2 hT (Away.new h4 hS), h3, h4, h5⟩⟩
theorem Crow.wider {base' : Nat} (h : Crow w base v xs) (hb : base' ≤ base) : Crow w base' v xs :=
  ⟨row_wider h.own hb, fun x hx => by
    obtain ⟨h1, h2, h3, h4, h5⟩ := h.rd x hx
    exact ⟨h1, h2, fun A n cp e a ha => Nat.le_trans hb (h3 A n cp e a ha), fun A n cp e a ha => Nat.le_trans hb (h4 A n cp e a ha), h5⟩⟩
/-- one change more -/
theorem Crow.more (h : Crow w base v xs) {x : Cx} (hx : Prd w x.2.1 x.1.ts ∧ Vrd w x.2.2 x.1.v ∧ NewS base x.2.1 ∧ NewS base x.2.2 ∧ ∀ g, v.ownBlock = some g → Away (fun b => b = g) x.2.1 ∧ Away (fun b => b = g) x.2.2) {g n cap : Nat}
    (hr : w'.ownsRow base 35 5 (.slice (some ⟨g, 0, none⟩) n cap) (xs.length + 1) (xs.flatMap enc5 ++ enc5 x)) (hg : w.grownBy w' v.ownBlock) (hl : v.ownBlock = some g ∨ g = w.heap.size) : Crow w' base (.slice (some ⟨g, 0, none⟩) n cap) (xs ++ [x]) := by
  have hall : ∀ y ∈ xs ++ [x], Prd w y.2.1 y.1.ts ∧ Vrd w y.2.2 y.1.v ∧ NewS base y.2.1 ∧ NewS base y.2.2 ∧ ∀ g, v.ownBlock = some g → Away (fun b => b = g) y.2.1 ∧ Away (fun b => b = g) y.2.2 := fun y hy => by
    rcases List.mem_append.1 hy with hy | hy
    · exact h.rd y hy
    · obtain rfl : y = x := by simpa using hy
      exact hx
  refine ⟨by simpa using hr, fun y hy => ?_⟩
  obtain ⟨h1, h2, h3, h4, h5⟩ := hall y hy
  have hT : Turned (fun b => v.ownBlock = some b) w w' := ⟨hg.os, hg.tape, hg.output, hg.size, fun k hk hs => hg.block k hk fun e => hs e.symm⟩
  refine ⟨prd_turned h1 hT fun A n cp e hn a ha hb => (h5 _ hb).1 A n cp e hn a ha rfl, vrd_turned h2 hT fun A n cp e hn a ha hb => (h5 _ hb).2 A n cp e hn a ha rfl, h3, h4, fun g' hg' => ?_⟩
  obtain rfl : g = g' := by simpa [Value.ownBlock] using hg'
  rcases hl with hl | rfl
  · exact h5 g hl
  · exact ⟨fun A n cp e hn a ha hb => by have := prd_lt h1 e hn ha; have hb' : a.block = w.heap.size := hb; omega, fun A n cp e hn a ha hb => by have := vrd_lt h2 e hn ha; have hb' : a.block = w.heap.size := hb; omega⟩
end
theorem op_none {s : List UInt8} (h : opC s ≠ 0) : opL s = [] := by
  unfold opC at h
  unfold opL
  split
  · rfl
  · rename_i h4
    rw [if_neg h4] at h
    split
    · rename_i he
      rw [if_pos he] at h
      exact absurd rfl h
    · rfl
set_option maxHeartbeats 2000000 in
set_option maxRecDepth 100000 in
theorem parseseg_no (w : World) (s : List UInt8) (hl : s.length ≤ 100000000) (h : opC s ≠ 0) :
    Calls Tryz.prog 57 #[.string (ofBytes s)] w fun e w' => e = .returned (.tuple #[.slice none 0 0, .bool false]) ∧ Below w.heap.size w w' := by
  have HOP := Lib.hid (open_list s w hl)
  have HRN := Lib.hid (fun W => rnew_any W [] (by simp))
  have HRV := Lib.hid (fun W b (h : RD W b [] false) => rvarint_any W b [] false (by simp) h)
  rw [op_none h] at HOP
  have hv : (nV PackM.MAXI [] : Nat) = 0 := rfl
  rw [hv] at HRV
  obtain ⟨oc, hoc⟩ : ∃ x, x = opC s := ⟨_, rfl⟩
  rw [← hoc] at HOP h
  have hb0 : (oc == 0) = false := by simpa using h
  generalize ofBytes s = sb at HOP ⊢
  generalize ofBytes [] = eb at HOP HRN
  clear hoc h hl hv
  go_enter Tryz.func57, Tryz.ntmps57
  go_wp2_with fail
  refine HOP.out.mono ?_
  rintro e w1 ⟨rfl, hb1⟩
  have HB1 := Lib.hid hb1
  clear hb1 HOP
  go_wp2_with fail
  refine (HRN.out w1).mono ?_
  rintro e w2 ⟨b, rfl, hbn, rd2, hb2⟩
  have HB2 := Lib.hid (HB1.out.trans (hb2.mono HB1.out.size))
  have HBN : Hid (w.heap.size ≤ b) := Lib.hid (Nat.le_trans HB1.out.size hbn)
  have HR2 := Lib.hid rd2
  clear hbn rd2 hb2
  go_wp2_with fail
  refine (HRV.out w2 b HR2.out).mono ?_
  rintro e w3 ⟨rfl, rd3, g3⟩
  have HB3 := Lib.hid (below_rd HB2.out HBN.out g3)
  clear rd3 g3
  go_wp2
  refine wp_loop_rounds 1 ?_
  rw [rounds_succ]
  go_wp2
  go_ret2
  exact ⟨rfl, HB3.out⟩
theorem seg_num (l : Chs) (hl : l.length ≤ 1000) : (nV PackM.MAXI (segT l) : Nat) = l.length ∧ nS PackM.MAXI (segT l) = l.flatMap prB ∧ nB PackM.MAXI (segT l) false = false := by
  have h : PackM.num PackM.MAXI 0 0 (segT l) = some (l.length, l.flatMap prB) := by
    unfold segT varB
    rw [if_neg (by omega), Int.toNat_natCast]
    exact PackM.num_there PackM.MAXI _ _ (by have h3 : PackM.MAXI = 9223372036854775807 := rfl; omega)
  unfold nV nS nB
  rw [h]
  exact ⟨rfl, rfl, rfl⟩
theorem prs_flat (l : Chs) (hr : ∀ c ∈ l, rightC c = 0) : (l.flatMap prB).length ≤ 60000 * l.length := by
  rw [List.flatMap_def]
  exact prs_len l hr
theorem read_there {W : World} {b : Nat} {c : Ch} {t : List UInt8} (hc : rightC c = 0) (hl : (prB c ++ t).length ≤ 100000000) (h : RD W b (prB c ++ t) false) :
    Calls Tryz.prog 93 #[.pointer (some ⟨b, 0, none⟩)] W fun e w' => (∃ T V, e = .returned (.tuple #[chV c T V, .bool true]) ∧ Prd w' T c.ts ∧ Vrd w' V c.v ∧ NewS W.heap.size T ∧ NewS W.heap.size V) ∧ RD w' b t false ∧ W.grownBy w' (some b) := by
  have h0 := read_any' W b (prB c ++ t) hl h
  obtain ⟨h1, h2, h3⟩ := rd_some (rd_there hc t)
  refine h0.mono fun e w' ⟨⟨T, V, s', bad', g1, g2, g3, g4, g5, g6, g7⟩, g8⟩ => ?_
  rw [h1, h2] at g1
  rw [h1] at g2 g3
  obtain ⟨g5', rfl⟩ := g5 h2
  rw [h3] at g5'
  subst g5'
  exact ⟨⟨T, V, g1, g2, g3, g6, g7⟩, g4, g8⟩
def SegEnd (w : World) (l : Chs) (e : Ending) (w' : World) : Prop := ∃ v xs, e = .returned (.tuple #[v, .bool true]) ∧ xs.map (·.1) = l ∧ Crow w' w.heap.size v xs ∧ Below w.heap.size w w'
theorem wpList_append_crow {w : World} {ops : Array Oper} {rest : List Oper} {o : Oper} {a : Act} {Q : Exit → Act → World → Prop} (hgd : o.guard = none) (s x : Operand)
    (ho : o.op = .call { callee := .builtin .append, args := #[s, x], argTypes := #[103, 103] })
    (base : Nat) (v : Value) (xs : List Cx) (hs : a.eval s = v) (hC : Crow w base v xs) (c : Ch) (p q : Option Addr) (n1 k1 m1 j1 : Nat)
    (hy : Prd w (.slice p n1 k1) c.ts ∧ Vrd w (.slice q m1 j1) c.v ∧ NewS base (.slice p n1 k1) ∧ NewS base (.slice q m1 j1) ∧ ∀ g, v.ownBlock = some g → Away (fun b => b = g) (.slice p n1 k1) ∧ Away (fun b => b = g) (.slice q m1 j1))
    (g cc : Nat) (hx : a.eval x = .slice (some ⟨g, 0, none⟩) 1 cc) (hg : w.heap[g]? = some (.cells #[.int .i64 c.doc, .slice p n1 k1, .slice q m1 j1, .int .i64 c.tags, .bool c.gone] 35 (0, 0))) (hbase : base ≤ w.heap.size) (hn : xs.length ≤ 1000000)
    (h : ∀ v' w', Crow w' base v' (xs ++ [(c, .slice p n1 k1, .slice q m1 j1)]) → w.grownBy w' v.ownBlock → wpList Tryz.prog ops Q rest (a.put o.dst v') w') : wpList Tryz.prog ops Q (o :: rest) a w := by
  obtain ⟨i0, hi, hz0, hz1, hz2⟩ := info_parts chTy.info
  refine wpList_append_lies w hgd s x _ ho base 35 i0 _ 5 72 chTy.sl hi hz0 hz1 hz2 chTy.zs chTy.pos v xs.length (xs.flatMap enc5) hs hC.own ⟨g, 0, none⟩ 1 cc (enc5 (c, .slice p n1 k1, .slice q m1 j1)) hx rfl (fun j u hu => ?_) ?_ (by omega) (by simp [maxLen]; omega) (by omega) hbase w.heap.size rfl fun g' cap w' h1 h2 h3 h4 => h _ _ (hC.more hy h1 h2 h3) h2
  · rw [add_none, Nat.zero_add]
    exact cell_of_cells hg (by simpa [enc5] using hu)
  · intro u hu
    simp only [enc5, List.mem_cons, List.not_mem_nil, or_false] at hu
    rcases hu with rfl | rfl | rfl | rfl | rfl <;> rfl
set_option maxHeartbeats 4000000 in
set_option maxRecDepth 100000 in
theorem parseseg_yes (w : World) (l : Chs) (hr : ∀ c ∈ l, rightC c = 0) (hri : RiseC l) (hl : l.length ≤ 1000) :
    Calls Tryz.prog 57 #[.string (ofBytes (segB l))] w (SegEnd w l) := by
  have hfl := prs_flat l hr
  have hsl : (segB l).length ≤ 100000000 ∧ (segT l).length ≤ 100000000 := by
    have h1 : (varB ((l.length : Nat) : Int)).length ≤ 10 := varB_len _ (by omega)
    have h2 : (segB l).length = (segT l).length + 4 := sealed_len _
    have h3 : (segT l).length = (varB ((l.length : Nat) : Int)).length + (l.flatMap prB).length := by unfold segT; rw [List.length_append]
    omega
  obtain ⟨o1, o2⟩ := op_sealed (segT l)
  obtain ⟨n1, n2, n3⟩ := seg_num l hl
  have hop := open_list (segB l) w hsl.1
  change Calls _ _ _ _ fun e w' => e = .returned (.tuple #[.string (ofBytes (opL (CrcM.sealed (segT l)))), .int .i64 (opC (CrcM.sealed (segT l)))]) ∧ _ at hop
  rw [o1, o2] at hop
  have HOP := Lib.hid hop
  have HRN := Lib.hid (fun W => rnew_any W (segT l) hsl.2)
  have HRV := Lib.hid (fun W b (h : RD W b (segT l) false) => rvarint_any W b (segT l) false hsl.2 h)
  rw [n1, n2, n3] at HRV
  have HRD := Lib.hid (fun W b (c : Ch) (rest : Chs) (hc : rightC c = 0) (hl : (prB c ++ rest.flatMap prB).length ≤ 100000000) (h : RD W b (prB c ++ rest.flatMap prB) false) => read_there hc hl h)
  have HAE : Hid (∀ W b, RD W b [] false → Calls Tryz.prog 92 #[.pointer (some ⟨b, 0, none⟩)] W fun e w' => e = .returned (.bool true) ∧ W = w') := Lib.hid (fun W b h => isatend_any W b [] false h)
  have HR := Lib.hid hr
  have HRI := Lib.hid hri
  have HFL := Lib.hid (show (l.flatMap prB).length ≤ 60000000 by omega)
  have HL := Lib.hid hl
  obtain ⟨n, hn⟩ : ∃ n, n = l.length := ⟨_, rfl⟩
  rw [← hn] at HRV hl
  have HN := Lib.hid hn
  generalize ofBytes (segB l) = sb at HOP ⊢
  generalize ofBytes (segT l) = tb at HOP HRN
  clear hr hri hfl hsl o1 o2 n1 n2 n3 hop hn
  go_enter Tryz.func57, Tryz.ntmps57
  go_wp2_with fail
  refine HOP.out.mono ?_
  rintro e w1 ⟨rfl, hb1⟩
  have HB1 := Lib.hid hb1
  clear hb1 HOP
  go_wp2_with fail
  refine (HRN.out w1).mono ?_
  rintro e w2 ⟨b, rfl, hbn, rd2, hb2⟩
  have HB2 := Lib.hid (HB1.out.trans (hb2.mono HB1.out.size))
  have HBN : Hid (w.heap.size ≤ b) := Lib.hid (Nat.le_trans HB1.out.size hbn)
  have HR2 := Lib.hid rd2
  clear hbn rd2 hb2
  go_wp2_with fail
  refine (HRV.out w2 b HR2.out).mono ?_
  rintro e w3 ⟨rfl, rd3, g3⟩
  have HR3 := Lib.hid rd3
  have HB3 := Lib.hid (below_rd HB2.out HBN.out g3)
  have HBL : Hid (b < w3.heap.size ∧ w.heap.size ≤ w3.heap.size) := Lib.hid ⟨rd3.lt, HB3.out.size⟩
  clear rd3 g3 HR2 HB2 HRV HRN
  go_wp2_with fail
  go_loopw [7, 8, 20] (fun v x i wr => ∃ (dn rest : Chs) (xs : List Cx) (last : Int), l = dn ++ rest ∧ x = .int .i64 last ∧ i = .int .i64 (dn.length : Int) ∧ xs.map (·.1) = dn ∧ Crow wr w3.heap.size v xs ∧ RD wr b (rest.flatMap prB) false ∧ Below w.heap.size w wr ∧ w3.heap.size ≤ wr.heap.size ∧ -1 ≤ last ∧ last ≤ 2147483647 ∧ ∀ c ∈ rest, last < c.doc) (fun _ _ i _ => n - (intOf i).toNat)
  case atStart => exact ⟨[], l, [], -1, rfl, rfl, rfl, rfl, Crow.nil_ _ _, HR3.out, HB3.out, Nat.le_refl _, by omega, by omega, fun c hc => by have := (docok (HR.out c hc)).1; omega⟩
  case round =>
    obtain ⟨dn, rest, xs, last, hE, rfl, rfl, hxs, hC, rd, hb, hz, hl1, hl2, hl3⟩ := hrel
    have hlen : dn.length + rest.length = n := by rw [HN.out, hE, List.length_append]
    cases rest with
    | nil =>
      have hnb : ¬ (dn.length : Int) < (n : Int) := by simp at hlen; omega
      have hdl : dn = l := by rw [hE, List.append_nil]
      have HD := Lib.hid hdl
      have HAE2 := Lib.hid (HAE.out wr b rd)
      have HF := Lib.hid (show SegEnd w l (.returned (.tuple #[u7, .bool true])) wr from ⟨u7, xs, rfl, by rw [hxs, hdl], hC.wider HBL.out.2, hb⟩)
      clear hE rd hC hxs hb hz hl1 hl2 hl3 hlen hdl
      go_wp2_with fail
      refine HAE2.out.mono ?_
      rintro e w4 ⟨rfl, rfl⟩
      go_wp2
      go_ret2
      exact HF.out
    | cons c rest =>
      have hnb : (dn.length : Int) < (n : Int) := by simp at hlen; omega
      have hcm : c ∈ l := by rw [hE]; simp
      have hcr := HR.out c hcm
      have hcd := docok hcr
      have hlt := hl3 c List.mem_cons_self
      have hle : decide (c.doc ≤ last) = false := decide_eq_false (by omega)
      have hl4 : ∀ x ∈ rest, c.doc < x.doc := fun x hx => by
        have h1 := HRI.out
        rw [hE] at h1
        exact (List.pairwise_cons.1 (List.pairwise_append.1 h1).2.1).1 x hx
      have hpl : (prB c ++ rest.flatMap prB).length ≤ 100000000 := by
        have h1 := HFL.out
        rw [hE, List.flatMap_append, List.flatMap_cons, List.length_append] at h1
        omega
      have hxl : xs.length = dn.length := by rw [← hxs, List.length_map]
      have HRD2 := Lib.hid (HRD.out wr b c rest hcr hpl rd)
      have HC := Lib.hid hC
      have HB := Lib.hid hb
      have HX := Lib.hid (show l = (dn ++ [c]) ++ rest ∧ (xs.map (·.1)) ++ [c] = dn ++ [c] ∧ xs.length ≤ 1000 ∧ 0 ≤ c.doc ∧ c.doc ≤ 2147483647 from ⟨by rw [hE]; simp, by rw [hxs], by simp at hlen; omega, hcd.1, hcd.2⟩)
      have HL4 := Lib.hid hl4
      have HLN := Lib.hid (show dn.length + 1 ≤ n by simp at hlen; omega)
      clear hE rd hC hxs hb hl1 hl2 hl3 hlen hcm hcr hcd hlt hl4 hpl hxl
      go_wp2_with fail
      refine HRD2.out.mono ?_
      rintro e w4 ⟨⟨T, V, rfl, hT, hV, nT, nV⟩, rd4, g4⟩
      obtain ⟨A1, c1, rfl, -⟩ := id hT
      obtain ⟨A2, c2, rfl, -⟩ := id hV
      have hg4 : Turned (fun x => x = b) wr w4 := Turned.of_grown g4 rfl
      have hC4 := HC.out.turned hg4 fun x e => by have h1 := HBL.out.1; have h2 : x = b := e; omega
      obtain ⟨n1, hn1⟩ : ∃ n, n = c.ts.length := ⟨_, rfl⟩
      obtain ⟨n2, hn2⟩ : ∃ n, n = c.v.length := ⟨_, rfl⟩
      rw [← hn1] at hT nT ⊢
      rw [← hn2] at hV nV ⊢
      have hbX := pl1 w4 (.cells #[.int .i64 c.doc, .slice A1 n1 c1, .slice A2 n2 c2, .int .i64 c.tags, .bool c.gone] 35)
      have hbY := pl1 (w4.alloc (.cells #[.int .i64 c.doc, .slice A1 n1 c1, .slice A2 n2 c2, .int .i64 c.tags, .bool c.gone] 35)) (.cells #[.int .i64 c.doc, .slice A1 n1 c1, .slice A2 n2 c2, .int .i64 c.tags, .bool c.gone] 35)
      have hbXY := hbX.trans (hbY.mono hbX.size)
      have hgY := heap_alloc_new (w4.alloc (.cells #[.int .i64 c.doc, .slice A1 n1 c1, .slice A2 n2 c2, .int .i64 c.tags, .bool c.gone] 35)) (.cells #[.int .i64 c.doc, .slice A1 n1 c1, .slice A2 n2 c2, .int .i64 c.tags, .bool c.gone] 35)
      rw [World.size_alloc] at hgY
      have hBw : Below w.heap.size w w4 := below_rd HB.out HBN.out g4
      have HCY := Lib.hid (hC4.later hbXY)
      have HYY : Hid (Prd ((w4.alloc (.cells #[.int .i64 c.doc, .slice A1 n1 c1, .slice A2 n2 c2, .int .i64 c.tags, .bool c.gone] 35)).alloc (.cells #[.int .i64 c.doc, .slice A1 n1 c1, .slice A2 n2 c2, .int .i64 c.tags, .bool c.gone] 35)) (.slice A1 n1 c1) c.ts ∧ Vrd ((w4.alloc (.cells #[.int .i64 c.doc, .slice A1 n1 c1, .slice A2 n2 c2, .int .i64 c.tags, .bool c.gone] 35)).alloc (.cells #[.int .i64 c.doc, .slice A1 n1 c1, .slice A2 n2 c2, .int .i64 c.tags, .bool c.gone] 35)) (.slice A2 n2 c2) c.v ∧ NewS w3.heap.size (.slice A1 n1 c1) ∧ NewS w3.heap.size (.slice A2 n2 c2) ∧ ∀ g, u7.ownBlock = some g → Away (fun b => b = g) (.slice A1 n1 c1) ∧ Away (fun b => b = g) (.slice A2 n2 c2)) := Lib.hid ⟨hT.later hbXY, hV.later hbXY, fun A n cp e a ha => Nat.le_trans hz (nT A n cp e a ha), fun A n cp e a ha => Nat.le_trans hz (nV A n cp e a ha), fun g hg => by
        have h1 := (World.ownsRow.lt HC.out.own g hg).2
        exact ⟨Away.new nT fun b hb => by rw [hb]; exact h1, Away.new nV fun b hb => by rw [hb]; exact h1⟩⟩
      have HGY := Lib.hid hgY
      have HBY := Lib.hid (hBw.trans (hbXY.mono hBw.size))
      have HZY : Hid (w3.heap.size ≤ ((w4.alloc (.cells #[.int .i64 c.doc, .slice A1 n1 c1, .slice A2 n2 c2, .int .i64 c.tags, .bool c.gone] 35)).alloc (.cells #[.int .i64 c.doc, .slice A1 n1 c1, .slice A2 n2 c2, .int .i64 c.tags, .bool c.gone] 35)).heap.size) := Lib.hid (Nat.le_trans hz (Nat.le_trans hg4.size hbXY.size))
      have HRY := Lib.hid (rd4.later hbXY)
      unfold chV
      clear hT hV nT nV hbX hbY hbXY hgY hBw hC4 hg4 rd4 g4 hn1 hn2 hz
      go_wp2_with (at_builtin; refine wpList_append_crow rfl _ _ rfl w3.heap.size u7 xs rfl HCY.out c A1 A2 _ _ _ _ HYY.out _ _ rfl HGY.out HZY.out (by have := HX.out.2.2.1; omega) ?_; intro v' w5 hC5 hg5)
      have hob : ∀ g, u7.ownBlock = some g → w3.heap.size ≤ g := fun g hg => (World.ownsRow.lt HCY.out.own g hg).1
      refine ⟨⟨dn ++ [c], rest, xs ++ [(c, .slice A1 n1 c1, .slice A2 n2 c2)], c.doc, HX.out.1, rfl, by rw [List.length_append]; go_num, by rw [List.map_append]; exact HX.out.2.1, hC5, HRY.out.kept (hg5.block b HRY.out.lt fun e => ?_), HBY.out.grown hg5 HBY.out.size fun g hg => Nat.le_trans HBL.out.2 (hob g hg), Nat.le_trans HZY.out hg5.size, by have := HX.out.2.2.2; omega, HX.out.2.2.2.2, HL4.out⟩, ?_⟩
      · have := hob b e.symm
        have := HBL.out.1
        omega
      · have := HLN.out
        simp [intOf]
        omega
end Go.Proofs.YtddnnhfffmhpmaaGreatDoor.St

/- A change's frame is written; a change is taken. -/
namespace Go.Proofs.YtddnnhfffmhpmaaGreatDoor.St
open Go.RowKit Go.Proofs.YtddnnhfffmhpmaaGreatDoor DocM StoM Do
open VdM

set_option maxHeartbeats 2000000 in
set_option maxRecDepth 100000 in
theorem put1_any (W : World) (Fd : Nat → Prop) (B0 B1 s d lg : Nat) (k : Dsk) (c : Ch)
    (b0 : W.cell? ⟨B0, 0, none⟩ = some (.pointer (some ⟨s, 0, none⟩))) (b1 : W.cell? ⟨B1, 0, none⟩ = some (.string (ofBytes (prB c)))) (s0 : W.cell? ⟨s, 0, none⟩ = some (.pointer (some ⟨d, 0, none⟩))) (s3 : W.cell? ⟨s, 3, none⟩ = some (.int .i64 (lg : Int)))
    (n0 : ¬ Fd B0) (n1 : ¬ Fd B1) (ns : ¬ Fd s) (hlg : lg < 100) (hc : rightC c = 0) (h : Vd.Is W Fd d k) (he : k.eff + 2 ≤ 1000000000) :
    Calls Tryz.prog 48 #[.pointer (some ⟨B0, 0, none⟩), .pointer (some ⟨B1, 0, none⟩)] W (DoesK W Fd d k fun k => wr k (logN lg) (frameB c)) := by
  have HN := Lib.hid (fun W' => logname_any lg hlg W')
  have HP := Lib.hid (fun W' => frame_any c W' hc)
  have hsz : (ofBytes (logN lg)).size ≤ 1000000 := by rw [size_ofBytes]; have := dec_len lg; simp [logN, logP]; omega
  have HW := Lib.hid (fun W' (hb : Below W.heap.size W W') => (write_any W' Fd s d k (ofBytes (logN lg)) (ofBytes (frameB c)) ((hb.cell (p := ⟨s, 0, none⟩) (World.block_lt_of_cell? W _ s0)).trans s0) ns (h.later hb) hsz he).mono (fun e w' (hd : DoesK W' Fd d k _ e w') => (⟨hd.1, hd.2⟩ : e = .returned (.int .i64 (wr k (ofBytes (logN lg)).data.toList (ofBytes (frameB c)).data.toList).2) ∧ Dk W' Fd d (wr k (ofBytes (logN lg)).data.toList (ofBytes (frameB c)).data.toList).1 w')))
  have KT := Lib.hid (fun (X Y : World) (hX : X.cell? ⟨B0, 0, none⟩ = some (.pointer (some ⟨s, 0, none⟩)) ∧ X.cell? ⟨s, 3, none⟩ = some (.int .i64 (lg : Int)) ∧ X.cell? ⟨B1, 0, none⟩ = some (.string (ofBytes (prB c)))) (hT : Turned Fd X Y) =>
    (⟨(hT.cell (p := ⟨B0, 0, none⟩) (World.block_lt_of_cell? X _ hX.1) n0).trans hX.1, (hT.cell (p := ⟨s, 3, none⟩) (World.block_lt_of_cell? X _ hX.2.1) ns).trans hX.2.1, (hT.cell (p := ⟨B1, 0, none⟩) (World.block_lt_of_cell? X _ hX.2.2) n1).trans hX.2.2⟩ :
      Y.cell? ⟨B0, 0, none⟩ = some (.pointer (some ⟨s, 0, none⟩)) ∧ Y.cell? ⟨s, 3, none⟩ = some (.int .i64 (lg : Int)) ∧ Y.cell? ⟨B1, 0, none⟩ = some (.string (ofBytes (prB c)))))
  have HB0 : Hid (Below W.heap.size W W.drew) := Lib.hid (Below.refl _ _).drew
  rw [ofBytes_list, ofBytes_list] at HW
  obtain ⟨r, hr'⟩ : ∃ r, r = wr k (logN lg) (frameB c) := ⟨_, rfl⟩
  have HR := Lib.hid hr'
  rw [← hr'] at HW
  generalize ofBytes (logN lg) = nm at HN HW hsz
  generalize ofBytes (frameB c) = tx at HP HW
  generalize ofBytes (prB c) = tp at HP KT b1
  clear hr' hlg hc h he n0 n1 ns s0 hsz
  go_enter Tryz.func48, Tryz.ntmps48
  go_upto_region 1 with fail
  go_region_held3 (fun w' => w'.cell? ⟨B0, 0, none⟩ = some (.pointer (some ⟨s, 0, none⟩)) ∧ w'.cell? ⟨s, 3, none⟩ = some (.int .i64 (lg : Int)) ∧ w'.cell? ⟨B1, 0, none⟩ = some (.string tp))
    ((first | exact ⟨b0, s3, b1⟩ | assumption | go_keep))
    (first
      | (go_at_call 50; ((with_reducible refine (HN.out _).mono ?_); rintro e w2 ⟨rfl, rfl⟩))
      | (go_at_call 51; ((with_reducible refine (HP.out _).mono ?_); rintro e w3 ⟨rfl, hb3⟩; have hk3 := KT.out _ _ ⟨b0, s3, b1⟩ (Turned.of_below (HB0.out.trans (hb3.mono HB0.out.size))); have HB3 := Lib.hid (HB0.out.trans (hb3.mono HB0.out.size)); clear hb3))
      | (go_at_call 49; ((with_reducible refine (HW.out _ HB3.out).mono ?_); rintro e w4 ⟨rfl, hd⟩; have hk4 := KT.out _ _ hk3 hd.1; have HD := Lib.hid hd; clear hd)))
  all_goals
    go_wp2
    go_ret
    unfold DoesK
    simp only
    rw [← HR.out]
    exact ⟨rfl, Vd.Went.on (Turned.of_below HB3.out) HD.out⟩
set_option maxHeartbeats 4000000 in
set_option maxRecDepth 100000 in
theorem take_any (w : World) (Fd : Nat → Prop) (p : Pl) (k : Dsk) (f : Nat) (segs : List Nat) (lg : Nat) (begun lost : Bool) (lv st cm : Chs) (c : Ch) (T V : Value) (h : StAt w Fd p k f segs lg begun lost lv st cm) (hc : Ct w (fullF p Fd) c T V) (hd : DocOk c.doc) (hl : lv.length ≤ 1000000) (hm : cm.length ≤ 1000000) :
    Calls Tryz.prog 52 #[.pointer (some ⟨p.s, 0, none⟩), chV c T V] w fun e w' => e = .returned (.tuple #[]) ∧ Turned (fun b => b = p.ml ∨ b = p.mc) w w' ∧ StAt w' Fd p k f segs lg begun lost (doC c lv) st (ptC c cm) := by
  obtain ⟨p1, n1, k1, q1, m1, j1, rfl, rfl⟩ := hc.shape
  obtain ⟨N, hN⟩ : ∃ N, N = w.heap.size := ⟨_, rfl⟩
  have hb0 := pl1 w (.cells #[.int .i64 c.doc, .slice p1 n1 k1, .slice q1 m1 j1, .int .i64 c.tags, .bool c.gone] 35)
  have hbk : (w.alloc (.cells #[.int .i64 c.doc, .slice p1 n1 k1, .slice q1 m1 j1, .int .i64 c.tags, .bool c.gone] 35)).heap[N]? = some (.cells #[.int .i64 c.doc, .slice p1 n1 k1, .slice q1 m1 j1, .int .i64 c.tags, .bool c.gone] 35 (0, 0)) := by rw [hN]; exact heap_alloc_new w _
  have hU0 := h.later hb0
  have hcU := hc.later hb0
  have HNE := Lib.hid hN
  have hlt := h.lt
  have HB0 := Lib.hid hb0
  have HST := Lib.hid hU0
  have HCT := Lib.hid hcU
  have HBK := Lib.hid hbk
  unfold chV
  have hNl : ∀ b, fullF p Fd b → b ≠ N := fun b hb e => by have := hlt b hb; omega
  have HNL := Lib.hid hNl
  clear h hc hb0 hbk hU0 hcU hN hlt hNl
  go_enter Tryz.func52, Tryz.ntmps52
  go_upto_region 1 with fail
  rw [← HNE.out]
  generalize w.alloc (.cells #[.int .i64 c.doc, .slice p1 n1 k1, .slice q1 m1 j1, .int .i64 c.tags, .bool c.gone] 35) = U at HB0 HST HCT HBK ⊢
  obtain ⟨A, n, cp, _, _, _, s0, s1, s2, s3, s4, s5, s6, s7, s8, sf⟩ := HST.out.cells
  have c0 := cell_of_cells HBK.out (i := 0) rfl
  have c1 := cell_of_cells HBK.out (i := 1) rfl
  have c2 := cell_of_cells HBK.out (i := 2) rfl
  have c3 := cell_of_cells HBK.out (i := 3) rfl
  have c4 := cell_of_cells HBK.out (i := 4) rfl
  have HDO := Lib.hid (do_any U.drew (fullF p Fd) p.ml lv c (.slice p1 n1 k1) (.slice q1 m1 j1) (HST.out.live.later (Below.refl _ _).drew) (.inr (.inr (.inl rfl))) (HCT.out.later (Below.refl _ _).drew) hd hl)
  have HKK := Lib.hid (fun (Y : World) (hT : Turned (fun b => b = p.ml) U Y) => (⟨(hT.cell (p := ⟨p.s, 5, none⟩) (World.block_lt_of_cell? U _ s5) HST.out.sm.1).trans s5, (hT.cell (p := ⟨N, 0, none⟩) (World.block_lt_of_cell? U _ c0) (fun e => HNL.out p.ml (.inr (.inr (.inl rfl))) e.symm)).trans c0, (hT.cell (p := ⟨N, 1, none⟩) (World.block_lt_of_cell? U _ c1) (fun e => HNL.out p.ml (.inr (.inr (.inl rfl))) e.symm)).trans c1, (hT.cell (p := ⟨N, 2, none⟩) (World.block_lt_of_cell? U _ c2) (fun e => HNL.out p.ml (.inr (.inr (.inl rfl))) e.symm)).trans c2, (hT.cell (p := ⟨N, 3, none⟩) (World.block_lt_of_cell? U _ c3) (fun e => HNL.out p.ml (.inr (.inr (.inl rfl))) e.symm)).trans c3, (hT.cell (p := ⟨N, 4, none⟩) (World.block_lt_of_cell? U _ c4) (fun e => HNL.out p.ml (.inr (.inr (.inl rfl))) e.symm)).trans c4⟩ :
    Y.cell? ⟨p.s, 5, none⟩ = some (.map (some p.ml)) ∧ Y.cell? ⟨N, 0, none⟩ = some (.int .i64 c.doc) ∧ Y.cell? ⟨N, 1, none⟩ = some (.slice p1 n1 k1) ∧ Y.cell? ⟨N, 2, none⟩ = some (.slice q1 m1 j1) ∧ Y.cell? ⟨N, 3, none⟩ = some (.int .i64 c.tags) ∧ Y.cell? ⟨N, 4, none⟩ = some (.bool c.gone)))
  unfold chV at HDO
  clear s0 s1 s2 s3 s4 s6 s7 s8 sf hl
  go_region_held3 (fun Y => Y.cell? ⟨p.s, 5, none⟩ = some (.map (some p.ml)) ∧ Y.cell? ⟨N, 0, none⟩ = some (.int .i64 c.doc) ∧ Y.cell? ⟨N, 1, none⟩ = some (.slice p1 n1 k1) ∧ Y.cell? ⟨N, 2, none⟩ = some (.slice q1 m1 j1) ∧ Y.cell? ⟨N, 3, none⟩ = some (.int .i64 c.tags) ∧ Y.cell? ⟨N, 4, none⟩ = some (.bool c.gone))
    ((first | exact ⟨s5, c0, c1, c2, c3, c4⟩ | assumption | go_keep))
    (first
      | (go_at_call 43; ((with_reducible refine HDO.out.mono ?_); rintro e w2 ⟨rfl, hm2, hT2⟩; have hk2 := HKK.out w2 ((Turned.of_below (Below.refl _ _).drew).trans hT2))))
  all_goals
    have hTU : Turned (fun b => b = p.ml) U w2 := (Turned.of_below (Below.refl _ _).drew).trans hT2
    have hS2 := HST.out.lives hTU hm2
    have hC2 := HCT.out.turned (F' := fullF p Fd) hTU (fun b hb => .inr (.inr (.inl hb))) (fun _ h => .inl h)
    obtain ⟨w4, hrun, hm4, hg4⟩ := put_run (hS2.came.later (Below.refl _ _).drew) (.inr (.inr (.inr (.inr rfl)))) (hC2.later (Below.refl _ _).drew) hd hm
    have hT4 : Turned (fun b => b = p.mc) w2 w4 := (Turned.of_below (Below.refl _ _).drew).trans (Turned.of_grown hg4 rfl)
    have hS4 := hS2.comes hT4 hm4
    have HF := Lib.hid (show Turned (fun b => b = p.ml ∨ b = p.mc) w w4 ∧ StAt w4 Fd p k f segs lg begun lost (doC c lv) st (ptC c cm) from ⟨(Turned.of_below HB0.out).trans ((hTU.wide fun b hb => .inl hb).trans (hT4.wide fun b hb => .inr hb)), hS4⟩)
    obtain ⟨A9, n9, cp9, _, _, _, t0, t1, t2, t3, t4, t5, t6, t7, t8, tf⟩ := hS2.cells
    obtain ⟨k0, k1', k2, k3, k4, k5⟩ := hk2
    unfold chV at hrun
    clear hTU hS2 hC2 hm4 hg4 hT4 hS4 hT2 hm2 t0 t1 t2 t3 t4 t5 t6 t8 tf HDO HKK s5 c0 c1 c2 c3 c4 k0
    go_wp2
    go_region
    go_end0
    exact ⟨rfl, HF.out.1, HF.out.2⟩
end Go.Proofs.YtddnnhfffmhpmaaGreatDoor.St

/- A log is read. -/
namespace Go.Proofs.YtddnnhfffmhpmaaGreatDoor.St
open Go.RowKit Go.Proofs.YtddnnhfffmhpmaaGreatDoor DocM StoM Do
open VdM

def rdLen (w : World) (b : Nat) : Nat := match w.cell? ⟨b, 0, none⟩ with | some (.string s) => s.size | _ => 0
theorem rd_len {w : World} {b : Nat} {s : List UInt8} {bad : Bool} (h : RD w b s bad) : rdLen w b = s.length := by
  unfold rdLen
  rw [h.c0]
  exact size_ofBytes s
theorem dl_len (n : Int) : ∀ l : Chs, (dlC n l).length ≤ l.length
  | [] => Nat.le_refl _
  | x :: t => by
    unfold dlC
    split
    · exact Nat.le_succ_of_le (dl_len n t)
    · exact Nat.succ_le_succ (dl_len n t)
theorem do_len (c : Ch) {l : Chs} (h : RiseC l) : (doC c l).length ≤ l.length + 1 := by
  unfold doC
  split
  · exact Nat.le_succ_of_le (dl_len _ l)
  · rw [length_put h]
    split <;> omega
theorem pt_len (c : Ch) {l : Chs} (h : RiseC l) : (ptC c l).length ≤ l.length + 1 := by
  rw [length_put h]
  split <;> omega
theorem frame_pos (c : Ch) : 1 ≤ (frameB c).length := by
  have h2 : (CrcM.sealed (prB c)).length = (prB c).length + 4 := by simp [CrcM.sealed, CrcM.le4]
  unfold frameB
  rw [List.length_append]
  omega
/-! ### a block of one's own beside a store -/
theorem is_wider {w : World} {F F' : Nat → Prop} {d : Nat} {s : Dsk} (h : Vd.Is w F d s) (hF : ∀ b, F b → F' b) (hl : ∀ b, F' b → b < w.heap.size) : Vd.Is w F' d s := by
  obtain ⟨m, D, V, h⟩ := h
  exact ⟨m, D, V, ⟨h.ob, h.own, h.rep, h.row, h.apart, hF _ h.fd, hF _ h.fm, fun n f hl g hg => hF _ (h.fv n f hl g hg), hl, h.ok⟩⟩
def plusF (Fd : Nat → Prop) (b x : Nat) : Prop := Fd x ∨ x = b
section
variable {w w' : World} {Fd Fd' : Nat → Prop} {p : Pl} {k k' : Dsk} {f b : Nat} {segs : List Nat} {lg : Nat} {begun lost : Bool} {lv st cm : Chs}
theorem StAt.beside (h : StAt w Fd p k f segs lg begun lost lv st cm) (hb : Below w.heap.size w w') (h1 : w.heap.size ≤ b) (h2 : b < w'.heap.size) : StAt w' (plusF Fd b) p k f segs lg begun lost lv st cm := by
  have hF : ∀ x, fullF p (plusF Fd b) x → fullF p Fd x ∨ w.heap.size ≤ x := fun x hx => by
    rcases hx with (hx | rfl) | hx
    · exact .inl (.inl hx)
    · exact .inr h1
    · exact .inl (.inr hx)
  have hT : Turned (fun _ => False) w w' := Turned.of_below hb
  have hz := hb.size
  obtain ⟨A, n, cp, e1, e2, e3⟩ := h.blk
  refine ⟨⟨A, n, cp, blk_stay hb e1, e2.later hb, away_more e2 e3 hF⟩, is_wider (h.disk.later hb) (fun _ h => .inl h) (fun x hx => ?_), h.live.turned hT (fun h => h) (fun _ h => h.elim) hF, h.settled.turned hT (fun h => h) (fun _ h => h.elim) hF, h.came.turned hT (fun h => h) (fun _ h => h.elim) hF, fun hx => hx.elim h.ns (fun e => ?_), fun hx => hx.elim h.nl (fun e => ?_), fun hx => hx.elim h.nst (fun e => ?_), fun hx => hx.elim h.nc (fun e => ?_), h.ls, h.lc, h.sc⟩
  · rcases hx with hx | rfl
    · have := h.disk.lt x hx; omega
    · exact h2
  · have := h.slt; omega
  · have := h.live.lt; omega
  · have := h.settled.lt; omega
  · have := h.came.lt; omega
theorem StAt.alone (h : StAt w Fd' p k f segs lg begun lost lv st cm) (hd : Vd.Is w Fd p.d k') (hs : ∀ x, Fd x → Fd' x) : StAt w Fd p k' f segs lg begun lost lv st cm := by
  have hF : ∀ x, fullF p Fd x → fullF p Fd' x := fun x hx => hx.elim (fun h => .inl (hs x h)) .inr
  have hT : Turned (fun _ => False) w w := Turned.refl _ _
  obtain ⟨A, n, cp, e1, e2, e3⟩ := h.blk
  exact ⟨⟨A, n, cp, e1, e2, e3.less hF⟩, hd, h.live.turned hT (fun h => h) (fun _ h => h.elim) (fun x hx => .inl (hF x hx)), h.settled.turned hT (fun h => h) (fun _ h => h.elim) (fun x hx => .inl (hF x hx)), h.came.turned hT (fun h => h) (fun _ h => h.elim) (fun x hx => .inl (hF x hx)), fun hx => h.ns (hs _ hx), fun hx => h.nl (hs _ hx), fun hx => h.nst (hs _ hx), fun hx => h.nc (hs _ hx), h.ls, h.lc, h.sc⟩
theorem StAt.aside (h : StAt w Fd' p k f segs lg begun lost lv st cm) (hT : Turned (fun x => x = b) w w') (hb : Fd' b) (hd : Vd.Is w' Fd' p.d k') : StAt w' Fd' p k' f segs lg begun lost lv st cm := by
  have hS : ∀ x, x = b → fullF p Fd' x := fun x e => .inl (by rw [e]; exact hb)
  obtain ⟨A, n, cp, e1, e2, e3⟩ := h.blk
  exact ⟨⟨A, n, cp, (hT.block p.s h.slt (fun e => h.ns (by rw [e]; exact hb))).trans e1, ivs_away e2 hT (e3.less hS), e3⟩, hd, h.live.turned hT (fun e => h.nl (by rw [e]; exact hb)) hS (fun _ h => .inl h), h.settled.turned hT (fun e => h.nst (by rw [e]; exact hb)) hS (fun _ h => .inl h), h.came.turned hT (fun e => h.nc (by rw [e]; exact hb)) hS (fun _ h => .inl h), h.ns, h.nl, h.nst, h.nc, h.ls, h.lc, h.sc⟩
end
theorem frames_cons (c : Ch) (l : Chs) (t : List UInt8) : frames (c :: l) ++ t = frameB c ++ (frames l ++ t) := by simp [frames]
set_option maxHeartbeats 2000000 in
set_option maxRecDepth 100000 in
theorem readlog_any (w : World) (Fd : Nat → Prop) (p : Pl) (k : Dsk) (f : Nat) (segs : List Nat) (lg : Nat) (begun lost : Bool) (lv st cm : Chs) (l : Chs) (t : List UInt8) (h : StAt w Fd p k f segs lg begun lost lv st cm) (hr : ∀ c ∈ l, rightC c = 0) (ht : Torn t) (hlen : (frames l ++ t).length ≤ 100000000) (hl : lv.length + l.length ≤ 1000000) (hm : cm.length + l.length ≤ 1000000) :
    Calls Tryz.prog 59 #[.pointer (some ⟨p.s, 0, none⟩), .string (ofBytes (frames l ++ t))] w fun e w' => e = .returned (.tuple #[]) ∧ Turned (fun x => x = p.ml ∨ x = p.mc) w w' ∧ StAt w' Fd p k f segs lg begun lost (doAll lv l) st (ptAll cm l) := by
  have HRN := Lib.hid (rnew_any w (frames l ++ t) hlen)
  have HST := Lib.hid h
  have HRI := Lib.hid hr
  have HT := Lib.hid ht
  have HLN := Lib.hid (show (frames l ++ t).length ≤ 100000000 ∧ lv.length + l.length ≤ 1000000 ∧ cm.length + l.length ≤ 1000000 from ⟨hlen, hl, hm⟩)
  generalize ofBytes (frames l ++ t) = tx at HRN ⊢
  clear h hr ht hlen hl hm
  go_enter Tryz.func59, Tryz.ntmps59
  go_wp2_with fail
  refine HRN.out.mono ?_
  rintro e w1 ⟨b, rfl, hbn, rd, hb⟩
  have HRD := Lib.hid rd
  have HB := Lib.hid hb
  have HBN := Lib.hid hbn
  clear rd hb hbn HRN
  go_wp2_with fail
  go_loopw [] (fun wr => ∃ dn rest, l = dn ++ rest ∧ RD wr b (frames rest ++ t) false ∧ Turned (fun x => x = p.ml ∨ x = p.mc) w wr ∧ StAt wr (plusF Fd b) p k f segs lg begun lost (doAll lv dn) st (ptAll cm dn) ∧ (doAll lv dn).length ≤ lv.length + dn.length ∧ (ptAll cm dn).length ≤ cm.length + dn.length) (fun wr => rdLen wr b)
  case atStart => exact ⟨[], l, rfl, HRD.out, Turned.of_below HB.out, HST.out.beside HB.out HBN.out HRD.out.lt, Nat.le_refl _, Nat.le_refl _⟩
  case round =>
    obtain ⟨dn, rest, hE, rd, hT, hS, h1, h2⟩ := hrel
    have hbl : w.heap.size ≤ b := HBN.out
    have hml : ¬ (b = p.ml ∨ b = p.mc) := fun e => by
      have := HST.out.live.lt
      have := HST.out.came.lt
      omega
    have hdk : Vd.Is wr Fd p.d k := HST.out.disk.turned hT fun x hx hS => hS.elim (fun e => HST.out.nl (by rw [← e]; exact hx)) (fun e => HST.out.nc (by rw [← e]; exact hx))
    have hln := HLN.out
    have HTU := Lib.hid hT
    have HS := Lib.hid hS
    have HL := Lib.hid (And.intro h1 h2)
    have HDK := Lib.hid hdk
    have HML := Lib.hid hml
    have HRB := Lib.hid rd
    cases rest with
    | nil =>
      have htn := torn_none HT.out
      have hd : dn = l := by rw [hE, List.append_nil]
      have TF := takeframe_any wr b t false (by have := hln.1; rw [List.length_append] at this; omega) rd
      rw [htn] at TF
      have HTF := Lib.hid TF
      have HD := Lib.hid hd
      clear TF hE rd hT hS h1 h2 hdk hml hln hbl htn hd
      go_wp2_with fail
      refine HTF.out.mono ?_
      rintro e w2 ⟨⟨T, V, rfl, hT2, hV2, nT, nV⟩, rd2, g2⟩
      obtain ⟨A1, c1, rfl, -⟩ := hT2
      obtain ⟨A2, c2, rfl, -⟩ := hV2
      have g2' : Turned (fun x => x = b) wr w2 := Turned.of_grown g2 rfl
      have hd2 : Vd.Is w2 Fd p.d k := HDK.out.turned g2' fun x hx e => by
        have := HST.out.disk.lt x hx
        have := HBN.out
        omega
      have hlt2 : ∀ x, plusF Fd b x → x < w2.heap.size := fun x hx => by
        have h1 := g2'.size
        rcases hx with hx | rfl
        · exact hd2.lt x hx
        · exact rd2.lt
      have hS2 := (HS.out.aside g2' (.inr rfl) (is_wider hd2 (fun _ h => .inl h) hlt2)).alone hd2 fun _ h => .inl h
      have hTw : Turned (fun x => x = p.ml ∨ x = p.mc) w w2 := HTU.out.from_new (g2'.wide fun x e => .inr (by rw [e]; exact HBN.out))
      have HF : Hid (∀ W, Below w2.heap.size w2 W → Turned (fun x => x = p.ml ∨ x = p.mc) w W ∧ StAt W Fd p k f segs lg begun lost (doAll lv l) st (ptAll cm l)) := Lib.hid (fun W hb => by
        rw [← HD.out]
        exact ⟨hTw.on hb, hS2.later hb⟩)
      clear g2' hd2 hlt2 hS2 hTw g2 rd2 nT nV
      unfold chV
      go_wp2
      exact bodyPost_ret (v := .tuple #[]) (by simp [results, Tryz.results59, go_sem]) rfl ⟨rfl, HF.out _ (pl1 w2 _)⟩
    | cons c rest =>
      have hcr := HRI.out c (by rw [hE]; simp)
      obtain ⟨fr1, fr2, fr3, fr4⟩ := frame_there hcr (frames rest ++ t) false
      have hlen2 : (frameB c ++ (frames rest ++ t)).length ≤ 100000000 := by
        have h5 := hln.1
        have e5 : frames l = frames dn ++ frames (c :: rest) := by rw [hE]; simp [frames]
        rw [e5, List.append_assoc, frames_cons, List.length_append] at h5
        omega
      rw [frames_cons] at rd
      have TF := takeframe_any wr b (frameB c ++ (frames rest ++ t)) false hlen2 rd
      rw [fr1, fr2, fr3, fr4] at TF
      have hm1 : rdLen wr b = (frameB c ++ (frames rest ++ t)).length := rd_len rd
      have hfp := frame_pos c
      have HTF := Lib.hid TF
      have HLE : Hid (dn.length + rest.length + 1 = l.length ∧ rdLen wr b = (frameB c).length + (frames rest ++ t).length) := Lib.hid ⟨by rw [hE]; simp; omega, by rw [hm1, List.length_append]⟩
      have HE := Lib.hid hE
      have HCR := Lib.hid hcr
      have HFP := Lib.hid hfp
      have HRL := Lib.hid hS.live.rise
      have HRM := Lib.hid hS.came.rise
      clear TF rd hT hS h1 h2 hdk hml hln hbl fr1 fr2 fr3 fr4 hE hcr hlen2 hm1 hfp
      go_wp2_with fail
      refine HTF.out.mono ?_
      rintro e w2 ⟨⟨T, V, rfl, hT2, hV2, nT, nV⟩, rd2, g2⟩
      have g2' : Turned (fun x => x = b) wr w2 := Turned.of_grown g2 rfl
      have hd2 : Vd.Is w2 Fd p.d k := HDK.out.turned g2' fun x hx e => by
        have := HST.out.disk.lt x hx
        have := HBN.out
        omega
      have hlt2 : ∀ x, plusF Fd b x → x < w2.heap.size := fun x hx => by
        rcases hx with hx | rfl
        · exact hd2.lt x hx
        · exact rd2.lt
      have hS2 := HS.out.aside g2' (.inr rfl) (is_wider hd2 (fun _ h => .inl h) hlt2)
      have hTw : Turned (fun x => x = p.ml ∨ x = p.mc) w w2 := HTU.out.from_new (g2'.wide fun x e => .inr (by rw [e]; exact HBN.out))
      have hC2 : Ct w2 (fullF p (plusF Fd b)) c T V := ⟨hT2, hV2, Away.new nT (HS.out.lt), Away.new nV (HS.out.lt)⟩
      have hb12 := HL.out.1
      have hb34 := HL.out.2
      have hle := HLE.out.1
      have hln := HLN.out
      have HTK : Hid (∀ W, Below w2.heap.size w2 W → Calls Tryz.prog 52 #[.pointer (some ⟨p.s, 0, none⟩), chV c T V] W fun e w' => e = .returned (.tuple #[]) ∧ Turned (fun x => x = p.ml ∨ x = p.mc) w w' ∧ StAt w' (plusF Fd b) p k f segs lg begun lost (doC c (doAll lv dn)) st (ptC c (ptAll cm dn)) ∧ RD w' b (frames rest ++ t) false) := Lib.hid (fun W hb =>
        (take_any W (plusF Fd b) p k f segs lg begun lost (doAll lv dn) st (ptAll cm dn) c T V (hS2.later hb) (hC2.later hb) (docok HCR.out) (by omega) (by omega)).mono fun e w' ⟨h1, h2, h3⟩ => ⟨h1, (hTw.on hb).trans h2, h3, (rd2.later hb).kept (h2.block b (Nat.lt_of_lt_of_le rd2.lt hb.size) HML.out)⟩)
      obtain ⟨A1, c1, rfl, -⟩ := hT2
      obtain ⟨A2, c2, rfl, -⟩ := hV2
      unfold chV at HTK ⊢
      clear g2' hd2 hlt2 hS2 hTw hC2 hb12 hb34 hle hln g2 rd2 nT nV
      go_wp2_with fail
      refine (HTK.out _ (pl1 w2 _)).mono ?_
      rintro e w4 ⟨rfl, hT4, hS4, rd4⟩
      have HT4 := Lib.hid hT4
      have HS4 := Lib.hid hS4
      have HR4 := Lib.hid rd4
      clear hT4 hS4 rd4
      go_wp2
      go_roundw
      case rel =>
        refine ⟨dn ++ [c], rest, by rw [HE.out]; simp, HR4.out, HT4.out, by rw [doAll_snoc, ptAll_snoc]; exact HS4.out, ?_, ?_⟩
        · have h5 := do_len c HRL.out
          have h6 := HL.out.1
          rw [doAll_snoc, List.length_append]
          simp
          omega
        · have h5 := pt_len c HRM.out
          have h6 := HL.out.2
          rw [ptAll_snoc, List.length_append]
          simp
          omega
      case measure =>
        rw [rd_len HR4.out, HLE.out.2]
        have := HFP.out
        omega
end Go.Proofs.YtddnnhfffmhpmaaGreatDoor.St

/- Maps of changes, gone through. -/
namespace Go.Proofs.YtddnnhfffmhpmaaGreatDoor.St
open Go.RowKit Go.Proofs.YtddnnhfffmhpmaaGreatDoor DocM StoM Do Go.Maps

abbrev Rng (w : World) (b r n : Nat) (D : SD) (left : Lit → Bool) (cnt : Nat) : Prop := w.ranges Tryz.prog 3 chElem b r n D left cnt
theorem Rng.stay {w w' : World} {b r n cnt : Nat} {D : SD} {left : Lit → Bool} (h : Rng w b r n D left cnt) (hb : w'.heap[b]? = w.heap[b]?) (hr : w'.heap[r]? = w.heap[r]?) : Rng w' b r n D left cnt := by
  obtain ⟨es, clock, since, seen, c0, h1, h2, h3, h4, h5, h6⟩ := h
  exact ⟨es, clock, since, seen, c0, hb.trans h1, h2, h3, h4, hr.trans h5, h6⟩
theorem Rng.turned {S : Nat → Prop} {w w' : World} {b r n cnt : Nat} {D : SD} {left : Lit → Bool} (h : Rng w b r n D left cnt) (hT : Turned S w w') (hb : ¬ S b) (hr : ¬ S r) : Rng w' b r n D left cnt :=
  Rng.stay h (hT.block b (World.ownsMap.lt (World.ranges.owns h)) hb) (hT.block r (World.ranges.lt h) hr)
section
variable {w : World} {Fd : Nat → Prop} {p : Pl} {k : VdM.Dsk} {f : Nat} {segs : List Nat} {lg : Nat} {begun lost : Bool} {lv st cm : Chs}
theorem StAt.c0 (h : StAt w Fd p k f segs lg begun lost lv st cm) : w.cell? ⟨p.s, 0, none⟩ = some (.pointer (some ⟨p.d, 0, none⟩)) := by obtain ⟨A, n, cp, hb, _⟩ := h.blk; exact cell_of_cells hb rfl
theorem StAt.c1 (h : StAt w Fd p k f segs lg begun lost lv st cm) : w.cell? ⟨p.s, 1, none⟩ = some (.int .i64 (f : Int)) := by obtain ⟨A, n, cp, hb, _⟩ := h.blk; exact cell_of_cells hb rfl
theorem StAt.c3 (h : StAt w Fd p k f segs lg begun lost lv st cm) : w.cell? ⟨p.s, 3, none⟩ = some (.int .i64 (lg : Int)) := by obtain ⟨A, n, cp, hb, _⟩ := h.blk; exact cell_of_cells hb rfl
theorem StAt.c4 (h : StAt w Fd p k f segs lg begun lost lv st cm) : w.cell? ⟨p.s, 4, none⟩ = some (.bool begun) := by obtain ⟨A, n, cp, hb, _⟩ := h.blk; exact cell_of_cells hb rfl
theorem StAt.c5 (h : StAt w Fd p k f segs lg begun lost lv st cm) : w.cell? ⟨p.s, 5, none⟩ = some (.map (some p.ml)) := by obtain ⟨A, n, cp, hb, _⟩ := h.blk; exact cell_of_cells hb rfl
theorem StAt.c6 (h : StAt w Fd p k f segs lg begun lost lv st cm) : w.cell? ⟨p.s, 6, none⟩ = some (.map (some p.ms)) := by obtain ⟨A, n, cp, hb, _⟩ := h.blk; exact cell_of_cells hb rfl
theorem StAt.c7 (h : StAt w Fd p k f segs lg begun lost lv st cm) : w.cell? ⟨p.s, 7, none⟩ = some (.map (some p.mc)) := by obtain ⟨A, n, cp, hb, _⟩ := h.blk; exact cell_of_cells hb rfl
theorem StAt.fr (h : StAt w Fd p k f segs lg begun lost lv st cm) (i : Nat) : w.frozen? ⟨p.s, i, none⟩ = false := by obtain ⟨A, n, cp, hb, _⟩ := h.blk; exact frozen_of_cells hb
end
theorem MapAt.less {w : World} {F F' : Nat → Prop} {b : Nat} {l : Chs} (h : MapAt w F b l) (hF : ∀ x, F' x → F x) : MapAt w F' b l := h.turned (S := fun _ => False) (Turned.refl _ _) (fun h => h) (fun _ h => h.elim) (fun x hx => .inl (hF x hx))
theorem sameKey_i (n m : Int) : (Ks.keyL n).sameKey (Ks.keyL m) = decide (n = m) := by
  by_cases h : n = m
  · subst h
    simp [Lit.sameKey, Ks.keyL]
  · rw [decide_eq_false h]
    exact sameKey_ne (Ks.keyL_ne h)
theorem wpList_next_change {w : World} {ops : Array Oper} {rest : List Oper} {o : Oper} {a : Act} {Q : Exit → Act → World → Prop} (hg : o.guard = none) (it : Operand) (hop : o.op = Op.next it false)
    (b r n : Nat) (D : SD) (T : Int → Value × Value) (l : Chs) (left : Lit → Bool) (cnt : Nat) (hit : a.eval it = .pointer (some ⟨r, 0, none⟩)) (h : Rng w b r n D left cnt) (hr : Rep D T l)
    (hDone : cnt = 0 → (∀ kl, left kl = false) → wpList Tryz.prog ops Q rest (a.put o.dst (.tuple #[.bool false])) w)
    (hMore : ∀ (c : Ch) (p q : Option Addr) (n1 k1 m1 j1 : Nat) (w' : World) (cnt' : Nat), lkC l c.doc = some c → left (Ks.keyL c.doc) = true → T c.doc = (.slice p n1 k1, .slice q m1 j1) → Rng w' b r n D (fun z => left z && !z.sameKey (Ks.keyL c.doc)) cnt' → cnt' < cnt →
      w.grownBy w' (some r) → w'.heap.size = w.heap.size → (Instr.entry (.pointer (some ⟨r, 0, none⟩))).run Tryz.prog w' = .ok (.tuple #[.int .i64 c.doc, chV c (.slice p n1 k1) (.slice q m1 j1)]) w' → wpList Tryz.prog ops Q rest (a.put o.dst (.tuple #[.bool true, .int .i64 c.doc, chV c (.slice p n1 k1) (.slice q m1 j1)])) w') :
    wpList Tryz.prog ops Q (o :: rest) a w := by
  refine wpList_next_ranges w hg it hop 3 Ks.key_law chElem (Value.int .i64) (fun x : Int × (Option Addr × Nat × Nat) × (Option Addr × Nat × Nat) × Int × Bool => .agg #[.int .i64 x.1, .slice x.2.1.1 x.2.1.2.1 x.2.1.2.2, .slice x.2.2.1.1 x.2.2.1.2.1 x.2.2.1.2.2, .int .i64 x.2.2.2.1, .bool x.2.2.2.2]) (fun key kl hkey => ?_) (fun v y hv => ?_) b r n D left cnt hit h hDone ?_
  · obtain ⟨x, rfl, _⟩ := Maps.keyOf_int_inv Tryz.underlying3 hkey
    exact ⟨x, rfl⟩
  · obtain ⟨_, d, p, n, c, q, m, e, t, g, he⟩ := chElem_inv hv
    exact ⟨(d, (p, n, c), (q, m, e), t, g), he⟩
  · rintro x ⟨d, ⟨p, n1, k1⟩, ⟨q, m1, j1⟩, t, g⟩ kl y w' cnt' hkey hlk hv hat hrg hlt hgr hsz hen
    obtain ⟨x', ex, rfl, _⟩ := Maps.keyOf_int_inv Tryz.underlying3 hkey
    cases ex
    have hh := has_true_of_atKey hat
    have hh' : Maps.has D (Ks.keyL x) = true := hh
    rw [hr.has] at hh'
    obtain ⟨c, hc⟩ := Option.isSome_iff_exists.1 hh'
    have hx := (lk_doc hc).1
    subst hx
    have e1 := (hat (.held (.agg #[]))).symm.trans (hr.at_ _ c hc _)
    obtain ⟨e3, -⟩ := chElem_inv hv
    rw [e3] at e1
    have e4 := held_inj e1
    unfold chV at e4
    injection e4 with e4
    simp only [Array.mk.injEq, List.cons.injEq, Value.int.injEq, Value.bool.injEq, true_and, and_true] at e4
    obtain ⟨rfl, e5, e6, rfl, rfl⟩ := e4
    exact hMore c p q n1 k1 m1 j1 w' cnt' hc hlk (Prod.ext e5.symm e6.symm) hrg hlt hgr hsz hen
/-- what has come, done to what was there -/
structure Doing (left : Lit → Bool) (st cm cur : Chs) : Prop where
  rise : RiseC cur
  lk : ∀ n, lkC cur n = if left (Ks.keyL n) then lkC st n else overO (lkC cm n) (lkC st n)
theorem Doing.start {D : SD} {T : Int → Value × Value} {st cm : Chs} (h : Rep D T cm) (hr : RiseC st) : Doing (Maps.has D) st cm st := ⟨hr, fun n => by
  rw [h.has n]
  cases lkC cm n with
  | none => rfl
  | some c => rfl⟩
theorem left_next (left : Lit → Bool) (n m : Int) : (fun z => left z && !z.sameKey (Ks.keyL m)) (Ks.keyL n) = (left (Ks.keyL n) && !decide (n = m)) := by
  show (left (Ks.keyL n) && !(Ks.keyL n).sameKey (Ks.keyL m)) = _
  rw [sameKey_i]
theorem Doing.next {left : Lit → Bool} {st cm cur : Chs} (h : Doing left st cm cur) {c : Ch} (hc : lkC cm c.doc = some c) : Doing (fun z => left z && !z.sameKey (Ks.keyL c.doc)) st cm (doC c cur) := ⟨rise_do c h.rise, fun n => by
  have := left_next left n c.doc
  simp only at this
  rw [this, lk_do, h.lk n]
  by_cases e : c.doc = n
  · subst e
    rw [if_pos rfl, hc]
    simp [overO]
  · rw [if_neg e, decide_eq_false (Ne.symm e)]
    simp⟩
theorem Doing.end_ {left : Lit → Bool} {st cm cur : Chs} (h : Doing left st cm cur) (hs : RiseC st) (hm : RiseC cm) (hl : ∀ kl, left kl = false) : cur = doAll st cm := by
  refine rise_ext h.rise (rise_doAll _ hs) fun n => ?_
  rw [h.lk n, hl, lk_doAll, last_of_rise hm]
  rfl
theorem Doing.len {left : Lit → Bool} {st cm cur : Chs} (h : Doing left st cm cur) : cur.length ≤ st.length + cm.length := by
  have := rise_few h.rise (P := st.map (·.doc) ++ cm.map (·.doc)) fun c hc => by
    have h1 := lk_of_mem h.rise hc
    rw [h.lk] at h1
    have hst : ∀ {x}, lkC st c.doc = some x → c.doc ∈ st.map (·.doc) := fun {x} hx => List.mem_map.2 ⟨x, (lk_doc hx).2, (lk_doc hx).1⟩
    rw [List.mem_append]
    split at h1
    · exact .inl (hst h1)
    · cases hm : lkC cm c.doc with
      | none =>
        rw [hm] at h1
        exact .inl (hst h1)
      | some x => exact .inr (List.mem_map.2 ⟨x, (lk_doc hm).2, (lk_doc hm).1⟩)
  simpa using this
/-- what has come, copied to where nothing was -/
structure Copying (left : Lit → Bool) (l cur : Chs) : Prop where
  rise : RiseC cur
  lk : ∀ n, lkC cur n = if left (Ks.keyL n) then none else lkC l n
theorem Copying.start {D : SD} {T : Int → Value × Value} {l : Chs} (h : Rep D T l) : Copying (Maps.has D) l [] := ⟨rise_nil, fun n => by
  rw [h.has n]
  cases lkC l n with
  | none => rfl
  | some c => rfl⟩
theorem Copying.next {left : Lit → Bool} {l cur : Chs} (h : Copying left l cur) {c : Ch} (hc : lkC l c.doc = some c) : Copying (fun z => left z && !z.sameKey (Ks.keyL c.doc)) l (ptC c cur) := ⟨rise_put c h.rise, fun n => by
  have := left_next left n c.doc
  simp only at this
  rw [this]
  by_cases e : c.doc = n
  · subst e
    rw [lk_put_same, hc]
    simp
  · rw [lk_put_other c (Ne.symm e), h.lk n, decide_eq_false (Ne.symm e)]
    simp⟩
theorem Copying.end_ {left : Lit → Bool} {l cur : Chs} (h : Copying left l cur) (hr : RiseC l) (hl : ∀ kl, left kl = false) : cur = l := by
  refine rise_ext h.rise hr fun n => ?_
  rw [h.lk n, hl]
  rfl
theorem Copying.len {left : Lit → Bool} {l cur : Chs} (h : Copying left l cur) : cur.length ≤ l.length := by
  have := rise_few h.rise (P := l.map (·.doc)) fun c hc => by
    have h1 := lk_of_mem h.rise hc
    rw [h.lk] at h1
    split at h1
    · cases h1
    · exact List.mem_map.2 ⟨_, (lk_doc h1).2, (lk_doc h1).1⟩
  simpa using this
end Go.Proofs.YtddnnhfffmhpmaaGreatDoor.St

/- What the manifest and the segments tell, plainly; the manifest read. -/
namespace Go.Proofs.YtddnnhfffmhpmaaGreatDoor.St
open Go.RowKit Go.Proofs.YtddnnhfffmhpmaaGreatDoor DocM StoM Do
open VdM

theorem ris_rd {l : List Int} {most : Nat} (hl : l.length ≤ most) (hm : most ≤ 1000000000) (hr : PackM.rises (-1) l = true) (hv : ∀ v ∈ l, v ≤ 9223372036854775807) : PackM.rRis most (PackM.risB l) = some (l, []) := by
  unfold PackM.rRis PackM.risB
  rw [PackM.num_there PackM.MAXI _ _ (by unfold PackM.MAXI; omega)]
  simp only [Option.bind]
  have h := PackM.ris_there l (-1) [] (by omega) hr hv
  rw [List.append_nil] at h
  rw [if_neg (by omega), h]
theorem pm_there {f : Nat} {l : List Nat} (hr : l.Pairwise (· < ·)) (hl : ∀ x ∈ l, x < 100) (hn : l.length ≤ 1000) (hf : f ≤ 1000) : pmK (manB f l) = true ∧ pmF (manB f l) = f ∧ pmL (manB f l) = l.map Int.ofNat := by
  obtain ⟨o1, o2⟩ := op_sealed (manT f l)
  have hrs : PackM.rises (-1) (l.map Int.ofNat) = true := rises_nat l (-1) (fun x _ => by omega) hr
  have hnum : PackM.num PackM.MAXI 0 0 (manT f l) = some (f, risS (l.map Int.ofNat)) := by
    unfold manT varB
    rw [if_neg (by omega), Int.toNat_natCast]
    exact PackM.num_there PackM.MAXI _ _ (by have h3 : PackM.MAXI = 9223372036854775807 := rfl; omega)
  have hrr : PackM.rRis (1048576 : Int) (risS (l.map Int.ofNat)) = some (l.map Int.ofNat, []) := by
    unfold risS
    rw [if_pos hrs]
    exact ris_rd (most := 1048576) (by simp; omega) (by omega) hrs fun v hv => by
      obtain ⟨x, hx, rfl⟩ := List.mem_map.1 hv
      have := hl x hx
      show ((x : Nat) : Int) ≤ _
      omega
  have hF : pmF (manB f l) = f := by unfold pmF manB nV; rw [o2, hnum]
  have hR : pmR (manB f l) = risS (l.map Int.ofNat) := by unfold pmR manB nS; rw [o2, hnum]
  have hB : pmB (manB f l) = false := by unfold pmB manB nB; rw [o2, hnum]
  have hL : pmL (manB f l) = l.map Int.ofNat := by unfold pmL rsV; rw [hR, hrr]
  refine ⟨?_, hF, hL⟩
  unfold pmK rsB rsS
  rw [hF, hR, hB, hrr]
  have o1' : opC (manB f l) = 0 := o1
  rw [o1', decide_eq_true (show f ≤ 1073741824 by omega)]
  rfl
/-- what the manifest tells, if it is sound -/
def ManIs (fs : Fils) (o : Option (Nat × List Nat)) : Prop :=
  (lkF fs manN = none ∧ o = some (0, [])) ∨ (∃ fl f l, lkF fs manN = some fl ∧ fl.bytes = manB f l ∧ l.Pairwise (· < ·) ∧ (∀ x ∈ l, x < 100) ∧ l.length ≤ 1000 ∧ f ≤ 1000 ∧ o = some (f, l)) ∨ (∃ fl, lkF fs manN = some fl ∧ opC fl.bytes ≠ 0 ∧ o = none)
def SegIs (fs : Fils) (n : Nat) (o : Option Chs) : Prop :=
  (∃ fl l, lkF fs (segN n) = some fl ∧ fl.bytes = segB l ∧ (∀ c ∈ l, rightC c = 0) ∧ RiseC l ∧ l.length ≤ 1000 ∧ o = some l) ∨ (∃ fl, lkF fs (segN n) = some fl ∧ opC fl.bytes ≠ 0 ∧ o = none)
theorem dread_any {w : World} {F : Nat → Prop} {d : Nat} {k : Dsk} (h : Vd.Is w F d k) (hd : k.down = false) (nm : ByteArray) (hn : nm.size ≤ 1000000000) :
    Calls Tryz.prog 54 #[.pointer (some ⟨d, 0, none⟩), .string nm] w fun e w' => e = .returned (.tuple #[.string (ofBytes (bytesAt k.fs nm.data.toList)), .int .i64 (if (lkF k.fs nm.data.toList).isSome then 0 else 4)]) ∧ Below w.heap.size w w' := by
  have := Vd.read_any w F d k h nm hn
  unfold getF findE at this
  rw [hd] at this
  simp only [Bool.false_eq_true, if_false] at this
  unfold bytesAt
  cases hl : lkF k.fs nm.data.toList with
  | none => rw [hl] at this; exact this
  | some f => rw [hl] at this; exact this
theorem file_len {w : World} {F : Nat → Prop} {d : Nat} {k : Dsk} (h : Vd.Is w F d k) (n : Name) : (bytesAt k.fs n).length ≤ 100000000 := by
  obtain ⟨m, D, V, h⟩ := h
  unfold bytesAt
  cases hl : lkF k.fs n with
  | none => simp
  | some f =>
    have := (h.ok.one hl).2.1
    simp only
    omega
end Go.Proofs.YtddnnhfffmhpmaaGreatDoor.St
