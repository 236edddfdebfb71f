/- Own texts, merged (2 of 8). -/
import Derived.Deep.QuietTactic
import Derived.BigQuiet
import Derived.Deep.Cut
import Derived.Deep.RegionHeld3
import Derived.Test.YtpinpnbhbngclaaGreatMgS1

/- Posts: a cursor; At, Next, Block. -/
namespace Go.Proofs.YtpinpnbhbngclaaGreat
open Go.RowKit

/-- the last document of block i -/
def lastG (B : List (Int × Int)) (i : Nat) : Int := (B.getD i (0, 0)).2
set_option maxHeartbeats 1000000 in
set_option maxRecDepth 100000 in
theorem firstblock_any (q : Nat) (A : Option Addr) (m c : Nat) (B : List (Int × Int)) (doc : Int) (w : World) (hP : Prd w (.slice A m c) B) (hml : m = B.length) (hm : m ≤ 1000000) (hmono : ∀ a b, a ≤ b → b < m → lastG B a ≤ lastG B b) (k3 : w.cell? ⟨q, 1, none⟩ = some (.slice A m c)) :
    Calls Tryz.prog 78 #[.pointer (some ⟨q, 0, none⟩), .int .i64 doc] w fun e w' => (∃ i : Nat, e = .returned (.int .i64 (i : Int)) ∧ Fst (lastG B) m doc i) ∧ Below w.heap.size w w' := by
  obtain ⟨W, hW⟩ : ∃ W, W = (w.alloc (.cells #[.pointer (some ⟨q, 0, none⟩)] 55)).alloc (.cells #[.int .i64 doc] 3) := ⟨_, rfl⟩
  have hb : Below w.heap.size w W := by rw [hW]; exact (pl1 w _).alloc (by simp) _
  have b1 : W.cell? ⟨w.heap.size, 0, none⟩ = some (.pointer (some ⟨q, 0, none⟩)) := by rw [hW]; go_simp
  have b2 : W.cell? ⟨w.heap.size + 1, 0, none⟩ = some (.int .i64 doc) := by rw [hW]; go_simp
  have b3 : W.cell? ⟨q, 1, none⟩ = some (.slice A m c) := (hb.cell (p := ⟨q, 1, none⟩) (World.block_lt_of_cell? w _ k3)).trans k3
  have hS := search_any 99 m (.pointer (some ⟨w.heap.size, 0, none⟩)) (.pointer (some ⟨w.heap.size + 1, 0, none⟩)) (lastG B) doc W hm hmono
    (fun W2 h2 i hi => fb1_any i _ _ q A m c B doc W2 ((hP.later hb).later h2) hi hml
      ((h2.cell (p := ⟨w.heap.size, 0, none⟩) (World.block_lt_of_cell? W _ b1)).trans b1) ((h2.cell (p := ⟨w.heap.size + 1, 0, none⟩) (World.block_lt_of_cell? W _ b2)).trans b2) ((h2.cell (p := ⟨q, 1, none⟩) (World.block_lt_of_cell? W _ b3)).trans b3))
    (enters_of Tryz.func99 (by kernel_rfl) rfl)
  have HS := Lib.hid hS
  have HW := Lib.hid hW
  have HB := Lib.hid hb
  have q1 := World.block_lt_of_cell? w _ k3
  simp only at q1
  clear hP hml hmono hS hW hb b1 b2 b3
  go_enter Tryz.func78, Tryz.ntmps78
  go_wp2_with fail
  rw [← HW.out]
  refine HS.out.mono ?_
  rintro e W1 ⟨⟨i, rfl, hi⟩, hb1⟩
  go_wp2
  go_ret
  exact ⟨⟨i, rfl, hi⟩, HB.out.trans (hb1.mono HB.out.size)⟩

/-- a cursor of l at block c, made behind w1, standing at a -/
structure PC (w1 w : World) (c : Nat) (l : List (Int × Int)) (a : Nat) : Prop where
  low : Below w1.heap.size w1 w
  new : w1.heap.size ≤ c
  le : a ≤ l.length
  obj : ∃ vp vb, Prd w1 vp l ∧ Prd w1 vb (PostM.blks l) ∧ w.heap[c]? = some (.cells #[vp, vb, .int .i64 (PostM.mx l), .int .i64 (a : Int)] 125 (0, 0))
theorem PC.below {w1 w w' : World} {c : Nat} {l : List (Int × Int)} {a : Nat} (h : PC w1 w c l a) (hb : Below w.heap.size w w') : PC w1 w' c l a := by
  obtain ⟨h1, h2, h3, vp, vb, h4, h5, h6⟩ := h
  exact ⟨h1.trans (hb.mono h1.size), h2, h3, vp, vb, h4, h5, below_block hb (Array.getElem?_eq_some_iff.1 h6).1 h6⟩
theorem PC.cells {w1 w : World} {c : Nat} {l : List (Int × Int)} {a : Nat} (h : PC w1 w c l a) : ∃ A k A' k', w.cell? ⟨c, 0, none⟩ = some (.slice A l.length k) ∧ w.cell? ⟨c, 1, none⟩ = some (.slice A' (PostM.cnt l.length) k') ∧ w.cell? ⟨c, 3, none⟩ = some (.int .i64 (a : Int)) ∧ (∀ i, w.frozen? ⟨c, i, none⟩ = false) ∧ Prd w (.slice A l.length k) l ∧ Prd w (.slice A' (PostM.cnt l.length) k') (PostM.blks l) ∧ c < w.heap.size := by
  obtain ⟨h1, h2, h3, vp, vb, h4, h5, h6⟩ := h
  have g4 := h4.later h1
  have g5 := h5.later h1
  obtain ⟨A, k, rfl, _⟩ := h4.form
  obtain ⟨A', k', rfl, _⟩ := h5.form
  rw [PostM.blks_len] at *
  exact ⟨A, k, A', k', cell_of_cells h6 rfl, cell_of_cells h6 rfl, cell_of_cells h6 rfl, fun i => frozen_of_cells h6, g4, g5, (Array.getElem?_eq_some_iff.1 h6).1⟩
/-- moved -/
theorem PC.move {w1 w : World} {c : Nat} {l : List (Int × Int)} {a : Nat} (h : PC w1 w c l a) (a' : Nat) (ha : a' ≤ l.length) : PC w1 (w.setCell ⟨c, 3, none⟩ (.int .i64 (a' : Int))) c l a' := by
  obtain ⟨h1, h2, h3, vp, vb, h4, h5, h6⟩ := h
  refine ⟨h1.setCell h2 _, h2, ha, vp, vb, h4, h5, ?_⟩
  rw [heap_setCell_row h6 3 _]
  simp

set_option maxHeartbeats 1000000 in
set_option maxRecDepth 100000 in
theorem cursor_any (b : Nat) (l : List (Int × Int)) (w1 w : World) (h1 : PL w1 b l) (hb : Below w1.heap.size w1 w) :
    Calls Tryz.prog 54 #[.pointer (some ⟨b, 0, none⟩)] w fun e w' => ∃ c, e = .returned (.pointer (some ⟨c, 0, none⟩)) ∧ w.heap.size ≤ c ∧ PC w1 w' c l 0 ∧ Below w.heap.size w w' := by
  obtain ⟨vp, vb, g1, g2, g3⟩ := h1
  have g := below_block hb (Array.getElem?_eq_some_iff.1 g1).1 g1
  have k0 := cell_of_cells (i := 0) g rfl
  have k1 := cell_of_cells (i := 1) g rfl
  have k2 := cell_of_cells (i := 2) g rfl
  have HB := Lib.hid hb
  have H2 := Lib.hid g2
  have H3 := Lib.hid g3
  obtain ⟨A, k, rfl, _⟩ := g2.form
  obtain ⟨A', k', rfl, _⟩ := g3.form
  clear g1 g2 g3 g hb
  go_enter Tryz.func54, Tryz.ntmps54
  go_wp2
  go_ret
  exact ⟨_, rfl, Nat.le_refl _, ⟨HB.out.alloc HB.out.size _, HB.out.size, by omega, _, _, H2.out, H3.out, heap_alloc_new _ _⟩, pl1 _ _⟩

/-- what At tells -/
def atP (l : List (Int × Int)) (a : Nat) : Int × Int := l.getD a (0, 0)
set_option maxHeartbeats 1000000 in
set_option maxRecDepth 100000 in
theorem at_any (c : Nat) (l : List (Int × Int)) (a : Nat) (w1 w : World) (h : PC w1 w c l a) :
    Calls Tryz.prog 79 #[.pointer (some ⟨c, 0, none⟩)] w fun e w' => e = .returned (.tuple #[sv (atP l a), .bool (decide (a < l.length))]) ∧ Below w.heap.size w w' := by
  obtain ⟨A, k, A', k', k0, k1, k3, _, hP, _, hc⟩ := h.cells
  have hle := h.le
  obtain ⟨n, hn⟩ : ∃ n, n = l.length := ⟨_, rfl⟩
  rw [← hn] at k0 hP hle ⊢
  unfold sv
  have hcn : c ≠ w.heap.size := by omega
  have W0 : Below w.heap.size w (w.alloc (.cells #[.int .i64 0, .int .i64 0] 60)) := pl1 w _
  have e0 := (W0.cell (p := ⟨c, 0, none⟩) hc).trans k0
  have e3 := (W0.cell (p := ⟨c, 3, none⟩) hc).trans k3
  by_cases ha : a < n
  · obtain ⟨b, o, rfl, hb0, c0, c1⟩ := hP.at_ a (by omega)
    have hp : atP l a = l[a]'(by omega) := by unfold atP; rw [List.getD_eq_getElem?_getD, List.getElem?_eq_getElem (by omega)]; rfl
    obtain ⟨⟨p1, p2⟩, hpp⟩ : ∃ p, p = l[a]'(by omega) := ⟨_, rfl⟩
    rw [← hpp] at c0 c1 hp
    rw [hp]
    simp only at c0 c1
    have d0 := (W0.cell (p := ⟨b, o + a * 2, none⟩) hb0).trans c0
    have d1 := (W0.cell (p := ⟨b, o + a * 2 + 1, none⟩) hb0).trans c1
    have q1 : (0 : Int) ≤ (a : Int) := by omega
    have q2 : (a : Int) < (n : Int) := by omega
    have q3 : ((a : Int) == (n : Int)) = false := by simp; omega
    have q4 : ¬ a = n := by omega
    have hdt : decide (a < n) = true := decide_eq_true ha
    rw [hdt]
    have hbn : b ≠ w.heap.size := by omega
    clear hp hpp hP hn h k1 hdt c0 c1 k0 k3
    go_enter Tryz.func79, Tryz.ntmps79
    go_wp2
    go_quiet (fail)
    go_wp2
    go_region
    all_goals
      go_wp2
      refine bodyPost_ret (v := .tuple #[.agg #[.int .i64 p1, .int .i64 p2], .bool true]) (by simp [results, Tryz.results79, go_sem]) rfl ⟨rfl, ?_⟩
      exact (((pl1 w _).trans ((below_drewN_p _ _).mono (by simp))).setCell (Nat.le_refl _) _).setCell (Nat.le_refl _) _
  · have han : a = n := by omega
    subst han
    have hp : atP l a = (0, 0) := by unfold atP; rw [List.getD_eq_getElem?_getD, List.getElem?_eq_none (by omega)]; rfl
    rw [hp]
    have hdt : decide (a < a) = false := by simp
    rw [hdt]
    have q3 : ((a : Int) == (a : Int)) = true := by simp
    clear hp hP hn h k1 hdt k0 k3
    go_enter Tryz.func79, Tryz.ntmps79
    go_wp2
    go_quiet (fail)
    go_wp2
    refine bodyPost_ret (v := .tuple #[.agg #[.int .i64 0, .int .i64 0], .bool false]) (by simp [results, Tryz.results79, go_sem]) rfl ⟨rfl, ?_⟩
    exact (((pl1 w _).trans ((below_drewN_p _ _).mono (by simp))).setCell (Nat.le_refl _) _).setCell (Nat.le_refl _) _

set_option maxHeartbeats 1000000 in
set_option maxRecDepth 100000 in
theorem next_any (c : Nat) (l : List (Int × Int)) (a : Nat) (w1 w : World) (h : PC w1 w c l a) (hl : l.length ≤ 1000000) :
    Calls Tryz.prog 80 #[.pointer (some ⟨c, 0, none⟩)] w fun e w' => e = .returned (.tuple #[]) ∧ PC w1 w' c l (min (a + 1) l.length) ∧ Turned (fun k => k = c) w w' := by
  obtain ⟨A, k, A', k', k0, k1, k3, hf, hP, _, hc⟩ := h.cells
  have hle := h.le
  have f3 := hf 3
  have HH := Lib.hid h
  have HLE := Lib.hid hle
  obtain ⟨n, hn⟩ : ∃ n, n = l.length := ⟨_, rfl⟩
  rw [← hn] at k0 hle hl
  have HN := Lib.hid hn
  clear hf hP h hn k1
  by_cases ha : a < n
  · have q2 : (a : Int) < (n : Int) := by omega
    go_enter Tryz.func80, Tryz.ntmps80
    go_wp2
    go_quiet (fail)
    go_wp2
    go_end0
    refine ⟨rfl, ?_, (Turned.of_below (S := fun k => k = c) (below_drewN_p w _)).set_ (b := c) rfl _ _⟩
    have := (HH.out.below (below_drewN_p w nq)).move (a + 1) (by rw [← HN.out]; omega)
    rw [show min (a + 1) l.length = a + 1 by rw [← HN.out]; omega]
    simpa using this
  · have q2 : ¬ (a : Int) < (n : Int) := by omega
    have q3 : decide ((a : Int) < (n : Int)) = false := decide_eq_false q2
    have q4 : decide (a < n) = false := decide_eq_false ha
    go_enter Tryz.func80, Tryz.ntmps80
    go_wp2
    go_quiet (fail)
    go_wp2
    go_end0
    refine ⟨rfl, ?_, Turned.of_below (below_drewN_p w _)⟩
    rw [show min (a + 1) l.length = a by rw [← HN.out]; omega]
    exact HH.out.below (below_drewN_p w _)

/-- what Block tells -/
def BlkEnd (l : List (Int × Int)) (doc : Int) (e : Ending) : Prop :=
  ∃ i : Nat, Fst (lastG (PostM.blks l)) (PostM.cnt l.length) doc i ∧ e = .returned (.tuple #[.int .i64 (if i < PostM.cnt l.length then ((PostM.blks l).getD i (0, 0)).1 else 0), .int .i64 (if i < PostM.cnt l.length then ((PostM.blks l).getD i (0, 0)).2 else -1)])
set_option maxHeartbeats 2000000 in
set_option maxRecDepth 100000 in
theorem block_any (c : Nat) (l : List (Int × Int)) (a : Nat) (doc : Int) (w1 w : World) (h : PC w1 w c l a) (hl : l.length ≤ 1000000) (hmono : ∀ a b, a ≤ b → b < PostM.cnt l.length → lastG (PostM.blks l) a ≤ lastG (PostM.blks l) b) :
    Calls Tryz.prog 74 #[.pointer (some ⟨c, 0, none⟩), .int .i64 doc] w fun e w' => BlkEnd l doc e ∧ Below w.heap.size w w' := by
  obtain ⟨A, k, A', k', k0, k1, k3, _, _, hP, hc⟩ := h.cells
  have hml : PostM.cnt l.length = (PostM.blks l).length := (PostM.blks_len l).symm
  unfold BlkEnd
  obtain ⟨B, hB⟩ : ∃ B, B = PostM.blks l := ⟨_, rfl⟩
  obtain ⟨m, hm⟩ : ∃ m, m = PostM.cnt l.length := ⟨_, rfl⟩
  have hm2 : m ≤ 1000000 := by rw [hm]; unfold PostM.cnt; omega
  rw [← hB, ← hm] at hmono hP hml ⊢
  rw [← hm] at k1
  have hF := firstblock_any c A' m k' B doc w hP hml hm2 hmono k1
  have HF := Lib.hid hF
  have HP := Lib.hid hP
  have HML := Lib.hid hml
  clear hF hP hml hmono hB hm h k0 k3 hl
  go_enter Tryz.func74, Tryz.ntmps74
  go_wp2_with fail
  refine HF.out.mono ?_
  rintro e W1 ⟨⟨i, rfl, hi⟩, hb⟩
  have HI := Lib.hid hi
  have hil := hi.1
  have k1 := (hb.cell (p := ⟨c, 1, none⟩) hc).trans k1
  clear hi HF
  by_cases him : i < m
  · obtain ⟨b, o, rfl, hb0, c0, c1⟩ := HP.out.at_ i (by rw [← HML.out]; exact him)
    have hp : B.getD i (0, 0) = B[i]'(by rw [← HML.out]; exact him) := by rw [List.getD_eq_getElem?_getD, List.getElem?_eq_getElem (by rw [← HML.out]; exact him)]; rfl
    obtain ⟨⟨p1, p2⟩, hpp⟩ : ∃ p, p = B.getD i (0, 0) := ⟨_, rfl⟩
    rw [← hp, ← hpp] at c0 c1
    simp only at c0 c1
    have c0 := (hb.cell (p := ⟨b, o + i * 2, none⟩) hb0).trans c0
    have c1 := (hb.cell (p := ⟨b, o + i * 2 + 1, none⟩) hb0).trans c1
    have q1 : (0 : Int) ≤ (i : Int) := by omega
    have q2 : (i : Int) < (m : Int) := by omega
    have q3 : ((i : Int) == (m : Int)) = false := by simp; omega
    have q4 : ¬ i = m := by omega
    have HPP := Lib.hid hpp
    have HB := Lib.hid hb
    clear hp hpp hb
    go_wp2
    go_quiet (fail)
    go_wp2
    go_ret2
    refine ⟨⟨i, HI.out, ?_⟩, HB.out.trans ((below_drewN_p _ _).mono HB.out.size)⟩
    rw [if_pos him, if_pos him, ← HPP.out]
    rfl
  · have him2 : i = m := by omega
    subst him2
    have q3 : ((i : Int) == (i : Int)) = true := by simp
    have HB := Lib.hid hb
    clear hb
    go_wp2
    go_ret2
    refine ⟨⟨i, HI.out, ?_⟩, HB.out⟩
    rw [if_neg him, if_neg him]
    rfl
end Go.Proofs.YtpinpnbhbngclaaGreat

/- Posts: Seek. -/
namespace Go.Proofs.YtpinpnbhbngclaaGreat
open Go.RowKit

theorem blks_get (l : List (Int × Int)) (i : Nat) (h : i < PostM.cnt l.length) : (PostM.blks l).getD i (0, 0) = PostM.blk (PostM.piece l i) := by
  rw [List.getD_eq_getElem?_getD, List.getElem?_eq_getElem (by rw [PostM.blks_len]; exact h)]
  simp [PostM.blks]
theorem lastG_is (l : List (Int × Int)) (i : Nat) (h : i < PostM.cnt l.length) : ∃ hj : min (4 * i + 4) l.length - 1 < l.length, lastG (PostM.blks l) i = (l[min (4 * i + 4) l.length - 1]).1 := by
  obtain ⟨hj, e⟩ := PostM.lastOf_piece l i h
  exact ⟨hj, by unfold lastG; rw [blks_get l i h]; exact e⟩
theorem rise_le {la : Int} {l : List (Int × Int)} (h : PostM.rgt la l = true) (i j : Nat) (hi : i < l.length) (hj : j < l.length) (hij : i ≤ j) : l[i].1 ≤ l[j].1 := by
  rcases Nat.lt_or_ge i j with h' | h'
  · exact Int.le_of_lt (PostM.rgt_rise h i j hi hj h')
  · have : i = j := by omega
    subst this
    exact Int.le_refl _
theorem lastG_mono {l : List (Int × Int)} (h : PostM.rightL l = true) : ∀ a b, a ≤ b → b < PostM.cnt l.length → lastG (PostM.blks l) a ≤ lastG (PostM.blks l) b := by
  intro a b hab hb
  obtain ⟨h1, e1⟩ := lastG_is l a (by omega)
  obtain ⟨h2, e2⟩ := lastG_is l b hb
  rw [e1, e2]
  exact rise_le h _ _ h1 h2 (by omega)
theorem post_le_last {l : List (Int × Int)} (h : PostM.rightL l = true) (k : Nat) (hk : k < l.length) : k / 4 < PostM.cnt l.length ∧ (atP l k).1 ≤ lastG (PostM.blks l) (k / 4) := by
  have hc : k / 4 < PostM.cnt l.length := by unfold PostM.cnt; omega
  obtain ⟨h1, e1⟩ := lastG_is l (k / 4) hc
  refine ⟨hc, ?_⟩
  rw [e1]
  have : atP l k = l[k] := by unfold atP; rw [List.getD_eq_getElem?_getD, List.getElem?_eq_getElem hk]; rfl
  rw [this]
  exact rise_le h _ _ hk h1 (by omega)
/-- where Seek comes to, from a on -/
def Sk (l : List (Int × Int)) (a : Nat) (doc : Int) (a' : Nat) : Prop := a ≤ a' ∧ a' ≤ l.length ∧ (∀ k, a ≤ k → k < a' → (atP l k).1 < doc) ∧ (a' < l.length → doc ≤ (atP l a').1)
/-- the place at which a cursor stands, read off the world -/
def atM (w : World) (c : Nat) : Nat := match w.cell? ⟨c, 3, none⟩ with
  | some (.int _ k) => k.toNat
  | _ => 0
theorem PC.atM {w1 w : World} {c : Nat} {l : List (Int × Int)} {a : Nat} (h : PC w1 w c l a) : atM w c = a := by
  obtain ⟨_, _, _, _, _, _, k3, _⟩ := h.cells
  unfold Go.Proofs.YtpinpnbhbngclaaGreat.atM
  rw [k3]
  simp
theorem PC.turned {w1 w w' : World} {c d : Nat} {l : List (Int × Int)} {a : Nat} (h : PC w1 w c l a) (ht : Turned (fun k => k = d) w w') (hd : w1.heap.size ≤ d) (hne : c ≠ d) : PC w1 w' c l a := by
  obtain ⟨h1, h2, h3, vp, vb, h4, h5, h6⟩ := h
  exact ⟨ht.below h1 (fun k e => by rw [e]; exact hd), h2, h3, vp, vb, h4, h5, (ht.block c (Array.getElem?_eq_some_iff.1 h6).1 hne).trans h6⟩

set_option maxHeartbeats 2000000 in
set_option maxRecDepth 100000 in
theorem seek_any (c : Nat) (l : List (Int × Int)) (a : Nat) (doc : Int) (w1 w : World) (h : PC w1 w c l a) (hl : l.length ≤ 1000000) (hr : PostM.rightL l = true) :
    Calls Tryz.prog 56 #[.pointer (some ⟨c, 0, none⟩), .int .i64 doc] w fun e w' => e = .returned (.tuple #[]) ∧ (∃ a', PC w1 w' c l a' ∧ Sk l a doc a') ∧ Turned (fun k => k = c) w w' := by
  obtain ⟨A, k, A', k', k0, k1, k3, hf, _, hP, hc⟩ := h.cells
  have hle := h.le
  have hF := firstblock_any c A' (PostM.cnt l.length) k' (PostM.blks l) doc w hP (PostM.blks_len l).symm (by unfold PostM.cnt; omega) (lastG_mono hr) k1
  have HF := Lib.hid hF
  have HH := Lib.hid h
  have HR := Lib.hid hr
  have HHL := Lib.hid hl
  obtain ⟨n, hn⟩ : ∃ n, n = l.length := ⟨_, rfl⟩
  rw [← hn] at k0 hle hl
  have HN := Lib.hid hn
  have hml : PostM.cnt l.length ≤ 250001 := by rw [← hn]; unfold PostM.cnt; omega
  clear hF hP h hr hn k1 hf
  go_enter Tryz.func56, Tryz.ntmps56
  go_wp2_with fail
  refine HF.out.mono ?_
  rintro e W1 ⟨⟨i, rfl, hi⟩, hb⟩
  have hil : i ≤ 250001 := Nat.le_trans hi.1 hml
  have HI := Lib.hid hi
  have HP1 := Lib.hid (HH.out.below hb)
  have e0 := (hb.cell (p := ⟨c, 0, none⟩) hc).trans k0
  have e3 := (hb.cell (p := ⟨c, 3, none⟩) hc).trans k3
  obtain ⟨_, _, _, _, _, _, _, hf, _⟩ := HP1.out.cells
  have f3 := hf 3
  obtain ⟨t1, ht1⟩ : ∃ t1, t1 = min (i * 4) n := ⟨_, rfl⟩
  obtain ⟨t2, ht2⟩ : ∃ t2, t2 = max a t1 := ⟨_, rfl⟩
  have m1 : (if (n : Int) < (i : Int) * 4 then (n : Int) else (i : Int) * 4) = (t1 : Int) := by split <;> omega
  have m2 : (if (a : Int) < (t1 : Int) then (t1 : Int) else (a : Int)) = (t2 : Int) := by split <;> omega
  have HT := Lib.hid (And.intro ht1 ht2)
  have HB := Lib.hid hb
  clear hf hi hb ht1 ht2 k0 k3 hml
  go_wp2
  go_region
  have m2n : (if a < t1 then (t1 : Int) else (a : Int)) = (t2 : Int) := by
    obtain ⟨_, h2⟩ := HT.out
    split <;> omega
  rw [m2n]
  clear m1 m2 m2n
  have ht2n : t2 ≤ l.length := by
    obtain ⟨h1, h2⟩ := HT.out
    rw [← HN.out]
    omega
  obtain ⟨W3, hW3⟩ : ∃ W3, W3 = (W1.setCell ⟨c, 3, none⟩ (.int .i64 (t2 : Int))).drew := ⟨_, rfl⟩
  have hP3 : PC w1 W3 c l t2 := by rw [hW3]; exact (HP1.out.move t2 ht2n).below (Below.refl _ _).drew
  have hT3 : Turned (fun k => k = c) w W3 := by rw [hW3]; exact ((Turned.of_below (S := fun k => k = c) HB.out).set_ (b := c) rfl _ _).drew
  rw [← hW3]
  have hA := at_any c l t2 w1 W3 hP3
  have HA := Lib.hid hA
  have HP3 := Lib.hid hP3
  have HT3 := Lib.hid hT3
  clear hW3 hA hP3 hT3 e0 e3 f3
  go_wp2_with fail
  refine HA.out.mono ?_
  rintro e W4 ⟨rfl, hb4⟩
  unfold sv
  have HP4 := Lib.hid (HP3.out.below hb4)
  have HT4 := Lib.hid (HT3.out.on hb4)
  have hsz : w.heap.size ≤ W4.heap.size := HT4.out.size
  rw [← HN.out]
  obtain ⟨⟨p1, p2⟩, hp⟩ : ∃ p, p = atP l t2 := ⟨_, rfl⟩
  rw [← hp]
  have HPP := Lib.hid hp
  clear hp hb4 HA HP3 HT3
  go_wp2
  go_loopw [5, 6] (fun y z wr => ∃ (a' kp : Nat), y = .pointer (some ⟨kp, 0, none⟩) ∧ z = .bool (decide (a' < n)) ∧ wr.heap[kp]? = some (.cells #[.int .i64 (atP l a').1, .int .i64 (atP l a').2] 60 (0, 0)) ∧ w.heap.size ≤ kp ∧ PC w1 wr c l a' ∧ Turned (fun k => k = c) w wr ∧ t2 ≤ a' ∧ ∀ k, t2 ≤ k → k < a' → (atP l k).1 < doc) (fun _ _ wr => n - atM wr c)
  case atStart =>
    refine ⟨t2, W4.heap.size, rfl, rfl, ?_, hsz, HP4.out.below (pl1 _ _), HT4.out.alloc _, Nat.le_refl _, fun k h1 h2 => by omega⟩
    rw [← HPP.out]
    exact heap_alloc_new _ _
  case round =>
    obtain ⟨a', kp, rfl, rfl, hkp, hkw, hPC, hTr, hta, hall⟩ := hrel
    have hale : a' ≤ n := by rw [HN.out]; exact hPC.le
    have kq := cell_of_cells (i := 0) hkp rfl
    have kq1 := cell_of_cells (i := 1) hkp rfl
    obtain ⟨⟨d1, d2⟩, hd⟩ : ∃ p, p = atP l a' := ⟨_, rfl⟩
    rw [← hd] at kq kq1 hkp
    have HD := Lib.hid hd
    have HAL := Lib.hid hall
    have HPC := Lib.hid hPC
    have HTR := Lib.hid hTr
    have HKP := Lib.hid hkp
    clear hd hall hPC hTr hkp
    have fin : ¬ (a' < n ∧ d1 < doc) → (∃ a'', PC w1 wr c l a'' ∧ Sk l a doc a'') := fun hno => by
      refine ⟨a', HPC.out, ?_, by rw [← HN.out]; exact hale, ?_, ?_⟩
      · obtain ⟨_, h2⟩ := HT.out; omega
      · intro k h1 h2
        by_cases hk : t2 ≤ k
        · exact HAL.out k hk h2
        · obtain ⟨g1, g2⟩ := HT.out
          have hkl : k < l.length := by rw [← HN.out]; omega
          obtain ⟨q1, q2⟩ := post_le_last HR.out k hkl
          have := HI.out.2.1 (k / 4) (by omega)
          omega
      · intro h1
        rw [← HD.out]
        have : ¬ d1 < doc := fun h => hno ⟨by rw [HN.out]; exact h1, h⟩
        omega
    have HFIN := Lib.hid fin
    clear fin
    by_cases hlt : a' < n
    · have b1 : decide (a' < n) = true := decide_eq_true hlt
      by_cases hdd : d1 < doc
      · have b2 : decide (d1 < doc) = true := decide_eq_true hdd
        have hnx := next_any c l a' w1 wr HPC.out HHL.out
        rw [show min (a' + 1) l.length = a' + 1 by rw [← HN.out]; omega] at hnx
        have HNX := Lib.hid hnx
        have HDD := Lib.hid hdd
        clear hnx hdd
        rw [b1]
        go_wp2_with fail
        refine HNX.out.mono ?_
        rintro e w2 ⟨rfl, hP2, hT2⟩
        have hkp2 := (hT2.block kp (Array.getElem?_eq_some_iff.1 HKP.out).1 (by omega)).trans HKP.out
        have kq := cell_of_cells (i := 0) hkp2 rfl
        have kq1 := cell_of_cells (i := 1) hkp2 rfl
        obtain ⟨w3, hw3⟩ : ∃ w3, w3 = w2.alloc (.cells #[.int .i64 d1, .int .i64 d2] 60) := ⟨_, rfl⟩
        have hP3 : PC w1 w3 c l (a' + 1) := by rw [hw3]; exact hP2.below (pl1 _ _)
        have hT3 : Turned (fun k => k = c) w w3 := by rw [hw3]; exact (HTR.out.trans hT2).alloc _
        have hk3 : w3.heap[w2.heap.size]? = some (.cells #[.int .i64 d1, .int .i64 d2] 60 (0, 0)) := by rw [hw3]; exact heap_alloc_new _ _
        have hA := at_any c l (a' + 1) w1 w3 hP3
        have HA := Lib.hid hA
        have HW3 := Lib.hid hw3
        have HP3 := Lib.hid hP3
        have HT3 := Lib.hid hT3
        have HK3 := Lib.hid hk3
        have hsz2 : w.heap.size ≤ w2.heap.size := Nat.le_trans HTR.out.size hT2.size
        clear hP2 hT2 hkp2 hw3 hP3 hT3 hk3 hA
        go_wp2_with fail
        rw [← HW3.out]
        refine HA.out.mono ?_
        rintro e w4 ⟨rfl, hb5⟩
        unfold sv
        obtain ⟨⟨g1, g2⟩, hg⟩ : ∃ p, p = atP l (a' + 1) := ⟨_, rfl⟩
        rw [← hg, ← HN.out]
        have hk4 := below_block hb5 (Array.getElem?_eq_some_iff.1 HK3.out).1 HK3.out
        have y0 := cell_of_cells (i := 0) hk4 rfl
        have y1 := cell_of_cells (i := 1) hk4 rfl
        have z0 := frozen_of_cells (i := 0) hk4
        have z1 := frozen_of_cells (i := 1) hk4
        have HG := Lib.hid hg
        have HK4 := Lib.hid hk4
        have HP4 := Lib.hid (HP3.out.below hb5)
        have HT4 := Lib.hid (HT3.out.on hb5)
        clear hg hk4 hb5 HP3 HT3 HK3 HA HW3 kq kq1
        go_wp2
        have hlow := HH.out.low.size
        have hts : Turned (fun k => k = w2.heap.size) w4 ((w4.setCell ⟨w2.heap.size, 0, none⟩ (.int .i64 g1)).setCell ⟨w2.heap.size, 1, none⟩ (.int .i64 g2)) := ((Turned.refl (fun k => k = w2.heap.size) w4).set_ (b := w2.heap.size) rfl _ _).set_ (b := w2.heap.size) rfl _ _
        have hPz := HP4.out.turned hts (by omega) (by omega)
        have hne : (HK4.out = HK4.out) := rfl
        clear hne
        refine ⟨⟨a' + 1, w2.heap.size, rfl, rfl, ?_, hsz2, hPz, (HT4.out.put_ (.inr hsz2) _ _).put_ (.inr hsz2) _ _, by omega, fun k h1 h2 => ?_⟩, ?_⟩
        · rw [heap_setCell_row (heap_setCell_row HK4.out 0 _) 1 _, ← HG.out]
          simp
        · by_cases hk : k = a'
          · rw [hk, ← HD.out]; exact HDD.out
          · exact HAL.out k h1 (by omega)
        · rw [hPz.atM, HPC.out.atM]
          omega
      · have b2 : decide (d1 < doc) = false := decide_eq_false hdd
        have hz := HFIN.out (fun h => hdd h.2)
        have HZ := Lib.hid hz
        clear hz hdd
        rw [b1]
        go_wp2
        go_end0
        exact ⟨rfl, HZ.out, HTR.out⟩
    · have b1 : decide (a' < n) = false := decide_eq_false hlt
      have hz := HFIN.out (fun h => hlt h.1)
      have HZ := Lib.hid hz
      clear hz hlt
      rw [b1]
      go_wp2
      go_end0
      exact ⟨rfl, HZ.out, HTR.out⟩
end Go.Proofs.YtpinpnbhbngclaaGreat

/- Posts: the document's Same, Max, Seek. -/
namespace Go.Proofs.YtpinpnbhbngclaaGreat
open Go.RowKit

theorem Sk.one {l : List (Int × Int)} {a x y : Nat} {doc : Int} (h : Sk l a doc x) (k : Sk l a doc y) : x = y := by
  rcases Nat.lt_trichotomy x y with h1 | h1 | h1
  · have h2 := k.2.2.1 x h.1 h1
    have h3 := h.2.2.2 (by have := k.2.1; omega)
    omega
  · exact h1
  · have h2 := h.2.2.1 y k.1 h1
    have h3 := k.2.2.2 (by have := h.2.1; omega)
    omega
theorem atP_get {l : List (Int × Int)} {k : Nat} (h : k < l.length) : atP l k = l[k] := by
  unfold atP
  rw [List.getD_eq_getElem?_getD, List.getElem?_eq_getElem h]
  rfl

end Go.Proofs.YtpinpnbhbngclaaGreat

/- A part of a query on its way, and its document, and what it brings. -/
namespace Go.Proofs.YtpinpnbhbngclaaGreat
open Go.RowKit

/-- one part of a query on its way: its object, its cursor, its list, its weight -/
structure Prt where
  p : Nat
  c : Nat
  l : List (Int × Int)
  wt : Int
/-- the document at place a; behind all: 2^31 -/
def docAt (l : List (Int × Int)) (a : Nat) : Int := if a < l.length then (atP l a).1 else 2147483648
/-- what it brings to document d, as it stands -/
def conAt (x : Prt) (a : Nat) (d : Int) : Int := if a < x.l.length ∧ (atP x.l a).1 = d then x.wt * (atP x.l a).2 else 0
structure GoodP (x : Prt) : Prop where
  right : PostM.rightL x.l = true
  len : x.l.length ≤ 400
  w1 : 1 ≤ x.wt
  w2 : x.wt ≤ 65535
/-- a part in memory, its cursor at a -/
structure PT (w1 w : World) (x : Prt) (a : Nat) : Prop where
  cur : PC w1 w x.c x.l a
  obj : w.heap[x.p]? = some (.cells #[.pointer (some ⟨x.c, 0, none⟩), .int .i64 x.wt, .int .i64 (x.wt * PostM.mx x.l)] 101 (0, 0))
theorem PT.below {w1 w w' : World} {x : Prt} {a : Nat} (h : PT w1 w x a) (hb : Below w.heap.size w w') : PT w1 w' x a :=
  ⟨h.cur.below hb, blk_stay hb h.obj⟩
theorem GoodP.at_ {x : Prt} (h : GoodP x) {a : Nat} (ha : a < x.l.length) : 0 ≤ (atP x.l a).1 ∧ (atP x.l a).1 ≤ 2147483647 ∧ 1 ≤ (atP x.l a).2 ∧ (atP x.l a).2 ≤ 65535 := by
  rw [atP_get ha]
  have := PostM.rgt_all h.right _ (List.getElem_mem ha)
  omega
theorem docAt_le (l : List (Int × Int)) (h : PostM.rightL l = true) (a : Nat) : 0 ≤ docAt l a ∧ docAt l a ≤ 2147483648 := by
  unfold docAt
  split
  · rename_i ha
    rw [atP_get ha]
    have := PostM.rgt_all h _ (List.getElem_mem ha)
    omega
  · omega
theorem mul_le {a b : Int} (h1 : 1 ≤ a) (h2 : a ≤ 65535) (h3 : 0 ≤ b) (h4 : b ≤ 65535) : 0 ≤ a * b ∧ a * b ≤ 4294836225 := by
  have hn := Int.mul_nonneg (show 0 ≤ a by omega) h3
  have hm := Int.mul_le_mul h2 h4 h3 (show (0 : Int) ≤ 65535 by omega)
  exact ⟨hn, by omega⟩
theorem conAt_le {x : Prt} (h : GoodP x) (a : Nat) (d : Int) : 0 ≤ conAt x a d ∧ conAt x a d ≤ 4294836225 := by
  unfold conAt
  split
  · rename_i ha
    obtain ⟨_, _, h3, h4⟩ := h.at_ ha.1
    exact mul_le h.w1 h.w2 (by omega) h4
  · omega

set_option maxHeartbeats 1000000 in
set_option maxRecDepth 100000 in
theorem pdoc_any (w1 w : World) (x : Prt) (a : Nat) (h : PT w1 w x a) :
    Calls Tryz.prog 72 #[.pointer (some ⟨x.p, 0, none⟩)] w fun e w' => e = .returned (.int .i64 (docAt x.l a)) ∧ Below w.heap.size w w' := by
  obtain ⟨p, c, l, wt⟩ := x
  obtain ⟨hc, ho⟩ := h
  simp only at hc ho ⊢
  have k0 := cell_of_cells (i := 0) ho rfl
  have hat := at_any c l a w1 w hc
  unfold docAt
  obtain ⟨⟨x, y⟩, hxy⟩ : ∃ q, q = atP l a := ⟨_, rfl⟩
  rw [← hxy] at hat ⊢
  unfold sv at hat
  simp only at hat ⊢
  clear ho hxy hc
  by_cases hlt : a < l.length
  · rw [if_pos hlt]
    rw [decide_eq_true hlt] at hat
    have HAT := Lib.hid hat
    clear hat hlt
    go_enter Tryz.func72, Tryz.ntmps72
    go_wp2_with fail
    refine HAT.out.mono ?_
    rintro e w2 ⟨rfl, hb⟩
    go_wp2
    go_ret
    exact ⟨rfl, hb.trans ((pl1 _ _).mono hb.size)⟩
  · rw [if_neg hlt]
    rw [decide_eq_false hlt] at hat
    have HAT := Lib.hid hat
    clear hat hlt
    go_enter Tryz.func72, Tryz.ntmps72
    go_wp2_with fail
    refine HAT.out.mono ?_
    rintro e w2 ⟨rfl, hb⟩
    go_wp2
    go_ret
    exact ⟨rfl, hb.trans ((pl1 _ _).mono hb.size)⟩

set_option maxHeartbeats 1000000 in
set_option maxRecDepth 100000 in
theorem pat_any (w1 w : World) (x : Prt) (a : Nat) (d : Int) (h : PT w1 w x a) (hg : GoodP x) :
    Calls Tryz.prog 57 #[.pointer (some ⟨x.p, 0, none⟩), .int .i64 d] w fun e w' => e = .returned (.int .i64 (conAt x a d)) ∧ Below w.heap.size w w' := by
  have hpa := fun ha => hg.at_ (a := a) ha
  have hw := And.intro hg.w1 hg.w2
  obtain ⟨p, c, l, wt⟩ := x
  obtain ⟨hc, ho⟩ := h
  simp only at hc ho hpa hw ⊢
  have k0 := cell_of_cells (i := 0) ho rfl
  have hat := at_any c l a w1 w hc
  unfold conAt
  simp only
  obtain ⟨⟨x, y⟩, hxy⟩ : ∃ q, q = atP l a := ⟨_, rfl⟩
  rw [← hxy] at hat hpa ⊢
  unfold sv at hat
  simp only at hat hpa ⊢
  clear hxy hc
  have HO := Lib.hid ho
  clear ho hg
  by_cases hlt : a < l.length
  · rw [decide_eq_true hlt] at hat
    have HAT := Lib.hid hat
    obtain ⟨_, _, h3, h4⟩ := hpa hlt
    have hm := mul_le hw.1 hw.2 (show 0 ≤ y by omega) h4
    obtain ⟨q, hq⟩ : ∃ q, q = wt * y := ⟨_, rfl⟩
    rw [← hq] at hm ⊢
    have hq' : wt * y = q := hq.symm
    obtain ⟨hq1, hq2⟩ := hm
    clear hat hq hpa hw h3 h4
    by_cases hd : x = d
    · subst hd
      rw [if_pos ⟨hlt, rfl⟩]
      clear hlt
      go_enter Tryz.func57, Tryz.ntmps57
      go_wp2_with fail
      refine HAT.out.mono ?_
      rintro e w2 ⟨rfl, hb⟩
      have ho2 := blk_stay (hb.trans ((pl1 w2 (.cells #[.int .i64 x, .int .i64 y] 60)).mono hb.size)) HO.out
      have k1 := cell_of_cells (i := 1) ho2 rfl
      have kb1 := cell_of_cells (i := 1) (heap_alloc_new w2 (.cells #[.int .i64 x, .int .i64 y] 60)) rfl
      have hsz := hb.trans ((pl1 w2 (.cells #[.int .i64 x, .int .i64 y] 60)).mono hb.size)
      clear ho2
      go_wp2_with fail
      go_quiet (fail)
      go_wp2
      go_ret
      exact ⟨rfl, hsz.trans ((below_drewN_p _ _).mono hsz.size)⟩
    · rw [if_neg (fun h => hd h.2)]
      clear hlt
      have hdd : decide (x = d) = false := decide_eq_false hd
      go_enter Tryz.func57, Tryz.ntmps57
      go_wp2_with fail
      refine HAT.out.mono ?_
      rintro e w2 ⟨rfl, hb⟩
      go_wp2
      go_ret
      exact ⟨rfl, hb.trans ((pl1 _ _).mono hb.size)⟩
  · rw [decide_eq_false hlt] at hat
    rw [if_neg (fun h => hlt h.1)]
    have HAT := Lib.hid hat
    clear hat hlt hpa hw
    go_enter Tryz.func57, Tryz.ntmps57
    go_wp2_with fail
    refine HAT.out.mono ?_
    rintro e w2 ⟨rfl, hb⟩
    go_wp2
    go_ret
    exact ⟨rfl, hb.trans ((pl1 _ _).mono hb.size)⟩
end Go.Proofs.YtpinpnbhbngclaaGreat

/- The parts of a query on their way. -/
namespace Go.Proofs.YtpinpnbhbngclaaGreat
open Go.RowKit

/-- pointers to parts, in memory -/
def PtrAt (W : World) (A : Option Addr) (n : Nat) (ps : List Prt) : Prop :=
  ps.length = n ∧ ∀ k (h : k < ps.length), ∃ b o, A = some ⟨b, o, none⟩ ∧ b < W.heap.size ∧ W.cell? ⟨b, o + k, none⟩ = some (.pointer (some ⟨ps[k].p, 0, none⟩))
theorem PtrAt.later {w w' : World} {A : Option Addr} {n : Nat} {ps : List Prt} (h : PtrAt w A n ps) (hb : Below w.heap.size w w') : PtrAt w' A n ps :=
  ⟨h.1, fun k hk => by
    obtain ⟨b, o, e, hl, h0⟩ := h.2 k hk
    exact ⟨b, o, e, Nat.lt_of_lt_of_le hl hb.size, (hb.cell (p := ⟨b, o + k, none⟩) hl).trans h0⟩⟩
theorem PtrAt.turned {S : Nat → Prop} {w w' : World} {A : Option Addr} {n : Nat} {ps : List Prt} (h : PtrAt w A n ps) (hT : Turned S w w') (hS : ∀ ad, A = some ad → ¬ S ad.block) : PtrAt w' A n ps :=
  ⟨h.1, fun k hk => by
    obtain ⟨b, o, e, hl, h0⟩ := h.2 k hk
    exact ⟨b, o, e, Nat.lt_of_lt_of_le hl hT.size, (hT.cell (p := ⟨b, o + k, none⟩) hl (hS ⟨b, o, none⟩ e)).trans h0⟩⟩
/-- all parts stand where the world says -/
def PS (w1 W : World) (ps : List Prt) : Prop := ∀ x ∈ ps, PT w1 W x (atM W x.c)
theorem PT.at_is {w1 w : World} {x : Prt} {a : Nat} (h : PT w1 w x a) : atM w x.c = a := h.cur.atM
theorem PT.lt {w1 w : World} {x : Prt} {a : Nat} (h : PT w1 w x a) : x.c < w.heap.size := by
  obtain ⟨_, _, _, _, _, _, _, h6⟩ := h.cur
  exact (Array.getElem?_eq_some_iff.1 h6).1
theorem PT.canon {w1 w : World} {x : Prt} {a : Nat} (h : PT w1 w x a) : PT w1 w x (atM w x.c) := by rw [h.at_is]; exact h
theorem atM_same {w w' : World} {c : Nat} (h : w'.heap[c]? = w.heap[c]?) : atM w' c = atM w c := by
  unfold atM
  rw [World.cell?_of_block (a := ⟨c, 3, none⟩) h]
theorem PS.below {w1 w w' : World} {ps : List Prt} (h : PS w1 w ps) (hb : Below w.heap.size w w') : PS w1 w' ps := fun x hx => ((h x hx).below hb).canon
theorem PS.at_below {w1 w w' : World} {ps : List Prt} (h : PS w1 w ps) (hb : Below w.heap.size w w') {x : Prt} (hx : x ∈ ps) : atM w' x.c = atM w x.c := atM_same (hb.block _ (h x hx).lt)
/-- a part's object is no cursor -/
theorem PT.ne {w1 w : World} {x y : Prt} {a b : Nat} (h : PT w1 w x a) (k : PT w1 w y b) : x.p ≠ y.c := by
  intro e
  obtain ⟨_, _, _, _, _, _, _, h6⟩ := k.cur
  have := h.obj
  rw [e, h6] at this
  injection this with this
  injection this with _ this _
  revert this
  decide
theorem PT.turned_one {w1 w w' : World} {x y : Prt} {a b : Nat} (h : PT w1 w x a) (k : PT w1 w y b) (hT : Turned (fun q => q = y.c) w w') (hne : x.c ≠ y.c) : PT w1 w' x a :=
  ⟨h.cur.turned hT k.cur.new hne, (hT.block _ (Array.getElem?_eq_some_iff.1 h.obj).1 (h.ne k)).trans h.obj⟩
theorem PT.turned_own {w1 w w' : World} {x : Prt} {a a' : Nat} (h : PT w1 w x a) (hT : Turned (fun q => q = x.c) w w') (hc : PC w1 w' x.c x.l a') : PT w1 w' x a' :=
  ⟨hc, (hT.block _ (Array.getElem?_eq_some_iff.1 h.obj).1 (h.ne h)).trans h.obj⟩

set_option maxHeartbeats 1000000 in
set_option maxRecDepth 100000 in
theorem pbrings_any (w1 w : World) (x : Prt) (a : Nat) (d : Int) (h : PT w1 w x a) (hg : GoodP x) :
    Calls Tryz.prog 35 #[.pointer (some ⟨x.p, 0, none⟩), .int .i64 d] w fun e w' => ∃ a', e = .returned (.int .i64 (conAt x a' d)) ∧ PT w1 w' x a' ∧ Sk x.l a d a' ∧ Turned (fun q => q = x.c) w w' := by
  have ho := h.obj
  have k0 := cell_of_cells (i := 0) ho rfl
  have hs := seek_any x.c x.l a d w1 w h.cur (by have := hg.len; omega) hg.right
  have H := Lib.hid h
  have HS := Lib.hid hs
  have HG := Lib.hid hg
  clear h ho hs hg
  go_enter Tryz.func35, Tryz.ntmps35
  go_wp2_with fail
  refine HS.out.mono ?_
  rintro e w2 ⟨rfl, ⟨a', hpc, hsk⟩, hT⟩
  have hpt := H.out.turned_own hT hpc
  have HPT := Lib.hid hpt
  have HT := Lib.hid hT
  have HSK := Lib.hid hsk
  clear hpt hT hpc hsk k0
  go_wp2_with fail
  refine (pat_any w1 w2 x a' d HPT.out HG.out).mono ?_
  rintro e w3 ⟨rfl, hb⟩
  go_wp2
  go_ret
  exact ⟨a', rfl, HPT.out.below hb, HSK.out, HT.out.on hb⟩

def minD (l : List Int) : Int := l.foldl min 2147483648
theorem minD_snoc (l : List Int) (d : Int) : minD (l ++ [d]) = min (minD l) d := by simp [minD]
def docsAt (W : World) (ps : List Prt) : List Int := ps.map fun x => docAt x.l (atM W x.c)
theorem docsAt_take (W : World) (ps : List Prt) (k : Nat) (h : k < ps.length) : docsAt W (ps.take (k + 1)) = docsAt W (ps.take k) ++ [docAt ps[k].l (atM W ps[k].c)] := by
  unfold docsAt
  rw [List.take_succ_eq_append_getElem h, List.map_append]
  rfl

set_option maxHeartbeats 1000000 in
set_option maxRecDepth 100000 in
theorem pfirst_any (w1 w : World) (A : Option Addr) (n cp : Nat) (ps : List Prt) (hn : n ≤ 1000) (hP : PtrAt w A n ps) (hS : PS w1 w ps) :
    Calls Tryz.prog 61 #[.slice A n cp] w fun e w' => e = .returned (.int .i64 (minD (docsAt w ps))) ∧ Below w.heap.size w w' := by
  have HP := Lib.hid hP
  have HS := Lib.hid hS
  clear hP hS
  go_enter Tryz.func61, Tryz.ntmps61
  go_wp2
  go_loopw [8, 3] (fun x y wr => ∃ k : Nat, x = .int .i64 k ∧ k ≤ n ∧ y = .int .i64 (minD (docsAt w (ps.take k))) ∧ Below w.heap.size w wr) (fun x _ _ => n - (intOf x).toNat)
  case atStart => exact ⟨0, rfl, by omega, rfl, Below.refl _ _⟩
  case round =>
    obtain ⟨k, rfl, hk, rfl, hb⟩ := hrel
    by_cases hlt : k < n
    · have hmi : (k : Int) < (n : Int) := by omega
      obtain ⟨b, o, rfl, hbl, hc⟩ := (HP.out.later hb).2 k (by rw [HP.out.1]; exact hlt)
      have hkl : k < ps.length := by rw [HP.out.1]; exact hlt
      have hpt := HS.out ps[k] (List.getElem_mem hkl)
      have hd := pdoc_any w1 wr ps[k] _ (hpt.below hb)
      have htk := docsAt_take w ps k hkl
      obtain ⟨d, hdd⟩ : ∃ d, d = docAt ps[k].l (atM w ps[k].c) := ⟨_, rfl⟩
      rw [← hdd] at hd htk
      obtain ⟨M, hM⟩ : ∃ M, M = minD (docsAt w (ps.take k)) := ⟨_, rfl⟩
      have hmm := minD_snoc (docsAt w (ps.take k)) d
      rw [← htk, ← hM] at hmm
      rw [← hM]
      have HD := Lib.hid hd
      have HB := Lib.hid hb
      have HM := Lib.hid hmm
      obtain ⟨pk, hpk⟩ : ∃ pk, pk = ps[k].p := ⟨_, rfl⟩
      rw [← hpk] at hc HD
      clear hd hpt hdd htk hM hmm hb hpk
      go_wp2_with fail
      refine HD.out.mono ?_
      rintro e w2 ⟨rfl, hb2⟩
      have hB := HB.out.trans (hb2.mono HB.out.size)
      by_cases hmd : M ≤ d
      · have hnd : ¬ d < M := by omega
        have hmn : min M d = M := by omega
        go_wp2
        go_roundw
        case rel => exact ⟨k + 1, by go_num, by omega, by rw [HM.out, hmn], hB⟩
        case measure => simp [intOf]; omega
      · have hnd : d < M := by omega
        have hmn : min M d = d := by omega
        go_wp2
        go_roundw
        case rel => exact ⟨k + 1, by go_num, by omega, by rw [HM.out, hmn], hB⟩
        case measure => simp [intOf]; omega
    · have hmi : ¬ (k : Int) < (n : Int) := by omega
      obtain rfl : k = n := by omega
      rw [List.take_of_length_le (by rw [HP.out.1]; exact Nat.le_refl _)]
      go_wp2
      go_ret
      exact ⟨rfl, hb⟩
end Go.Proofs.YtpinpnbhbngclaaGreat

/- The parts of a query on their way: what they bring, moving them. -/
namespace Go.Proofs.YtpinpnbhbngclaaGreat
open Go.RowKit

def sumL (l : List Int) : Int := l.foldl (· + ·) 0
theorem sumL_snoc (l : List Int) (d : Int) : sumL (l ++ [d]) = sumL l + d := by simp [sumL]
def consAt (W : World) (ps : List Prt) (d : Int) : List Int := ps.map fun x => conAt x (atM W x.c) d
theorem consAt_take (W : World) (ps : List Prt) (d : Int) (k : Nat) (h : k < ps.length) : consAt W (ps.take (k + 1)) d = consAt W (ps.take k) d ++ [conAt ps[k] (atM W ps[k].c) d] := by
  unfold consAt
  rw [List.take_succ_eq_append_getElem h, List.map_append]
  rfl

set_option maxHeartbeats 1000000 in
set_option maxRecDepth 100000 in
theorem psum_any (w1 w : World) (A : Option Addr) (n cp : Nat) (ps : List Prt) (d : Int) (hn : n ≤ 1000) (hP : PtrAt w A n ps) (hS : PS w1 w ps) (hG : ∀ x ∈ ps, GoodP x) :
    Calls Tryz.prog 63 #[.slice A n cp, .int .i64 d] w fun e w' => e = .returned (.int .i64 (sumL (consAt w ps d))) ∧ Below w.heap.size w w' := by
  have HP := Lib.hid hP
  have HS := Lib.hid hS
  have HG := Lib.hid hG
  clear hP hS hG
  go_enter Tryz.func63, Tryz.ntmps63
  go_wp2
  go_loopw [10, 5] (fun x y wr => ∃ (k : Nat) (M : Int), x = .int .i64 k ∧ k ≤ n ∧ y = .int .i64 M ∧ M = sumL (consAt w (ps.take k) d) ∧ 0 ≤ M ∧ M ≤ k * 4294836225 ∧ Below w.heap.size w wr) (fun x _ _ => n - (intOf x).toNat)
  case atStart => exact ⟨0, 0, rfl, by omega, rfl, rfl, by omega, by omega, Below.refl _ _⟩
  case round =>
    obtain ⟨k, M, rfl, hk, rfl, hM, hM0, hM1, hb⟩ := hrel
    by_cases hlt : k < n
    · have hmi : (k : Int) < (n : Int) := by omega
      obtain ⟨b, o, rfl, hbl, hc⟩ := (HP.out.later hb).2 k (by rw [HP.out.1]; exact hlt)
      have hkl : k < ps.length := by rw [HP.out.1]; exact hlt
      have hpt := HS.out ps[k] (List.getElem_mem hkl)
      have hgg := HG.out ps[k] (List.getElem_mem hkl)
      have hd := pat_any w1 wr ps[k] _ d (hpt.below hb) hgg
      have htk := consAt_take w ps d k hkl
      have hbd := conAt_le hgg (atM w ps[k].c) d
      obtain ⟨c, hcc⟩ : ∃ c, c = conAt ps[k] (atM w ps[k].c) d := ⟨_, rfl⟩
      rw [← hcc] at hd htk hbd
      have hmm := sumL_snoc (consAt w (ps.take k) d) c
      rw [← htk, ← hM] at hmm
      have HD := Lib.hid hd
      have HB := Lib.hid hb
      have HM := Lib.hid hmm
      obtain ⟨pk, hpk⟩ : ∃ pk, pk = ps[k].p := ⟨_, rfl⟩
      rw [← hpk] at hc HD
      obtain ⟨N, hN⟩ : ∃ N, N = M + c := ⟨_, rfl⟩
      have hN1 : M + c = N := hN.symm
      have hN2 : 0 ≤ N ∧ N ≤ (k : Int) * 4294836225 + 4294836225 := by omega
      obtain ⟨hN3, hN4⟩ := hN2
      have hN5 : N ≤ 4294836225000 := by omega
      rw [hN1] at HM
      clear hd hpt hgg hcc htk hM hmm hb hpk hN hbd hM0 hM1
      go_wp2_with fail
      refine HD.out.mono ?_
      rintro e w2 ⟨rfl, hb2⟩
      have hB := HB.out.trans (hb2.mono HB.out.size)
      go_wp2
      go_roundw
      case rel => exact ⟨k + 1, N, by go_num, by omega, rfl, HM.out.symm, hN3, by omega, hB⟩
      case measure => simp [intOf]; omega
    · have hmi : ¬ (k : Int) < (n : Int) := by omega
      obtain rfl : k = n := by omega
      rw [List.take_of_length_le (by rw [HP.out.1]; exact Nat.le_refl _)] at hM
      rw [hM]
      go_wp2
      go_ret
      exact ⟨rfl, hb⟩

theorem nodup_at {ps : List Prt} (h : (ps.map (·.c)).Nodup) {i j : Nat} (hi : i < ps.length) (hj : j < ps.length) (e : ps[i].c = ps[j].c) : i = j := by
  have hp := List.pairwise_iff_getElem.1 h
  rcases Nat.lt_trichotomy i j with g | g | g
  · exact absurd (show (ps.map (·.c))[i]'(by simpa using hi) = (ps.map (·.c))[j]'(by simpa using hj) by rw [List.getElem_map, List.getElem_map]; exact e) (hp i j (by simpa using hi) (by simpa using hj) g)
  · exact g
  · exact absurd (show (ps.map (·.c))[j]'(by simpa using hj) = (ps.map (·.c))[i]'(by simpa using hi) by rw [List.getElem_map, List.getElem_map]; exact e.symm) (hp j i (by simpa using hj) (by simpa using hi) g)
/-- where a part stands that was passed at d -/
def passed (x : Prt) (a : Nat) (d : Int) : Nat := if docAt x.l a = d then min (a + 1) x.l.length else a
def curs (ps : List Prt) (q : Nat) : Prop := ∃ x ∈ ps, q = x.c

set_option maxHeartbeats 1000000 in
set_option maxRecDepth 100000 in
theorem ppass_any (w1 w : World) (A : Option Addr) (n cp : Nat) (ps : List Prt) (d : Int) (hn : n ≤ 1000) (hP : PtrAt w A n ps) (hS : PS w1 w ps) (hG : ∀ x ∈ ps, GoodP x) (hD : (ps.map (·.c)).Nodup) (hA : ∀ ad, A = some ad → ¬ curs ps ad.block) :
    Calls Tryz.prog 64 #[.slice A n cp, .int .i64 d] w fun e w' => e = .returned (.tuple #[]) ∧ PS w1 w' ps ∧ (∀ x ∈ ps, atM w' x.c = passed x (atM w x.c) d) ∧ Turned (curs ps) w w' := by
  have HP := Lib.hid hP
  have HS := Lib.hid hS
  have HG := Lib.hid hG
  have HD := Lib.hid hD
  have HA := Lib.hid hA
  clear hP hS hG hD hA
  go_enter Tryz.func64, Tryz.ntmps64
  go_wp2
  go_loopw [8] (fun x wr => ∃ k : Nat, x = .int .i64 k ∧ k ≤ n ∧ PS w1 wr ps ∧ (∀ j (h : j < ps.length), atM wr ps[j].c = if j < k then passed ps[j] (atM w ps[j].c) d else atM w ps[j].c) ∧ Turned (curs ps) w wr) (fun x _ => n - (intOf x).toNat)
  case atStart => exact ⟨0, rfl, by omega, HS.out, fun j h => by rw [if_neg (by omega)], Turned.refl _ _⟩
  case round =>
    obtain ⟨k, rfl, hk, hps, hat, hT⟩ := hrel
    by_cases hlt : k < n
    · have hmi : (k : Int) < (n : Int) := by omega
      have hpw := HP.out.turned hT HA.out
      obtain ⟨b, o, rfl, hbl, hc⟩ := hpw.2 k (by rw [HP.out.1]; exact hlt)
      have hkl : k < ps.length := by rw [HP.out.1]; exact hlt
      have hpt := hps ps[k] (List.getElem_mem hkl)
      have hgg := HG.out ps[k] (List.getElem_mem hkl)
      have hd := pdoc_any w1 wr ps[k] _ hpt
      have hak := hat k hkl
      rw [if_neg (by omega)] at hak
      rw [hak] at hd hpt
      obtain ⟨dd, hdd⟩ : ∃ dd, dd = docAt ps[k].l (atM w ps[k].c) := ⟨_, rfl⟩
      rw [← hdd] at hd
      have HDC := Lib.hid hd
      have HPS := Lib.hid hps
      have HAT := Lib.hid hat
      have HT := Lib.hid hT
      have HPT := Lib.hid hpt
      have HGG := Lib.hid hgg
      have HDD := Lib.hid hdd
      have hob := hpt.obj
      have HOB := Lib.hid hob
      obtain ⟨pk, hpk⟩ : ∃ pk, pk = ps[k].p := ⟨_, rfl⟩
      rw [← hpk] at hc HDC HOB
      have hpd : passed ps[k] (atM w ps[k].c) d = if dd = d then min (atM w ps[k].c + 1) ps[k].l.length else atM w ps[k].c := by unfold passed; rw [← HDD.out]
      have HPD := Lib.hid hpd
      clear hd hpt hgg hdd hps hat hT hob hpd hpw hak hpk
      go_wp2_with fail
      refine HDC.out.mono ?_
      rintro e w2 ⟨rfl, hb2⟩
      have HPS2 := Lib.hid (HPS.out.below hb2)
      have HPT2 := Lib.hid (HPT.out.below hb2)
      have HT2 := Lib.hid (HT.out.on hb2)
      have HAT2 : Hid (∀ j (h : j < ps.length), atM w2 ps[j].c = if j < k then passed ps[j] (atM w ps[j].c) d else atM w ps[j].c) := Lib.hid (fun j h => by rw [HPS.out.at_below hb2 (List.getElem_mem h)]; exact HAT.out j h)
      have hob2 := blk_stay hb2 HOB.out
      have k0 := cell_of_cells (i := 0) hob2 rfl
      clear hob2 hb2 HPS HPT HT HAT
      by_cases hmd : dd = d
      · have hdt : decide (dd = d) = true := decide_eq_true hmd
        go_wp2_with fail
        refine (next_any ps[k].c ps[k].l _ w1 w2 HPT2.out.cur (by have := HGG.out.len; omega)).mono ?_
        rintro e w3 ⟨rfl, hpc, hTn⟩
        have hptk := HPT2.out.turned_own hTn hpc
        have hne : ∀ j (h : j < ps.length), j ≠ k → ps[j].c ≠ ps[k].c := fun j h hj e => by
          exact hj (nodup_at HD.out h hkl e)
        have hat3 : ∀ j (h : j < ps.length), atM w3 ps[j].c = if j < k + 1 then passed ps[j] (atM w ps[j].c) d else atM w ps[j].c := fun j h => by
          by_cases hj : j = k
          · subst hj
            rw [if_pos (by omega), hptk.at_is, HPD.out, if_pos hmd]
          · rw [atM_same (hTn.block _ (HPS2.out _ (List.getElem_mem h)).lt (hne j h hj)), HAT2.out j h]
            by_cases hjk : j < k
            · rw [if_pos hjk, if_pos (by omega)]
            · rw [if_neg hjk, if_neg (by omega)]
        have hps3 : PS w1 w3 ps := fun x hx => by
          obtain ⟨j, hj, rfl⟩ := List.mem_iff_getElem.1 hx
          by_cases e : j = k
          · subst e; exact hptk.canon
          · exact ((HPS2.out _ hx).turned_one HPT2.out hTn (hne j hj e)).canon
        have hT3 := HT2.out.trans (hTn.wide (T := curs ps) (fun q hq => ⟨ps[k], List.getElem_mem hkl, hq⟩))
        have HR := Lib.hid (And.intro hps3 (And.intro hat3 hT3))
        clear hptk hat3 hps3 hT3 hne hTn hpc
        go_wp2
        go_roundw
        case rel => exact ⟨k + 1, by go_num, by omega, HR.out⟩
        case measure => simp [intOf]; omega
      · have hdt : decide (dd = d) = false := decide_eq_false hmd
        go_wp2
        go_roundw
        case rel => exact ⟨k + 1, by go_num, by omega, HPS2.out, fun j h => by
          rw [HAT2.out j h]
          by_cases hj : j = k
          · subst hj
            rw [if_neg (by omega), if_pos (by omega), HPD.out, if_neg hmd]
          · by_cases hjk : j < k
            · rw [if_pos hjk, if_pos (by omega)]
            · rw [if_neg hjk, if_neg (by omega)], HT2.out⟩
        case measure => simp [intOf]; omega
    · have hmi : ¬ (k : Int) < (n : Int) := by omega
      obtain rfl : k = n := by omega
      go_wp2
      go_end0
      exact ⟨rfl, hps, fun x hx => by
        obtain ⟨j, hj, rfl⟩ := List.mem_iff_getElem.1 hx
        rw [hat j hj, if_pos (by rw [← HP.out.1]; exact hj)], hT⟩
end Go.Proofs.YtpinpnbhbngclaaGreat

/- The parts of a query on their way: sought. -/
namespace Go.Proofs.YtpinpnbhbngclaaGreat
open Go.RowKit

set_option maxHeartbeats 1000000 in
set_option maxRecDepth 100000 in
theorem pseek_any (w1 w : World) (A : Option Addr) (n cp : Nat) (ps : List Prt) (d : Int) (hn : n ≤ 1000) (hP : PtrAt w A n ps) (hS : PS w1 w ps) (hG : ∀ x ∈ ps, GoodP x) (hD : (ps.map (·.c)).Nodup) (hA : ∀ ad, A = some ad → ¬ curs ps ad.block) :
    Calls Tryz.prog 73 #[.slice A n cp, .int .i64 d] w fun e w' => e = .returned (.tuple #[]) ∧ PS w1 w' ps ∧ (∀ x ∈ ps, Sk x.l (atM w x.c) d (atM w' x.c)) ∧ Turned (curs ps) w w' := by
  have HP := Lib.hid hP
  have HS := Lib.hid hS
  have HG := Lib.hid hG
  have HD := Lib.hid hD
  have HA := Lib.hid hA
  clear hP hS hG hD hA
  go_enter Tryz.func73, Tryz.ntmps73
  go_wp2
  go_loopw [8] (fun x wr => ∃ k : Nat, x = .int .i64 k ∧ k ≤ n ∧ PS w1 wr ps ∧ (∀ j (h : j < ps.length), j < k → Sk ps[j].l (atM w ps[j].c) d (atM wr ps[j].c)) ∧ (∀ j (h : j < ps.length), ¬ j < k → atM wr ps[j].c = atM w ps[j].c) ∧ Turned (curs ps) w wr) (fun x _ => n - (intOf x).toNat)
  case atStart => exact ⟨0, rfl, by omega, HS.out, fun j h hj => by omega, fun j h _ => rfl, Turned.refl _ _⟩
  case round =>
    obtain ⟨k, rfl, hk, hps, hat, hat0, hT⟩ := hrel
    by_cases hlt : k < n
    · have hmi : (k : Int) < (n : Int) := by omega
      have hpw := HP.out.turned hT HA.out
      obtain ⟨b, o, rfl, hbl, hc⟩ := hpw.2 k (by rw [HP.out.1]; exact hlt)
      have hkl : k < ps.length := by rw [HP.out.1]; exact hlt
      have hpt := hps ps[k] (List.getElem_mem hkl)
      have hgg := HG.out ps[k] (List.getElem_mem hkl)
      have hak := hat0 k hkl (by omega)
      rw [hak] at hpt
      have hs := seek_any ps[k].c ps[k].l _ d w1 wr hpt.cur (by have := hgg.len; omega) hgg.right
      have HSK := Lib.hid hs
      have HPS := Lib.hid hps
      have HAT := Lib.hid hat
      have HAT0 := Lib.hid hat0
      have HT := Lib.hid hT
      have HPT := Lib.hid hpt
      have hob := hpt.obj
      obtain ⟨pk, hpk⟩ : ∃ pk, pk = ps[k].p := ⟨_, rfl⟩
      rw [← hpk] at hc hob
      have k0 := cell_of_cells (i := 0) hob rfl
      clear hs hpt hgg hps hat hat0 hT hob hpw hak hpk
      go_wp2_with fail
      refine HSK.out.mono ?_
      rintro e w3 ⟨rfl, ⟨a', hpc, hsk⟩, hTn⟩
      have hptk := HPT.out.turned_own hTn hpc
      have hne : ∀ j (h : j < ps.length), j ≠ k → ps[j].c ≠ ps[k].c := fun j h hj e => hj (nodup_at HD.out h hkl e)
      have hat3 : ∀ j (h : j < ps.length), j < k + 1 → Sk ps[j].l (atM w ps[j].c) d (atM w3 ps[j].c) := fun j h hjk => by
        by_cases hj : j = k
        · subst hj
          rw [hptk.at_is]; exact hsk
        · rw [atM_same (hTn.block _ (HPS.out _ (List.getElem_mem h)).lt (hne j h hj))]
          exact HAT.out j h (by omega)
      have hat30 : ∀ j (h : j < ps.length), ¬ j < k + 1 → atM w3 ps[j].c = atM w ps[j].c := fun j h hjk => by
        rw [atM_same (hTn.block _ (HPS.out _ (List.getElem_mem h)).lt (hne j h (by omega)))]
        exact HAT0.out j h (by omega)
      have hps3 : PS w1 w3 ps := fun x hx => by
        obtain ⟨j, hj, rfl⟩ := List.mem_iff_getElem.1 hx
        by_cases e : j = k
        · subst e; exact hptk.canon
        · exact ((HPS.out _ hx).turned_one HPT.out hTn (hne j hj e)).canon
      have hT3 := HT.out.trans (hTn.wide (T := curs ps) (fun q hq => ⟨ps[k], List.getElem_mem hkl, hq⟩))
      have HR := Lib.hid (And.intro hps3 (And.intro hat3 (And.intro hat30 hT3)))
      clear hptk hat3 hat30 hps3 hT3 hne hTn hpc hsk
      go_wp2
      go_roundw
      case rel => exact ⟨k + 1, by go_num, by omega, HR.out⟩
      case measure => simp [intOf]; omega
    · have hmi : ¬ (k : Int) < (n : Int) := by omega
      obtain rfl : k = n := by omega
      go_wp2
      go_end0
      exact ⟨rfl, hps, fun x hx => by
        obtain ⟨j, hj, rfl⟩ := List.mem_iff_getElem.1 hx
        exact hat j hj (by rw [← HP.out.1]; exact hj), hT⟩
end Go.Proofs.YtpinpnbhbngclaaGreat

/- Rows of pointers: two that are swapped, ranges that are swapped. -/
namespace Go.Proofs.YtpinpnbhbngclaaGreat
open Go.RowKit

def swp (X : Nat → Nat) (i j : Nat) : Nat → Nat := fun t => if t = i then X j else if t = j then X i else X t
/-- a row of n pointers, at block g -/
def PRw (W : World) (g n : Nat) (X : Nat → Nat) : Prop := g < W.heap.size ∧ ∀ t, t < n → W.cell? ⟨g, t, none⟩ = some (.pointer (some ⟨X t, 0, none⟩)) ∧ W.frozen? ⟨g, t, none⟩ = false
theorem PRw.below {W W' : World} {g n : Nat} {X : Nat → Nat} (h : PRw W g n X) (hb : Below W.heap.size W W') : PRw W' g n X :=
  ⟨Nat.lt_of_lt_of_le h.1 hb.size, fun t ht => ⟨(hb.cell (p := ⟨g, t, none⟩) h.1).trans (h.2 t ht).1, (hb.frozen (p := ⟨g, t, none⟩) h.1).trans (h.2 t ht).2⟩⟩
theorem PRw.drew {W : World} {g n : Nat} {X : Nat → Nat} (h : PRw W g n X) : PRw W.drew g n X := h
theorem PRw.congr {w : World} {g n : Nat} {Y Z : Nat → Nat} (h : PRw w g n Y) (e : ∀ t, t < n → Y t = Z t) : PRw w g n Z := ⟨h.1, fun t ht => by rw [← e t ht]; exact h.2 t ht⟩
/-- amid a swap: p, q are the stores' numbers -/
def SwI (g n : Nat) (X : Nat → Nat) (p q i j : Nat) (L : Nat → Bool) (W : World) : Prop := PRw W g n (fun t => if L p = true ∧ t = i then X j else if L q = true ∧ t = j then X i else X t)
section
variable {g n p q i j : Nat} {X : Nat → Nat} {L : Nat → Bool} {k : Nat} {w w' : World}
theorem SwI.start (h : PRw w g n X) : SwI g n X p q i j (fun _ => false) w.drew := by
  exact PRw.congr (w := w.drew) h (fun t _ => by simp)
theorem SwI_keep (hk : (k == p || k == q) = false) (hb : Below w.heap.size w w') (h : SwI g n X p q i j L w) : SwI g n X p q i j (linUp L k) w' := by
  simp at hk
  have ep : linUp L k p = L p := by unfold linUp; rw [if_neg (fun e => hk.1 e.symm)]
  have eq : linUp L k q = L q := by unfold linUp; rw [if_neg (fun e => hk.2 e.symm)]
  unfold SwI at h ⊢
  rw [ep, eq]
  exact h.below hb
theorem swI_cell (h : SwI g n X p q i j L w) (hp : L p = false) (hq : L q = false) {t : Nat} (ht : t < n) : w.cell? ⟨g, t, none⟩ = some (.pointer (some ⟨X t, 0, none⟩)) := by
  have := (h.2 t ht).1
  simpa [hp, hq] using this
theorem swI_frz (h : SwI g n X p q i j L w) {t : Nat} (ht : t < n) : w.frozen? ⟨g, t, none⟩ = false := (h.2 t ht).2
theorem swI_val (h : SwI g n X p q i j L w) {t : Nat} (ht : t < n) : w.cell? ⟨g, t, none⟩ = some (.pointer (some ⟨if L p = true ∧ t = i then X j else if L q = true ∧ t = j then X i else X t, 0, none⟩)) := (h.2 t ht).1
theorem PRw.set_ {Y : Nat → Nat} (h : PRw w g n Y) {t : Nat} (ht : t < n) (v : Nat) : PRw (w.setCell ⟨g, t, none⟩ (.pointer (some ⟨v, 0, none⟩))) g n (fun s => if s = t then v else Y s) := by
  refine ⟨by simpa [World.setCell] using h.1, fun s hs => ⟨?_, by simp [(h.2 s hs).2]⟩⟩
  by_cases e : s = t
  · subst e
    rw [World.cell?_setCell_same w _ _ (h.2 s hs).1]
    simp
  · rw [World.cell?_setCell_other w _ _ _ (fun x => e (by injection x with _ x; exact x.symm)), (h.2 s hs).1]
    simp [e]
theorem swI_one (h : SwI g n X p q i j L w) (hi : i < n) (_ : i ≠ j) (hpq : p ≠ q) : SwI g n X p q i j (linUp L p) (w.setCell ⟨g, i, none⟩ (.pointer (some ⟨X j, 0, none⟩))) := by
  unfold SwI at h ⊢
  have ep : linUp L p p = true := by simp [linUp]
  have eq : linUp L p q = L q := by unfold linUp; rw [if_neg (fun e => hpq e.symm)]
  rw [ep, eq]
  refine (h.set_ hi (X j)).congr (fun t _ => ?_)
  by_cases e : t = i
  · simp [e]
  · simp [e]
theorem swI_two (h : SwI g n X p q i j L w) (hj : j < n) (hij : i ≠ j) (hpq : p ≠ q) : SwI g n X p q i j (linUp L q) (w.setCell ⟨g, j, none⟩ (.pointer (some ⟨X i, 0, none⟩))) := by
  unfold SwI at h ⊢
  have ep : linUp L q q = true := by simp [linUp]
  have eq : linUp L q p = L p := by unfold linUp; rw [if_neg hpq]
  rw [ep, eq]
  refine (h.set_ hj (X i)).congr (fun t _ => ?_)
  by_cases e : t = j
  · have : ¬ j = i := fun x => hij x.symm
    simp [e, this]
  · simp [e]
theorem swI_fin (h : SwI g n X p q i j L w) (hp : L p = true) (hq : L q = true) : PRw w g n (swp X i j) := by
  unfold SwI at h
  rw [hp, hq] at h
  refine h.congr (fun t _ => ?_)
  unfold swp
  simp
end
/-- the ranges of N at a and at b swapped -/
def swR (a b N : Nat) (X : Nat → Nat) : Nat → Nat := fun t => if a ≤ t ∧ t < a + N then X (t - a + b) else if b ≤ t ∧ t < b + N then X (t - b + a) else X t
theorem swR_zero (a b : Nat) (X : Nat → Nat) : swR a b 0 X = X := by
  funext t
  unfold swR
  rw [if_neg (by omega), if_neg (by omega)]
theorem swR_next (a b N : Nat) (X : Nat → Nat) (h : a + N < b) : swp (swR a b N X) (a + N) (b + N) = swR a b (N + 1) X := by
  funext t
  unfold swp
  by_cases e1 : t = a + N
  · subst e1
    rw [if_pos rfl]
    unfold swR
    rw [if_neg (by omega), if_neg (by omega), if_pos (by omega)]
    congr 1; omega
  · rw [if_neg e1]
    by_cases e2 : t = b + N
    · subst e2
      rw [if_pos rfl]
      unfold swR
      rw [if_neg (by omega), if_neg (by omega), if_neg (by omega), if_pos (by omega)]
      congr 1; omega
    · rw [if_neg e2]
      unfold swR
      by_cases e3 : a ≤ t ∧ t < a + N
      · rw [if_pos e3, if_pos (by omega)]
      · rw [if_neg e3]
        by_cases e4 : b ≤ t ∧ t < b + N
        · rw [if_pos e4, if_neg (by omega), if_pos (by omega)]
        · rw [if_neg e4, if_neg (by omega), if_neg (by omega)]

def SwrG (g n cp : Nat) (X : Nat → Nat) (a b i ai bi : Nat) (k : Nat) (y : Value) : Prop :=
  match k with
  | 0 => y = .slice (some ⟨g, 0, none⟩) n cp
  | 1 => y = .int .i64 ((a : Nat) : Int)
  | 2 => y = .int .i64 ((i : Nat) : Int)
  | 3 => y = .int .i64 ((ai : Nat) : Int)
  | 4 => y = .slice (some ⟨g, 0, none⟩) n cp
  | 5 => y = .int .i64 ((b : Nat) : Int)
  | 6 => y = .int .i64 ((i : Nat) : Int)
  | 7 => y = .int .i64 ((bi : Nat) : Int)
  | 8 => y = .slice (some ⟨g, 0, none⟩) n cp
  | 9 => y = .int .i64 ((b : Nat) : Int)
  | 10 => y = .int .i64 ((i : Nat) : Int)
  | 11 => y = .int .i64 ((bi : Nat) : Int)
  | 12 => y = .pointer (some ⟨g, bi, none⟩)
  | 13 => y = .pointer (some ⟨X bi, 0, none⟩)
  | 14 => y = .slice (some ⟨g, 0, none⟩) n cp
  | 15 => y = .int .i64 ((a : Nat) : Int)
  | 16 => y = .int .i64 ((i : Nat) : Int)
  | 17 => y = .int .i64 ((ai : Nat) : Int)
  | 18 => y = .pointer (some ⟨g, ai, none⟩)
  | 19 => y = .pointer (some ⟨X ai, 0, none⟩)
  | 20 => y = .pointer (some ⟨g, ai, none⟩)
  | 22 => y = .pointer (some ⟨g, bi, none⟩)
  | _ => True

set_option maxHeartbeats 4000000 in
set_option maxRecDepth 100000 in
theorem swaprange_any (g n cp a b N : Nat) (X : Nat → Nat) (cv : Value) (w : World) (hn : n ≤ 1000) (hab : a + N ≤ b) (hbn : b + N ≤ n) (hX : PRw w g n X) :
    Calls Tryz.prog 113 #[.slice (some ⟨g, 0, none⟩) n cp, .int .i64 a, .int .i64 b, .int .i64 N, cv] w fun e w' => e = .returned (.tuple #[]) ∧ PRw w' g n (swR a b N X) ∧ Turned (fun k => k = g) w w' := by
  obtain ⟨X0, hX0⟩ : ∃ X0, X0 = X := ⟨_, rfl⟩
  rw [← hX0] at hX
  have HX := Lib.hid hX
  clear hX
  go_enter Tryz.func113, Tryz.ntmps113
  go_wp2
  go_loopw [10] (fun x wr => ∃ i : Nat, x = .int .i64 i ∧ i ≤ N ∧ PRw wr g n (swR a b i X0) ∧ Turned (fun k => k = g) w wr) (fun x _ => N - (intOf x).toNat)
  case atStart => exact ⟨0, rfl, by omega, by rw [swR_zero]; exact HX.out, Turned.refl _ _⟩
  case round =>
    obtain ⟨i, rfl, hi, hrow, hT⟩ := hrel
    by_cases hlt : i < N
    · have hmi : (i : Int) < (N : Int) := by omega
      obtain ⟨X, hXe⟩ : ∃ X, X = swR a b i X0 := ⟨_, rfl⟩
      have hnx := swR_next a b i X0 (by omega)
      rw [← hXe] at hrow hnx
      obtain ⟨ai, hai⟩ : ∃ ai, ai = a + i := ⟨_, rfl⟩
      obtain ⟨bi, hbi⟩ : ∃ bi, bi = b + i := ⟨_, rfl⟩
      rw [← hai, ← hbi] at hnx
      have hai2 : (a : Int) + (i : Int) = (ai : Int) := by omega
      have hbi2 : (b : Int) + (i : Int) = (bi : Int) := by omega
      have hwa : IntKind.i64.wrap (ai : Int) = (ai : Int) := by rw [IntKind.wrap_i64]; omega
      have hwb : IntKind.i64.wrap (bi : Int) = (bi : Int) := by rw [IntKind.wrap_i64]; omega
      have hb1 : ai < n ∧ bi < n ∧ ai ≠ bi := by omega
      obtain ⟨hb2, hb3, hb4⟩ := hb1
      have hi1 : (ai : Int) < (n : Int) := by omega
      have hi2 : (bi : Int) < (n : Int) := by omega
      have hnb : (n : Int) ≤ 1000 := by omega
      have HNX := Lib.hid hnx
      have HT := Lib.hid hT
      clear hXe hnx hT hai hbi hX0
      go_upto_region 3 with fail
      refine wp_region_lin (ds := [16, 17, 18, 19, 20, 21, 22, 23, 24, 25, 26, 27, 28, 29, 30, 31, 32, 33, 34, 35, 36, 37]) (by kernel_rfl) (by kernel_rfl) (by kernel_rfl) (fun k => k = g) (fun k => k == 21 || k == 23)
        (SwI g n X 21 23 ai bi) (fun k _ y _ => SwrG g n cp X a b i ai bi k y) (SwI.start hrow) (fun L k w1 w2 hk hb h => SwI_keep hk hb h) (fun i L k v w1 w2 hk hb h => by exact h) ?_ ?_
      · intro l' HL'
        refine LinSteps.cons (fun f L w1 hT hI hsh hL hd K hK => ?_) ?_
        · simp only [linFill, List.foldl_cons, List.foldl_nil, Act.put, List.setIfInBounds_toArray, List.set_cons_zero, List.set_cons_succ] at hK ⊢
          go_simp
          exact hK.out _ _ hT (.inl ⟨rfl, Below.refl _ _⟩) rfl
        refine LinSteps.cons (fun f L w1 hT hI hsh hL hd K hK => ?_) ?_
        · simp only [linFill, List.foldl_cons, List.foldl_nil, Act.put, List.setIfInBounds_toArray, List.set_cons_zero, List.set_cons_succ] at hK ⊢
          go_simp
          exact hK.out _ _ hT (.inl ⟨rfl, Below.refl _ _⟩) rfl
        refine LinSteps.cons (fun f L w1 hT hI hsh hL hd K hK => ?_) ?_
        · simp only [linFill, List.foldl_cons, List.foldl_nil, Act.put, List.setIfInBounds_toArray, List.set_cons_zero, List.set_cons_succ] at hK ⊢
          go_simp
          exact hK.out _ _ hT (.inl ⟨rfl, Below.refl _ _⟩) rfl
        refine LinSteps.cons (fun f L w1 hT hI hsh hL hd K hK => ?_) ?_
        · have d1 : f 17 = .int .i64 ((a : Nat) : Int) := hd 1 17 (by rw [HL'.out]; kernel_rfl) (by rw [HL'.out]; kernel_rfl)
          have d2 : f 18 = .int .i64 ((i : Nat) : Int) := hd 2 18 (by rw [HL'.out]; kernel_rfl) (by rw [HL'.out]; kernel_rfl)
          simp only [linFill, List.foldl_cons, List.foldl_nil, Act.put, List.setIfInBounds_toArray, List.set_cons_zero, List.set_cons_succ, d1, d2] at hK ⊢
          clear d1 d2
          go_simp
          exact hK.out _ _ hT (.inl ⟨rfl, Below.refl _ _⟩) rfl
        refine LinSteps.cons (fun f L w1 hT hI hsh hL hd K hK => ?_) ?_
        · simp only [linFill, List.foldl_cons, List.foldl_nil, Act.put, List.setIfInBounds_toArray, List.set_cons_zero, List.set_cons_succ] at hK ⊢
          go_simp
          exact hK.out _ _ hT (.inl ⟨rfl, Below.refl _ _⟩) rfl
        refine LinSteps.cons (fun f L w1 hT hI hsh hL hd K hK => ?_) ?_
        · simp only [linFill, List.foldl_cons, List.foldl_nil, Act.put, List.setIfInBounds_toArray, List.set_cons_zero, List.set_cons_succ] at hK ⊢
          go_simp
          exact hK.out _ _ hT (.inl ⟨rfl, Below.refl _ _⟩) rfl
        refine LinSteps.cons (fun f L w1 hT hI hsh hL hd K hK => ?_) ?_
        · simp only [linFill, List.foldl_cons, List.foldl_nil, Act.put, List.setIfInBounds_toArray, List.set_cons_zero, List.set_cons_succ] at hK ⊢
          go_simp
          exact hK.out _ _ hT (.inl ⟨rfl, Below.refl _ _⟩) rfl
        refine LinSteps.cons (fun f L w1 hT hI hsh hL hd K hK => ?_) ?_
        · have d5 : f 21 = .int .i64 ((b : Nat) : Int) := hd 5 21 (by rw [HL'.out]; kernel_rfl) (by rw [HL'.out]; kernel_rfl)
          have d6 : f 22 = .int .i64 ((i : Nat) : Int) := hd 6 22 (by rw [HL'.out]; kernel_rfl) (by rw [HL'.out]; kernel_rfl)
          simp only [linFill, List.foldl_cons, List.foldl_nil, Act.put, List.setIfInBounds_toArray, List.set_cons_zero, List.set_cons_succ, d5, d6] at hK ⊢
          clear d5 d6
          go_simp
          exact hK.out _ _ hT (.inl ⟨rfl, Below.refl _ _⟩) rfl
        refine LinSteps.cons (fun f L w1 hT hI hsh hL hd K hK => ?_) ?_
        · simp only [linFill, List.foldl_cons, List.foldl_nil, Act.put, List.setIfInBounds_toArray, List.set_cons_zero, List.set_cons_succ] at hK ⊢
          go_simp
          exact hK.out _ _ hT (.inl ⟨rfl, Below.refl _ _⟩) rfl
        refine LinSteps.cons (fun f L w1 hT hI hsh hL hd K hK => ?_) ?_
        · simp only [linFill, List.foldl_cons, List.foldl_nil, Act.put, List.setIfInBounds_toArray, List.set_cons_zero, List.set_cons_succ] at hK ⊢
          go_simp
          exact hK.out _ _ hT (.inl ⟨rfl, Below.refl _ _⟩) rfl
        refine LinSteps.cons (fun f L w1 hT hI hsh hL hd K hK => ?_) ?_
        · simp only [linFill, List.foldl_cons, List.foldl_nil, Act.put, List.setIfInBounds_toArray, List.set_cons_zero, List.set_cons_succ] at hK ⊢
          go_simp
          exact hK.out _ _ hT (.inl ⟨rfl, Below.refl _ _⟩) rfl
        refine LinSteps.cons (fun f L w1 hT hI hsh hL hd K hK => ?_) ?_
        · have d9 : f 25 = .int .i64 ((b : Nat) : Int) := hd 9 25 (by rw [HL'.out]; kernel_rfl) (by rw [HL'.out]; kernel_rfl)
          have d10 : f 26 = .int .i64 ((i : Nat) : Int) := hd 10 26 (by rw [HL'.out]; kernel_rfl) (by rw [HL'.out]; kernel_rfl)
          simp only [linFill, List.foldl_cons, List.foldl_nil, Act.put, List.setIfInBounds_toArray, List.set_cons_zero, List.set_cons_succ, d9, d10] at hK ⊢
          clear d9 d10
          go_simp
          exact hK.out _ _ hT (.inl ⟨rfl, Below.refl _ _⟩) rfl
        refine LinSteps.cons (fun f L w1 hT hI hsh hL hd K hK => ?_) ?_
        · have d8 : f 24 = .slice (some ⟨g, 0, none⟩) n cp := hd 8 24 (by rw [HL'.out]; kernel_rfl) (by rw [HL'.out]; kernel_rfl)
          have d11 : f 27 = .int .i64 ((bi : Nat) : Int) := hd 11 27 (by rw [HL'.out]; kernel_rfl) (by rw [HL'.out]; kernel_rfl)
          simp only [linFill, List.foldl_cons, List.foldl_nil, Act.put, List.setIfInBounds_toArray, List.set_cons_zero, List.set_cons_succ, d8, d11] at hK ⊢
          clear d8 d11
          go_simp
          exact hK.out _ _ hT (.inl ⟨rfl, Below.refl _ _⟩) rfl
        refine LinSteps.cons (fun f L w1 hT hI hsh hL hd K hK => ?_) ?_
        · have d12 : f 28 = .pointer (some ⟨g, bi, none⟩) := hd 12 28 (by rw [HL'.out]; kernel_rfl) (by rw [HL'.out]; kernel_rfl)
          have hl1 : L 21 = false := hsh.late 13 hL [13] 21 (by rw [HL'.out]; kernel_rfl) rfl
          have hl2 : L 23 = false := hsh.late 13 hL [13] 23 (by rw [HL'.out]; kernel_rfl) rfl
          have kk := swI_cell hI hl1 hl2 (t := bi) (by omega)
          simp only [linFill, List.foldl_cons, List.foldl_nil, Act.put, List.setIfInBounds_toArray, List.set_cons_zero, List.set_cons_succ, d12] at hK ⊢
          clear d12
          go_simp
          exact hK.out _ _ hT (.inl ⟨rfl, Below.refl _ _⟩) rfl
        refine LinSteps.cons (fun f L w1 hT hI hsh hL hd K hK => ?_) ?_
        · simp only [linFill, List.foldl_cons, List.foldl_nil, Act.put, List.setIfInBounds_toArray, List.set_cons_zero, List.set_cons_succ] at hK ⊢
          go_simp
          exact hK.out _ _ hT (.inl ⟨rfl, Below.refl _ _⟩) rfl
        refine LinSteps.cons (fun f L w1 hT hI hsh hL hd K hK => ?_) ?_
        · simp only [linFill, List.foldl_cons, List.foldl_nil, Act.put, List.setIfInBounds_toArray, List.set_cons_zero, List.set_cons_succ] at hK ⊢
          go_simp
          exact hK.out _ _ hT (.inl ⟨rfl, Below.refl _ _⟩) rfl
        refine LinSteps.cons (fun f L w1 hT hI hsh hL hd K hK => ?_) ?_
        · simp only [linFill, List.foldl_cons, List.foldl_nil, Act.put, List.setIfInBounds_toArray, List.set_cons_zero, List.set_cons_succ] at hK ⊢
          go_simp
          exact hK.out _ _ hT (.inl ⟨rfl, Below.refl _ _⟩) rfl
        refine LinSteps.cons (fun f L w1 hT hI hsh hL hd K hK => ?_) ?_
        · have d15 : f 31 = .int .i64 ((a : Nat) : Int) := hd 15 31 (by rw [HL'.out]; kernel_rfl) (by rw [HL'.out]; kernel_rfl)
          have d16 : f 32 = .int .i64 ((i : Nat) : Int) := hd 16 32 (by rw [HL'.out]; kernel_rfl) (by rw [HL'.out]; kernel_rfl)
          simp only [linFill, List.foldl_cons, List.foldl_nil, Act.put, List.setIfInBounds_toArray, List.set_cons_zero, List.set_cons_succ, d15, d16] at hK ⊢
          clear d15 d16
          go_simp
          exact hK.out _ _ hT (.inl ⟨rfl, Below.refl _ _⟩) rfl
        refine LinSteps.cons (fun f L w1 hT hI hsh hL hd K hK => ?_) ?_
        · have d14 : f 30 = .slice (some ⟨g, 0, none⟩) n cp := hd 14 30 (by rw [HL'.out]; kernel_rfl) (by rw [HL'.out]; kernel_rfl)
          have d17 : f 33 = .int .i64 ((ai : Nat) : Int) := hd 17 33 (by rw [HL'.out]; kernel_rfl) (by rw [HL'.out]; kernel_rfl)
          simp only [linFill, List.foldl_cons, List.foldl_nil, Act.put, List.setIfInBounds_toArray, List.set_cons_zero, List.set_cons_succ, d14, d17] at hK ⊢
          clear d14 d17
          go_simp
          exact hK.out _ _ hT (.inl ⟨rfl, Below.refl _ _⟩) rfl
        refine LinSteps.cons (fun f L w1 hT hI hsh hL hd K hK => ?_) ?_
        · have d18 : f 34 = .pointer (some ⟨g, ai, none⟩) := hd 18 34 (by rw [HL'.out]; kernel_rfl) (by rw [HL'.out]; kernel_rfl)
          have hl1 : L 21 = false := hsh.late 19 hL [19] 21 (by rw [HL'.out]; kernel_rfl) rfl
          have hl2 : L 23 = false := hsh.late 19 hL [19] 23 (by rw [HL'.out]; kernel_rfl) rfl
          have kk := swI_cell hI hl1 hl2 (t := ai) (by omega)
          simp only [linFill, List.foldl_cons, List.foldl_nil, Act.put, List.setIfInBounds_toArray, List.set_cons_zero, List.set_cons_succ, d18] at hK ⊢
          clear d18
          go_simp
          exact hK.out _ _ hT (.inl ⟨rfl, Below.refl _ _⟩) rfl
        refine LinSteps.cons (fun f L w1 hT hI hsh hL hd K hK => ?_) ?_
        · have d0 : f 16 = .slice (some ⟨g, 0, none⟩) n cp := hd 0 16 (by rw [HL'.out]; kernel_rfl) (by rw [HL'.out]; kernel_rfl)
          have d3 : f 19 = .int .i64 ((ai : Nat) : Int) := hd 3 19 (by rw [HL'.out]; kernel_rfl) (by rw [HL'.out]; kernel_rfl)
          simp only [linFill, List.foldl_cons, List.foldl_nil, Act.put, List.setIfInBounds_toArray, List.set_cons_zero, List.set_cons_succ, d0, d3] at hK ⊢
          clear d0 d3
          go_simp
          exact hK.out _ _ hT (.inl ⟨rfl, Below.refl _ _⟩) rfl
        refine LinSteps.cons (fun f L w1 hT hI hsh hL hd K hK => ?_) ?_
        · have d20 : f 36 = .pointer (some ⟨g, ai, none⟩) := hd 20 36 (by rw [HL'.out]; kernel_rfl) (by rw [HL'.out]; kernel_rfl)
          have d13 : f 29 = .pointer (some ⟨X bi, 0, none⟩) := hd 13 29 (by rw [HL'.out]; kernel_rfl) (by rw [HL'.out]; kernel_rfl)
          have ff := swI_frz hI (t := ai) (by omega)
          have kk := swI_val hI (t := ai) (by omega)
          simp only [linFill, List.foldl_cons, List.foldl_nil, Act.put, List.setIfInBounds_toArray, List.set_cons_zero, List.set_cons_succ, d20, d13] at hK ⊢
          clear d20 d13
          go_simp
          exact hK.out undef _ (hT.put_ (.inl rfl) _ _) (.inr ⟨swI_one hI (by omega) (by omega) (by omega), fun j d _ _ h => h⟩) trivial
        refine LinSteps.cons (fun f L w1 hT hI hsh hL hd K hK => ?_) ?_
        · have d4 : f 20 = .slice (some ⟨g, 0, none⟩) n cp := hd 4 20 (by rw [HL'.out]; kernel_rfl) (by rw [HL'.out]; kernel_rfl)
          have d7 : f 23 = .int .i64 ((bi : Nat) : Int) := hd 7 23 (by rw [HL'.out]; kernel_rfl) (by rw [HL'.out]; kernel_rfl)
          simp only [linFill, List.foldl_cons, List.foldl_nil, Act.put, List.setIfInBounds_toArray, List.set_cons_zero, List.set_cons_succ, d4, d7] at hK ⊢
          clear d4 d7
          go_simp
          exact hK.out _ _ hT (.inl ⟨rfl, Below.refl _ _⟩) rfl
        refine LinSteps.cons (fun f L w1 hT hI hsh hL hd K hK => ?_) ?_
        · have d22 : f 37 = .pointer (some ⟨g, bi, none⟩) := hd 22 37 (by rw [HL'.out]; kernel_rfl) (by rw [HL'.out]; kernel_rfl)
          have d19 : f 35 = .pointer (some ⟨X ai, 0, none⟩) := hd 19 35 (by rw [HL'.out]; kernel_rfl) (by rw [HL'.out]; kernel_rfl)
          have ff := swI_frz hI (t := bi) (by omega)
          have kk := swI_val hI (t := bi) (by omega)
          simp only [linFill, List.foldl_cons, List.foldl_nil, Act.put, List.setIfInBounds_toArray, List.set_cons_zero, List.set_cons_succ, d22, d19] at hK ⊢
          clear d22 d19
          go_simp
          exact hK.out undef _ (hT.put_ (.inl rfl) _ _) (.inr ⟨swI_two hI (by omega) (by omega) (by omega), fun j d _ _ h => h⟩) trivial
        exact LinSteps.nil
      · intro l' HL' f9 L9 w4 hT9 hI9 hall9 hf9
        have hrow4 := swI_fin hI9 (hall9 21 (by decide)) (hall9 23 (by decide))
        clear hf9 hall9 hI9
        simp only [linFill, List.foldl_cons, List.foldl_nil, List.setIfInBounds_toArray, List.set_cons_zero, List.set_cons_succ]
        go_wp2
        go_roundw
        case rel => exact ⟨i + 1, by go_num, by omega, by rw [← HNX.out]; exact hrow4, HT.out.trans ⟨hT9.os, hT9.tape, hT9.output, hT9.size, hT9.block⟩⟩
        case measure => simp [intOf]; omega
    · have hmi : ¬ (i : Int) < (N : Int) := by omega
      obtain rfl : i = N := by omega
      go_wp2
      go_end0
      exact ⟨rfl, by rw [← hX0]; exact hrow, hT⟩
end Go.Proofs.YtpinpnbhbngclaaGreat

/- Rows of pointers: two neighbouring ranges change their places. -/
namespace Go.Proofs.YtpinpnbhbngclaaGreat
open Go.RowKit

/-- [a, m) and [m, b) change their places -/
def rotF (a m b : Nat) (X : Nat → Nat) : Nat → Nat := fun t => if a ≤ t ∧ t < a + (b - m) then X (t - a + m) else if a + (b - m) ≤ t ∧ t < b then X (t - (a + (b - m)) + a) else X t
theorem rot_more (m i j : Nat) (X : Nat → Nat) (hi : i ≤ m) (hij : j < i) : rotF (m - i + j) m (m + j) (swR (m - i) m j X) = rotF (m - i) m (m + j) X := by
  funext t
  unfold rotF swR
  repeat' split
  all_goals first | (exfalso; omega) | rfl | (congr 1; omega)
theorem rot_less (m i j : Nat) (X : Nat → Nat) (hi : i ≤ m) (hij : i < j) : rotF (m - i) m (m + j - i) (swR (m - i) (m + j - i) i X) = rotF (m - i) m (m + j) X := by
  funext t
  unfold rotF swR
  repeat' split
  all_goals first | (exfalso; omega) | rfl | (congr 1; omega)
theorem rot_same (m i : Nat) (X : Nat → Nat) (hi : i ≤ m) : swR (m - i) m i X = rotF (m - i) m (m + i) X := by
  funext t
  unfold rotF swR
  repeat' split
  all_goals first | (exfalso; omega) | rfl | (congr 1; omega)

set_option maxHeartbeats 2000000 in
set_option maxRecDepth 100000 in
theorem rotate_any (g n cp a m b : Nat) (X : Nat → Nat) (cv : Value) (w : World) (hn : n ≤ 1000) (ham : a < m) (hmb : m < b) (hbn : b ≤ n) (hX : PRw w g n X) :
    Calls Tryz.prog 111 #[.slice (some ⟨g, 0, none⟩) n cp, .int .i64 a, .int .i64 m, .int .i64 b, cv] w fun e w' => e = .returned (.tuple #[]) ∧ PRw w' g n (rotF a m b X) ∧ Turned (fun k => k = g) w w' := by
  have HX := Lib.hid hX
  clear hX
  obtain ⟨i0, hi0⟩ : ∃ i0, i0 = m - a := ⟨_, rfl⟩
  obtain ⟨j0, hj0⟩ : ∃ j0, j0 = b - m := ⟨_, rfl⟩
  have e1 : (m : Int) - (a : Int) = (i0 : Int) := by omega
  have e2 : (b : Int) - (m : Int) = (j0 : Int) := by omega
  have hs : rotF (m - i0) m (m + j0) X = rotF a m b X := by rw [hi0, hj0, show m - (m - a) = a by omega, show m + (b - m) = b by omega]
  go_enter Tryz.func111, Tryz.ntmps111
  go_wp2
  go_loopw [10, 11] (fun x y wr => ∃ (i j : Nat) (Y : Nat → Nat), x = .int .i64 i ∧ y = .int .i64 j ∧ 1 ≤ i ∧ 1 ≤ j ∧ i ≤ m ∧ m + j ≤ n ∧ rotF (m - i) m (m + j) Y = rotF a m b X ∧ PRw wr g n Y ∧ Turned (fun k => k = g) w wr) (fun x y _ => (intOf x).toNat + (intOf y).toNat)
  case atStart => exact ⟨i0, j0, X, by go_num, by go_num, by omega, by omega, by omega, by omega, hs, HX.out, Turned.refl _ _⟩
  case round =>
    obtain ⟨i, j, Y, rfl, rfl, hi1, hj1, him, hjn, hrot, hrow, hT⟩ := hrel
    obtain ⟨mi, hmi⟩ : ∃ mi, mi = m - i := ⟨_, rfl⟩
    have hmi2 : (m : Int) - (i : Int) = (mi : Int) := by omega
    have HROT := Lib.hid hrot
    have HROW := Lib.hid hrow
    have HT := Lib.hid hT
    have HMI := Lib.hid hmi
    clear hrot hrow hT hs e1 e2 hi0 hj0 hmi
    rcases Nat.lt_trichotomy i j with hlt | hlt | hlt
    · have hne : decide ((i : Int) = (j : Int)) = false := decide_eq_false (by omega)
      have hne2 : ((i : Int) == (j : Int)) = false := by simp; omega
      have hgt : decide ((j : Int) < (i : Int)) = false := decide_eq_false (by omega)
      obtain ⟨mj, hmj⟩ : ∃ mj, mj = m + j - i := ⟨_, rfl⟩
      obtain ⟨sj, hsj⟩ : ∃ sj, sj = m + j := ⟨_, rfl⟩
      obtain ⟨dj, hdj⟩ : ∃ dj, dj = j - i := ⟨_, rfl⟩
      have hsj2 : (m : Int) + (j : Int) = (sj : Int) := by omega
      have hmj2 : (sj : Int) - (i : Int) = (mj : Int) := by omega
      have hdj2 : (j : Int) - (i : Int) = (dj : Int) := by omega
      have hsw := fun W hW => swaprange_any g n cp mi mj i Y cv W hn (by omega) (by omega) hW
      have HSW := Lib.hid (hsw _ HROW.out)
      have HR : Hid (rotF (m - i) m (m + dj) (swR mi mj i Y) = rotF a m b X) := Lib.hid (by
        rw [← HROT.out, ← rot_less m i j Y him hlt, HMI.out, hmj, hdj, Nat.add_sub_assoc (by omega)])
      have hb : m + dj ≤ n ∧ 1 ≤ dj ∧ dj < j := by omega
      have HIM := Lib.hid him
      clear hsw hmj hsj hdj him
      go_wp2_with fail
      refine HSW.out.mono ?_
      intro e w2 h
      have he := h.1
      have hr2 := h.2.1
      have hT2 := h.2.2
      clear h
      subst he
      have HR2 := Lib.hid (And.intro hr2 (HT.out.trans hT2))
      clear hr2 hT2 HSW
      go_wp2
      go_roundw
      case rel => exact ⟨i, dj, _, rfl, by go_num, hi1, hb.2.1, HIM.out, hb.1, HR.out, HR2.out.1, HR2.out.2⟩
      case measure => simp [intOf]; omega
    · subst hlt
      have hne : decide ((i : Int) = (i : Int)) = true := by simp
      have HSW := Lib.hid (swaprange_any g n cp mi m i Y cv _ hn (by omega) (by omega) HROW.out)
      have HIM := Lib.hid him
      clear him
      go_wp2_with fail
      refine HSW.out.mono ?_
      rintro e w2 ⟨rfl, hr2, hT2⟩
      go_wp2
      go_end0
      exact ⟨rfl, by rw [← HROT.out, ← rot_same m i Y HIM.out, ← HMI.out]; exact hr2, HT.out.trans hT2⟩
    · have hne : decide ((i : Int) = (j : Int)) = false := decide_eq_false (by omega)
      have hne2 : ((i : Int) == (j : Int)) = false := by simp; omega
      have hgt : decide ((j : Int) < (i : Int)) = true := decide_eq_true (by omega)
      obtain ⟨di, hdi⟩ : ∃ di, di = i - j := ⟨_, rfl⟩
      have hdi2 : (i : Int) - (j : Int) = (di : Int) := by omega
      have HSW := Lib.hid (swaprange_any g n cp mi m j Y cv _ hn (by omega) (by omega) HROW.out)
      have HR : Hid (rotF (m - di) m (m + j) (swR mi m j Y) = rotF a m b X) := Lib.hid (by
        rw [← HROT.out, ← rot_more m i j Y him hlt, HMI.out, hdi, show m - (i - j) = m - i + j by omega])
      have hb : 1 ≤ di ∧ di ≤ m ∧ di < i := by omega
      clear hdi him
      go_wp2_with fail
      refine HSW.out.mono ?_
      intro e w2 h
      have he := h.1
      have hr2 := h.2.1
      have hT2 := h.2.2
      clear h
      subst he
      have HR2 := Lib.hid (And.intro hr2 (HT.out.trans hT2))
      clear hr2 hT2 HSW
      go_wp2
      go_roundw
      case rel => exact ⟨di, j, _, by go_num, rfl, hb.1, hj1, hb.2.1, hjn, HR.out, HR2.out.1, HR2.out.2⟩
      case measure => simp [intOf]; omega
end Go.Proofs.YtpinpnbhbngclaaGreat

/- Rows of pointers: the insertion sort. -/
namespace Go.Proofs.YtpinpnbhbngclaaGreat
open Go.RowKit

/-- swaps within [a, b) -/
inductive Sws (a b : Nat) : (Nat → Nat) → (Nat → Nat) → Prop
  | refl (X : Nat → Nat) : Sws a b X X
  | step {X Y : Nat → Nat} {i j : Nat} : Sws a b X Y → a ≤ i → i < b → a ≤ j → j < b → i ≠ j → Sws a b X (swp Y i j)
theorem Sws.trans {a b : Nat} {X Y Z : Nat → Nat} (h : Sws a b X Y) (k : Sws a b Y Z) : Sws a b X Z := by
  induction k with
  | refl => exact h
  | step _ h1 h2 h3 h4 h5 ih => exact ih.step h1 h2 h3 h4 h5
theorem Sws.mono {a b a' b' : Nat} {X Y : Nat → Nat} (h : Sws a b X Y) (ha : a' ≤ a) (hb : b ≤ b') : Sws a' b' X Y := by
  induction h with
  | refl => exact .refl _
  | step _ h1 h2 h3 h4 h5 ih => exact ih.step (by omega) (by omega) (by omega) (by omega) h5
theorem Sws.out_ {a b : Nat} {X Y : Nat → Nat} (h : Sws a b X Y) {t : Nat} (ht : t < a ∨ b ≤ t) : Y t = X t := by
  induction h with
  | refl => rfl
  | step _ h1 h2 h3 h4 h5 ih =>
    unfold swp
    rw [if_neg (by omega), if_neg (by omega)]
    exact ih
theorem Sws.mem {a b : Nat} {X Y : Nat → Nat} (h : Sws a b X Y) : ∀ t, a ≤ t → t < b → ∃ s, a ≤ s ∧ s < b ∧ Y t = X s := by
  induction h with
  | refl => exact fun t h1 h2 => ⟨t, h1, h2, rfl⟩
  | step _ h1 h2 h3 h4 h5 ih =>
    intro t ht1 ht2
    unfold swp
    split
    · exact ih _ h3 h4
    · split
      · exact ih _ h1 h2
      · exact ih t ht1 ht2
theorem Sws.all {a b n : Nat} {X Y : Nat → Nat} (h : Sws a b X Y) (hb : b ≤ n) (D : Nat → Prop) (hD : ∀ t, t < n → D (X t)) : ∀ t, t < n → D (Y t) := by
  intro t ht
  by_cases e : a ≤ t ∧ t < b
  · obtain ⟨s, _, hs, he⟩ := h.mem t e.1 e.2
    rw [he]; exact hD s (by omega)
  · rw [h.out_ (by omega)]; exact hD t ht
def SrtOn (key : Nat → Int) (X : Nat → Nat) (a b : Nat) : Prop := ∀ i j, a ≤ i → i ≤ j → j < b → key (X i) ≤ key (X j)
/-- sorted but for place j, which is less than all behind it, up to i -/
def SrtBut (key : Nat → Int) (X : Nat → Nat) (a i j : Nat) : Prop := (∀ s t, a ≤ s → s ≤ t → t ≤ i → s ≠ j → t ≠ j → key (X s) ≤ key (X t)) ∧ ∀ t, j < t → t ≤ i → key (X j) < key (X t)
theorem srt_but {key : Nat → Int} {X : Nat → Nat} {a i : Nat} (h : SrtOn key X a i) : SrtBut key X a i i := ⟨fun s t h1 h2 h3 h4 h5 => h s t h1 h2 (by omega), fun t h1 h2 => by omega⟩
theorem but_srt {key : Nat → Int} {X : Nat → Nat} {a i j : Nat} (h : SrtBut key X a i j) (hj : j = a ∨ ¬ key (X j) < key (X (j - 1))) (haj : a ≤ j) : SrtOn key X a (i + 1) := by
  intro s t h1 h2 h3
  by_cases hs : s = j
  · subst hs
    by_cases ht : t = s
    · subst ht; omega
    · have := h.2 t (by omega) (by omega); omega
  · by_cases ht : t = j
    · subst ht
      rcases hj with e | e
      · omega
      · by_cases hs2 : s = t - 1
        · subst hs2; omega
        · have := h.1 s (t - 1) h1 (by omega) (by omega) hs (by omega)
          omega
    · exact h.1 s t h1 h2 (by omega) hs ht
theorem but_step {key : Nat → Int} {X : Nat → Nat} {a i j : Nat} (h : SrtBut key X a i j) (haj : a < j) (hji : j ≤ i) (hlt : key (X j) < key (X (j - 1))) : SrtBut key (swp X j (j - 1)) a i (j - 1) := by
  have ej : swp X j (j - 1) j = X (j - 1) := by unfold swp; rw [if_pos rfl]
  have em : swp X j (j - 1) (j - 1) = X j := by unfold swp; rw [if_neg (by omega), if_pos rfl]
  have eo : ∀ t, t ≠ j → t ≠ j - 1 → swp X j (j - 1) t = X t := fun t h1 h2 => by unfold swp; rw [if_neg h1, if_neg h2]
  refine ⟨fun s t h1 h2 h3 h4 h5 => ?_, fun t h1 h2 => ?_⟩
  · by_cases hs : s = j
    · subst hs
      by_cases ht : t = s
      · subst ht; omega
      · rw [ej, eo t ht h5]
        exact h.1 _ t (by omega) (by omega) h3 (by omega) ht
    · by_cases ht : t = j
      · subst ht
        rw [ej, eo s hs h4]
        exact h.1 s _ h1 (by omega) (by omega) hs (by omega)
      · rw [eo s hs h4, eo t ht h5]
        exact h.1 s t h1 h2 h3 hs ht
  · rw [em]
    by_cases ht : t = j
    · subst ht; rw [ej]; exact hlt
    · rw [eo t ht (by omega)]
      exact h.2 t (by omega) h2

theorem keepCs {V X w1 : World} {p1 p2 : Addr} {v1 v2 : Value} (hb : Below X.heap.size X w1) (h : X.cell? p1 = some v1 ∧ X.cell? p2 = some v2 ∧ Below V.heap.size V X) : w1.cell? p1 = some v1 ∧ w1.cell? p2 = some v2 ∧ Below V.heap.size V w1 :=
  ⟨(hb.cell (World.block_lt_of_cell? X _ h.1)).trans h.1, (hb.cell (World.block_lt_of_cell? X _ h.2.1)).trans h.2.1, h.2.2.trans (hb.mono h.2.2.size)⟩
theorem keepDs {V : World} {p1 p2 : Addr} {v1 v2 : Value} (h1 : V.cell? p1 = some v1) (h2 : V.cell? p2 = some v2) : V.drew.cell? p1 = some v1 ∧ V.drew.cell? p2 = some v2 ∧ Below V.heap.size V V.drew := ⟨h1, h2, (Below.refl _ _).drew⟩
theorem keepDd {V X : World} {p1 p2 : Addr} {v1 v2 : Value} (h : X.cell? p1 = some v1 ∧ X.cell? p2 = some v2 ∧ Below V.heap.size V X) : X.drew.cell? p1 = some v1 ∧ X.drew.cell? p2 = some v2 ∧ Below V.heap.size V X.drew := ⟨h.1, h.2.1, h.2.2.drew⟩
/-- what is asked of a comparing: F, at the pointers of D, tells whose key is less -/
def CmpIs (F : Nat) (D : Nat → Prop) (key : Nat → Int) (g : Nat) (w : World) : Prop := ∀ W, Turned (fun k => k = g) w W → ∀ x y, D x → D y → Calls Tryz.prog F #[.pointer (some ⟨x, 0, none⟩), .pointer (some ⟨y, 0, none⟩)] W fun e w' => (∃ z : Int, e = .returned (.int .i64 z) ∧ (z < 0 ↔ key x < key y)) ∧ Below W.heap.size W w'

def InsG (g n cp : Nat) (X : Nat → Nat) (j jm : Nat) (k : Nat) (y : Value) : Prop :=
  match k with
  | 0 => y = .slice (some ⟨g, 0, none⟩) n cp
  | 1 => y = .int .i64 ((j : Nat) : Int)
  | 2 => y = .slice (some ⟨g, 0, none⟩) n cp
  | 3 => y = .int .i64 ((j : Nat) : Int)
  | 4 => y = .int .i64 ((jm : Nat) : Int)
  | 5 => y = .slice (some ⟨g, 0, none⟩) n cp
  | 6 => y = .int .i64 ((j : Nat) : Int)
  | 7 => y = .int .i64 ((jm : Nat) : Int)
  | 8 => y = .pointer (some ⟨g, jm, none⟩)
  | 9 => y = .pointer (some ⟨X jm, 0, none⟩)
  | 10 => y = .slice (some ⟨g, 0, none⟩) n cp
  | 11 => y = .int .i64 ((j : Nat) : Int)
  | 12 => y = .pointer (some ⟨g, j, none⟩)
  | 13 => y = .pointer (some ⟨X j, 0, none⟩)
  | 14 => y = .pointer (some ⟨g, j, none⟩)
  | 16 => y = .pointer (some ⟨g, jm, none⟩)
  | _ => True

set_option maxHeartbeats 4000000 in
set_option maxRecDepth 100000 in
theorem insertion_any (F g n cp a b : Nat) (X0 : Nat → Nat) (D : Nat → Prop) (key : Nat → Int) (w : World) (eg : ∀ args w, (callFunc F args).run Tryz.prog w = .ok (.enter F args) w) (hc : CmpIs F D key g w) (hn : n ≤ 1000) (hab : a ≤ b) (hbn : b ≤ n) (hD : ∀ t, t < n → D (X0 t)) (hX : PRw w g n X0) :
    Calls Tryz.prog 103 #[.slice (some ⟨g, 0, none⟩) n cp, .int .i64 a, .int .i64 b, .func (.func F) #[] #[]] w fun e w' => e = .returned (.tuple #[]) ∧ (∃ Y, PRw w' g n Y ∧ Sws a b X0 Y ∧ SrtOn key Y a b) ∧ Turned (fun k => k = g) w w' := by
  have HX := Lib.hid hX
  have HC := Lib.hid hc
  have HD := Lib.hid hD
  clear hX hc hD
  go_enter Tryz.func103, Tryz.ntmps103
  go_wp2
  go_loopw [8] (fun x wr => ∃ (i : Nat) (Y : Nat → Nat), x = .int .i64 i ∧ a + 1 ≤ i ∧ i ≤ n + 1 ∧ (i ≤ b ∨ i = a + 1) ∧ PRw wr g n Y ∧ Sws a b X0 Y ∧ SrtOn key Y a i ∧ Turned (fun k => k = g) w wr) (fun x _ => n + 1 - (intOf x).toNat)
  case atStart => exact ⟨a + 1, X0, by go_num, by omega, by omega, .inr rfl, HX.out, .refl _, (by intro i j h1 h2 h3; have e : i = j := (by omega); subst e; exact Int.le_refl _), Turned.refl _ _⟩
  case round =>
    obtain ⟨i, Y, rfl, hi1, hi2, hi3, hrow, hsw, hso, hT⟩ := hrel
    by_cases hlt : i < b
    · have hmi : (i : Int) < (b : Int) := by omega
      have HROW := Lib.hid hrow
      have HSW := Lib.hid hsw
      have HSO := Lib.hid hso
      have HT := Lib.hid hT
      clear hrow hsw hso hT
      go_wp2
      go_loopw [9] (fun x wr2 => ∃ (j : Nat) (X : Nat → Nat), x = .int .i64 j ∧ a ≤ j ∧ j ≤ i ∧ PRw wr2 g n X ∧ Sws a b X0 X ∧ SrtBut key X a i j ∧ Turned (fun k => k = g) w wr2) (fun x _ => (intOf x).toNat)
      case atStart => exact ⟨i, Y, rfl, by omega, by omega, HROW.out, HSW.out, srt_but HSO.out, HT.out⟩
      case round =>
        obtain ⟨j, X, rfl, haj, hji, hrow2, hsw2, hbut, hT2⟩ := hrel
        by_cases hja : a < j
        · have hgt : decide ((a : Int) < (j : Int)) = true := decide_eq_true (by omega)
          obtain ⟨jm, hjm⟩ : ∃ jm, jm = j - 1 := ⟨_, rfl⟩
          have hjm2 : (j : Int) - 1 = (jm : Int) := by omega
          have hb1 : j < n ∧ jm < n ∧ j ≠ jm := by omega
          obtain ⟨hjn, hjmn, hjj⟩ := hb1
          have hjnI : (j : Int) < (n : Int) := by omega
          have hjmI : (jm : Int) < (n : Int) := by omega
          have hnb : (n : Int) ≤ 1000 := by omega
          have hwj : IntKind.i64.wrap (jm : Int) = (jm : Int) := by rw [IntKind.wrap_i64]; omega
          have hDX := hsw2.all hbn D HD.out
          have c1 := (hrow2.2 j hjn).1
          have c2 := (hrow2.2 jm hjmn).1
          have hcall : ∀ W, (W.cell? ⟨g, j, none⟩ = some (.pointer (some ⟨X j, 0, none⟩)) ∧ W.cell? ⟨g, jm, none⟩ = some (.pointer (some ⟨X jm, 0, none⟩)) ∧ Below wr.heap.size wr W) → Calls Tryz.prog F #[.pointer (some ⟨X j, 0, none⟩), .pointer (some ⟨X jm, 0, none⟩)] W fun e w' => (∃ z : Int, e = .returned (.int .i64 z) ∧ (z < 0 ↔ key (X j) < key (X jm))) ∧ Below W.heap.size W w' :=
            fun W hW => HC.out W (hT2.on hW.2.2) (X j) (X jm) (hDX j hjn) (hDX jm hjmn)
          have HBUT := Lib.hid hbut
          have HSW2 := Lib.hid hsw2
          have HT2 := Lib.hid hT2
          have HROW2 := Lib.hid hrow2
          have HJM := Lib.hid hjm
          have HDX := Lib.hid hDX
          clear hbut hsw2 hT2 hrow2 hjm hDX
          go_upto_region 4 with fail
          go_region_held3 (fun w' => w'.cell? ⟨g, j, none⟩ = some (.pointer (some ⟨X j, 0, none⟩)) ∧ w'.cell? ⟨g, jm, none⟩ = some (.pointer (some ⟨X jm, 0, none⟩)) ∧ Below wr.heap.size wr w')
            ((first | (exact keepCs hb (by assumption)) | (exact keepDs (by assumption) (by assumption)) | (exact keepDd (by assumption))))
            (first | ((with_reducible refine (hcall _ (by assumption)).mono ?_); rintro e u1 ⟨⟨z, rfl, hzi⟩, hb⟩; have hz := Lib.hid hzi; obtain ⟨cb, hcb⟩ : ∃ cb, decide (z < 0) = cb := ⟨_, rfl⟩; clear hzi; have hk := Lib.hid (keepCs hb (by assumption)).2.2))
          have HROW3 := Lib.hid (HROW2.out.below hk.out)
          have HT3 := Lib.hid (HT2.out.on hk.out)
          clear hcall c1 c2 hgt
          cases cb with
          | true =>
            have hz0 : z < 0 := of_decide_eq_true hcb
            have hst := but_step HBUT.out hja hji (by rw [← HJM.out]; exact hz.out.1 hz0)
            have hsw3 := HSW2.out.step (i := j) (j := j - 1) haj (by omega) (by omega) (by omega) (by omega)
            rw [← HJM.out] at hst hsw3
            have HR := Lib.hid (And.intro hsw3 hst)
            have hrow2 := HROW3.out
            clear hst hsw3 hz hz0 hcb
            go_upto_region 6 with fail
            refine wp_region_lin (ds := [37, 38, 39, 40, 41, 42, 43, 44, 45, 46, 47, 48, 49, 50, 51, 52]) (by kernel_rfl) (by kernel_rfl) (by kernel_rfl) (fun k => k = g) (fun k => k == 15 || k == 17)
              (SwI g n X 15 17 j jm) (fun k _ y _ => InsG g n cp X j jm k y) (SwI.start hrow2) (fun L k w1 w2 hk hb h => SwI_keep hk hb h) (fun i L k v w1 w2 hk hb h => by exact h) ?_ ?_
            · intro l' HL'
              refine LinSteps.cons (fun f L w1 hT hI hsh hL hd K hK => ?_) ?_
              · simp only [linFill, List.foldl_cons, List.foldl_nil, Act.put, List.setIfInBounds_toArray, List.set_cons_zero, List.set_cons_succ] at hK ⊢
                go_simp
                exact hK.out _ _ hT (.inl ⟨rfl, Below.refl _ _⟩) rfl
              refine LinSteps.cons (fun f L w1 hT hI hsh hL hd K hK => ?_) ?_
              · simp only [linFill, List.foldl_cons, List.foldl_nil, Act.put, List.setIfInBounds_toArray, List.set_cons_zero, List.set_cons_succ] at hK ⊢
                go_simp
                exact hK.out _ _ hT (.inl ⟨rfl, Below.refl _ _⟩) rfl
              refine LinSteps.cons (fun f L w1 hT hI hsh hL hd K hK => ?_) ?_
              · simp only [linFill, List.foldl_cons, List.foldl_nil, Act.put, List.setIfInBounds_toArray, List.set_cons_zero, List.set_cons_succ] at hK ⊢
                go_simp
                exact hK.out _ _ hT (.inl ⟨rfl, Below.refl _ _⟩) rfl
              refine LinSteps.cons (fun f L w1 hT hI hsh hL hd K hK => ?_) ?_
              · simp only [linFill, List.foldl_cons, List.foldl_nil, Act.put, List.setIfInBounds_toArray, List.set_cons_zero, List.set_cons_succ] at hK ⊢
                go_simp
                exact hK.out _ _ hT (.inl ⟨rfl, Below.refl _ _⟩) rfl
              refine LinSteps.cons (fun f L w1 hT hI hsh hL hd K hK => ?_) ?_
              · have d3 : f 40 = .int .i64 ((j : Nat) : Int) := hd 3 40 (by rw [HL'.out]; kernel_rfl) (by rw [HL'.out]; kernel_rfl)
                simp only [linFill, List.foldl_cons, List.foldl_nil, Act.put, List.setIfInBounds_toArray, List.set_cons_zero, List.set_cons_succ, d3] at hK ⊢
                clear d3
                go_simp
                exact hK.out _ _ hT (.inl ⟨rfl, Below.refl _ _⟩) rfl
              refine LinSteps.cons (fun f L w1 hT hI hsh hL hd K hK => ?_) ?_
              · simp only [linFill, List.foldl_cons, List.foldl_nil, Act.put, List.setIfInBounds_toArray, List.set_cons_zero, List.set_cons_succ] at hK ⊢
                go_simp
                exact hK.out _ _ hT (.inl ⟨rfl, Below.refl _ _⟩) rfl
              refine LinSteps.cons (fun f L w1 hT hI hsh hL hd K hK => ?_) ?_
              · simp only [linFill, List.foldl_cons, List.foldl_nil, Act.put, List.setIfInBounds_toArray, List.set_cons_zero, List.set_cons_succ] at hK ⊢
                go_simp
                exact hK.out _ _ hT (.inl ⟨rfl, Below.refl _ _⟩) rfl
              refine LinSteps.cons (fun f L w1 hT hI hsh hL hd K hK => ?_) ?_
              · have d6 : f 43 = .int .i64 ((j : Nat) : Int) := hd 6 43 (by rw [HL'.out]; kernel_rfl) (by rw [HL'.out]; kernel_rfl)
                simp only [linFill, List.foldl_cons, List.foldl_nil, Act.put, List.setIfInBounds_toArray, List.set_cons_zero, List.set_cons_succ, d6] at hK ⊢
                clear d6
                go_simp
                exact hK.out _ _ hT (.inl ⟨rfl, Below.refl _ _⟩) rfl
              refine LinSteps.cons (fun f L w1 hT hI hsh hL hd K hK => ?_) ?_
              · have d5 : f 42 = .slice (some ⟨g, 0, none⟩) n cp := hd 5 42 (by rw [HL'.out]; kernel_rfl) (by rw [HL'.out]; kernel_rfl)
                have d7 : f 44 = .int .i64 ((jm : Nat) : Int) := hd 7 44 (by rw [HL'.out]; kernel_rfl) (by rw [HL'.out]; kernel_rfl)
                simp only [linFill, List.foldl_cons, List.foldl_nil, Act.put, List.setIfInBounds_toArray, List.set_cons_zero, List.set_cons_succ, d5, d7] at hK ⊢
                clear d5 d7
                go_simp
                exact hK.out _ _ hT (.inl ⟨rfl, Below.refl _ _⟩) rfl
              refine LinSteps.cons (fun f L w1 hT hI hsh hL hd K hK => ?_) ?_
              · have d8 : f 45 = .pointer (some ⟨g, jm, none⟩) := hd 8 45 (by rw [HL'.out]; kernel_rfl) (by rw [HL'.out]; kernel_rfl)
                have hl1 : L 15 = false := hsh.late 9 hL [9] 15 (by rw [HL'.out]; kernel_rfl) rfl
                have hl2 : L 17 = false := hsh.late 9 hL [9] 17 (by rw [HL'.out]; kernel_rfl) rfl
                have kk := swI_cell hI hl1 hl2 (t := jm) (by omega)
                simp only [linFill, List.foldl_cons, List.foldl_nil, Act.put, List.setIfInBounds_toArray, List.set_cons_zero, List.set_cons_succ, d8] at hK ⊢
                clear d8
                go_simp
                exact hK.out _ _ hT (.inl ⟨rfl, Below.refl _ _⟩) rfl
              refine LinSteps.cons (fun f L w1 hT hI hsh hL hd K hK => ?_) ?_
              · simp only [linFill, List.foldl_cons, List.foldl_nil, Act.put, List.setIfInBounds_toArray, List.set_cons_zero, List.set_cons_succ] at hK ⊢
                go_simp
                exact hK.out _ _ hT (.inl ⟨rfl, Below.refl _ _⟩) rfl
              refine LinSteps.cons (fun f L w1 hT hI hsh hL hd K hK => ?_) ?_
              · simp only [linFill, List.foldl_cons, List.foldl_nil, Act.put, List.setIfInBounds_toArray, List.set_cons_zero, List.set_cons_succ] at hK ⊢
                go_simp
                exact hK.out _ _ hT (.inl ⟨rfl, Below.refl _ _⟩) rfl
              refine LinSteps.cons (fun f L w1 hT hI hsh hL hd K hK => ?_) ?_
              · have d10 : f 47 = .slice (some ⟨g, 0, none⟩) n cp := hd 10 47 (by rw [HL'.out]; kernel_rfl) (by rw [HL'.out]; kernel_rfl)
                have d11 : f 48 = .int .i64 ((j : Nat) : Int) := hd 11 48 (by rw [HL'.out]; kernel_rfl) (by rw [HL'.out]; kernel_rfl)
                simp only [linFill, List.foldl_cons, List.foldl_nil, Act.put, List.setIfInBounds_toArray, List.set_cons_zero, List.set_cons_succ, d10, d11] at hK ⊢
                clear d10 d11
                go_simp
                exact hK.out _ _ hT (.inl ⟨rfl, Below.refl _ _⟩) rfl
              refine LinSteps.cons (fun f L w1 hT hI hsh hL hd K hK => ?_) ?_
              · have d12 : f 49 = .pointer (some ⟨g, j, none⟩) := hd 12 49 (by rw [HL'.out]; kernel_rfl) (by rw [HL'.out]; kernel_rfl)
                have hl1 : L 15 = false := hsh.late 13 hL [13] 15 (by rw [HL'.out]; kernel_rfl) rfl
                have hl2 : L 17 = false := hsh.late 13 hL [13] 17 (by rw [HL'.out]; kernel_rfl) rfl
                have kk := swI_cell hI hl1 hl2 (t := j) (by omega)
                simp only [linFill, List.foldl_cons, List.foldl_nil, Act.put, List.setIfInBounds_toArray, List.set_cons_zero, List.set_cons_succ, d12] at hK ⊢
                clear d12
                go_simp
                exact hK.out _ _ hT (.inl ⟨rfl, Below.refl _ _⟩) rfl
              refine LinSteps.cons (fun f L w1 hT hI hsh hL hd K hK => ?_) ?_
              · have d0 : f 37 = .slice (some ⟨g, 0, none⟩) n cp := hd 0 37 (by rw [HL'.out]; kernel_rfl) (by rw [HL'.out]; kernel_rfl)
                have d1 : f 38 = .int .i64 ((j : Nat) : Int) := hd 1 38 (by rw [HL'.out]; kernel_rfl) (by rw [HL'.out]; kernel_rfl)
                simp only [linFill, List.foldl_cons, List.foldl_nil, Act.put, List.setIfInBounds_toArray, List.set_cons_zero, List.set_cons_succ, d0, d1] at hK ⊢
                clear d0 d1
                go_simp
                exact hK.out _ _ hT (.inl ⟨rfl, Below.refl _ _⟩) rfl
              refine LinSteps.cons (fun f L w1 hT hI hsh hL hd K hK => ?_) ?_
              · have d14 : f 51 = .pointer (some ⟨g, j, none⟩) := hd 14 51 (by rw [HL'.out]; kernel_rfl) (by rw [HL'.out]; kernel_rfl)
                have d9 : f 46 = .pointer (some ⟨X jm, 0, none⟩) := hd 9 46 (by rw [HL'.out]; kernel_rfl) (by rw [HL'.out]; kernel_rfl)
                have ff := swI_frz hI (t := j) (by omega)
                have kk := swI_val hI (t := j) (by omega)
                simp only [linFill, List.foldl_cons, List.foldl_nil, Act.put, List.setIfInBounds_toArray, List.set_cons_zero, List.set_cons_succ, d14, d9] at hK ⊢
                clear d14 d9
                go_simp
                exact hK.out undef _ (hT.put_ (.inl rfl) _ _) (.inr ⟨swI_one hI (by omega) (by omega) (by omega), fun j d _ _ h => h⟩) trivial
              refine LinSteps.cons (fun f L w1 hT hI hsh hL hd K hK => ?_) ?_
              · have d2 : f 39 = .slice (some ⟨g, 0, none⟩) n cp := hd 2 39 (by rw [HL'.out]; kernel_rfl) (by rw [HL'.out]; kernel_rfl)
                have d4 : f 41 = .int .i64 ((jm : Nat) : Int) := hd 4 41 (by rw [HL'.out]; kernel_rfl) (by rw [HL'.out]; kernel_rfl)
                simp only [linFill, List.foldl_cons, List.foldl_nil, Act.put, List.setIfInBounds_toArray, List.set_cons_zero, List.set_cons_succ, d2, d4] at hK ⊢
                clear d2 d4
                go_simp
                exact hK.out _ _ hT (.inl ⟨rfl, Below.refl _ _⟩) rfl
              refine LinSteps.cons (fun f L w1 hT hI hsh hL hd K hK => ?_) ?_
              · have d16 : f 52 = .pointer (some ⟨g, jm, none⟩) := hd 16 52 (by rw [HL'.out]; kernel_rfl) (by rw [HL'.out]; kernel_rfl)
                have d13 : f 50 = .pointer (some ⟨X j, 0, none⟩) := hd 13 50 (by rw [HL'.out]; kernel_rfl) (by rw [HL'.out]; kernel_rfl)
                have ff := swI_frz hI (t := jm) (by omega)
                have kk := swI_val hI (t := jm) (by omega)
                simp only [linFill, List.foldl_cons, List.foldl_nil, Act.put, List.setIfInBounds_toArray, List.set_cons_zero, List.set_cons_succ, d16, d13] at hK ⊢
                clear d16 d13
                go_simp
                exact hK.out undef _ (hT.put_ (.inl rfl) _ _) (.inr ⟨swI_two hI (by omega) (by omega) (by omega), fun j d _ _ h => h⟩) trivial
              exact LinSteps.nil
            · intro l' HL' f9 L9 w4 hT9 hI9 hall9 hf9
              have hrow4 := swI_fin hI9 (hall9 15 (by decide)) (hall9 17 (by decide))
              clear hf9 hall9 hI9
              simp only [linFill, List.foldl_cons, List.foldl_nil, List.setIfInBounds_toArray, List.set_cons_zero, List.set_cons_succ]
              go_wp2
              go_roundw
              case rel => exact ⟨jm, swp X j jm, by go_num, by omega, by omega, hrow4, HR.out.1, HR.out.2, HT3.out.trans ⟨hT9.os, hT9.tape, hT9.output, hT9.size, hT9.block⟩⟩
              case measure => simp [intOf]; omega
          | false =>
            have hz0 : ¬ z < 0 := of_decide_eq_false hcb
            have hso2 := but_srt HBUT.out (.inr (by rw [← HJM.out]; exact fun h => hz0 (hz.out.2 h))) haj
            have HR := Lib.hid hso2
            clear hso2 hz hz0 hcb
            go_wp2
            go_roundw
            case rel => exact ⟨i + 1, X, by go_num, by omega, by omega, .inl (by omega), HROW3.out, HSW2.out, HR.out, HT3.out⟩
            case measure => simp [intOf]; omega
        · obtain rfl : j = a := by omega
          have hgt : decide ((j : Int) < (j : Int)) = false := decide_eq_false (by omega)
          have hso2 := but_srt hbut (.inl rfl) (Nat.le_refl _)
          have HR := Lib.hid (And.intro hrow2 (And.intro hsw2 (And.intro hso2 hT2)))
          clear hso2 hbut hrow2 hsw2 hT2
          go_upto_region 4 with fail
          go_quiet (fail)
          rename_i nq
          go_wp2
          go_roundw
          case rel => exact ⟨i + 1, X, by go_num, by omega, by omega, .inl (by omega), HR.out.1.below (below_drewN_p _ _), HR.out.2.1, HR.out.2.2.1, HR.out.2.2.2.on (below_drewN_p _ _)⟩
          case measure => simp [intOf]; omega
    · have hmi : ¬ (i : Int) < (b : Int) := by omega
      go_wp2
      go_end0
      exact ⟨rfl, ⟨Y, hrow, hsw, fun s t h1 h2 h3 => hso s t h1 h2 (by omega)⟩, hT⟩
end Go.Proofs.YtpinpnbhbngclaaGreat

/- Rows of pointers: what merging in place does, in plain words. -/
namespace Go.Proofs.YtpinpnbhbngclaaGreat
open Go.RowKit

theorem swR_sws {lo hi p q N : Nat} (X : Nat → Nat) (h1 : lo ≤ p) (h2 : p + N ≤ q) (h3 : q + N ≤ hi) : Sws lo hi X (swR p q N X) := by
  induction N with
  | zero => rw [swR_zero]; exact .refl _
  | succ N ih =>
    rw [← swR_next p q N X (by omega)]
    exact (ih (by omega) (by omega)).step (by omega) (by omega) (by omega) (by omega) (by omega)
theorem rot_sws (m : Nat) : ∀ (K i j : Nat) (X : Nat → Nat), i + j ≤ K → 1 ≤ i → 1 ≤ j → i ≤ m → Sws (m - i) (m + j) X (rotF (m - i) m (m + j) X)
  | 0, i, j, X, h, h1, h2, _ => by omega
  | K + 1, i, j, X, h, h1, h2, h3 => by
    rcases Nat.lt_trichotomy i j with e | e | e
    · rw [← rot_less m i j X h3 e]
      have hs := swR_sws (lo := m - i) (hi := m + j) (p := m - i) (q := m + j - i) (N := i) X (by omega) (by omega) (by omega)
      have ih := rot_sws m K i (j - i) (swR (m - i) (m + j - i) i X) (by omega) h1 (by omega) h3
      rw [show m + (j - i) = m + j - i by omega] at ih
      exact hs.trans (ih.mono (by omega) (by omega))
    · subst e
      rw [← rot_same m i X h3]
      exact swR_sws X (by omega) (by omega) (by omega)
    · rw [← rot_more m i j X h3 e]
      have hs := swR_sws (lo := m - i) (hi := m + j) (p := m - i) (q := m) (N := j) X (by omega) (by omega) (by omega)
      have ih := rot_sws m K (i - j) j (swR (m - i) m j X) (by omega) (by omega) h2 (by omega)
      rw [show m - (i - j) = m - i + j by omega] at ih
      exact hs.trans (ih.mono (by omega) (by omega))
theorem rotF_sws {a m b : Nat} (X : Nat → Nat) (h1 : a < m) (h2 : m < b) : Sws a b X (rotF a m b X) := by
  have := rot_sws m (m - a + (b - m)) (m - a) (b - m) X (by omega) (by omega) (by omega) (by omega)
  rw [show m - (m - a) = a by omega, show m + (b - m) = b by omega] at this
  exact this
/-- one that is carried up, step by step -/
theorem up_next (a k : Nat) (X : Nat → Nat) (h : a ≤ k) : swp (rotF a (a + 1) (k + 1) X) k (k + 1) = rotF a (a + 1) (k + 2) X := by
  funext t
  unfold swp rotF
  repeat' split
  all_goals first | (exfalso; omega) | rfl | (congr 1; omega)
theorem up_zero (a : Nat) (X : Nat → Nat) : rotF a (a + 1) (a + 1) X = X := by
  funext t
  unfold rotF
  repeat' split
  all_goals first | (exfalso; omega) | rfl | (congr 1; omega)
/-- one that is carried down, step by step -/
theorem dn_next (k m : Nat) (X : Nat → Nat) (h : 0 < k) (hk : k ≤ m) : swp (rotF k m (m + 1) X) k (k - 1) = rotF (k - 1) m (m + 1) X := by
  funext t
  unfold swp rotF
  repeat' split
  all_goals first | (exfalso; omega) | rfl | (congr 1; omega)
theorem dn_zero (m : Nat) (X : Nat → Nat) : rotF m m (m + 1) X = X := by
  funext t
  unfold rotF
  repeat' split
  all_goals first | (exfalso; omega) | rfl | (congr 1; omega)
theorem up_sws {a i : Nat} (X : Nat → Nat) (b : Nat) (h : a + 1 ≤ i) (hb : i ≤ b) : Sws a b X (rotF a (a + 1) i X) := by
  rcases Nat.lt_or_ge (a + 1) i with e | e
  · exact (rotF_sws X (by omega) e).mono (Nat.le_refl _) hb
  · obtain rfl : i = a + 1 := by omega
    rw [up_zero]; exact .refl _
theorem dn_sws {a i m : Nat} (X : Nat → Nat) (h : a ≤ i) (hm : i ≤ m) : Sws a (m + 1) X (rotF i m (m + 1) X) := by
  rcases Nat.lt_or_ge i m with e | e
  · exact (rotF_sws X e (by omega)).mono h (Nat.le_refl _)
  · obtain rfl : i = m := by omega
    rw [dn_zero]; exact .refl _
/-- the first alone is laid among the rest -/
theorem up_sorted {key : Nat → Int} {X : Nat → Nat} {a b i : Nat} (hs : SrtOn key X (a + 1) b) (h1 : a + 1 ≤ i) (h2 : i ≤ b) (hl : i = a + 1 ∨ key (X (i - 1)) < key (X a)) (hr : i = b ∨ ¬ key (X i) < key (X a)) : SrtOn key (rotF a (a + 1) i X) a b := by
  have e1 : ∀ t, a ≤ t → t + 1 < i → rotF a (a + 1) i X t = X (t + 1) := fun t g1 g2 => by unfold rotF; rw [if_pos (by omega)]; congr 1; omega
  have e2 : rotF a (a + 1) i X (i - 1) = X a := by unfold rotF; rw [if_neg (by omega), if_pos (by omega)]; congr 1; omega
  have e3 : ∀ t, i ≤ t → rotF a (a + 1) i X t = X t := fun t g => by unfold rotF; rw [if_neg (by omega), if_neg (by omega)]
  have hlow : ∀ t, a ≤ t → t + 1 < i → key (X (t + 1)) ≤ key (X a) := fun t g1 g2 => by
    rcases hl with e | e
    · omega
    · have := hs (t + 1) (i - 1) (by omega) (by omega) (by omega); omega
  have hhigh : ∀ t, i ≤ t → t < b → key (X a) ≤ key (X t) := fun t g1 g2 => by
    rcases hr with e | e
    · omega
    · have := hs i t h1 g1 g2; omega
  intro s t g1 g2 g3
  by_cases c1 : s + 1 < i
  · rw [e1 s g1 c1]
    by_cases c2 : t + 1 < i
    · rw [e1 t (by omega) c2]; exact hs _ _ (by omega) (by omega) (by omega)
    · by_cases c3 : t = i - 1
      · rw [c3, e2]; exact hlow s g1 c1
      · rw [e3 t (by omega)]; exact hs _ _ (by omega) (by omega) g3
  · by_cases c2 : s = i - 1
    · rw [c2, e2]
      by_cases c3 : t = i - 1
      · rw [c3, e2]; exact Int.le_refl _
      · rw [e3 t (by omega)]; exact hhigh t (by omega) g3
    · rw [e3 s (by omega), e3 t (by omega)]; exact hs _ _ (by omega) g2 g3
/-- the last alone is laid among the rest -/
theorem dn_sorted {key : Nat → Int} {X : Nat → Nat} {a m i : Nat} (hs : SrtOn key X a m) (h1 : a ≤ i) (h2 : i ≤ m) (hl : i = a ∨ ¬ key (X m) < key (X (i - 1))) (hr : i = m ∨ key (X m) < key (X i)) : SrtOn key (rotF i m (m + 1) X) a (m + 1) := by
  have e1 : ∀ t, t < i → rotF i m (m + 1) X t = X t := fun t g => by unfold rotF; rw [if_neg (by omega), if_neg (by omega)]
  have e2 : rotF i m (m + 1) X i = X m := by unfold rotF; rw [if_pos (by omega)]; congr 1; omega
  have e3 : ∀ t, i < t → t ≤ m → rotF i m (m + 1) X t = X (t - 1) := fun t g1 g2 => by unfold rotF; rw [if_neg (by omega), if_pos (by omega)]; congr 1; omega
  have hlow : ∀ t, a ≤ t → t < i → key (X t) ≤ key (X m) := fun t g1 g2 => by
    rcases hl with e | e
    · omega
    · have := hs t (i - 1) g1 (by omega) (by omega); omega
  have hhigh : ∀ t, i ≤ t → t < m → key (X m) ≤ key (X t) := fun t g1 g2 => by
    rcases hr with e | e
    · omega
    · have := hs i t h1 g1 g2; omega
  intro s t g1 g2 g3
  by_cases c1 : s < i
  · rw [e1 s c1]
    by_cases c2 : t < i
    · rw [e1 t c2]; exact hs _ _ g1 g2 (by omega)
    · by_cases c3 : t = i
      · rw [c3, e2]; exact hlow s g1 c1
      · rw [e3 t (by omega) (by omega)]; exact hs _ _ g1 (by omega) (by omega)
  · by_cases c2 : s = i
    · rw [c2, e2]
      by_cases c3 : t = i
      · rw [c3, e2]; exact Int.le_refl _
      · rw [e3 t (by omega) (by omega)]; exact hhigh _ (by omega) (by omega)
    · rw [e3 s (by omega) (by omega), e3 t (by omega) (by omega)]; exact hs _ _ (by omega) (by omega) (by omega)
/-- what stands behind the turn of the middle -/
structure Halves (key : Nat → Int) (Y : Nat → Nat) (a s mid e b : Nat) : Prop where
  h1 : SrtOn key Y a s
  h2 : SrtOn key Y s mid
  h3 : SrtOn key Y mid e
  h4 : SrtOn key Y e b
  x : ∀ i j, a ≤ i → i < mid → mid ≤ j → j < b → key (Y i) ≤ key (Y j)
theorem halves_of {key : Nat → Int} {X : Nat → Nat} {a m b mid s e : Nat} (hl : SrtOn key X a m) (hr : SrtOn key X m b) (ham : a < m) (hmb : m < b) (hmid : mid = (a + b) / 2) (hse : s + e = mid + m) (has : a ≤ s) (hsm : s ≤ m) (hme : m ≤ e) (heb : e ≤ b)
    (c2 : s = a ∨ e = b ∨ key (X (s - 1)) ≤ key (X e)) (c3 : s = m ∨ e = m ∨ key (X (e - 1)) < key (X s)) : Halves key (rotF s m e X) a s mid e b := by
  have f1 : ∀ t, t < s → rotF s m e X t = X t := fun t g => by unfold rotF; rw [if_neg (by omega), if_neg (by omega)]
  have f2 : ∀ t, s ≤ t → t < mid → rotF s m e X t = X (t - s + m) := fun t g1 g2 => by unfold rotF; rw [if_pos (by omega)]
  have f3 : ∀ t, mid ≤ t → t < e → rotF s m e X t = X (t - mid + s) := fun t g1 g2 => by unfold rotF; rw [if_neg (by omega), if_pos (by omega)]; congr 1; omega
  have f4 : ∀ t, e ≤ t → rotF s m e X t = X t := fun t g => by unfold rotF; rw [if_neg (by omega), if_neg (by omega)]
  refine ⟨fun i j g1 g2 g3 => ?_, fun i j g1 g2 g3 => ?_, fun i j g1 g2 g3 => ?_, fun i j g1 g2 g3 => ?_, fun i j g1 g2 g3 g4 => ?_⟩
  · rw [f1 i (by omega), f1 j g3]; exact hl _ _ g1 g2 (by omega)
  · rw [f2 i g1 (by omega), f2 j (by omega) g3]; exact hr _ _ (by omega) (by omega) (by omega)
  · rw [f3 i g1 (by omega), f3 j (by omega) g3]; exact hl _ _ (by omega) (by omega) (by omega)
  · rw [f4 i g1, f4 j (by omega)]; exact hr _ _ (by omega) g2 g3
  · by_cases ci : i < s
    · rw [f1 i ci]
      by_cases cj : j < e
      · rw [f3 j g3 cj]; exact hl _ _ g1 (by omega) (by omega)
      · rw [f4 j (by omega)]
        have y1 := hl i (s - 1) g1 (by omega) (by omega)
        have y2 := hr e j (by omega) (by omega) g4
        omega
    · rw [f2 i (by omega) g2]
      by_cases cj : j < e
      · rw [f3 j g3 cj]
        have y1 := hr (i - s + m) (e - 1) (by omega) (by omega) (by omega)
        have y2 := hl s (j - mid + s) (by omega) (by omega) (by omega)
        omega
      · rw [f4 j (by omega)]; exact hr _ _ (by omega) (by omega) g4
theorem halves_end {key : Nat → Int} {Y Y1 Y2 : Nat → Nat} {a s mid e b : Nat} (h : Halves key Y a s mid e b) (k1 : Sws a mid Y Y1) (s1 : SrtOn key Y1 a mid) (k2 : Sws mid b Y1 Y2) (s2 : SrtOn key Y2 mid b) : SrtOn key Y2 a b := by
  intro i j g1 g2 g3
  by_cases ci : i < mid
  · by_cases cj : j < mid
    · rw [k2.out_ (.inl ci), k2.out_ (.inl cj)]; exact s1 _ _ g1 g2 cj
    · obtain ⟨j', q1, q2, q3⟩ := k2.mem j (by omega) g3
      obtain ⟨i', r1, r2, r3⟩ := k1.mem i g1 ci
      rw [k2.out_ (.inl ci), q3, k1.out_ (.inr q1), r3]
      exact h.x _ _ r1 r2 q1 q2
  · exact s2 _ _ (by omega) g2 g3
end Go.Proofs.YtpinpnbhbngclaaGreat

/- Rows of pointers: merging where one side is one alone. -/
namespace Go.Proofs.YtpinpnbhbngclaaGreat
open Go.RowKit

def UpG (g n cp : Nat) (X : Nat → Nat) (k k1 : Nat) (q9 : Nat) (y : Value) : Prop :=
  match q9 with
  | 0 => y = .slice (some ⟨g, 0, none⟩) n cp
  | 1 => y = .int .i64 ((k : Nat) : Int)
  | 2 => y = .slice (some ⟨g, 0, none⟩) n cp
  | 3 => y = .int .i64 ((k : Nat) : Int)
  | 4 => y = .int .i64 ((k1 : Nat) : Int)
  | 5 => y = .slice (some ⟨g, 0, none⟩) n cp
  | 6 => y = .int .i64 ((k : Nat) : Int)
  | 7 => y = .int .i64 ((k1 : Nat) : Int)
  | 8 => y = .pointer (some ⟨g, k1, none⟩)
  | 9 => y = .pointer (some ⟨X k1, 0, none⟩)
  | 10 => y = .slice (some ⟨g, 0, none⟩) n cp
  | 11 => y = .int .i64 ((k : Nat) : Int)
  | 12 => y = .pointer (some ⟨g, k, none⟩)
  | 13 => y = .pointer (some ⟨X k, 0, none⟩)
  | 14 => y = .pointer (some ⟨g, k, none⟩)
  | 16 => y = .pointer (some ⟨g, k1, none⟩)
  | _ => True

set_option maxHeartbeats 4000000 in
set_option maxRecDepth 100000 in
theorem symone_any (F g n cp a m b : Nat) (X : Nat → Nat) (D : Nat → Prop) (key : Nat → Int) (w : World) (eg : ∀ args w, (callFunc F args).run Tryz.prog w = .ok (.enter F args) w) (hc : CmpIs F D key g w) (hn : n ≤ 1000) (hmb : m < b) (hbn : b ≤ n) (hD : ∀ t, t < n → D (X t)) (hX : PRw w g n X) (hma : m = a + 1) (hs : SrtOn key X m b) :
    Calls Tryz.prog 104 #[.slice (some ⟨g, 0, none⟩) n cp, .int .i64 a, .int .i64 m, .int .i64 b, .func (.func F) #[] #[]] w fun e w' => e = .returned (.tuple #[]) ∧ (∃ Y, PRw w' g n Y ∧ Sws a b X Y ∧ SrtOn key Y a b) ∧ Turned (fun k => k = g) w w' := by
  have HX := Lib.hid hX
  have HC := Lib.hid hc
  have HD := Lib.hid hD
  clear hX hc hD
  have hma2 : (m : Int) - (a : Int) = 1 := by omega
  have HMA := Lib.hid hma
  have HS := Lib.hid hs
  clear hma hs
  go_enter Tryz.func104, Tryz.ntmps104
  go_wp2
  go_loopw [10, 11] (fun x y wr => ∃ i j : Nat, x = .int .i64 i ∧ y = .int .i64 j ∧ m ≤ i ∧ i ≤ j ∧ j ≤ b ∧ (i = m ∨ key (X (i - 1)) < key (X a)) ∧ (j = b ∨ key (X a) ≤ key (X j)) ∧ Below w.heap.size w wr) (fun x y _ => (intOf y - intOf x).toNat)
  case atStart => exact ⟨m, b, rfl, rfl, Nat.le_refl _, by omega, Nat.le_refl _, .inl rfl, .inl rfl, Below.refl _ _⟩
  case round =>
    obtain ⟨i, j, rfl, rfl, hmi, hij, hjb, hl, hr, hbr⟩ := hrel
    have hrow := HX.out.below hbr
    have HL := Lib.hid hl
    have HR := Lib.hid hr
    clear hl hr
    by_cases hlt : i < j
    · obtain ⟨h, hh⟩ : ∃ h, h = (i + j) / 2 := ⟨_, rfl⟩
      have hhi2 : ((i : Int) + (j : Int)) / 2 = (h : Int) := by omega
      have hhl : i ≤ h ∧ h < j := by omega
      obtain ⟨hl1, hl2⟩ := hhl
      clear hh
      have hhn : (h : Int) < (n : Int) := by omega
      have hanI : (a : Int) < (n : Int) := by omega
      have c1 := (hrow.2 h (by omega)).1
      have c2 := (hrow.2 a (by omega)).1
      have hcall : ∀ W, (W.cell? ⟨g, h, none⟩ = some (.pointer (some ⟨X h, 0, none⟩)) ∧ W.cell? ⟨g, a, none⟩ = some (.pointer (some ⟨X a, 0, none⟩)) ∧ Below wr.heap.size wr W) → Calls Tryz.prog F #[.pointer (some ⟨X h, 0, none⟩), .pointer (some ⟨X a, 0, none⟩)] W fun e w' => (∃ z : Int, e = .returned (.int .i64 z) ∧ (z < 0 ↔ key (X h) < key (X a))) ∧ Below W.heap.size W w' :=
        fun W hW => HC.out W ((Turned.of_below hbr).on hW.2.2) (X h) (X a) (HD.out h (by omega)) (HD.out a (by omega))
      have HROWr := Lib.hid hrow
      have HBr := Lib.hid hbr
      clear hrow hbr
      go_upto_region 5 with fail
      go_region_held3 (fun w' => w'.cell? ⟨g, h, none⟩ = some (.pointer (some ⟨X h, 0, none⟩)) ∧ w'.cell? ⟨g, a, none⟩ = some (.pointer (some ⟨X a, 0, none⟩)) ∧ Below wr.heap.size wr w')
        ((first | (exact keepCs hb (by assumption)) | (exact keepDs (by assumption) (by assumption)) | (exact keepDd (by assumption))))
        (first | ((with_reducible refine (hcall _ (by assumption)).mono ?_); rintro e u1 ⟨⟨z, rfl, hzi⟩, hb⟩; have hz := Lib.hid hzi; obtain ⟨cb, hcb⟩ : ∃ cb, decide (z < 0) = cb := ⟨_, rfl⟩; clear hzi; have hk := Lib.hid (keepCs hb (by assumption)).2.2))
      have HB2 := Lib.hid (HBr.out.trans (hk.out.mono HBr.out.size))
      clear hcall c1 c2
      cases cb with
      | true =>
        have hlt2 := hz.out.1 (of_decide_eq_true hcb)
        have HN := Lib.hid hlt2
        clear hlt2 hz hcb
        go_wp2
        go_roundw
        case rel => exact ⟨h + 1, j, by go_num, rfl, by omega, by omega, hjb, .inr (by rw [Nat.add_sub_cancel]; exact HN.out), HR.out, HB2.out⟩
        case measure => simp [intOf]; omega
      | false =>
        have hlt2 : key (X a) ≤ key (X h) := Int.not_lt.1 (fun x => of_decide_eq_false hcb (hz.out.2 x))
        have HN := Lib.hid hlt2
        clear hlt2 hz hcb
        go_wp2
        go_roundw
        case rel => exact ⟨i, h, rfl, rfl, hmi, hl1, by omega, HL.out, .inr HN.out, HB2.out⟩
        case measure => simp [intOf]; omega
    · obtain rfl : i = j := by omega
      have HROW := Lib.hid hrow
      have HB := Lib.hid hbr
      have hfin := up_sorted (key := key) (X := X) (a := a) (b := b) (i := i) (by rw [← HMA.out]; exact HS.out) (by have := HMA.out; omega) hjb (by rw [← HMA.out]; exact HL.out) (HR.out.imp id (fun h => by omega))
      have HFIN := Lib.hid hfin
      obtain ⟨i1, hi1⟩ : ∃ i1, i1 = i - 1 := ⟨_, rfl⟩
      have hi2 : (i : Int) - 1 = (i1 : Int) := by omega
      have HI1 := Lib.hid hi1
      have hai : a ≤ i1 ∧ i1 < b ∧ i1 + 1 = i := by have := HMA.out; omega
      have HI2 := Lib.hid hai.2.2
      have hai1 := hai.1
      have hai2 := hai.2.1
      clear hfin hrow hbr hij hlt hi1 hai
      go_wp2
      go_loopw [13] (fun x wr => ∃ k : Nat, x = .int .i64 k ∧ a ≤ k ∧ k ≤ i1 ∧ PRw wr g n (rotF a (a + 1) (k + 1) X) ∧ Turned (fun q => q = g) w wr) (fun x _ => i1 - (intOf x).toNat)
      case atStart => exact ⟨a, rfl, Nat.le_refl _, hai1, by rw [up_zero]; exact HROW.out, Turned.of_below HB.out⟩
      case round =>
        obtain ⟨k, rfl, hak, hki, hrow, hT⟩ := hrel
        by_cases hlt : k < i1
        · have hlk : (k : Int) < (i1 : Int) := by omega
          have hdk : decide ((k : Int) < (i1 : Int)) = true := decide_eq_true hlk
          obtain ⟨Z, hXe⟩ : ∃ Z, Z = rotF a (a + 1) (k + 1) X := ⟨_, rfl⟩
          obtain ⟨k1, hk1⟩ : ∃ k1, k1 = k + 1 := ⟨_, rfl⟩
          have hnx := up_next a k X hak
          rw [← hXe, ← hk1] at hnx
          rw [← hXe] at hrow
          have hk1I : (k : Int) + 1 = (k1 : Int) := by omega
          have hb1 : k < n ∧ k1 < n ∧ k ≠ k1 := by omega
          obtain ⟨hkn, hk1n, hkk⟩ := hb1
          have hknI : (k : Int) < (n : Int) := by omega
          have hk1nI : (k1 : Int) < (n : Int) := by omega
          have hwk : IntKind.i64.wrap (k1 : Int) = (k1 : Int) := by rw [IntKind.wrap_i64]; omega
          have hk1i : k1 ≤ i1 ∧ a ≤ k1 ∧ k + 2 = k1 + 1 := by omega
          have HNX := Lib.hid hnx
          have HT := Lib.hid hT
          have HK := Lib.hid hk1i
          have HXE := Lib.hid hXe
          clear hnx hT hk1i hXe hk1
          go_upto_region 11 with fail
          refine wp_region_lin (ds := [61, 62, 63, 64, 65, 66, 67, 68, 69, 70, 71, 72, 73, 74, 75, 76]) (by kernel_rfl) (by kernel_rfl) (by kernel_rfl) (fun k => k = g) (fun k => k == 15 || k == 17)
            (SwI g n Z 15 17 k k1) (fun q9 _ y9 _ => UpG g n cp Z k k1 q9 y9) (SwI.start hrow) (fun L k w1 w2 hk hb h => SwI_keep hk hb h) (fun i L k v w1 w2 hk hb h => by exact h) ?_ ?_
          · intro l' HL'
            refine LinSteps.cons (fun f L w1 hT hI hsh hL hd K hK => ?_) ?_
            · simp only [linFill, List.foldl_cons, List.foldl_nil, Act.put, List.setIfInBounds_toArray, List.set_cons_zero, List.set_cons_succ] at hK ⊢
              go_simp
              exact hK.out _ _ hT (.inl ⟨rfl, Below.refl _ _⟩) rfl
            refine LinSteps.cons (fun f L w1 hT hI hsh hL hd K hK => ?_) ?_
            · simp only [linFill, List.foldl_cons, List.foldl_nil, Act.put, List.setIfInBounds_toArray, List.set_cons_zero, List.set_cons_succ] at hK ⊢
              go_simp
              exact hK.out _ _ hT (.inl ⟨rfl, Below.refl _ _⟩) rfl
            refine LinSteps.cons (fun f L w1 hT hI hsh hL hd K hK => ?_) ?_
            · simp only [linFill, List.foldl_cons, List.foldl_nil, Act.put, List.setIfInBounds_toArray, List.set_cons_zero, List.set_cons_succ] at hK ⊢
              go_simp
              exact hK.out _ _ hT (.inl ⟨rfl, Below.refl _ _⟩) rfl
            refine LinSteps.cons (fun f L w1 hT hI hsh hL hd K hK => ?_) ?_
            · simp only [linFill, List.foldl_cons, List.foldl_nil, Act.put, List.setIfInBounds_toArray, List.set_cons_zero, List.set_cons_succ] at hK ⊢
              go_simp
              exact hK.out _ _ hT (.inl ⟨rfl, Below.refl _ _⟩) rfl
            refine LinSteps.cons (fun f L w1 hT hI hsh hL hd K hK => ?_) ?_
            · have d3 : f 64 = .int .i64 ((k : Nat) : Int) := hd 3 64 (by rw [HL'.out]; kernel_rfl) (by rw [HL'.out]; kernel_rfl)
              simp only [linFill, List.foldl_cons, List.foldl_nil, Act.put, List.setIfInBounds_toArray, List.set_cons_zero, List.set_cons_succ, d3] at hK ⊢
              clear d3
              go_simp
              exact hK.out _ _ hT (.inl ⟨rfl, Below.refl _ _⟩) rfl
            refine LinSteps.cons (fun f L w1 hT hI hsh hL hd K hK => ?_) ?_
            · simp only [linFill, List.foldl_cons, List.foldl_nil, Act.put, List.setIfInBounds_toArray, List.set_cons_zero, List.set_cons_succ] at hK ⊢
              go_simp
              exact hK.out _ _ hT (.inl ⟨rfl, Below.refl _ _⟩) rfl
            refine LinSteps.cons (fun f L w1 hT hI hsh hL hd K hK => ?_) ?_
            · simp only [linFill, List.foldl_cons, List.foldl_nil, Act.put, List.setIfInBounds_toArray, List.set_cons_zero, List.set_cons_succ] at hK ⊢
              go_simp
              exact hK.out _ _ hT (.inl ⟨rfl, Below.refl _ _⟩) rfl
            refine LinSteps.cons (fun f L w1 hT hI hsh hL hd K hK => ?_) ?_
            · have d6 : f 67 = .int .i64 ((k : Nat) : Int) := hd 6 67 (by rw [HL'.out]; kernel_rfl) (by rw [HL'.out]; kernel_rfl)
              simp only [linFill, List.foldl_cons, List.foldl_nil, Act.put, List.setIfInBounds_toArray, List.set_cons_zero, List.set_cons_succ, d6] at hK ⊢
              clear d6
              go_simp
              exact hK.out _ _ hT (.inl ⟨rfl, Below.refl _ _⟩) rfl
            refine LinSteps.cons (fun f L w1 hT hI hsh hL hd K hK => ?_) ?_
            · have d5 : f 66 = .slice (some ⟨g, 0, none⟩) n cp := hd 5 66 (by rw [HL'.out]; kernel_rfl) (by rw [HL'.out]; kernel_rfl)
              have d7 : f 68 = .int .i64 ((k1 : Nat) : Int) := hd 7 68 (by rw [HL'.out]; kernel_rfl) (by rw [HL'.out]; kernel_rfl)
              simp only [linFill, List.foldl_cons, List.foldl_nil, Act.put, List.setIfInBounds_toArray, List.set_cons_zero, List.set_cons_succ, d5, d7] at hK ⊢
              clear d5 d7
              go_simp
              exact hK.out _ _ hT (.inl ⟨rfl, Below.refl _ _⟩) rfl
            refine LinSteps.cons (fun f L w1 hT hI hsh hL hd K hK => ?_) ?_
            · have d8 : f 69 = .pointer (some ⟨g, k1, none⟩) := hd 8 69 (by rw [HL'.out]; kernel_rfl) (by rw [HL'.out]; kernel_rfl)
              have hl1 : L 15 = false := hsh.late 9 hL [9] 15 (by rw [HL'.out]; kernel_rfl) rfl
              have hl2 : L 17 = false := hsh.late 9 hL [9] 17 (by rw [HL'.out]; kernel_rfl) rfl
              have kk := swI_cell hI hl1 hl2 (t := k1) (by omega)
              simp only [linFill, List.foldl_cons, List.foldl_nil, Act.put, List.setIfInBounds_toArray, List.set_cons_zero, List.set_cons_succ, d8] at hK ⊢
              clear d8
              go_simp
              exact hK.out _ _ hT (.inl ⟨rfl, Below.refl _ _⟩) rfl
            refine LinSteps.cons (fun f L w1 hT hI hsh hL hd K hK => ?_) ?_
            · simp only [linFill, List.foldl_cons, List.foldl_nil, Act.put, List.setIfInBounds_toArray, List.set_cons_zero, List.set_cons_succ] at hK ⊢
              go_simp
              exact hK.out _ _ hT (.inl ⟨rfl, Below.refl _ _⟩) rfl
            refine LinSteps.cons (fun f L w1 hT hI hsh hL hd K hK => ?_) ?_
            · simp only [linFill, List.foldl_cons, List.foldl_nil, Act.put, List.setIfInBounds_toArray, List.set_cons_zero, List.set_cons_succ] at hK ⊢
              go_simp
              exact hK.out _ _ hT (.inl ⟨rfl, Below.refl _ _⟩) rfl
            refine LinSteps.cons (fun f L w1 hT hI hsh hL hd K hK => ?_) ?_
            · have d10 : f 71 = .slice (some ⟨g, 0, none⟩) n cp := hd 10 71 (by rw [HL'.out]; kernel_rfl) (by rw [HL'.out]; kernel_rfl)
              have d11 : f 72 = .int .i64 ((k : Nat) : Int) := hd 11 72 (by rw [HL'.out]; kernel_rfl) (by rw [HL'.out]; kernel_rfl)
              simp only [linFill, List.foldl_cons, List.foldl_nil, Act.put, List.setIfInBounds_toArray, List.set_cons_zero, List.set_cons_succ, d10, d11] at hK ⊢
              clear d10 d11
              go_simp
              exact hK.out _ _ hT (.inl ⟨rfl, Below.refl _ _⟩) rfl
            refine LinSteps.cons (fun f L w1 hT hI hsh hL hd K hK => ?_) ?_
            · have d12 : f 73 = .pointer (some ⟨g, k, none⟩) := hd 12 73 (by rw [HL'.out]; kernel_rfl) (by rw [HL'.out]; kernel_rfl)
              have hl1 : L 15 = false := hsh.late 13 hL [13] 15 (by rw [HL'.out]; kernel_rfl) rfl
              have hl2 : L 17 = false := hsh.late 13 hL [13] 17 (by rw [HL'.out]; kernel_rfl) rfl
              have kk := swI_cell hI hl1 hl2 (t := k) (by omega)
              simp only [linFill, List.foldl_cons, List.foldl_nil, Act.put, List.setIfInBounds_toArray, List.set_cons_zero, List.set_cons_succ, d12] at hK ⊢
              clear d12
              go_simp
              exact hK.out _ _ hT (.inl ⟨rfl, Below.refl _ _⟩) rfl
            refine LinSteps.cons (fun f L w1 hT hI hsh hL hd K hK => ?_) ?_
            · have d0 : f 61 = .slice (some ⟨g, 0, none⟩) n cp := hd 0 61 (by rw [HL'.out]; kernel_rfl) (by rw [HL'.out]; kernel_rfl)
              have d1 : f 62 = .int .i64 ((k : Nat) : Int) := hd 1 62 (by rw [HL'.out]; kernel_rfl) (by rw [HL'.out]; kernel_rfl)
              simp only [linFill, List.foldl_cons, List.foldl_nil, Act.put, List.setIfInBounds_toArray, List.set_cons_zero, List.set_cons_succ, d0, d1] at hK ⊢
              clear d0 d1
              go_simp
              exact hK.out _ _ hT (.inl ⟨rfl, Below.refl _ _⟩) rfl
            refine LinSteps.cons (fun f L w1 hT hI hsh hL hd K hK => ?_) ?_
            · have d14 : f 75 = .pointer (some ⟨g, k, none⟩) := hd 14 75 (by rw [HL'.out]; kernel_rfl) (by rw [HL'.out]; kernel_rfl)
              have d9 : f 70 = .pointer (some ⟨Z k1, 0, none⟩) := hd 9 70 (by rw [HL'.out]; kernel_rfl) (by rw [HL'.out]; kernel_rfl)
              have ff := swI_frz hI (t := k) (by omega)
              have kk := swI_val hI (t := k) (by omega)
              simp only [linFill, List.foldl_cons, List.foldl_nil, Act.put, List.setIfInBounds_toArray, List.set_cons_zero, List.set_cons_succ, d14, d9] at hK ⊢
              clear d14 d9
              go_simp
              exact hK.out undef _ (hT.put_ (.inl rfl) _ _) (.inr ⟨swI_one hI (by omega) (by omega) (by omega), fun j d _ _ h => h⟩) trivial
            refine LinSteps.cons (fun f L w1 hT hI hsh hL hd K hK => ?_) ?_
            · have d2 : f 63 = .slice (some ⟨g, 0, none⟩) n cp := hd 2 63 (by rw [HL'.out]; kernel_rfl) (by rw [HL'.out]; kernel_rfl)
              have d4 : f 65 = .int .i64 ((k1 : Nat) : Int) := hd 4 65 (by rw [HL'.out]; kernel_rfl) (by rw [HL'.out]; kernel_rfl)
              simp only [linFill, List.foldl_cons, List.foldl_nil, Act.put, List.setIfInBounds_toArray, List.set_cons_zero, List.set_cons_succ, d2, d4] at hK ⊢
              clear d2 d4
              go_simp
              exact hK.out _ _ hT (.inl ⟨rfl, Below.refl _ _⟩) rfl
            refine LinSteps.cons (fun f L w1 hT hI hsh hL hd K hK => ?_) ?_
            · have d16 : f 76 = .pointer (some ⟨g, k1, none⟩) := hd 16 76 (by rw [HL'.out]; kernel_rfl) (by rw [HL'.out]; kernel_rfl)
              have d13 : f 74 = .pointer (some ⟨Z k, 0, none⟩) := hd 13 74 (by rw [HL'.out]; kernel_rfl) (by rw [HL'.out]; kernel_rfl)
              have ff := swI_frz hI (t := k1) (by omega)
              have kk := swI_val hI (t := k1) (by omega)
              simp only [linFill, List.foldl_cons, List.foldl_nil, Act.put, List.setIfInBounds_toArray, List.set_cons_zero, List.set_cons_succ, d16, d13] at hK ⊢
              clear d16 d13
              go_simp
              exact hK.out undef _ (hT.put_ (.inl rfl) _ _) (.inr ⟨swI_two hI (by omega) (by omega) (by omega), fun j d _ _ h => h⟩) trivial
            exact LinSteps.nil
          · intro l' HL' f9 L9 w4 hT9 hI9 hall9 hf9
            have hrow4 := swI_fin hI9 (hall9 15 (by decide)) (hall9 17 (by decide))
            clear hf9 hall9 hI9
            simp only [linFill, List.foldl_cons, List.foldl_nil, List.setIfInBounds_toArray, List.set_cons_zero, List.set_cons_succ]
            go_wp2
            go_roundw
            case rel => exact ⟨k1, by go_num, HK.out.2.1, HK.out.1, by rw [← HK.out.2.2, ← HNX.out]; exact hrow4, HT.out.trans ⟨hT9.os, hT9.tape, hT9.output, hT9.size, hT9.block⟩⟩
            case measure => simp [intOf]; omega
        · obtain rfl : k = i1 := by omega
          have hlk : ¬ (k : Int) < (k : Int) := by omega
          rw [HI2.out] at hrow
          go_wp2
          refine bodyPost_ret (results_none rfl _ _ _) rfl ?_
          exact ⟨rfl, ⟨_, hrow, up_sws X b (by omega) hjb, HFIN.out⟩, hT⟩
end Go.Proofs.YtpinpnbhbngclaaGreat
