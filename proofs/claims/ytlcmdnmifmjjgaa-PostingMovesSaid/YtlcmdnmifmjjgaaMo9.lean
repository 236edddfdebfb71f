/- PostingMoves: called with any slice of posts, any script and any document it returns true, and the arguments read behind the call as they read before. No condition. -/
import Derived.Deep.QuietTactic
import Derived.BigQuiet
import Derived.Test.YtlcmdnmifmjjgaaMo8

/- Posts: the document's Same, Max, Seek. -/
namespace Go.Proofs.Ytlcmdnmifmjjgaa
open Go.RowKit

set_option maxHeartbeats 4000000 in
set_option maxRecDepth 100000 in
theorem refsame5_any (v1 v2 : Value) (l1 l2 : List (Int × Int)) (w : World) (h1 : Prd w v1 l1) (h2 : Prd w v2 l2) (hl : l1.length ≤ 1000000) (hl2 : l2.length ≤ 1000000) :
    Calls Try.prog 13 #[v1, v2] w fun e w' => e = .returned (.bool (decide (l1 = l2))) ∧ ∃ n, w' = w.drewN n := by
  obtain ⟨A1, cp1, rfl, hcp1, hA1, hP1⟩ := h1
  obtain ⟨A2, cp2, rfl, hcp2, hA2, hP2⟩ := h2
  obtain ⟨n, hn⟩ : ∃ n, n = l1.length := ⟨_, rfl⟩
  obtain ⟨m, hm⟩ : ∃ m, m = l2.length := ⟨_, rfl⟩
  have HP1 := Lib.hid hP1
  have HP2 := Lib.hid hP2
  rw [← hn] at hcp1 hl ⊢
  rw [← hm] at hcp2 hl2 ⊢
  have HN := Lib.hid hn
  have HM := Lib.hid hm
  by_cases hnm : n = m
  · subst hnm
    have hd : ((n : Int) != (n : Int)) = false := by simp
    clear hP1 hP2 hA1 hA2 hn hm
    go_enter Try.func13, Try.ntmps13
    go_wp2
    go_loopw [5] (fun x wr => ∃ i : Nat, x = .int .i64 i ∧ i ≤ n ∧ l1.take i = l2.take i ∧ ∃ q, wr = w.drewN q) (fun x _ => n - (intOf x).toNat)
    case atStart => exact ⟨0, by go_num, Nat.zero_le _, rfl, 0, rfl⟩
    case round =>
      obtain ⟨i, rfl, hi, htk, q, rfl⟩ := hrel
      have HTK := Lib.hid htk
      clear htk
      by_cases hlt : i < n
      · have hd1 : decide ((i : Int) < (n : Int)) = true := decide_eq_true (by omega)
        have hd2 : decide (i < n) = true := decide_eq_true hlt
        have hi1 : i < l1.length := by rw [← HN.out]; exact hlt
        have hi2 : i < l2.length := by rw [← HM.out]; exact hlt
        obtain ⟨b1, o1, rfl, _, c0, c1⟩ := HP1.out.2 i hi1
        obtain ⟨b2, o2, rfl, _, e0, e1⟩ := HP2.out.2 i hi2
        obtain ⟨⟨x1, x2⟩, hx⟩ : ∃ x, x = l1[i] := ⟨_, rfl⟩
        obtain ⟨⟨y1, y2⟩, hy⟩ : ∃ y, y = l2[i] := ⟨_, rfl⟩
        rw [← hx] at c0 c1
        rw [← hy] at e0 e1
        have hi0 : (0 : Int) ≤ (i : Int) := by omega
        have hin : (i : Int) < (n : Int) := by omega
        by_cases hxy : (x1, x2) = (y1, y2)
        · have hT : Hid (l1.take (i + 1) = l2.take (i + 1)) := Lib.hid (by rw [PostM.take_snoc_p l1 i hi1, PostM.take_snoc_p l2 i hi2, HTK.out, ← hx, ← hy, hxy])
          injection hxy with q1 q2
          subst q1; subst q2
          clear hx hy
          go_wp2
          go_quiet (fail)
          go_wp2
          exact ⟨⟨i + 1, by go_num, by omega, hT.out, _, rfl⟩, by simp [intOf]; omega⟩
        · have hne : decide (l1 = l2) = false := decide_eq_false (fun e => hxy (by rw [hx, hy]; simp [e]))
          have HNE := Lib.hid hne
          clear hx hy hne
          by_cases hq1 : x1 = y1
          · subst hq1
            have hq2 : x2 ≠ y2 := fun e => hxy (by rw [e])
            have hb2 : (x2 == y2) = false := by simpa using hq2
            clear hxy
            go_wp2
            go_quiet (fail)
            go_wp2
            go_ret
            exact ⟨by rw [HNE.out]; rfl, _, World.drewN_drewN _ _ _⟩
          · have hb1 : (x1 == y1) = false := by simpa using hq1
            clear hxy
            go_wp2
            go_quiet (fail)
            go_wp2
            go_ret
            exact ⟨by rw [HNE.out]; rfl, _, World.drewN_drewN _ _ _⟩
      · have hin : i = n := by omega
        subst hin
        have hd1 : decide ((i : Int) < (i : Int)) = false := by simp
        have hd2 : decide (i < i) = false := by simp
        have heq : decide (l1 = l2) = true := decide_eq_true (by
          have := HTK.out
          rwa [List.take_of_length_le (by rw [← HN.out]; exact Nat.le_refl _), List.take_of_length_le (by rw [← HM.out]; exact Nat.le_refl _)] at this)
        have HE := Lib.hid heq
        clear heq
        go_wp2
        go_ret
        exact ⟨by rw [HE.out]; rfl, q, rfl⟩
  · have hd : ((n : Int) != (m : Int)) = true := by simp; omega
    have hne : decide (l1 = l2) = false := decide_eq_false (fun e => hnm (by rw [HN.out, HM.out, e]))
    have HNE := Lib.hid hne
    clear hP1 hP2 hA1 hA2 hn hm hne
    go_enter Try.func13, Try.ntmps13
    go_wp2
    go_ret
    exact ⟨by rw [HNE.out]; rfl, 0, rfl⟩

theorem Sk.one {l : List (Int × Int)} {a x y : Nat} {doc : Int} (h : Sk l a doc x) (k : Sk l a doc y) : x = y := by
  rcases Nat.lt_trichotomy x y with h1 | h1 | h1
  · have h2 := k.2.2.1 x h.1 h1
    have h3 := h.2.2.2 (by have := k.2.1; omega)
    omega
  · exact h1
  · have h2 := h.2.2.1 y k.1 h1
    have h3 := k.2.2.2 (by have := h.2.1; omega)
    omega
theorem atP_get {l : List (Int × Int)} {k : Nat} (h : k < l.length) : atP l k = l[k] := by
  unfold atP
  rw [List.getD_eq_getElem?_getD, List.getElem?_eq_getElem h]
  rfl

set_option maxHeartbeats 2000000 in
set_option maxRecDepth 100000 in
theorem refmax5_any (v : Value) (l : List (Int × Int)) (w : World) (h : Prd w v l) (hl : l.length ≤ 1000000) :
    Calls Try.prog 11 #[v] w fun e w' => e = .returned (.int .i64 (PostM.mx l)) ∧ w' = w := by
  have hP := h
  obtain ⟨A, cp, rfl, hcp⟩ := h.form
  obtain ⟨n, hn⟩ : ∃ n, n = l.length := ⟨_, rfl⟩
  rw [← hn] at hl hcp hP ⊢
  have HN := Lib.hid hn
  have HP := Lib.hid hP
  clear hn hP h
  go_enter Try.func11, Try.ntmps11
  go_wp2
  go_loopw [3, 4] (fun x i wr => ∃ k : Nat, k ≤ n ∧ i = .int .i64 k ∧ x = .int .i64 (PostM.mx (l.take k)) ∧ wr = w) (fun _ i _ => n - (intOf i).toNat)
  case atStart => exact ⟨0, by omega, rfl, rfl, rfl⟩
  case round =>
    obtain ⟨k, hk, rfl, rfl, hwr⟩ := hrel
    subst hwr
    by_cases hkn : k < n
    · have hkl : k < l.length := by rw [← HN.out]; exact hkn
      obtain ⟨b, o, rfl, hbw, c0, c1⟩ := (HP.out).at_ k hkl
      have hs := PostM.mx_snoc (l.take k) l[k]
      rw [← PostM.take_snoc_p l k hkl] at hs
      obtain ⟨⟨p1, p2⟩, hp⟩ : ∃ p, p = l[k] := ⟨_, rfl⟩
      rw [← hp] at c0 c1 hs
      simp only at c0 c1 hs
      obtain ⟨m, hm⟩ : ∃ m, m = PostM.mx (l.take k) := ⟨_, rfl⟩
      rw [← hm] at hs ⊢
      have q1 : (0 : Int) ≤ (k : Int) := by omega
      have q2 : (k : Int) < (n : Int) := by omega
      have q3 : decide ((k : Int) < (n : Int)) = true := decide_eq_true q2
      have q4 : decide (k < n) = true := decide_eq_true hkn
      by_cases hg : m < p2
      · have d : decide (m < p2) = true := decide_eq_true hg
        have HS := Lib.hid (hs.trans (show max m p2 = p2 by omega))
        clear hs hm hp hg
        go_wp2
        exact ⟨⟨k + 1, by omega, by go_num, by rw [HS.out], trivial⟩, by simp [intOf]; omega⟩
      · have d : decide (m < p2) = false := decide_eq_false hg
        have HS := Lib.hid (hs.trans (show max m p2 = m by omega))
        clear hs hm hp hg
        go_wp2
        exact ⟨⟨k + 1, by omega, by go_num, by rw [HS.out], trivial⟩, by simp [intOf]; omega⟩
    · obtain rfl : k = n := by omega
      have q3 : decide ((k : Int) < (k : Int)) = false := by simp
      have q4 : decide (k < k) = false := by simp
      have ht : l.take k = l := List.take_of_length_le (by rw [← HN.out]; exact Nat.le_refl _)
      rw [ht]
      go_wp2
      go_ret
      exact ⟨rfl, rfl⟩

set_option maxHeartbeats 2000000 in
set_option maxRecDepth 100000 in
theorem refseek5_any (v : Value) (l : List (Int × Int)) (a : Nat) (doc : Int) (w : World) (h : Prd w v l) (hl : l.length ≤ 1000000) (ha : a ≤ l.length) :
    Calls Try.prog 22 #[v, .int .i64 (a : Int), .int .i64 doc] w fun e w' => (∃ a' : Nat, e = .returned (.int .i64 (a' : Int)) ∧ Sk l a doc a') ∧ w' = w := by
  have hP := h
  obtain ⟨A, cp, rfl, hcp⟩ := h.form
  obtain ⟨n, hn⟩ : ∃ n, n = l.length := ⟨_, rfl⟩
  rw [← hn] at hl hcp hP ha ⊢
  have HN := Lib.hid hn
  have HP := Lib.hid hP
  clear hn hP h
  go_enter Try.func22, Try.ntmps22
  go_wp2
  go_loopw [1] (fun x wr => ∃ k : Nat, a ≤ k ∧ k ≤ n ∧ x = .int .i64 k ∧ (∀ j, a ≤ j → j < k → (atP l j).1 < doc) ∧ wr = w) (fun x _ => n - (intOf x).toNat)
  case atStart => exact ⟨a, Nat.le_refl _, ha, rfl, fun j h1 h2 => absurd h2 (by omega), rfl⟩
  case round =>
    obtain ⟨k, hak, hk, rfl, hall, hwr⟩ := hrel
    subst hwr
    have HALL := Lib.hid hall
    clear hall
    by_cases hkn : k < n
    · have hkl : k < l.length := by rw [← HN.out]; exact hkn
      obtain ⟨b, o, rfl, hbw, c0, c1⟩ := (HP.out).at_ k hkl
      have hat := atP_get hkl
      obtain ⟨⟨p1, p2⟩, hp⟩ : ∃ p, p = l[k] := ⟨_, rfl⟩
      rw [← hp] at c0 c1 hat
      simp only at c0 c1
      have HAT := Lib.hid hat
      have q1 : (0 : Int) ≤ (k : Int) := by omega
      have q2 : (k : Int) < (n : Int) := by omega
      have q3 : decide ((k : Int) < (n : Int)) = true := decide_eq_true q2
      have q4 : decide (k < n) = true := decide_eq_true hkn
      clear hat hp
      by_cases hg : p1 < doc
      · have d : decide (p1 < doc) = true := decide_eq_true hg
        have HG := Lib.hid hg
        clear hg
        go_wp2
        refine ⟨⟨k + 1, by omega, by omega, by go_num, fun j h1 h2 => ?_, trivial⟩, by simp [intOf]; omega⟩
        by_cases e : j = k
        · rw [e, HAT.out]; exact HG.out
        · exact HALL.out j h1 (by omega)
      · have d : decide (p1 < doc) = false := decide_eq_false hg
        have HG := Lib.hid hg
        clear hg
        go_wp2
        go_ret
        refine ⟨⟨k, rfl, hak, by rw [← HN.out]; exact hk, HALL.out, fun _ => ?_⟩, rfl⟩
        rw [HAT.out]
        have := HG.out
        simp only
        omega
    · obtain rfl : k = n := by omega
      have q3 : decide ((k : Int) < (k : Int)) = false := by simp
      have q4 : decide (k < k) = false := by simp
      go_wp2
      go_ret
      exact ⟨⟨k, rfl, hak, by rw [← HN.out]; exact Nat.le_refl _, HALL.out, fun h => absurd h (by rw [← HN.out]; omega)⟩, rfl⟩
end Go.Proofs.Ytlcmdnmifmjjgaa

/- Posts: 'awake'. -/
namespace Go.Proofs.Ytlcmdnmifmjjgaa
open Go.RowKit

def L5 : List (Int × Int) := [(1, 5), (3, 9), (4, 2), (8, 1), (9, 4)]
theorem L5_right : PostM.rightL L5 = true := by decide
theorem Fst.one {g : Nat → Int} {m : Nat} {doc : Int} {i j : Nat} (h : Fst g m doc i) (k : Fst g m doc j) : i = j := by
  obtain ⟨h1, h2, h3⟩ := h
  obtain ⟨k1, k2, k3⟩ := k
  rcases Nat.lt_trichotomy i j with e | e | e
  · have := k2 i e; have := h3 (by omega); omega
  · exact e
  · have := h2 j e; have := k3 (by omega); omega
theorem prd_cells {W : World} {g : Nat} {t : TypeId} {fr : Nat × Nat} {l : List (Int × Int)} (h : W.heap[g]? = some (.cells (l.flatMap enc2).toArray t fr)) : Prd W (.slice (some ⟨g, 0, none⟩) l.length l.length) l := by
  refine ⟨some ⟨g, 0, none⟩, l.length, rfl, Nat.le_refl _, (fun e => by cases e), rfl, fun k hk => ⟨g, 0, rfl, (Array.getElem?_eq_some_iff.1 h).1, ?_⟩⟩
  obtain ⟨a, b⟩ := flat_get l k hk
  unfold World.cell?
  simp only [h, Nat.zero_add]
  refine ⟨?_, ?_⟩
  · simpa using a
  · simpa using b
theorem sk5 : Sk L5 0 5 3 := by
  refine ⟨by omega, by decide, fun k h1 h2 => ?_, fun _ => by decide⟩
  have : k = 0 ∨ k = 1 ∨ k = 2 := by omega
  rcases this with rfl | rfl | rfl <;> decide
theorem BlkEnd.one {l : List (Int × Int)} {doc : Int} {e : Ending} (h : BlkEnd l doc e) (i : Nat) (hi : Fst (lastG (PostM.blks l)) (PostM.cnt l.length) doc i) : e = .returned (.tuple #[.int .i64 (if i < PostM.cnt l.length then ((PostM.blks l).getD i (0, 0)).1 else 0), .int .i64 (if i < PostM.cnt l.length then ((PostM.blks l).getD i (0, 0)).2 else -1)]) := by
  obtain ⟨j, hj, he⟩ := h
  obtain rfl : j = i := Fst.one hj hi
  exact he
theorem blk5_2 {e : Ending} (h : BlkEnd L5 2 e) : e = .returned (.tuple #[.int .i64 9, .int .i64 8]) := h.one 0 ⟨by decide, fun k hk => by omega, fun _ => by decide⟩
theorem blk5_9 {e : Ending} (h : BlkEnd L5 9 e) : e = .returned (.tuple #[.int .i64 4, .int .i64 9]) := h.one 1 ⟨by decide, fun k hk => by
  obtain rfl : k = 0 := by omega
  decide, fun _ => by decide⟩

set_option maxHeartbeats 4000000 in
set_option maxRecDepth 100000 in
theorem awake5_any (w : World) : Calls Try.prog 6 #[] w fun e w' => e = .returned (.bool true) ∧ Below w.heap.size w w' := by
  go_enter Try.func6, Try.ntmps6
  go_wp2_with fail
  refine (build_yes _ L5 _ (prd_cells (l := L5) (heap_alloc_new _ _)) (by decide) L5_right).mono ?_
  rintro e w1 ⟨bl, rfl, hbl, hpl, hb1⟩
  have HB1 := Lib.hid ((pl1 w _).trans (hb1.mono (by simp)))
  have HPL := Lib.hid hpl
  clear hb1 hpl hbl
  go_wp2_with fail
  refine (build_no _ [(1, 0)] _ (prd_cells (l := [(1, 0)]) (heap_alloc_new _ _)) (by decide) (by decide)).mono ?_
  rintro e w2 ⟨rfl, hb2⟩
  have hb12 : Below w1.heap.size w1 w2 := (pl1 w1 _).trans (hb2.mono (by simp))
  have HB2 := Lib.hid (HB1.out.trans (hb12.mono HB1.out.size))
  have HPL2 := Lib.hid (HPL.out.below hb12)
  clear hb2 hb12
  go_wp2_with fail
  refine (cursor_any bl L5 w2 w2 HPL2.out (Below.refl _ _)).mono ?_
  rintro e w3 ⟨c, rfl, hc, hpc, hb3⟩
  have HPC3 := Lib.hid hpc
  clear hb3 hpc
  go_wp2_with fail
  refine (seek_any c L5 0 5 w2 w3 HPC3.out (by decide) L5_right).mono ?_
  rintro e w4 ⟨rfl, ⟨a', hpc, hsk⟩, ht⟩
  obtain rfl : a' = 3 := Sk.one hsk sk5
  have HPC4 := Lib.hid hpc
  clear hpc hsk ht
  go_wp2_with fail
  have hat := at_any c L5 3 w2 w4 HPC4.out
  rw [show sv (atP L5 3) = .agg #[.int .i64 8, .int .i64 1] from rfl, show decide (3 < L5.length) = true from by decide] at hat
  refine hat.mono ?_
  rintro e w5 ⟨rfl, hb5⟩
  have HPC5 := Lib.hid (HPC4.out.below hb5)
  clear hb5 hat
  go_wp2_with fail
  obtain ⟨B6, hB6⟩ : ∃ B6, B6 = w5.heap.size := ⟨_, rfl⟩
  obtain ⟨w6, hw6⟩ : ∃ w6, w6 = w5.alloc (.cells #[.int .i64 8, .int .i64 1] 47) := ⟨_, rfl⟩
  have g6 : w6.heap[B6]? = some (.cells #[.int .i64 8, .int .i64 1] 47 (0, 0)) := by rw [hw6, hB6]; exact heap_alloc_new _ _
  have hc6 : c < B6 := by rw [hB6]; obtain ⟨_, _, _, _, _, _, _, h6⟩ := HPC5.out; exact (Array.getElem?_eq_some_iff.1 h6).1
  have HPC6 := Lib.hid (HPC5.out.below (w' := w6) (by rw [hw6]; exact pl1 _ _))
  rw [← hw6, ← hB6]
  clear hw6 hB6
  refine (block_any c L5 3 2 w2 w6 HPC6.out (by decide) (lastG_mono L5_right)).mono ?_
  rintro e w7 ⟨he, hb7⟩
  obtain rfl := blk5_2 he
  have HPC7 := Lib.hid (HPC6.out.below hb7)
  have g7 := blk_stay hb7 g6
  clear hb7 g6 he
  go_wp2_with fail
  refine (block_any c L5 3 9 w2 w7 HPC7.out (by decide) (lastG_mono L5_right)).mono ?_
  rintro e w8 ⟨he, hb8⟩
  obtain rfl := blk5_9 he
  have HPC8 := Lib.hid (HPC7.out.below hb8)
  have g8 := blk_stay hb8 g7
  clear hb8 g7 he
  go_wp2_with fail
  refine (next_any c L5 3 w2 w8 HPC8.out (by decide)).mono ?_
  rintro e w9 ⟨rfl, hpc, ht⟩
  have HPC9 : Hid (PC w2 w9 c L5 4) := Lib.hid hpc
  have g9 := (ht.block B6 (Array.getElem?_eq_some_iff.1 g8).1 (by omega)).trans g8
  clear hpc ht g8
  go_wp2_with fail
  refine (next_any c L5 4 w2 w9 HPC9.out (by decide)).mono ?_
  rintro e w10 ⟨rfl, hpc, ht⟩
  have HPC10 : Hid (PC w2 w10 c L5 5) := Lib.hid hpc
  have g10 := (ht.block B6 (Array.getElem?_eq_some_iff.1 g9).1 (by omega)).trans g9
  clear hpc ht g9
  go_wp2_with fail
  have hat := at_any c L5 5 w2 w10 HPC10.out
  rw [show sv (atP L5 5) = .agg #[.int .i64 0, .int .i64 0] from rfl, show decide (5 < L5.length) = false from by decide] at hat
  refine hat.mono ?_
  rintro e w11 ⟨rfl, hb11⟩
  have HB11 := Lib.hid (HPC10.out.below hb11).low
  have g11 := blk_stay hb11 g10
  clear hb11 hat g10
  go_wp2_with fail
  obtain ⟨w12, hw12⟩ : ∃ w12, w12 = w11.alloc (.cells #[.int .i64 0, .int .i64 0] 47) := ⟨_, rfl⟩
  have h12 : Below w11.heap.size w11 w12 := by rw [hw12]; exact pl1 _ _
  have HB12 := Lib.hid (HB11.out.trans (h12.mono HB11.out.size))
  have g12 := blk_stay h12 g11
  rw [← hw12]
  clear hw12 g11 h12
  refine (print_any bl L5 w12 (HPL2.out.below HB12.out) (by decide) L5_right).mono ?_
  rintro e w13 ⟨rfl, hb13⟩
  have HB13 := Lib.hid (HB12.out.trans (hb13.mono HB12.out.size))
  have g13 := blk_stay hb13 g12
  clear hb13 g12
  go_wp2_with fail
  refine (parse_any (printB L5) w13 (printB_len L5 L5_right (by decide))).mono ?_
  rintro e w14 ⟨hpa, hb14⟩
  have hpr := parA_print L5 L5_right (by decide)
  unfold PaEnd at hpa
  rw [hpr] at hpa
  obtain ⟨by_, rfl, hby, hpl⟩ := hpa
  have HB14 := Lib.hid (HB13.out.trans (hb14.mono HB13.out.size))
  have g14 := blk_stay hb14 g13
  have HPY := Lib.hid hpl
  clear hb14 g13 hpl hpr
  have k60 := cell_of_cells (i := 0) g14 rfl
  have k61 := cell_of_cells (i := 1) g14 rfl
  go_wp2_with fail
  have HPX := Lib.hid (HPL2.out.below HB14.out)
  refine (plen_any bl L5 w14 HPX.out).mono ?_
  rintro e w' ⟨rfl, rfl⟩
  go_wp2_with fail
  refine (pmax_any bl L5 w14 HPX.out).mono ?_
  rintro e w' ⟨rfl, rfl⟩
  rw [show PostM.mx L5 = 9 from by decide]
  go_wp2_with fail
  refine (pblocks_any bl L5 w14 HPX.out).mono ?_
  rintro e w' ⟨rfl, rfl⟩
  rw [show PostM.cnt L5.length = 2 from by decide]
  go_wp2_with fail
  refine (pposts_any by_ L5 w14 HPY.out (by decide)).mono ?_
  rintro e w15 ⟨v1, rfl, hp1, hb15⟩
  have HP1 := Lib.hid hp1
  have HPX15 := Lib.hid (HPX.out.below hb15)
  have HB15 := Lib.hid (HB14.out.trans (hb15.mono HB14.out.size))
  clear hp1 hb15
  go_wp2_with fail
  refine (pposts_any bl L5 w15 HPX15.out (by decide)).mono ?_
  rintro e w16 ⟨v2, rfl, hp2, hb16⟩
  have HP2 := Lib.hid hp2
  have HP1' := Lib.hid (HP1.out.later hb16)
  have HB16 := Lib.hid (HB15.out.trans (hb16.mono HB15.out.size))
  clear hp2 hb16
  go_wp2_with fail
  refine (refsame5_any v1 v2 L5 L5 w16 HP1'.out HP2.out (by decide) (by decide)).mono ?_
  rintro e w17 ⟨rfl, q, rfl⟩
  rw [show decide (L5 = L5) = true from by decide]
  go_wp2_with fail
  go_ret
  have hz := HB2.out.trans (HB16.out.mono HB2.out.size)
  exact ⟨rfl, hz.trans ((below_drewN _).mono hz.size)⟩
end Go.Proofs.Ytlcmdnmifmjjgaa

/- Posts: the document's Right. -/
namespace Go.Proofs.Ytlcmdnmifmjjgaa
open Go.RowKit

set_option maxHeartbeats 4000000 in
set_option maxRecDepth 100000 in
theorem refright5_any (v : Value) (l : List (Int × Int)) (w : World) (h : Prd w v l) (hl : l.length ≤ 1000000) :
    Calls Try.prog 8 #[v] w fun e w' => e = .returned (.bool (PostM.rightL l)) ∧ ∃ n, w' = w.drewN n := by
  have hP := h
  obtain ⟨A, cp, rfl, hcp⟩ := h.form
  obtain ⟨n, hn⟩ : ∃ n, n = l.length := ⟨_, rfl⟩
  rw [← hn] at hl hcp hP ⊢
  have HN := Lib.hid hn
  have HP := Lib.hid hP
  clear hn hP h
  go_enter Try.func8, Try.ntmps8
  go_wp2
  go_loopw [3] (fun x wr => ∃ k : Nat, k ≤ n ∧ x = .int .i64 k ∧ PostM.rgt (-1) (l.take k) = true ∧ ∃ q, wr = w.drewN q) (fun x _ => n - (intOf x).toNat)
  case atStart => exact ⟨0, by omega, rfl, rfl, 0, rfl⟩
  case round =>
    obtain ⟨k, hk, rfl, hr, q, rfl⟩ := hrel
    by_cases hkn : k < n
    · have hkl : k < l.length := by rw [← HN.out]; exact hkn
      obtain ⟨b, o, rfl, hbw, c0, c1⟩ := (HP.out).at_ k hkl
      have hnext := PostM.rgt_next (la := -1) k hkl
      rw [hr, Bool.true_and, PostM.rgt_one] at hnext
      have hpre : PostM.rightL l = true → PostM.rgt (-1) (l.take (k + 1)) = true := fun h => PostM.rgt_prefix (k + 1) h
      have hla : (k = 0 ∧ PostM.lastOf (-1) (l.take k) = -1) ∨ ∃ j, ∃ hj : j < l.length, k = j + 1 ∧ PostM.lastOf (-1) (l.take k) = l[j].1 ∧ 0 ≤ l[j].1 := by
        rcases k with _ | j
        · exact .inl ⟨rfl, rfl⟩
        · have hj : j < l.length := by omega
          refine .inr ⟨j, hj, rfl, PostM.lastOf_get _ _ _ hj, ?_⟩
          have := (PostM.rgt_all hr l[j] (by rw [PostM.take_snoc_p l j hj]; exact List.mem_append_right _ (List.mem_singleton.2 rfl))).1
          omega
      obtain ⟨⟨p1, p2⟩, hp⟩ : ∃ p, p = l[k] := ⟨_, rfl⟩
      rw [← hp] at c0 c1 hnext
      simp only at c0 c1 hnext
      obtain ⟨la, hlaz⟩ : ∃ la, la = PostM.lastOf (-1) (l.take k) := ⟨_, rfl⟩
      rw [← hlaz] at hnext hla
      have HNX := Lib.hid hnext
      have hno : (decide (la < p1) && decide (p1 ≤ 2147483647) && decide (1 ≤ p2) && decide (p2 ≤ 65535)) = false → PostM.rightL l = false := fun h => by
        cases hx : PostM.rightL l with
        | false => rfl
        | true => have := hpre hx; rw [HNX.out, h] at this; cases this
      have HNO := Lib.hid hno
      clear hno hnext hpre hlaz hp hr
      have q1 : (0 : Int) ≤ (k : Int) := by omega
      have q2 : (k : Int) < (n : Int) := by omega
      have q3 : decide ((k : Int) < (n : Int)) = true := decide_eq_true q2
      have q4 : decide (k < n) = true := decide_eq_true hkn
      have hlo : -1 ≤ la := by rcases hla with ⟨_, e⟩ | ⟨j, _, _, e, h0⟩ <;> omega
      have HLA := Lib.hid hla
      clear hla
      by_cases t1 : p1 < 0
      · have d1 : decide (p1 < 0) = true := decide_eq_true t1
        have HZ := Lib.hid (HNO.out (by rw [decide_eq_false (show ¬ la < p1 by omega)]; rfl))
        clear t1 hlo
        go_wp2
        go_quiet (fail)
        go_wp2
        go_ret
        exact ⟨by rw [HZ.out]; rfl, _, World.drewN_drewN _ _ _⟩
      · have d1 : decide (p1 < 0) = false := decide_eq_false t1
        by_cases t2 : p1 ≤ 2147483647
        · have d2 : decide (2147483647 < p1) = false := decide_eq_false (by omega)
          by_cases t3 : 1 ≤ p2
          · have d3 : decide (p2 < 1) = false := decide_eq_false (by omega)
            by_cases t4 : p2 ≤ 65535
            · have d4 : decide (65535 < p2) = false := decide_eq_false (by omega)
              rcases HLA.out with ⟨hk0, hl1⟩ | ⟨j, hj, hkj, hl1, hj0⟩
              · have hok : Hid (PostM.rgt (-1) (l.take (k + 1)) = true) := Lib.hid (by rw [HNX.out, decide_eq_true (show la < p1 by omega)]; simp [t2, t3, t4])
                have d5 : decide ((0 : Int) < (k : Int)) = false := decide_eq_false (by omega)
                have d6 : decide (0 < k) = false := decide_eq_false (by omega)
                have hk1 : k + 1 ≤ n := by omega
                clear t1 t2 t3 t4 hl1 hlo hk0
                go_wp2
                go_quiet (fail)
                go_wp2
                exact ⟨⟨k + 1, hk1, by go_num, hok.out, _, rfl⟩, by simp [intOf]; omega⟩
              · obtain ⟨b', o', e', hbw', c2, _⟩ := (HP.out).at_ j hj
                injection e' with e'
                injection e' with e1 e2
                subst e1; subst e2
                obtain ⟨g, hg⟩ : ∃ g, g = l[j].1 := ⟨_, rfl⟩
                rw [← hg] at c2 hl1 hj0
                have d5 : decide ((0 : Int) < (k : Int)) = true := decide_eq_true (by omega)
                have d6 : decide (0 < k) = true := decide_eq_true (by omega)
                have hwr : IntKind.i64.wrap ((k : Int) - 1) = (j : Int) := (IntWalk.i64_in _ (by omega)).trans (by omega)
                have q5 : (0 : Int) ≤ (j : Int) := by omega
                have q6 : (j : Int) < (n : Int) := by omega
                clear hg
                by_cases t5 : la < p1
                · have hok : Hid (PostM.rgt (-1) (l.take (k + 1)) = true) := Lib.hid (by rw [HNX.out, decide_eq_true t5]; simp [t2, t3, t4])
                  have d7 : decide (p1 ≤ g) = false := decide_eq_false (by omega)
                  have hk1 : k + 1 ≤ n := by omega
                  have HK := Lib.hid hkj
                  clear t1 t2 t3 t4 t5 hl1 hlo hkj hj0
                  go_wp2
                  go_quiet (fail)
                  go_wp2
                  exact ⟨⟨k + 1, hk1, by go_num, hok.out, _, rfl⟩, by simp [intOf]; omega⟩
                · have d7 : decide (p1 ≤ g) = true := decide_eq_true (by omega)
                  have HZ := Lib.hid (HNO.out (by rw [decide_eq_false t5]; rfl))
                  clear t1 t2 t3 t4 t5 hl1 hlo hkj hj0
                  go_wp2
                  go_quiet (fail)
                  go_wp2
                  go_ret
                  exact ⟨by rw [HZ.out]; rfl, _, World.drewN_drewN _ _ _⟩
            · have d4 : decide (65535 < p2) = true := decide_eq_true (by omega)
              have HZ := Lib.hid (HNO.out (by simp [t4]))
              clear t1 t2 t3 t4 hlo
              go_wp2
              go_quiet (fail)
              go_wp2
              go_ret
              exact ⟨by rw [HZ.out]; rfl, _, World.drewN_drewN _ _ _⟩
          · have d3 : decide (p2 < 1) = true := decide_eq_true (by omega)
            have HZ := Lib.hid (HNO.out (by simp [t3]))
            clear t1 t2 t3 hlo
            go_wp2
            go_quiet (fail)
            go_wp2
            go_ret
            exact ⟨by rw [HZ.out]; rfl, _, World.drewN_drewN _ _ _⟩
        · have d2 : decide (2147483647 < p1) = true := decide_eq_true (by omega)
          have HZ := Lib.hid (HNO.out (by simp [t2]))
          clear t1 t2 hlo
          go_wp2
          go_quiet (fail)
          go_wp2
          go_ret
          exact ⟨by rw [HZ.out]; rfl, _, World.drewN_drewN _ _ _⟩
    · obtain rfl : k = n := by omega
      have q3 : decide ((k : Int) < (k : Int)) = false := by simp
      have q4 : decide (k < k) = false := by simp
      have ht : l.take k = l := List.take_of_length_le (by rw [← HN.out]; exact Nat.le_refl _)
      rw [ht] at hr
      have HZ : Hid (PostM.rightL l = true) := Lib.hid hr
      clear hr
      go_wp2
      go_ret
      exact ⟨by rw [HZ.out]; rfl, q, rfl⟩
end Go.Proofs.Ytlcmdnmifmjjgaa

/- Posts: the document's Block. -/
namespace Go.Proofs.Ytlcmdnmifmjjgaa
open Go.RowKit

theorem piece_part {l : List (Int × Int)} {n f k t : Nat} (hn : n = l.length) (hf : f = 4 * k) (ht : t = min (f + 4) n) : (l.drop f).take (t - f) = PostM.piece l k := by
  unfold PostM.piece
  rw [← hf]
  by_cases e : f + 4 ≤ n
  · rw [show t - f = 4 by omega]
  · rw [show t - f = n - f by omega, hn, List.take_of_length_le (by simp), List.take_of_length_le (by simp; rw [← hn]; omega)]

set_option maxHeartbeats 4000000 in
set_option maxRecDepth 100000 in
theorem refblock5_any (v : Value) (l : List (Int × Int)) (doc : Int) (w : World) (h : Prd w v l) (hl : l.length ≤ 1000000) :
    Calls Try.prog 25 #[v, .int .i64 doc] w fun e w' => BlkEnd l doc e ∧ ∃ n, w' = w.drewN n := by
  have hP := h
  obtain ⟨A, cp, rfl, hcp⟩ := h.form
  unfold BlkEnd
  obtain ⟨n, hn⟩ : ∃ n, n = l.length := ⟨_, rfl⟩
  obtain ⟨B, hB⟩ : ∃ B, B = PostM.blks l := ⟨_, rfl⟩
  rw [← hn] at hl hcp hP ⊢
  obtain ⟨c, hc⟩ : ∃ c, c = PostM.cnt n := ⟨_, rfl⟩
  rw [← hB, ← hc]
  have HN := Lib.hid hn
  have HP := Lib.hid hP
  have HB := Lib.hid hB
  have hc' : c = (n + 3) / 4 := hc
  have HC := Lib.hid hc
  have HC2 := Lib.hid hc'
  clear hn hP h hB hc hc'
  go_enter Try.func25, Try.ntmps25
  go_wp2
  go_loopw [6] (fun x wr => ∃ k f : Nat, f = 4 * k ∧ k ≤ c ∧ f ≤ n + 3 ∧ x = .int .i64 f ∧ (∀ j, j < k → lastG B j < doc) ∧ ∃ q, wr = w.drewN q) (fun x _ => n + 4 - (intOf x).toNat)
  case atStart => exact ⟨0, 0, rfl, by omega, by omega, rfl, fun j h => absurd h (by omega), 0, rfl⟩
  case round =>
    obtain ⟨k, f, hf, hk, hfn, rfl, hall, q, hwr⟩ := hrel
    have hPr : Prd wr (.slice A n cp) l := by rw [hwr]; exact (HP.out).later (below_drewN_p w q)
    have HPR := Lib.hid hPr
    have HWR := Lib.hid hwr
    clear hPr hwr
    have HALL := Lib.hid hall
    have HF := Lib.hid hf
    clear hall hf
    have z0 : (0 : Int) ≤ (f : Int) := by omega
    by_cases hkn : f < n
    · have hkc : k < c := by have := HF.out; have := HC2.out; omega
      obtain ⟨m, hm, hmt, hlg⟩ : ∃ m, ∃ hm : m < l.length, m + 1 = min (f + 4) n ∧ lastG B k = l[m].1 := by
        obtain ⟨hj, e⟩ := lastG_is l k (by rw [← HN.out, ← HC.out]; exact hkc)
        refine ⟨min (4 * k + 4) l.length - 1, hj, ?_, by rw [HB.out]; exact e⟩
        have := HF.out
        have := HN.out
        omega
      obtain ⟨t, ht⟩ : ∃ t, t = m + 1 := ⟨_, rfl⟩
      have hpc := piece_part (l := l) HN.out HF.out (ht.trans hmt)
      obtain ⟨b, o, rfl, hbw, c0, _⟩ := (HPR.out).at_ m hm
      have hpart := (HPR.out).part f (t - f) (cp - f) (by rw [← HN.out]; omega) (by omega)
      rw [hpc] at hpart
      have hpl : (PostM.piece l k).length ≤ 1000000 := by rw [← hpc, List.length_take]; omega
      have HMX : Hid (∀ m, Calls Try.prog 11 #[.slice (some ⟨b, o + f * 2, none⟩) (t - f) (cp - f)] (wr.drewN m) fun e w' => e = .returned (.int .i64 (PostM.mx (PostM.piece l k))) ∧ w' = wr.drewN m) := Lib.hid (fun m => refmax5_any _ _ _ (hpart.later (below_drewN_p wr m)) hpl)
      obtain ⟨X, hX⟩ : ∃ X, X = PostM.mx (PostM.piece l k) := ⟨_, rfl⟩
      rw [← hX] at HMX
      obtain ⟨g, hg⟩ : ∃ g, g = l[m].1 := ⟨_, rfl⟩
      rw [← hg] at c0 hlg
      have hgd : B.getD k (0, 0) = (X, g) := by
        have e := blks_get l k (by rw [← HN.out, ← HC.out]; exact hkc)
        rw [← HB.out] at e
        rw [e, hX, ← hlg]
        unfold lastG
        rw [e]
        rfl
      have HGD := Lib.hid hgd
      have HLG := Lib.hid hlg
      obtain ⟨u, hu⟩ : ∃ u, u = f + 4 := ⟨_, rfl⟩
      have hwu : IntKind.i64.wrap ((f : Int) + 4) = (u : Int) := (IntWalk.i64_in _ (by omega)).trans (by omega)
      have q1 : (f : Int) < (n : Int) := by omega
      have q2 : decide ((f : Int) < (n : Int)) = true := decide_eq_true q1
      have q3 : decide (f < n) = true := decide_eq_true hkn
      have q4 : (0 : Int) ≤ (m : Int) := by omega
      have q5 : (m : Int) < (n : Int) := by omega
      have q6 : (f : Int) ≤ (t : Int) := by omega
      have q7 : (t : Int) ≤ (cp : Int) := by omega
      have q8 : ¬ cp = f := by omega
      have q9 : ¬ (cp : Int) = (f : Int) := by omega
      have hnext : u = 4 * (k + 1) ∧ k + 1 ≤ c ∧ u ≤ n + 3 ∧ n + 4 - u < n + 4 - f := by have := HF.out; omega
      have HNX := Lib.hid hnext
      have HKC := Lib.hid hkc
      have hwt : IntKind.i64.wrap ((t : Int) - 1) = (m : Int) := (IntWalk.i64_in _ (by omega)).trans (by omega)
      clear hpc hpart hpl hX hg hgd hlg hnext hkc
      have HALL2 : Hid (g < doc → ∀ j, j < k + 1 → lastG B j < doc) := Lib.hid (fun hgd j hj => by
        by_cases e : j = k
        · rw [e, HLG.out]; exact hgd
        · exact HALL.out j (by omega))
      by_cases hnu : n < u
      · obtain rfl : t = n := by omega
        have r1 : (t : Int) < (u : Int) := by omega
        have r2 : decide ((t : Int) < (u : Int)) = true := decide_eq_true r1
        have r3 : decide (t < u) = true := decide_eq_true hnu
        clear hu ht
        by_cases hd : doc ≤ g
        · have d : decide (doc ≤ g) = true := decide_eq_true hd
          have HD := Lib.hid hd
          clear hd hmt
          go_wp2
          go_quiet ((go_at_call 11; exact Calls.quiet_of_same (HMX.out _)))
          go_wp2
          go_ret2
          have e1 := HKC.out
          exact ⟨⟨k, ⟨by omega, HALL.out, fun _ => by rw [HLG.out]; exact HD.out⟩, by rw [HGD.out, if_pos e1, if_pos e1]; rfl⟩, _, by rw [HWR.out]; exact World.drewN_drewN _ _ _⟩
        · have d : decide (doc ≤ g) = false := decide_eq_false hd
          have HD := Lib.hid hd
          clear hd hmt
          go_wp2
          exact ⟨⟨k + 1, u, HNX.out.1, HNX.out.2.1, HNX.out.2.2.1, rfl, HALL2.out (by have := HD.out; omega), q, HWR.out⟩, by simp [intOf]; have := HNX.out.2.2.2; omega⟩
      · obtain rfl : t = u := by omega
        have r1 : ¬ (n : Int) < (t : Int) := by omega
        have r2 : decide ((n : Int) < (t : Int)) = false := decide_eq_false r1
        have r3 : decide (n < t) = false := decide_eq_false hnu
        clear hu ht
        by_cases hd : doc ≤ g
        · have d : decide (doc ≤ g) = true := decide_eq_true hd
          have HD := Lib.hid hd
          clear hd hmt
          go_wp2
          go_quiet ((go_at_call 11; exact Calls.quiet_of_same (HMX.out _)))
          go_wp2
          go_ret2
          have e1 := HKC.out
          exact ⟨⟨k, ⟨by omega, HALL.out, fun _ => by rw [HLG.out]; exact HD.out⟩, by rw [HGD.out, if_pos e1, if_pos e1]; rfl⟩, _, by rw [HWR.out]; exact World.drewN_drewN _ _ _⟩
        · have d : decide (doc ≤ g) = false := decide_eq_false hd
          have HD := Lib.hid hd
          clear hd hmt
          go_wp2
          exact ⟨⟨k + 1, t, HNX.out.1, HNX.out.2.1, HNX.out.2.2.1, rfl, HALL2.out (by have := HD.out; omega), q, HWR.out⟩, by simp [intOf]; have := HNX.out.2.2.2; omega⟩
    · have hkc : k = c := by have := HF.out; have := HC2.out; omega
      have q2 : decide ((f : Int) < (n : Int)) = false := decide_eq_false (by omega)
      have q3 : decide (f < n) = false := decide_eq_false hkn
      have HK := Lib.hid hkc
      clear hkc
      go_wp2
      go_ret2
      exact ⟨⟨c, ⟨Nat.le_refl _, by rw [← HK.out]; exact HALL.out, fun h => absurd h (by omega)⟩, by rw [if_neg (by omega), if_neg (by omega)]; rfl⟩, q, HWR.out⟩
end Go.Proofs.Ytlcmdnmifmjjgaa

/- PostingMoves: called with a list of posts, any script and any document it returns true. -/
namespace Go.Proofs.Ytlcmdnmifmjjgaa
open Go.RowKit

/-- the asks of a script, in memory -/
def Acts (w : World) (A : Option Addr) (n : Nat) (l : List (Bool × Int)) : Prop :=
  l.length = n ∧ ∀ k (h : k < l.length), ∃ b o, A = some ⟨b, o, none⟩ ∧ b < w.heap.size ∧ w.cell? ⟨b, o + k * 2, none⟩ = some (.bool l[k].1) ∧ w.cell? ⟨b, o + k * 2 + 1, none⟩ = some (.int .i64 l[k].2)
theorem Acts.later {w w' : World} {A : Option Addr} {n : Nat} {l : List (Bool × Int)} (h : Acts w A n l) (hb : Below w.heap.size w w') : Acts w' A n l :=
  ⟨h.1, fun k hk => by
    obtain ⟨b, o, e, hl, h0, h1⟩ := h.2 k hk
    exact ⟨b, o, e, Nat.lt_of_lt_of_le hl hb.size, (hb.cell (p := ⟨b, o + k * 2, none⟩) hl).trans h0, (hb.cell (p := ⟨b, o + k * 2 + 1, none⟩) hl).trans h1⟩⟩

set_option maxHeartbeats 4000000 in
set_option maxRecDepth 100000 in
theorem moves_main (A : Option Addr) (n cp : Nat) (l : List (Int × Int)) (A2 : Option Addr) (m cp2 : Nat) (acts : List (Bool × Int)) (doc : Int) (w : World) (hn : n ≤ 300) (hm : m ≤ 100) (hln : l.length = n) (hP : Prd w (.slice A n cp) l) (hAc : Acts w A2 m acts) (hr : PostM.rightL l = true) :
    Calls Try.prog 4 #[.slice A n cp, .slice A2 m cp2, .int .i64 doc] w fun e w' => e = .returned (.bool true) ∧ Below w.heap.size w w' := by
  have hd300 : decide ((300 : Int) < (n : Int)) = false := decide_eq_false (by omega)
  have hd100 : decide ((100 : Int) < (m : Int)) = false := decide_eq_false (by omega)
  have HP := Lib.hid hP
  have HR := Lib.hid hr
  have HLN := Lib.hid hln
  have HAC := Lib.hid hAc
  clear hP hr hln hAc
  go_enter Try.func4, Try.ntmps4
  go_wp2_with fail
  refine (awake5_any _).mono ?_
  rintro e w1 ⟨rfl, hb1⟩
  have HB1 := Lib.hid hb1
  have hp1 := HP.out.later hb1
  have HP1 := Lib.hid hp1
  have hrr := refright5_any _ l w1 hp1 (by rw [HLN.out]; omega)
  rw [HR.out] at hrr
  have HRR := Lib.hid hrr
  clear hb1 hp1 hrr
  go_wp2_with fail
  refine HRR.out.mono ?_
  rintro e w2 ⟨rfl, q, rfl⟩
  have hbq : Below w1.heap.size w1 (w1.drewN q) := below_drewN _
  have HB2 := Lib.hid (HB1.out.trans (hbq.mono HB1.out.size))
  have HP2 := Lib.hid (HP1.out.later hbq)
  clear hbq
  obtain ⟨w2, hw2⟩ : ∃ w2, w2 = w1.drewN q := ⟨_, rfl⟩
  rw [← hw2] at HB2 HP2 ⊢
  clear hw2
  go_wp2_with fail
  refine (build_yes _ l w2 HP2.out (by rw [HLN.out]; omega) HR.out).mono ?_
  rintro e w3 ⟨bl, rfl, hbl, hpl, hb3⟩
  have HB3 := Lib.hid (HB2.out.trans (hb3.mono HB2.out.size))
  have HP3 := Lib.hid (HP2.out.later hb3)
  have HPL := Lib.hid hpl
  clear hb3 hpl hbl
  go_wp2_with fail
  refine (cursor_any bl l w3 w3 HPL.out (Below.refl _ _)).mono ?_
  rintro e w4 ⟨c, rfl, hc, hpc, hb4⟩
  have HPC := Lib.hid hpc
  clear hpc hb4
  go_wp2_with fail
  have hAc3 := HAC.out.later HB3.out
  have HAC3 := Lib.hid hAc3
  clear hAc3
  go_loopw [11, 10] (fun x y wr => ∃ i a : Nat, x = .int .i64 i ∧ y = .int .i64 a ∧ i ≤ m ∧ a ≤ n ∧ PC w3 wr c l a) (fun x _ _ => m - (intOf x).toNat)
  case atStart => exact ⟨0, 0, rfl, rfl, by omega, by omega, HPC.out⟩
  case round =>
    obtain ⟨i, a, rfl, rfl, him, han, hpc⟩ := hrel
    by_cases hlm : i < m
    · have hmi : (i : Int) < (m : Int) := by omega
      have hdm : decide ((i : Int) < (m : Int)) = true := decide_eq_true hmi
      obtain ⟨ba, oa, hA2, hba, hc0, hc1⟩ := HAC3.out.2 i (by rw [HAC3.out.1]; exact hlm)
      obtain ⟨⟨nx, d⟩, hact⟩ : ∃ p, p = acts[i]'(by rw [HAC3.out.1]; exact hlm) := ⟨_, rfl⟩
      rw [← hact] at hc0 hc1
      simp only at hc0 hc1
      subst hA2
      have HK := Lib.hid (fun W (hW : Below w3.heap.size w3 W) => And.intro ((hW.cell (p := ⟨ba, oa + i * 2, none⟩) hba).trans hc0) ((hW.cell (p := ⟨ba, oa + i * 2 + 1, none⟩) hba).trans hc1))
      clear hc0 hc1
      obtain ⟨hc0, hc1⟩ := HK.out wr hpc.low
      have hnx := next_any c l a w3 wr hpc (by rw [HLN.out]; omega)
      have hsk := seek_any c l a d w3 wr hpc (by rw [HLN.out]; omega) HR.out
      have hrs := fun W (h : Below w3.heap.size w3 W) => refseek5_any _ l a d W (HP3.out.later h) (by rw [HLN.out]; omega) (by rw [HLN.out]; exact han)
      rw [HLN.out] at hnx
      have HNX := Lib.hid hnx
      have HSK := Lib.hid hsk
      have HRS := Lib.hid hrs
      clear hnx hsk hrs hact
      cases nx with
      | true =>
        go_wp2_with fail
        refine HNX.out.mono ?_
        rintro e w5 ⟨rfl, hpc5, hT⟩
        have HPC5 := Lib.hid hpc5
        clear hpc5 HNX HSK HRS hT
        by_cases han2 : a < n
        · obtain ⟨a', ha'⟩ : ∃ a', a' = a + 1 := ⟨_, rfl⟩
          have hmn : min (a + 1) n = a' := by omega
          rw [hmn] at HPC5
          have hm1 : (a : Int) + 1 ≤ (n : Int) := by omega
          have hm2 : ¬ (n : Int) < (a : Int) + 1 := by omega
          have hm3 : (a : Int) + 1 = (a' : Int) := by omega
          have han' : a' ≤ n := by omega
          clear hmn ha'
          have hat := at_any c l a' w3 w5 HPC5.out
          obtain ⟨⟨x, y⟩, hxy⟩ : ∃ p, p = atP l a' := ⟨_, rfl⟩
          rw [← hxy, HLN.out] at hat
          unfold sv at hat
          simp only at hat
          have HAT := Lib.hid hat
          have HXY := Lib.hid hxy
          clear hat hxy
          go_wp2_with fail
          refine HAT.out.mono ?_
          rintro e w6 ⟨rfl, hb6⟩
          clear HAT
          have HPC6 := Lib.hid (HPC5.out.below hb6)
          clear hb6
          by_cases hlt : a' < n
          · have hdl : decide (a' < n) = true := decide_eq_true hlt
            have hdi : decide ((a' : Int) < (n : Int)) = true := decide_eq_true (by omega)
            have hli : (a' : Int) < (n : Int) := by omega
            obtain ⟨pb, po, hA, hpb, hx, hy⟩ := (HP3.out.later (HPC6.out.low)).at_ a' (by rw [HLN.out]; exact hlt)
            have hg := atP_get (l := l) (k := a') (by rw [HLN.out]; exact hlt)
            rw [← HXY.out] at hg
            rw [← hg] at hx hy
            simp only at hx hy
            subst hA
            clear hg
            rw [hdl]
            go_wp2_with fail
            have hx6 : (w6.alloc (.cells #[.int .i64 x, .int .i64 y] 47)).cell? ⟨pb, po + a' * 2, none⟩ = some (.int .i64 x) := ((pl1 w6 _).cell (p := ⟨pb, po + a' * 2, none⟩) hpb).trans hx
            have hy6 : (w6.alloc (.cells #[.int .i64 x, .int .i64 y] 47)).cell? ⟨pb, po + a' * 2 + 1, none⟩ = some (.int .i64 y) := ((pl1 w6 _).cell (p := ⟨pb, po + a' * 2 + 1, none⟩) hpb).trans hy
            have g6 : (w6.alloc (.cells #[.int .i64 x, .int .i64 y] 47)).heap[w6.heap.size]? = some (.cells #[.int .i64 x, .int .i64 y] 47 (0, 0)) := heap_alloc_new _ _
            have HPC7 := Lib.hid (HPC6.out.below (pl1 w6 (.cells #[.int .i64 x, .int .i64 y] 47)))
            obtain ⟨w7, hw7⟩ : ∃ w7, w7 = w6.alloc (.cells #[.int .i64 x, .int .i64 y] 47) := ⟨_, rfl⟩
            rw [← hw7] at hx6 hy6 g6 HPC7 ⊢
            have kb0 := cell_of_cells (i := 0) g6 rfl
            have kb1 := cell_of_cells (i := 1) g6 rfl
            clear hx hy hw7 g6
            go_quiet (fail)
            clear hx6 hy6 kb0 kb1
            rename_i nq
            have hbq : Below w7.heap.size w7 (w7.drewN nq) := below_drewN _
            have HPC8 := Lib.hid (HPC7.out.below hbq)
            clear hbq
            obtain ⟨w8, hw8⟩ : ∃ w8, w8 = w7.drewN nq := ⟨_, rfl⟩
            rw [← hw8] at HPC8 ⊢
            clear hw8
            obtain ⟨hc0, hc1⟩ := HK.out w8 HPC8.out.low
            go_wp2_with fail
            clear hc0 hc1

            obtain ⟨hc0, hc1⟩ := HK.out w8 HPC8.out.low
            refine (block_any c l a' d w3 w8 HPC8.out (by rw [HLN.out]; omega) (lastG_mono HR.out)).mono ?_
            rintro e w9 ⟨⟨j, hj, rfl⟩, hb9⟩
            have HPC9 := Lib.hid (HPC8.out.below hb9)
            have hrb := refblock5_any _ l d w9 (HP3.out.later HPC9.out.low) (by rw [HLN.out]; omega)
            obtain ⟨V1, hV1⟩ : ∃ V1, V1 = (if j < PostM.cnt l.length then ((PostM.blks l).getD j (0, 0)).1 else 0) := ⟨_, rfl⟩
            obtain ⟨V2, hV2⟩ : ∃ V2, V2 = (if j < PostM.cnt l.length then ((PostM.blks l).getD j (0, 0)).2 else -1) := ⟨_, rfl⟩
            have hone : ∀ e, BlkEnd l d e → e = .returned (.tuple #[.int .i64 V1, .int .i64 V2]) := fun e h => by rw [hV1, hV2]; exact h.one j hj
            rw [← hV1, ← hV2]
            have HRB := Lib.hid hrb
            have HONE := Lib.hid hone
            clear hrb hone hV1 hV2 hj hb9 hc0 hc1
            obtain ⟨_, hc1⟩ := HK.out w9 HPC9.out.low
            go_wp2_with fail
            refine HRB.out.mono ?_
            rintro e w10 ⟨he, q, rfl⟩
            obtain rfl := HONE.out e he
            go_wp2
            go_roundw
            case rel => exact ⟨i + 1, a', by go_num, rfl, by omega, han', HPC9.out.below (below_drewN _)⟩
            case measure => simp [intOf]; omega

          · have hdl : decide (a' < n) = false := decide_eq_false hlt
            have hdi : decide ((a' : Int) < (n : Int)) = false := decide_eq_false (by omega)
            have hli : ¬ (a' : Int) < (n : Int) := by omega
            have hx0 : x = 0 ∧ y = 0 := by
              have := HXY.out
              unfold atP at this
              rw [List.getD_eq_getElem?_getD, List.getElem?_eq_none (by rw [HLN.out]; omega)] at this
              simpa using this
            obtain ⟨rfl, rfl⟩ := hx0
            rw [hdl]
            go_wp2_with fail
            have g6 : (w6.alloc (.cells #[.int .i64 0, .int .i64 0] 47)).heap[w6.heap.size]? = some (.cells #[.int .i64 0, .int .i64 0] 47 (0, 0)) := heap_alloc_new _ _
            have HPC7 := Lib.hid (HPC6.out.below (pl1 w6 (.cells #[.int .i64 0, .int .i64 0] 47)))
            obtain ⟨w7, hw7⟩ : ∃ w7, w7 = w6.alloc (.cells #[.int .i64 0, .int .i64 0] 47) := ⟨_, rfl⟩
            rw [← hw7] at g6 HPC7 ⊢
            have kb0 := cell_of_cells (i := 0) g6 rfl
            have kb1 := cell_of_cells (i := 1) g6 rfl
            clear hw7 g6
            go_quiet (fail)
            clear kb0 kb1
            rename_i nq
            have hbq : Below w7.heap.size w7 (w7.drewN nq) := below_drewN _
            have HPC8 := Lib.hid (HPC7.out.below hbq)
            clear hbq
            obtain ⟨w8, hw8⟩ : ∃ w8, w8 = w7.drewN nq := ⟨_, rfl⟩
            rw [← hw8] at HPC8 ⊢
            clear hw8
            obtain ⟨hc0, hc1⟩ := HK.out w8 HPC8.out.low
            go_wp2_with fail
            clear hc0 hc1

            obtain ⟨hc0, hc1⟩ := HK.out w8 HPC8.out.low
            refine (block_any c l a' d w3 w8 HPC8.out (by rw [HLN.out]; omega) (lastG_mono HR.out)).mono ?_
            rintro e w9 ⟨⟨j, hj, rfl⟩, hb9⟩
            have HPC9 := Lib.hid (HPC8.out.below hb9)
            have hrb := refblock5_any _ l d w9 (HP3.out.later HPC9.out.low) (by rw [HLN.out]; omega)
            obtain ⟨V1, hV1⟩ : ∃ V1, V1 = (if j < PostM.cnt l.length then ((PostM.blks l).getD j (0, 0)).1 else 0) := ⟨_, rfl⟩
            obtain ⟨V2, hV2⟩ : ∃ V2, V2 = (if j < PostM.cnt l.length then ((PostM.blks l).getD j (0, 0)).2 else -1) := ⟨_, rfl⟩
            have hone : ∀ e, BlkEnd l d e → e = .returned (.tuple #[.int .i64 V1, .int .i64 V2]) := fun e h => by rw [hV1, hV2]; exact h.one j hj
            rw [← hV1, ← hV2]
            have HRB := Lib.hid hrb
            have HONE := Lib.hid hone
            clear hrb hone hV1 hV2 hj hb9 hc0 hc1
            obtain ⟨_, hc1⟩ := HK.out w9 HPC9.out.low
            go_wp2_with fail
            refine HRB.out.mono ?_
            rintro e w10 ⟨he, q, rfl⟩
            obtain rfl := HONE.out e he
            go_wp2
            go_roundw
            case rel => exact ⟨i + 1, a', by go_num, rfl, by omega, han', HPC9.out.below (below_drewN _)⟩
            case measure => simp [intOf]; omega
        · have hmn : min (a + 1) n = n := by omega
          rw [hmn] at HPC5
          have hm1 : (n : Int) < (a : Int) + 1 := by omega
          have han' : n ≤ n := by omega
          clear hmn
          have hat := at_any c l n w3 w5 HPC5.out
          obtain ⟨⟨x, y⟩, hxy⟩ : ∃ p, p = atP l n := ⟨_, rfl⟩
          rw [← hxy, HLN.out] at hat
          unfold sv at hat
          simp only at hat
          have HAT := Lib.hid hat
          have HXY := Lib.hid hxy
          clear hat hxy
          go_wp2_with fail
          refine HAT.out.mono ?_
          rintro e w6 ⟨rfl, hb6⟩
          clear HAT
          have HPC6 := Lib.hid (HPC5.out.below hb6)
          clear hb6
          have hlt : ¬ n < n := by omega
          have hdl : decide (n < n) = false := decide_eq_false hlt
          have hdi : decide ((n : Int) < (n : Int)) = false := decide_eq_false (by omega)
          have hli : ¬ (n : Int) < (n : Int) := by omega
          have hx0 : x = 0 ∧ y = 0 := by
            have := HXY.out
            unfold atP at this
            rw [List.getD_eq_getElem?_getD, List.getElem?_eq_none (by rw [HLN.out]; omega)] at this
            simpa using this
          obtain ⟨rfl, rfl⟩ := hx0
          rw [hdl]
          go_wp2_with fail
          have g6 : (w6.alloc (.cells #[.int .i64 0, .int .i64 0] 47)).heap[w6.heap.size]? = some (.cells #[.int .i64 0, .int .i64 0] 47 (0, 0)) := heap_alloc_new _ _
          have HPC7 := Lib.hid (HPC6.out.below (pl1 w6 (.cells #[.int .i64 0, .int .i64 0] 47)))
          obtain ⟨w7, hw7⟩ : ∃ w7, w7 = w6.alloc (.cells #[.int .i64 0, .int .i64 0] 47) := ⟨_, rfl⟩
          rw [← hw7] at g6 HPC7 ⊢
          have kb0 := cell_of_cells (i := 0) g6 rfl
          have kb1 := cell_of_cells (i := 1) g6 rfl
          clear hw7 g6
          go_quiet (fail)
          clear kb0 kb1

          rename_i nq
          have hbq : Below w7.heap.size w7 (w7.drewN nq) := below_drewN _
          have HPC8 := Lib.hid (HPC7.out.below hbq)
          clear hbq
          obtain ⟨w8, hw8⟩ : ∃ w8, w8 = w7.drewN nq := ⟨_, rfl⟩
          rw [← hw8] at HPC8 ⊢
          clear hw8
          obtain ⟨hc0, hc1⟩ := HK.out w8 HPC8.out.low
          go_wp2_with fail
          clear hc0 hc1

          obtain ⟨hc0, hc1⟩ := HK.out w8 HPC8.out.low
          refine (block_any c l n d w3 w8 HPC8.out (by rw [HLN.out]; omega) (lastG_mono HR.out)).mono ?_
          rintro e w9 ⟨⟨j, hj, rfl⟩, hb9⟩
          have HPC9 := Lib.hid (HPC8.out.below hb9)
          have hrb := refblock5_any _ l d w9 (HP3.out.later HPC9.out.low) (by rw [HLN.out]; omega)
          obtain ⟨V1, hV1⟩ : ∃ V1, V1 = (if j < PostM.cnt l.length then ((PostM.blks l).getD j (0, 0)).1 else 0) := ⟨_, rfl⟩
          obtain ⟨V2, hV2⟩ : ∃ V2, V2 = (if j < PostM.cnt l.length then ((PostM.blks l).getD j (0, 0)).2 else -1) := ⟨_, rfl⟩
          have hone : ∀ e, BlkEnd l d e → e = .returned (.tuple #[.int .i64 V1, .int .i64 V2]) := fun e h => by rw [hV1, hV2]; exact h.one j hj
          rw [← hV1, ← hV2]
          have HRB := Lib.hid hrb
          have HONE := Lib.hid hone
          clear hrb hone hV1 hV2 hj hb9 hc0 hc1
          obtain ⟨_, hc1⟩ := HK.out w9 HPC9.out.low
          go_wp2_with fail
          refine HRB.out.mono ?_
          rintro e w10 ⟨he, q, rfl⟩
          obtain rfl := HONE.out e he
          go_wp2
          go_roundw
          case rel => exact ⟨i + 1, n, by go_num, rfl, by omega, han', HPC9.out.below (below_drewN _)⟩
          case measure => simp [intOf]; omega
      | false =>
        go_wp2_with fail
        refine HSK.out.mono ?_
        rintro e w5 ⟨rfl, ⟨a', hpc5, hs1⟩, hT⟩
        have HPC5 := Lib.hid hpc5
        have HS1 := Lib.hid hs1
        have hrs := HRS.out w5 hpc5.low
        have hc1' := (HK.out w5 hpc5.low).2
        have HRS5 := Lib.hid hrs
        clear hpc5 hs1 hrs HNX HSK HRS
        go_wp2_with fail
        refine HRS5.out.mono ?_
        rintro e w6 ⟨⟨a2, rfl, hs2⟩, hw6⟩
        rw [hw6]
        clear hw6
        obtain rfl : a2 = a' := Sk.one hs2 HS1.out
        have han' : a2 ≤ n := by have := HPC5.out.le; rw [HLN.out] at this; exact this
        clear HRS5 hs2 HS1 hc0 hc1' hT
        have hat := at_any c l a2 w3 w5 HPC5.out
        obtain ⟨⟨x, y⟩, hxy⟩ : ∃ p, p = atP l a2 := ⟨_, rfl⟩
        rw [← hxy, HLN.out] at hat
        unfold sv at hat
        simp only at hat
        have HAT := Lib.hid hat
        have HXY := Lib.hid hxy
        clear hat hxy
        go_wp2_with fail
        refine HAT.out.mono ?_
        rintro e w6 ⟨rfl, hb6⟩
        clear HAT
        have HPC6 := Lib.hid (HPC5.out.below hb6)
        clear hb6
        by_cases hlt : a2 < n
        · have hdl : decide (a2 < n) = true := decide_eq_true hlt
          have hdi : decide ((a2 : Int) < (n : Int)) = true := decide_eq_true (by omega)
          have hli : (a2 : Int) < (n : Int) := by omega
          obtain ⟨pb, po, hA, hpb, hx, hy⟩ := (HP3.out.later (HPC6.out.low)).at_ a2 (by rw [HLN.out]; exact hlt)
          have hg := atP_get (l := l) (k := a2) (by rw [HLN.out]; exact hlt)
          rw [← HXY.out] at hg
          rw [← hg] at hx hy
          simp only at hx hy
          subst hA
          clear hg
          rw [hdl]
          go_wp2_with fail
          have hx6 : (w6.alloc (.cells #[.int .i64 x, .int .i64 y] 47)).cell? ⟨pb, po + a2 * 2, none⟩ = some (.int .i64 x) := ((pl1 w6 _).cell (p := ⟨pb, po + a2 * 2, none⟩) hpb).trans hx
          have hy6 : (w6.alloc (.cells #[.int .i64 x, .int .i64 y] 47)).cell? ⟨pb, po + a2 * 2 + 1, none⟩ = some (.int .i64 y) := ((pl1 w6 _).cell (p := ⟨pb, po + a2 * 2 + 1, none⟩) hpb).trans hy
          have g6 : (w6.alloc (.cells #[.int .i64 x, .int .i64 y] 47)).heap[w6.heap.size]? = some (.cells #[.int .i64 x, .int .i64 y] 47 (0, 0)) := heap_alloc_new _ _
          have HPC7 := Lib.hid (HPC6.out.below (pl1 w6 (.cells #[.int .i64 x, .int .i64 y] 47)))
          obtain ⟨w7, hw7⟩ : ∃ w7, w7 = w6.alloc (.cells #[.int .i64 x, .int .i64 y] 47) := ⟨_, rfl⟩
          rw [← hw7] at hx6 hy6 g6 HPC7 ⊢
          have kb0 := cell_of_cells (i := 0) g6 rfl
          have kb1 := cell_of_cells (i := 1) g6 rfl
          clear hx hy hw7 g6
          go_quiet (fail)
          clear hx6 hy6 kb0 kb1
          rename_i nq
          have hbq : Below w7.heap.size w7 (w7.drewN nq) := below_drewN _
          have HPC8 := Lib.hid (HPC7.out.below hbq)
          clear hbq
          obtain ⟨w8, hw8⟩ : ∃ w8, w8 = w7.drewN nq := ⟨_, rfl⟩
          rw [← hw8] at HPC8 ⊢
          clear hw8
          obtain ⟨hc0, hc1⟩ := HK.out w8 HPC8.out.low
          go_wp2_with fail
          clear hc0 hc1

          obtain ⟨hc0, hc1⟩ := HK.out w8 HPC8.out.low
          refine (block_any c l a2 d w3 w8 HPC8.out (by rw [HLN.out]; omega) (lastG_mono HR.out)).mono ?_
          rintro e w9 ⟨⟨j, hj, rfl⟩, hb9⟩
          have HPC9 := Lib.hid (HPC8.out.below hb9)
          have hrb := refblock5_any _ l d w9 (HP3.out.later HPC9.out.low) (by rw [HLN.out]; omega)
          obtain ⟨V1, hV1⟩ : ∃ V1, V1 = (if j < PostM.cnt l.length then ((PostM.blks l).getD j (0, 0)).1 else 0) := ⟨_, rfl⟩
          obtain ⟨V2, hV2⟩ : ∃ V2, V2 = (if j < PostM.cnt l.length then ((PostM.blks l).getD j (0, 0)).2 else -1) := ⟨_, rfl⟩
          have hone : ∀ e, BlkEnd l d e → e = .returned (.tuple #[.int .i64 V1, .int .i64 V2]) := fun e h => by rw [hV1, hV2]; exact h.one j hj
          rw [← hV1, ← hV2]
          have HRB := Lib.hid hrb
          have HONE := Lib.hid hone
          clear hrb hone hV1 hV2 hj hb9 hc0 hc1
          obtain ⟨_, hc1⟩ := HK.out w9 HPC9.out.low
          go_wp2_with fail
          refine HRB.out.mono ?_
          rintro e w10 ⟨he, q, rfl⟩
          obtain rfl := HONE.out e he
          go_wp2
          go_roundw
          case rel => exact ⟨i + 1, a2, by go_num, rfl, by omega, han', HPC9.out.below (below_drewN _)⟩
          case measure => simp [intOf]; omega

        · have hdl : decide (a2 < n) = false := decide_eq_false hlt
          have hdi : decide ((a2 : Int) < (n : Int)) = false := decide_eq_false (by omega)
          have hli : ¬ (a2 : Int) < (n : Int) := by omega
          have hx0 : x = 0 ∧ y = 0 := by
            have := HXY.out
            unfold atP at this
            rw [List.getD_eq_getElem?_getD, List.getElem?_eq_none (by rw [HLN.out]; omega)] at this
            simpa using this
          obtain ⟨rfl, rfl⟩ := hx0
          rw [hdl]
          go_wp2_with fail
          have g6 : (w6.alloc (.cells #[.int .i64 0, .int .i64 0] 47)).heap[w6.heap.size]? = some (.cells #[.int .i64 0, .int .i64 0] 47 (0, 0)) := heap_alloc_new _ _
          have HPC7 := Lib.hid (HPC6.out.below (pl1 w6 (.cells #[.int .i64 0, .int .i64 0] 47)))
          obtain ⟨w7, hw7⟩ : ∃ w7, w7 = w6.alloc (.cells #[.int .i64 0, .int .i64 0] 47) := ⟨_, rfl⟩
          rw [← hw7] at g6 HPC7 ⊢
          have kb0 := cell_of_cells (i := 0) g6 rfl
          have kb1 := cell_of_cells (i := 1) g6 rfl
          clear hw7 g6
          go_quiet (fail)
          clear kb0 kb1
          rename_i nq
          have hbq : Below w7.heap.size w7 (w7.drewN nq) := below_drewN _
          have HPC8 := Lib.hid (HPC7.out.below hbq)
          clear hbq
          obtain ⟨w8, hw8⟩ : ∃ w8, w8 = w7.drewN nq := ⟨_, rfl⟩
          rw [← hw8] at HPC8 ⊢
          clear hw8
          obtain ⟨hc0, hc1⟩ := HK.out w8 HPC8.out.low
          go_wp2_with fail
          clear hc0 hc1

          obtain ⟨hc0, hc1⟩ := HK.out w8 HPC8.out.low
          refine (block_any c l a2 d w3 w8 HPC8.out (by rw [HLN.out]; omega) (lastG_mono HR.out)).mono ?_
          rintro e w9 ⟨⟨j, hj, rfl⟩, hb9⟩
          have HPC9 := Lib.hid (HPC8.out.below hb9)
          have hrb := refblock5_any _ l d w9 (HP3.out.later HPC9.out.low) (by rw [HLN.out]; omega)
          obtain ⟨V1, hV1⟩ : ∃ V1, V1 = (if j < PostM.cnt l.length then ((PostM.blks l).getD j (0, 0)).1 else 0) := ⟨_, rfl⟩
          obtain ⟨V2, hV2⟩ : ∃ V2, V2 = (if j < PostM.cnt l.length then ((PostM.blks l).getD j (0, 0)).2 else -1) := ⟨_, rfl⟩
          have hone : ∀ e, BlkEnd l d e → e = .returned (.tuple #[.int .i64 V1, .int .i64 V2]) := fun e h => by rw [hV1, hV2]; exact h.one j hj
          rw [← hV1, ← hV2]
          have HRB := Lib.hid hrb
          have HONE := Lib.hid hone
          clear hrb hone hV1 hV2 hj hb9 hc0 hc1
          obtain ⟨_, hc1⟩ := HK.out w9 HPC9.out.low
          go_wp2_with fail
          refine HRB.out.mono ?_
          rintro e w10 ⟨he, q, rfl⟩
          obtain rfl := HONE.out e he
          go_wp2
          go_roundw
          case rel => exact ⟨i + 1, a2, by go_num, rfl, by omega, han', HPC9.out.below (below_drewN _)⟩
          case measure => simp [intOf]; omega
    · have hmi : ¬ (i : Int) < (m : Int) := by omega
      have hdm : decide ((i : Int) < (m : Int)) = false := decide_eq_false hmi
      have HPCr := Lib.hid hpc
      clear hpc
      go_wp2_with fail
      refine (cursor_any bl l w3 wr HPL.out HPCr.out.low).mono ?_
      rintro e w5 ⟨c5, rfl, hc5, hpc5, hb5⟩
      have HPC5 := Lib.hid hpc5
      clear hpc5 hb5
      go_wp2_with fail
      refine (block_any c5 l 0 doc w3 w5 HPC5.out (by rw [HLN.out]; omega) (lastG_mono HR.out)).mono ?_
      rintro e w6 ⟨⟨j, hj, rfl⟩, hb6⟩
      have hlo := HPC5.out.low.trans (hb6.mono HPC5.out.low.size)
      have hrb := refblock5_any _ l doc w6 (HP3.out.later hlo) (by rw [HLN.out]; omega)
      have HLO := Lib.hid hlo
      obtain ⟨V1, hV1⟩ : ∃ V1, V1 = (if j < PostM.cnt l.length then ((PostM.blks l).getD j (0, 0)).1 else 0) := ⟨_, rfl⟩
      obtain ⟨V2, hV2⟩ : ∃ V2, V2 = (if j < PostM.cnt l.length then ((PostM.blks l).getD j (0, 0)).2 else -1) := ⟨_, rfl⟩
      have hone : ∀ e, BlkEnd l doc e → e = .returned (.tuple #[.int .i64 V1, .int .i64 V2]) := fun e h => by rw [hV1, hV2]; exact h.one j hj
      rw [← hV1, ← hV2]
      have HRB := Lib.hid hrb
      have HONE := Lib.hid hone
      clear hrb hone hV1 hV2 hj hb6 hlo
      go_wp2_with fail
      refine HRB.out.mono ?_
      rintro e w7 ⟨he, q, rfl⟩
      obtain rfl := HONE.out e he
      go_wp2
      go_ret
      have hz := HB3.out.trans (HLO.out.mono HB3.out.size)
      exact ⟨rfl, hz.trans ((below_drewN _).mono hz.size)⟩
end Go.Proofs.Ytlcmdnmifmjjgaa

/- PostingMoves: posts that are no list, a script that is too long. -/
namespace Go.Proofs.Ytlcmdnmifmjjgaa
open Go.RowKit

set_option maxHeartbeats 2000000 in
set_option maxRecDepth 100000 in
theorem moves_wrong (A : Option Addr) (n cp : Nat) (l : List (Int × Int)) (A2 : Option Addr) (m cp2 : Nat) (doc : Int) (w : World) (hn : n ≤ 300) (hm : m ≤ 100) (hln : l.length = n) (hP : Prd w (.slice A n cp) l) (hr : PostM.rightL l = false) :
    Calls Try.prog 4 #[.slice A n cp, .slice A2 m cp2, .int .i64 doc] w fun e w' => e = .returned (.bool true) ∧ Below w.heap.size w w' := by
  have hd300 : decide ((300 : Int) < (n : Int)) = false := decide_eq_false (by omega)
  have hd100 : decide ((100 : Int) < (m : Int)) = false := decide_eq_false (by omega)
  have HP := Lib.hid hP
  have HR := Lib.hid hr
  have HLN := Lib.hid hln
  clear hP hr hln
  go_enter Try.func4, Try.ntmps4
  go_wp2_with fail
  refine (awake5_any _).mono ?_
  rintro e w1 ⟨rfl, hb1⟩
  have HB1 := Lib.hid hb1
  have hp1 := HP.out.later hb1
  have hrr := refright5_any _ l w1 hp1 (by rw [HLN.out]; omega)
  rw [HR.out] at hrr
  have HRR := Lib.hid hrr
  clear hb1 hp1 hrr
  go_wp2_with fail
  refine HRR.out.mono ?_
  rintro e w2 ⟨rfl, q, rfl⟩
  go_wp2
  go_ret
  exact ⟨rfl, HB1.out.trans ((below_drewN _).mono HB1.out.size)⟩
set_option maxHeartbeats 1000000 in
set_option maxRecDepth 100000 in
theorem moves_long (A : Option Addr) (n cp : Nat) (A2 : Option Addr) (m cp2 : Nat) (doc : Int) (w : World) (hn : ¬ (n ≤ 300 ∧ m ≤ 100)) :
    Calls Try.prog 4 #[.slice A n cp, .slice A2 m cp2, .int .i64 doc] w fun e w' => e = .returned (.bool true) ∧ Below w.heap.size w w' := by
  by_cases h3 : 300 < n
  · have hd1 : decide ((300 : Int) < (n : Int)) = true := decide_eq_true (by omega)
    go_enter Try.func4, Try.ntmps4
    go_wp2_with fail
    refine (awake5_any _).mono ?_
    rintro e w1 ⟨rfl, b1⟩
    go_wp2_with fail
    go_ret
    exact ⟨rfl, b1⟩
  · have hd1 : decide ((300 : Int) < (n : Int)) = false := decide_eq_false (by omega)
    have hd2 : decide ((100 : Int) < (m : Int)) = true := decide_eq_true (by omega)
    go_enter Try.func4, Try.ntmps4
    go_wp2_with fail
    refine (awake5_any _).mono ?_
    rintro e w1 ⟨rfl, b1⟩
    go_wp2_with fail
    go_ret
    exact ⟨rfl, b1⟩
end Go.Proofs.Ytlcmdnmifmjjgaa

namespace Go.Proofs.Ytlcmdnmifmjjgaa
open Go.ChangeShapes Go.WideShapes Go.ChangeAt Go.RowKit

theorem cells_act : Try.prog.cellsOf 43 = 2 := by kernel_rfl
theorem cells_bool5 : Try.prog.cellsOf 4 = 1 := by kernel_rfl
set_option maxRecDepth 100000 in
/-- one ask, as it is read: a bool and an int -/
theorem act_of_trod {H : Type} {enc : TypeId × Value → H} {W : World} {fuel : Nat} {cs : List Value} {x : DataW H × List MemPlace} (h : DataW.trod enc Try.prog W 0 (fun _ => true) true fuel 43 cs = some x) :
    ∃ (a : Bool) (b : Int), cs = [.bool a, .int .i64 b] := by
  obtain ⟨xs, n, _, _, hlen, hxl, hf⟩ := DataW.trod_struct Try.underlying43 h
  rw [cells_act] at hlen
  obtain ⟨v0, v1, rfl⟩ : ∃ v0 v1, cs = [v0, v1] := by
    match cs, hlen with
    | [v0, v1], _ => exact ⟨v0, v1, rfl⟩
  obtain ⟨y0, y1, rfl⟩ : ∃ y0 y1, xs = [y0, y1] := by
    match xs, hxl with
    | [y0, y1], _ => exact ⟨y0, y1, rfl⟩
  have f0 : DataW.trod enc Try.prog W 0 (fun _ => true) true n 4 (([v0, v1].drop 0).take (Try.prog.cellsOf 4)) = some y0 := hf 0 _ rfl
  have f1 : DataW.trod enc Try.prog W 0 (fun _ => true) true n 3 (([v0, v1].drop 1).take (Try.prog.cellsOf 3)) = some y1 := hf 1 _ rfl
  rw [cells_bool5] at f0
  rw [cells_int5] at f1
  obtain ⟨a, ea, _⟩ := DataW.trod_bool Try.underlying4 f0
  obtain ⟨b, eb, _⟩ := DataW.trod_int Try.underlying3 f1
  simp at ea eb
  exact ⟨a, b, by rw [ea, eb]⟩

set_option maxRecDepth 100000 in
/-- a slice of asks that came in, as the walk takes it -/
theorem acts_of_trod {H : Type} {enc : TypeId × Value → H} {W : World} {v : Value} {d : DataW H} {ps : List MemPlace} {base : Nat} (hv : Value.okWide Try.prog W .any base 39 v) (hp : ∀ x ∈ ps, x.block < W.heap.size)
    (h : DataW.Trod enc Try.prog W 0 (fun _ => true) true 39 v d ps) :
    ∃ A n cp l, v = .slice A n cp ∧ Acts W A n l := by
  obtain ⟨a0, len, cap, rfl⟩ := okWide_slice Try.underlying39 hv
  obtain ⟨fuel, hf⟩ := h
  rcases Go.Deep.open_slice Try.underlying39 hf with ⟨hcs, _⟩ | ⟨a, len', cap', m, n, D, Pl, hcs, _, hl, _, hm, hx, hcell⟩
  · have e : a0 = none ∧ len = 0 ∧ cap = 0 := by simpa [Value.cells] using hcs
    obtain ⟨rfl, rfl, rfl⟩ := e
    exact ⟨none, 0, 0, [], rfl, rfl, fun k hk => by simp at hk⟩
  · have e : a0 = some a ∧ len = len' ∧ cap = cap' := by simpa [Value.cells] using hcs
    obtain ⟨rfl, rfl, rfl⟩ := e
    simp only [if_true] at hm
    rw [cells_act] at hcell hx
    have hone : ∀ i, i < len → ∃ t : Bool × Int, W.cell? (a.add (i * 2)) = some (.bool t.1) ∧ W.cell? (a.add (i * 2 + 1)) = some (.int .i64 t.2) := by
      intro i hi
      obtain ⟨cs', hc, ht⟩ := hcell i (by omega)
      obtain ⟨x, y, rfl⟩ := act_of_trod ht
      obtain ⟨_, _, hat⟩ := World.cells?_some hc
      have c0 := hat 0 (by omega)
      have c1 := hat 1 (by omega)
      rw [Go.Deep.add_add] at c0 c1
      exact ⟨(x, y), c0, c1⟩
    obtain ⟨f, hfE⟩ : ∃ f : Nat → Bool × Int, ∀ i, i < len → W.cell? (a.add (i * 2)) = some (.bool (f i).1) ∧ W.cell? (a.add (i * 2 + 1)) = some (.int .i64 (f i).2) :=
      ⟨fun i => if h : i < len then (hone i h).choose else (false, 0), fun i hi => by simp only [hi, dif_pos]; exact (hone i hi).choose_spec⟩
    refine ⟨some a, len, cap, (List.range len).map f, rfl, by simp, fun k hk => ?_⟩
    have hk' : k < len := by simpa using hk
    obtain ⟨c0, c1⟩ := hfE k hk'
    have hpl : a.block < W.heap.size := by
      simp only [Prod.mk.injEq] at hx
      have := hp (.cell a.block (a.off + k * 2)) (by rw [hx.2]; exact List.mem_append_left _ (MemPlace.mem_row.2 ⟨k * 2, by omega, rfl⟩))
      exact this
    have c00 := (hfE 0 (by omega)).1
    obtain ⟨b, o, spot⟩ := a
    have hspot : spot = none := by simpa [Addr.add] using World.cell?_spot c00
    subst hspot
    refine ⟨b, o, rfl, hpl, ?_⟩
    rw [add_none] at c0 c1
    simp only [List.getElem_map, List.getElem_range]
    exact ⟨c0, c1⟩
set_option maxRecDepth 100000 in
theorem postingmoves_lifted (os : Os) (started : os.Started) (H : Type) (enc : TypeId × Value → H) :
    ReturnsInHanded {} Try.checked os 4 .any (Rows.postingMovesSpec.pre6 enc Try.prog Try.f4 Rows.postingMovesRow.domain false) (Rows.postingMovesSpec.post enc Try.prog Try.f4 false true false false) := by
  refine returnsInHanded_of_change (C := Try.checked) knob started (by kernel_rfl) Try.func4
    (ChangeSpec.witness6 (enc := enc) (C := Try.checked) false ⟨#[], #[.slice none 0 0, .slice none 0 0, .int .i64 0], []⟩ 8 (by kernel_rfl) (by kernel_rfl) (by kernel_rfl) (by kernel_rfl)) ?_
  intro W base args ds gs before hval0 hW hcnd _
  have hval : ∀ (j : Nat) t v, Try.f4.params[j]? = some t → args[j]? = some v → Value.okWide Try.prog W .any base t v := hval0
  have hW' := hW
  obtain ⟨p, q, hA0, hV, rfl, hfz, hnd⟩ := hW
  have hA : DataW.TrodAll enc Try.prog W 0 (fun _ => true) true Try.f4.params.toList args.toList ds p := hA0
  rw [Try.params4] at hA hval
  obtain ⟨v0, vs0, d0, ds0, p0, q0, hargs, rfl, rfl, h0, r0⟩ := trodAll_cons hA
  obtain ⟨v1, vs1, d1, ds1, p1, q1, rfl, rfl, rfl, h1, r1⟩ := trodAll_cons r0
  obtain ⟨v2, vs2, d2, ds2, p2, q2, rfl, rfl, rfl, h2, r2⟩ := trodAll_cons r1
  obtain ⟨rfl, rfl, rfl⟩ := trodAll_nil r2
  obtain rfl : args = #[v0, v1, v2] := by cases args; simp_all
  obtain ⟨rfl, rfl⟩ := trodVars_none hV
  obtain ⟨A, n, cp, l, rfl, hln, hP⟩ := posts_of_trod (hval 0 22 v0 rfl rfl) (fun x hx => hW'.lt x (by simp [hx])) h0
  obtain ⟨A2, m, cp2, acts, rfl, hAc⟩ := acts_of_trod (hval 1 39 v1 rfl rfl) (fun x hx => hW'.lt x (by simp [hx])) h1
  obtain ⟨doc, rfl, rfl, rfl, w0⟩ := open_int Try.underlying3 (hval 2 3 v2 rfl rfl) h2
  have walk : Calls Try.prog 4 #[.slice A n cp, .slice A2 m cp2, .int .i64 doc] W fun e w' => e = .returned (.bool true) ∧ Below W.heap.size W w' := by
    by_cases hn : n ≤ 300 ∧ m ≤ 100
    · cases hr : PostM.rightL l with
      | true => exact moves_main A n cp l A2 m cp2 acts doc W hn.1 hn.2 hln hP hAc hr
      | false => exact moves_wrong A n cp l A2 m cp2 doc W hn.1 hn.2 hln hP hr
    · exact moves_long A n cp A2 m cp2 doc W hn
  refine walk.mono fun e W' ⟨he, hg⟩ => ?_
  subst he
  exact ⟨_, rfl, law_post (s := Rows.postingMovesSpec) hW' rfl rfl rfl rfl (by kernel_rfl) (by kernel_rfl) hg⟩

theorem postingmoves_holds : Rows.PostingMovesSaid :=
  OpenClaim.holds_of_wide 4 Try.f4 rfl rfl rfl rfl rfl rfl rfl ⟨rfl, rfl, rfl, rfl, rfl⟩ rfl rfl rfl rfl rfl (by kernel_rfl) Try.func4 (by kernel_rfl)
    (of_decide_eq_true (by kernel_rfl)) (by unfold Func.isWrapper; first | (rw [if_pos (by decide +kernel)]; kernel_rfl) | (rw [if_neg (by decide +kernel)]; exact ⟨rfl, rfl⟩))
    (fun os started H enc _ => postingmoves_lifted os started H enc)
end Go.Proofs.Ytlcmdnmifmjjgaa
