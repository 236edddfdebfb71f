/- PostingBounds: called with any slice of posts and any document it returns true, and the arguments read behind the call as they read before. No condition. -/
import Derived.Deep.QuietTactic
import Derived.BigQuiet
import Derived.Test.YtlcmdnmifmjjgaaBo8

/- Posts: the document's Same, Max, Seek. -/
namespace Go.Proofs.Ytlcmdnmifmjjgaa
open Go.RowKit

set_option maxHeartbeats 4000000 in
set_option maxRecDepth 100000 in
theorem refsame5_any (v1 v2 : Value) (l1 l2 : List (Int × Int)) (w : World) (h1 : Prd w v1 l1) (h2 : Prd w v2 l2) (hl : l1.length ≤ 1000000) (hl2 : l2.length ≤ 1000000) :
    Calls Try.prog 13 #[v1, v2] w fun e w' => e = .returned (.bool (decide (l1 = l2))) ∧ ∃ n, w' = w.drewN n := by
  obtain ⟨A1, cp1, rfl, hcp1, hA1, hP1⟩ := h1
  obtain ⟨A2, cp2, rfl, hcp2, hA2, hP2⟩ := h2
  obtain ⟨n, hn⟩ : ∃ n, n = l1.length := ⟨_, rfl⟩
  obtain ⟨m, hm⟩ : ∃ m, m = l2.length := ⟨_, rfl⟩
  have HP1 := Lib.hid hP1
  have HP2 := Lib.hid hP2
  rw [← hn] at hcp1 hl ⊢
  rw [← hm] at hcp2 hl2 ⊢
  have HN := Lib.hid hn
  have HM := Lib.hid hm
  by_cases hnm : n = m
  · subst hnm
    have hd : ((n : Int) != (n : Int)) = false := by simp
    clear hP1 hP2 hA1 hA2 hn hm
    go_enter Try.func13, Try.ntmps13
    go_wp2
    go_loopw [5] (fun x wr => ∃ i : Nat, x = .int .i64 i ∧ i ≤ n ∧ l1.take i = l2.take i ∧ ∃ q, wr = w.drewN q) (fun x _ => n - (intOf x).toNat)
    case atStart => exact ⟨0, by go_num, Nat.zero_le _, rfl, 0, rfl⟩
    case round =>
      obtain ⟨i, rfl, hi, htk, q, rfl⟩ := hrel
      have HTK := Lib.hid htk
      clear htk
      by_cases hlt : i < n
      · have hd1 : decide ((i : Int) < (n : Int)) = true := decide_eq_true (by omega)
        have hd2 : decide (i < n) = true := decide_eq_true hlt
        have hi1 : i < l1.length := by rw [← HN.out]; exact hlt
        have hi2 : i < l2.length := by rw [← HM.out]; exact hlt
        obtain ⟨b1, o1, rfl, _, c0, c1⟩ := HP1.out.2 i hi1
        obtain ⟨b2, o2, rfl, _, e0, e1⟩ := HP2.out.2 i hi2
        obtain ⟨⟨x1, x2⟩, hx⟩ : ∃ x, x = l1[i] := ⟨_, rfl⟩
        obtain ⟨⟨y1, y2⟩, hy⟩ : ∃ y, y = l2[i] := ⟨_, rfl⟩
        rw [← hx] at c0 c1
        rw [← hy] at e0 e1
        have hi0 : (0 : Int) ≤ (i : Int) := by omega
        have hin : (i : Int) < (n : Int) := by omega
        by_cases hxy : (x1, x2) = (y1, y2)
        · have hT : Hid (l1.take (i + 1) = l2.take (i + 1)) := Lib.hid (by rw [PostM.take_snoc_p l1 i hi1, PostM.take_snoc_p l2 i hi2, HTK.out, ← hx, ← hy, hxy])
          injection hxy with q1 q2
          subst q1; subst q2
          clear hx hy
          go_wp2
          go_quiet (fail)
          go_wp2
          exact ⟨⟨i + 1, by go_num, by omega, hT.out, _, rfl⟩, by simp [intOf]; omega⟩
        · have hne : decide (l1 = l2) = false := decide_eq_false (fun e => hxy (by rw [hx, hy]; simp [e]))
          have HNE := Lib.hid hne
          clear hx hy hne
          by_cases hq1 : x1 = y1
          · subst hq1
            have hq2 : x2 ≠ y2 := fun e => hxy (by rw [e])
            have hb2 : (x2 == y2) = false := by simpa using hq2
            clear hxy
            go_wp2
            go_quiet (fail)
            go_wp2
            go_ret
            exact ⟨by rw [HNE.out]; rfl, _, World.drewN_drewN _ _ _⟩
          · have hb1 : (x1 == y1) = false := by simpa using hq1
            clear hxy
            go_wp2
            go_quiet (fail)
            go_wp2
            go_ret
            exact ⟨by rw [HNE.out]; rfl, _, World.drewN_drewN _ _ _⟩
      · have hin : i = n := by omega
        subst hin
        have hd1 : decide ((i : Int) < (i : Int)) = false := by simp
        have hd2 : decide (i < i) = false := by simp
        have heq : decide (l1 = l2) = true := decide_eq_true (by
          have := HTK.out
          rwa [List.take_of_length_le (by rw [← HN.out]; exact Nat.le_refl _), List.take_of_length_le (by rw [← HM.out]; exact Nat.le_refl _)] at this)
        have HE := Lib.hid heq
        clear heq
        go_wp2
        go_ret
        exact ⟨by rw [HE.out]; rfl, q, rfl⟩
  · have hd : ((n : Int) != (m : Int)) = true := by simp; omega
    have hne : decide (l1 = l2) = false := decide_eq_false (fun e => hnm (by rw [HN.out, HM.out, e]))
    have HNE := Lib.hid hne
    clear hP1 hP2 hA1 hA2 hn hm hne
    go_enter Try.func13, Try.ntmps13
    go_wp2
    go_ret
    exact ⟨by rw [HNE.out]; rfl, 0, rfl⟩

theorem Sk.one {l : List (Int × Int)} {a x y : Nat} {doc : Int} (h : Sk l a doc x) (k : Sk l a doc y) : x = y := by
  rcases Nat.lt_trichotomy x y with h1 | h1 | h1
  · have h2 := k.2.2.1 x h.1 h1
    have h3 := h.2.2.2 (by have := k.2.1; omega)
    omega
  · exact h1
  · have h2 := h.2.2.1 y k.1 h1
    have h3 := k.2.2.2 (by have := h.2.1; omega)
    omega
theorem atP_get {l : List (Int × Int)} {k : Nat} (h : k < l.length) : atP l k = l[k] := by
  unfold atP
  rw [List.getD_eq_getElem?_getD, List.getElem?_eq_getElem h]
  rfl

set_option maxHeartbeats 2000000 in
set_option maxRecDepth 100000 in
theorem refmax5_any (v : Value) (l : List (Int × Int)) (w : World) (h : Prd w v l) (hl : l.length ≤ 1000000) :
    Calls Try.prog 11 #[v] w fun e w' => e = .returned (.int .i64 (PostM.mx l)) ∧ w' = w := by
  have hP := h
  obtain ⟨A, cp, rfl, hcp⟩ := h.form
  obtain ⟨n, hn⟩ : ∃ n, n = l.length := ⟨_, rfl⟩
  rw [← hn] at hl hcp hP ⊢
  have HN := Lib.hid hn
  have HP := Lib.hid hP
  clear hn hP h
  go_enter Try.func11, Try.ntmps11
  go_wp2
  go_loopw [3, 4] (fun x i wr => ∃ k : Nat, k ≤ n ∧ i = .int .i64 k ∧ x = .int .i64 (PostM.mx (l.take k)) ∧ wr = w) (fun _ i _ => n - (intOf i).toNat)
  case atStart => exact ⟨0, by omega, rfl, rfl, rfl⟩
  case round =>
    obtain ⟨k, hk, rfl, rfl, hwr⟩ := hrel
    subst hwr
    by_cases hkn : k < n
    · have hkl : k < l.length := by rw [← HN.out]; exact hkn
      obtain ⟨b, o, rfl, hbw, c0, c1⟩ := (HP.out).at_ k hkl
      have hs := PostM.mx_snoc (l.take k) l[k]
      rw [← PostM.take_snoc_p l k hkl] at hs
      obtain ⟨⟨p1, p2⟩, hp⟩ : ∃ p, p = l[k] := ⟨_, rfl⟩
      rw [← hp] at c0 c1 hs
      simp only at c0 c1 hs
      obtain ⟨m, hm⟩ : ∃ m, m = PostM.mx (l.take k) := ⟨_, rfl⟩
      rw [← hm] at hs ⊢
      have q1 : (0 : Int) ≤ (k : Int) := by omega
      have q2 : (k : Int) < (n : Int) := by omega
      have q3 : decide ((k : Int) < (n : Int)) = true := decide_eq_true q2
      have q4 : decide (k < n) = true := decide_eq_true hkn
      by_cases hg : m < p2
      · have d : decide (m < p2) = true := decide_eq_true hg
        have HS := Lib.hid (hs.trans (show max m p2 = p2 by omega))
        clear hs hm hp hg
        go_wp2
        exact ⟨⟨k + 1, by omega, by go_num, by rw [HS.out], trivial⟩, by simp [intOf]; omega⟩
      · have d : decide (m < p2) = false := decide_eq_false hg
        have HS := Lib.hid (hs.trans (show max m p2 = m by omega))
        clear hs hm hp hg
        go_wp2
        exact ⟨⟨k + 1, by omega, by go_num, by rw [HS.out], trivial⟩, by simp [intOf]; omega⟩
    · obtain rfl : k = n := by omega
      have q3 : decide ((k : Int) < (k : Int)) = false := by simp
      have q4 : decide (k < k) = false := by simp
      have ht : l.take k = l := List.take_of_length_le (by rw [← HN.out]; exact Nat.le_refl _)
      rw [ht]
      go_wp2
      go_ret
      exact ⟨rfl, rfl⟩

set_option maxHeartbeats 2000000 in
set_option maxRecDepth 100000 in
theorem refseek5_any (v : Value) (l : List (Int × Int)) (a : Nat) (doc : Int) (w : World) (h : Prd w v l) (hl : l.length ≤ 1000000) (ha : a ≤ l.length) :
    Calls Try.prog 22 #[v, .int .i64 (a : Int), .int .i64 doc] w fun e w' => (∃ a' : Nat, e = .returned (.int .i64 (a' : Int)) ∧ Sk l a doc a') ∧ w' = w := by
  have hP := h
  obtain ⟨A, cp, rfl, hcp⟩ := h.form
  obtain ⟨n, hn⟩ : ∃ n, n = l.length := ⟨_, rfl⟩
  rw [← hn] at hl hcp hP ha ⊢
  have HN := Lib.hid hn
  have HP := Lib.hid hP
  clear hn hP h
  go_enter Try.func22, Try.ntmps22
  go_wp2
  go_loopw [1] (fun x wr => ∃ k : Nat, a ≤ k ∧ k ≤ n ∧ x = .int .i64 k ∧ (∀ j, a ≤ j → j < k → (atP l j).1 < doc) ∧ wr = w) (fun x _ => n - (intOf x).toNat)
  case atStart => exact ⟨a, Nat.le_refl _, ha, rfl, fun j h1 h2 => absurd h2 (by omega), rfl⟩
  case round =>
    obtain ⟨k, hak, hk, rfl, hall, hwr⟩ := hrel
    subst hwr
    have HALL := Lib.hid hall
    clear hall
    by_cases hkn : k < n
    · have hkl : k < l.length := by rw [← HN.out]; exact hkn
      obtain ⟨b, o, rfl, hbw, c0, c1⟩ := (HP.out).at_ k hkl
      have hat := atP_get hkl
      obtain ⟨⟨p1, p2⟩, hp⟩ : ∃ p, p = l[k] := ⟨_, rfl⟩
      rw [← hp] at c0 c1 hat
      simp only at c0 c1
      have HAT := Lib.hid hat
      have q1 : (0 : Int) ≤ (k : Int) := by omega
      have q2 : (k : Int) < (n : Int) := by omega
      have q3 : decide ((k : Int) < (n : Int)) = true := decide_eq_true q2
      have q4 : decide (k < n) = true := decide_eq_true hkn
      clear hat hp
      by_cases hg : p1 < doc
      · have d : decide (p1 < doc) = true := decide_eq_true hg
        have HG := Lib.hid hg
        clear hg
        go_wp2
        refine ⟨⟨k + 1, by omega, by omega, by go_num, fun j h1 h2 => ?_, trivial⟩, by simp [intOf]; omega⟩
        by_cases e : j = k
        · rw [e, HAT.out]; exact HG.out
        · exact HALL.out j h1 (by omega)
      · have d : decide (p1 < doc) = false := decide_eq_false hg
        have HG := Lib.hid hg
        clear hg
        go_wp2
        go_ret
        refine ⟨⟨k, rfl, hak, by rw [← HN.out]; exact hk, HALL.out, fun _ => ?_⟩, rfl⟩
        rw [HAT.out]
        have := HG.out
        simp only
        omega
    · obtain rfl : k = n := by omega
      have q3 : decide ((k : Int) < (k : Int)) = false := by simp
      have q4 : decide (k < k) = false := by simp
      go_wp2
      go_ret
      exact ⟨⟨k, rfl, hak, by rw [← HN.out]; exact Nat.le_refl _, HALL.out, fun h => absurd h (by rw [← HN.out]; omega)⟩, rfl⟩
end Go.Proofs.Ytlcmdnmifmjjgaa

/- Posts: 'awake'. -/
namespace Go.Proofs.Ytlcmdnmifmjjgaa
open Go.RowKit

def L5 : List (Int × Int) := [(1, 5), (3, 9), (4, 2), (8, 1), (9, 4)]
theorem L5_right : PostM.rightL L5 = true := by decide
theorem Fst.one {g : Nat → Int} {m : Nat} {doc : Int} {i j : Nat} (h : Fst g m doc i) (k : Fst g m doc j) : i = j := by
  obtain ⟨h1, h2, h3⟩ := h
  obtain ⟨k1, k2, k3⟩ := k
  rcases Nat.lt_trichotomy i j with e | e | e
  · have := k2 i e; have := h3 (by omega); omega
  · exact e
  · have := h2 j e; have := k3 (by omega); omega
theorem prd_cells {W : World} {g : Nat} {t : TypeId} {fr : Nat × Nat} {l : List (Int × Int)} (h : W.heap[g]? = some (.cells (l.flatMap enc2).toArray t fr)) : Prd W (.slice (some ⟨g, 0, none⟩) l.length l.length) l := by
  refine ⟨some ⟨g, 0, none⟩, l.length, rfl, Nat.le_refl _, (fun e => by cases e), rfl, fun k hk => ⟨g, 0, rfl, (Array.getElem?_eq_some_iff.1 h).1, ?_⟩⟩
  obtain ⟨a, b⟩ := flat_get l k hk
  unfold World.cell?
  simp only [h, Nat.zero_add]
  refine ⟨?_, ?_⟩
  · simpa using a
  · simpa using b
theorem sk5 : Sk L5 0 5 3 := by
  refine ⟨by omega, by decide, fun k h1 h2 => ?_, fun _ => by decide⟩
  have : k = 0 ∨ k = 1 ∨ k = 2 := by omega
  rcases this with rfl | rfl | rfl <;> decide
theorem BlkEnd.one {l : List (Int × Int)} {doc : Int} {e : Ending} (h : BlkEnd l doc e) (i : Nat) (hi : Fst (lastG (PostM.blks l)) (PostM.cnt l.length) doc i) : e = .returned (.tuple #[.int .i64 (if i < PostM.cnt l.length then ((PostM.blks l).getD i (0, 0)).1 else 0), .int .i64 (if i < PostM.cnt l.length then ((PostM.blks l).getD i (0, 0)).2 else -1)]) := by
  obtain ⟨j, hj, he⟩ := h
  obtain rfl : j = i := Fst.one hj hi
  exact he
theorem blk5_2 {e : Ending} (h : BlkEnd L5 2 e) : e = .returned (.tuple #[.int .i64 9, .int .i64 8]) := h.one 0 ⟨by decide, fun k hk => by omega, fun _ => by decide⟩
theorem blk5_9 {e : Ending} (h : BlkEnd L5 9 e) : e = .returned (.tuple #[.int .i64 4, .int .i64 9]) := h.one 1 ⟨by decide, fun k hk => by
  obtain rfl : k = 0 := by omega
  decide, fun _ => by decide⟩

set_option maxHeartbeats 4000000 in
set_option maxRecDepth 100000 in
theorem awake5_any (w : World) : Calls Try.prog 6 #[] w fun e w' => e = .returned (.bool true) ∧ Below w.heap.size w w' := by
  go_enter Try.func6, Try.ntmps6
  go_wp2_with fail
  refine (build_yes _ L5 _ (prd_cells (l := L5) (heap_alloc_new _ _)) (by decide) L5_right).mono ?_
  rintro e w1 ⟨bl, rfl, hbl, hpl, hb1⟩
  have HB1 := Lib.hid ((pl1 w _).trans (hb1.mono (by simp)))
  have HPL := Lib.hid hpl
  clear hb1 hpl hbl
  go_wp2_with fail
  refine (build_no _ [(1, 0)] _ (prd_cells (l := [(1, 0)]) (heap_alloc_new _ _)) (by decide) (by decide)).mono ?_
  rintro e w2 ⟨rfl, hb2⟩
  have hb12 : Below w1.heap.size w1 w2 := (pl1 w1 _).trans (hb2.mono (by simp))
  have HB2 := Lib.hid (HB1.out.trans (hb12.mono HB1.out.size))
  have HPL2 := Lib.hid (HPL.out.below hb12)
  clear hb2 hb12
  go_wp2_with fail
  refine (cursor_any bl L5 w2 w2 HPL2.out (Below.refl _ _)).mono ?_
  rintro e w3 ⟨c, rfl, hc, hpc, hb3⟩
  have HPC3 := Lib.hid hpc
  clear hb3 hpc
  go_wp2_with fail
  refine (seek_any c L5 0 5 w2 w3 HPC3.out (by decide) L5_right).mono ?_
  rintro e w4 ⟨rfl, ⟨a', hpc, hsk⟩, ht⟩
  obtain rfl : a' = 3 := Sk.one hsk sk5
  have HPC4 := Lib.hid hpc
  clear hpc hsk ht
  go_wp2_with fail
  have hat := at_any c L5 3 w2 w4 HPC4.out
  rw [show sv (atP L5 3) = .agg #[.int .i64 8, .int .i64 1] from rfl, show decide (3 < L5.length) = true from by decide] at hat
  refine hat.mono ?_
  rintro e w5 ⟨rfl, hb5⟩
  have HPC5 := Lib.hid (HPC4.out.below hb5)
  clear hb5 hat
  go_wp2_with fail
  obtain ⟨B6, hB6⟩ : ∃ B6, B6 = w5.heap.size := ⟨_, rfl⟩
  obtain ⟨w6, hw6⟩ : ∃ w6, w6 = w5.alloc (.cells #[.int .i64 8, .int .i64 1] 47) := ⟨_, rfl⟩
  have g6 : w6.heap[B6]? = some (.cells #[.int .i64 8, .int .i64 1] 47 (0, 0)) := by rw [hw6, hB6]; exact heap_alloc_new _ _
  have hc6 : c < B6 := by rw [hB6]; obtain ⟨_, _, _, _, _, _, _, h6⟩ := HPC5.out; exact (Array.getElem?_eq_some_iff.1 h6).1
  have HPC6 := Lib.hid (HPC5.out.below (w' := w6) (by rw [hw6]; exact pl1 _ _))
  rw [← hw6, ← hB6]
  clear hw6 hB6
  refine (block_any c L5 3 2 w2 w6 HPC6.out (by decide) (lastG_mono L5_right)).mono ?_
  rintro e w7 ⟨he, hb7⟩
  obtain rfl := blk5_2 he
  have HPC7 := Lib.hid (HPC6.out.below hb7)
  have g7 := blk_stay hb7 g6
  clear hb7 g6 he
  go_wp2_with fail
  refine (block_any c L5 3 9 w2 w7 HPC7.out (by decide) (lastG_mono L5_right)).mono ?_
  rintro e w8 ⟨he, hb8⟩
  obtain rfl := blk5_9 he
  have HPC8 := Lib.hid (HPC7.out.below hb8)
  have g8 := blk_stay hb8 g7
  clear hb8 g7 he
  go_wp2_with fail
  refine (next_any c L5 3 w2 w8 HPC8.out (by decide)).mono ?_
  rintro e w9 ⟨rfl, hpc, ht⟩
  have HPC9 : Hid (PC w2 w9 c L5 4) := Lib.hid hpc
  have g9 := (ht.block B6 (Array.getElem?_eq_some_iff.1 g8).1 (by omega)).trans g8
  clear hpc ht g8
  go_wp2_with fail
  refine (next_any c L5 4 w2 w9 HPC9.out (by decide)).mono ?_
  rintro e w10 ⟨rfl, hpc, ht⟩
  have HPC10 : Hid (PC w2 w10 c L5 5) := Lib.hid hpc
  have g10 := (ht.block B6 (Array.getElem?_eq_some_iff.1 g9).1 (by omega)).trans g9
  clear hpc ht g9
  go_wp2_with fail
  have hat := at_any c L5 5 w2 w10 HPC10.out
  rw [show sv (atP L5 5) = .agg #[.int .i64 0, .int .i64 0] from rfl, show decide (5 < L5.length) = false from by decide] at hat
  refine hat.mono ?_
  rintro e w11 ⟨rfl, hb11⟩
  have HB11 := Lib.hid (HPC10.out.below hb11).low
  have g11 := blk_stay hb11 g10
  clear hb11 hat g10
  go_wp2_with fail
  obtain ⟨w12, hw12⟩ : ∃ w12, w12 = w11.alloc (.cells #[.int .i64 0, .int .i64 0] 47) := ⟨_, rfl⟩
  have h12 : Below w11.heap.size w11 w12 := by rw [hw12]; exact pl1 _ _
  have HB12 := Lib.hid (HB11.out.trans (h12.mono HB11.out.size))
  have g12 := blk_stay h12 g11
  rw [← hw12]
  clear hw12 g11 h12
  refine (print_any bl L5 w12 (HPL2.out.below HB12.out) (by decide) L5_right).mono ?_
  rintro e w13 ⟨rfl, hb13⟩
  have HB13 := Lib.hid (HB12.out.trans (hb13.mono HB12.out.size))
  have g13 := blk_stay hb13 g12
  clear hb13 g12
  go_wp2_with fail
  refine (parse_any (printB L5) w13 (printB_len L5 L5_right (by decide))).mono ?_
  rintro e w14 ⟨hpa, hb14⟩
  have hpr := parA_print L5 L5_right (by decide)
  unfold PaEnd at hpa
  rw [hpr] at hpa
  obtain ⟨by_, rfl, hby, hpl⟩ := hpa
  have HB14 := Lib.hid (HB13.out.trans (hb14.mono HB13.out.size))
  have g14 := blk_stay hb14 g13
  have HPY := Lib.hid hpl
  clear hb14 g13 hpl hpr
  have k60 := cell_of_cells (i := 0) g14 rfl
  have k61 := cell_of_cells (i := 1) g14 rfl
  go_wp2_with fail
  have HPX := Lib.hid (HPL2.out.below HB14.out)
  refine (plen_any bl L5 w14 HPX.out).mono ?_
  rintro e w' ⟨rfl, rfl⟩
  go_wp2_with fail
  refine (pmax_any bl L5 w14 HPX.out).mono ?_
  rintro e w' ⟨rfl, rfl⟩
  rw [show PostM.mx L5 = 9 from by decide]
  go_wp2_with fail
  refine (pblocks_any bl L5 w14 HPX.out).mono ?_
  rintro e w' ⟨rfl, rfl⟩
  rw [show PostM.cnt L5.length = 2 from by decide]
  go_wp2_with fail
  refine (pposts_any by_ L5 w14 HPY.out (by decide)).mono ?_
  rintro e w15 ⟨v1, rfl, hp1, hb15⟩
  have HP1 := Lib.hid hp1
  have HPX15 := Lib.hid (HPX.out.below hb15)
  have HB15 := Lib.hid (HB14.out.trans (hb15.mono HB14.out.size))
  clear hp1 hb15
  go_wp2_with fail
  refine (pposts_any bl L5 w15 HPX15.out (by decide)).mono ?_
  rintro e w16 ⟨v2, rfl, hp2, hb16⟩
  have HP2 := Lib.hid hp2
  have HP1' := Lib.hid (HP1.out.later hb16)
  have HB16 := Lib.hid (HB15.out.trans (hb16.mono HB15.out.size))
  clear hp2 hb16
  go_wp2_with fail
  refine (refsame5_any v1 v2 L5 L5 w16 HP1'.out HP2.out (by decide) (by decide)).mono ?_
  rintro e w17 ⟨rfl, q, rfl⟩
  rw [show decide (L5 = L5) = true from by decide]
  go_wp2_with fail
  go_ret
  have hz := HB2.out.trans (HB16.out.mono HB2.out.size)
  exact ⟨rfl, hz.trans ((below_drewN _).mono hz.size)⟩
end Go.Proofs.Ytlcmdnmifmjjgaa

/- PostingBounds: called with any list of posts it returns true. -/
namespace Go.Proofs.Ytlcmdnmifmjjgaa
open Go.RowKit

theorem blk_bounds {l : List (Int × Int)} (hr : PostM.rightL l = true) (i : Nat) (hi : i < l.length) (j : Nat) (hj : Fst (lastG (PostM.blks l)) (PostM.cnt l.length) (l[i].1) j) :
    j < PostM.cnt l.length ∧ l[i].2 ≤ ((PostM.blks l).getD j (0, 0)).1 ∧ ((PostM.blks l).getD j (0, 0)).1 ≤ PostM.mx l ∧ l[i].1 ≤ ((PostM.blks l).getD j (0, 0)).2 := by
  obtain ⟨h1, h2⟩ := post_le_last hr i hi
  rw [atP_get hi] at h2
  have hji : j = i / 4 := by
    rcases Nat.lt_trichotomy j (i / 4) with e | e | e
    · have h3 := hj.2.2 (by omega)
      obtain ⟨hx, h4⟩ := lastG_is l j (by omega)
      have h5 : 4 * j + 4 ≤ l.length := by omega
      have h6 := PostM.rgt_rise hr (min (4 * j + 4) l.length - 1) i hx hi (by omega)
      omega
    · exact e
    · have h3 := hj.2.1 (i / 4) e
      omega
  subst hji
  have hb : (PostM.blks l).getD (i / 4) (0, 0) = PostM.blk (PostM.piece l (i / 4)) := by
    unfold PostM.blks
    rw [List.getD_eq_getElem?_getD, List.getElem?_map, List.getElem?_range h1]
    rfl
  have hm : l[i] ∈ PostM.piece l (i / 4) := by
    unfold PostM.piece
    refine List.mem_iff_getElem.2 ⟨i - 4 * (i / 4), ?_, ?_⟩
    · rw [List.length_take, List.length_drop]; omega
    · rw [List.getElem_take, List.getElem_drop]
      congr 1
      omega
  refine ⟨h1, ?_, ?_, h2⟩
  · rw [hb]; exact PostM.mx_le _ _ hm
  · rw [hb]; exact PostM.mx_sub _ _ (fun p hp => List.mem_of_mem_drop (List.mem_of_mem_take hp))

set_option maxHeartbeats 4000000 in
set_option maxRecDepth 100000 in
theorem bounds_main (A : Option Addr) (n cp : Nat) (l : List (Int × Int)) (doc : Int) (w : World) (hn : n ≤ 300) (hln : l.length = n) (hP : Prd w (.slice A n cp) l) (hr : PostM.rightL l = true) :
    Calls Try.prog 5 #[.slice A n cp, .int .i64 doc] w fun e w' => e = .returned (.bool true) ∧ Below w.heap.size w w' := by
  have hd300 : decide ((300 : Int) < (n : Int)) = false := decide_eq_false (by omega)
  have HP := Lib.hid hP
  have HR := Lib.hid hr
  have HLN := Lib.hid hln
  clear hP hr hln
  go_enter Try.func5, Try.ntmps5
  go_wp2_with fail
  refine (awake5_any _).mono ?_
  rintro e w1 ⟨rfl, hb1⟩
  have HB1 := Lib.hid hb1
  have HP1 := Lib.hid (HP.out.later hb1)
  clear hb1
  go_wp2_with fail
  refine (build_yes _ l w1 HP1.out (by rw [HLN.out]; omega) HR.out).mono ?_
  rintro e w3 ⟨bl, rfl, hbl, hpl, hb3⟩
  have HB3 := Lib.hid (HB1.out.trans (hb3.mono HB1.out.size))
  have HP3 := Lib.hid (HP1.out.later hb3)
  have HPL := Lib.hid hpl
  clear hb3 hpl hbl
  go_wp2_with fail
  refine (cursor_any bl l w3 w3 HPL.out (Below.refl _ _)).mono ?_
  rintro e w4 ⟨c1, rfl, hc1, hpc, hb4⟩
  have HC1 := Lib.hid hpc
  have hc1l : c1 < w4.heap.size := by obtain ⟨_, _, _, _, _, _, _, h6⟩ := hpc; exact (Array.getElem?_eq_some_iff.1 h6).1
  clear hpc hb4
  go_wp2_with fail
  refine (cursor_any bl l w3 w4 HPL.out HC1.out.low).mono ?_
  rintro e w5 ⟨c2, rfl, hc2, hpc, hb5⟩
  have HC2 := Lib.hid hpc
  have HC1b := Lib.hid (HC1.out.below hb5)
  clear hpc hb5
  have hne : c2 ≠ c1 := by omega
  go_wp2_with fail
  refine (seek_any c1 l 0 doc w3 w5 HC1b.out (by rw [HLN.out]; omega) HR.out).mono ?_
  rintro e w6 ⟨rfl, ⟨a1, hpc, hsk⟩, hT⟩
  have HC2b := Lib.hid (HC2.out.turned hT hc1 hne)
  have HC1c := Lib.hid hpc
  have HSK := Lib.hid hsk
  have ha1 : a1 ≤ n := by have := hsk.2.1; rw [HLN.out] at this; exact this
  have hc2w : w3.heap.size ≤ c2 := HC2b.out.new
  clear hpc hsk hT
  go_wp2_with fail
  go_loopw [9] (fun x wr => ∃ i : Nat, x = .int .i64 i ∧ i ≤ n + 1 ∧ PC w3 wr c1 l a1 ∧ PC w3 wr c2 l (min i a1)) (fun x _ => n + 1 - (intOf x).toNat)
  case atStart => exact ⟨0, rfl, by omega, HC1c.out, by rw [Nat.zero_min]; exact HC2b.out⟩
  case round =>
    obtain ⟨i, rfl, hin, hpc1, hpc2⟩ := hrel
    by_cases hlm : i ≤ n
    · have hmi : (i : Int) ≤ (n : Int) := by omega
      have hdm : decide ((i : Int) ≤ (n : Int)) = true := decide_eq_true hmi
      obtain ⟨k, hk⟩ : ∃ k, k = min i a1 := ⟨_, rfl⟩
      rw [← hk] at hpc2
      have hat := at_any c2 l k w3 wr hpc2
      obtain ⟨⟨x, y⟩, hxy⟩ : ∃ p, p = atP l k := ⟨_, rfl⟩
      rw [← hxy, HLN.out] at hat
      unfold sv at hat
      simp only at hat
      obtain ⟨ok, hok⟩ : ∃ ok, ok = decide (k < n) := ⟨_, rfl⟩
      rw [← hok] at hat
      have HAT := Lib.hid hat
      have HC1d := Lib.hid hpc1
      have HC2d := Lib.hid hpc2
      have hcase : (ok = true ∧ x < doc ∧ k < a1) ∨ (ok = true ∧ ¬ x < doc ∧ k = a1) ∨ (ok = false ∧ k = a1) := by
        have h3 := HSK.out.2.2.1 k (by omega)
        have h4 := HSK.out.2.2.2
        rw [HLN.out] at h4
        have hx : x = (atP l k).1 := by rw [← hxy]
        by_cases h : k < a1
        · left
          have := h3 h
          exact ⟨by rw [hok]; exact decide_eq_true (by omega), by rw [hx]; exact this, h⟩
        · right
          have hka : k = a1 := by omega
          by_cases h5 : a1 < n
          · left
            have := h4 h5
            exact ⟨by rw [hok]; exact decide_eq_true (by omega), by rw [hx, hka]; omega, hka⟩
          · right
            exact ⟨by rw [hok]; exact decide_eq_false (by omega), hka⟩
      have HKI := Lib.hid hk
      clear hat hxy hok hpc1 hpc2 hk
      go_wp2_with fail
      refine HAT.out.mono ?_
      rintro e w7 ⟨rfl, hb7⟩
      have HC1e := Lib.hid (HC1d.out.below (hb7.trans ((pl1 w7 (.cells #[.int .i64 x, .int .i64 y] 47)).mono hb7.size)))
      have HC2e := Lib.hid (HC2d.out.below (hb7.trans ((pl1 w7 (.cells #[.int .i64 x, .int .i64 y] 47)).mono hb7.size)))
      clear hb7 HAT
      rcases hcase with ⟨rfl, hxd, hka⟩ | ⟨rfl, hxd, hka⟩ | ⟨rfl, hka⟩
      · have hdx : decide (x < doc) = true := decide_eq_true hxd
        go_wp2_with fail
        refine (next_any c2 l k w3 _ HC2e.out (by rw [HLN.out]; omega)).mono ?_
        rintro e w8 ⟨rfl, hpc, hT⟩
        have HC1f := Lib.hid (HC1e.out.turned hT hc2w (fun e => hne e.symm))
        have HC2f := Lib.hid hpc
        clear hpc hT
        go_wp2
        go_roundw
        case rel => exact ⟨i + 1, by go_num, by omega, HC1f.out, by
          have := HC2f.out
          rw [HLN.out, show min (k + 1) n = min (i + 1) a1 by have := HKI.out; omega] at this
          exact this⟩
        case measure => simp [intOf]; omega
      · have hdx : decide (x < doc) = false := decide_eq_false (by omega)
        go_wp2
        go_roundw
        case rel => exact ⟨i + 1, by go_num, by omega, HC1e.out, by
          have := HC2e.out
          rw [show k = min (i + 1) a1 by have := HKI.out; omega] at this
          exact this⟩
        case measure => simp [intOf]; omega
      · go_wp2
        go_roundw
        case rel => exact ⟨i + 1, by go_num, by omega, HC1e.out, by
          have := HC2e.out
          rw [show k = min (i + 1) a1 by have := HKI.out; omega] at this
          exact this⟩
        case measure => simp [intOf]; omega
    · have hmi : ¬ (i : Int) ≤ (n : Int) := by omega
      have hdm : decide ((i : Int) ≤ (n : Int)) = false := decide_eq_false hmi
      rw [show min i a1 = a1 by omega] at hpc2
      have HC1d := Lib.hid hpc1
      have HC2d := Lib.hid hpc2
      clear hpc1 hpc2
      have hat1 := at_any c1 l a1 w3 wr HC1d.out
      obtain ⟨⟨x, y⟩, hxy⟩ : ∃ p, p = atP l a1 := ⟨_, rfl⟩
      have hat2 := fun W (h : PC w3 W c2 l a1) => at_any c2 l a1 w3 W h
      rw [← hxy] at hat1 hat2
      unfold sv at hat1 hat2
      simp only at hat1 hat2
      obtain ⟨ok, hok⟩ : ∃ ok, ok = decide (a1 < l.length) := ⟨_, rfl⟩
      rw [← hok] at hat1 hat2
      have HAT1 := Lib.hid hat1
      have HAT2 := Lib.hid hat2
      clear hat1 hat2 hok hxy
      go_wp2_with fail
      refine HAT1.out.mono ?_
      rintro e w7 ⟨rfl, hb7⟩
      go_wp2_with fail
      have hb7b := hb7.trans ((pl1 w7 (.cells #[.int .i64 x, .int .i64 y] 47)).mono hb7.size)
      obtain ⟨w8, hw8⟩ : ∃ w8, w8 = w7.alloc (.cells #[.int .i64 x, .int .i64 y] 47) := ⟨_, rfl⟩
      obtain ⟨B1, hB1⟩ : ∃ B1, B1 = w7.heap.size := ⟨_, rfl⟩
      have g1 : w8.heap[B1]? = some (.cells #[.int .i64 x, .int .i64 y] 47 (0, 0)) := by rw [hw8, hB1]; exact heap_alloc_new _ _
      rw [← hw8] at hb7b ⊢
      rw [← hB1]
      have HC1e := Lib.hid (HC1d.out.below hb7b)
      have HC2e := Lib.hid (HC2d.out.below hb7b)
      clear hb7 hb7b hw8 hB1
      refine (HAT2.out w8 HC2e.out).mono ?_
      rintro e w9 ⟨rfl, hb9⟩
      have hb9b := hb9.trans ((pl1 w9 (.cells #[.int .i64 x, .int .i64 y] 47)).mono hb9.size)
      have g2 : (w9.alloc (.cells #[.int .i64 x, .int .i64 y] 47)).heap[w9.heap.size]? = some (.cells #[.int .i64 x, .int .i64 y] 47 (0, 0)) := heap_alloc_new _ _
      have g1b := blk_stay hb9b g1
      have HC1f := Lib.hid (HC1e.out.below hb9b)
      have k10 := cell_of_cells (i := 0) g1b rfl
      have k11 := cell_of_cells (i := 1) g1b rfl
      have k20 := cell_of_cells (i := 0) g2 rfl
      have k21 := cell_of_cells (i := 1) g2 rfl
      clear hb9 hb9b g1 g1b g2
      go_wp2_with fail
      obtain ⟨w10, hw10⟩ : ∃ w10, w10 = w9.alloc (.cells #[.int .i64 x, .int .i64 y] 47) := ⟨_, rfl⟩
      rw [← hw10] at HC1f ⊢
      clear k10 k11 k20 k21 hw10
      go_loopw [16] (fun x wr => ∃ i : Nat, x = .int .i64 i ∧ i ≤ n ∧ PC w3 wr c1 l a1) (fun x _ => n - (intOf x).toNat)
      case atStart => exact ⟨0, rfl, by omega, HC1f.out⟩
      case round =>
        obtain ⟨i2, rfl, hin2, hpc1⟩ := hrel
        by_cases hlm2 : i2 < n
        · have hmi2 : (i2 : Int) < (n : Int) := by omega
          have hdm2 : decide ((i2 : Int) < (n : Int)) = true := decide_eq_true hmi2
          obtain ⟨pb, po, hA, hpb, hx, hy⟩ := HP3.out.at_ i2 (by rw [HLN.out]; exact hlm2)
          obtain ⟨⟨dx, dy⟩, hxy⟩ : ∃ p, p = l[i2]'(by rw [HLN.out]; exact hlm2) := ⟨_, rfl⟩
          have hbb := blk_bounds HR.out i2 (by rw [HLN.out]; exact hlm2)
          rw [← hxy] at hx hy hbb
          simp only at hx hy hbb
          subst hA
          have HCE := Lib.hid (fun W (hW : Below w3.heap.size w3 W) => And.intro ((hW.cell (p := ⟨pb, po + i2 * 2, none⟩) hpb).trans hx) ((hW.cell (p := ⟨pb, po + i2 * 2 + 1, none⟩) hpb).trans hy))
          have HBB := Lib.hid hbb
          have HC1g := Lib.hid hpc1
          obtain ⟨hx1, hy1⟩ := HCE.out wr hpc1.low
          clear hx hy hbb hpc1 hxy
          go_wp2_with fail
          refine (block_any c1 l a1 dx w3 wr HC1g.out (by rw [HLN.out]; omega) (lastG_mono HR.out)).mono ?_
          rintro e w11 ⟨⟨j, hj, rfl⟩, hb11⟩
          obtain ⟨h1, h2, h3, h4⟩ := HBB.out j hj
          rw [if_pos h1, if_pos h1]
          have HC1h := Lib.hid (HC1g.out.below hb11)
          have hmx := pmax_any bl l w11 (HPL.out.below HC1h.out.low)
          obtain ⟨V1, hV1⟩ : ∃ V1, V1 = ((PostM.blks l).getD j (0, 0)).1 := ⟨_, rfl⟩
          obtain ⟨V2, hV2⟩ : ∃ V2, V2 = ((PostM.blks l).getD j (0, 0)).2 := ⟨_, rfl⟩
          obtain ⟨M, hM⟩ : ∃ M, M = PostM.mx l := ⟨_, rfl⟩
          rw [← hV1] at h2 h3
          rw [← hV2] at h4
          rw [← hM] at h3 hmx
          rw [← hV1, ← hV2]
          have hd1 : decide (V1 < dy) = false := decide_eq_false (by omega)
          have hd2 : decide (M < V1) = false := decide_eq_false (by omega)
          have hd3 : decide (V2 < dx) = false := decide_eq_false (by omega)
          have HMX := Lib.hid hmx
          clear hx1 hy1 hV1 hV2 hM h1 h2 h3 h4 hj hb11 hmx
          obtain ⟨hx1, hy1⟩ := HCE.out w11 HC1h.out.low
          go_wp2_with fail
          refine HMX.out.mono ?_
          rintro e w12 ⟨rfl, rfl⟩
          go_wp2
          go_roundw
          case rel => exact ⟨i2 + 1, by go_num, by omega, HC1h.out⟩
          case measure => simp [intOf]; omega
        · have hmi2 : ¬ (i2 : Int) < (n : Int) := by omega
          have hdm2 : decide ((i2 : Int) < (n : Int)) = false := decide_eq_false hmi2
          have HC1g := Lib.hid hpc1
          clear hpc1
          go_wp2_with fail
          have hpr := print_any bl l wr (HPL.out.below HC1g.out.low) (by rw [HLN.out]; omega) HR.out
          have hpl := printB_len l HR.out (by rw [HLN.out]; omega)
          have hpp := parA_print l HR.out (by rw [HLN.out]; omega)
          obtain ⟨pb, hpb⟩ : ∃ pb, pb = printB l := ⟨_, rfl⟩
          rw [← hpb] at hpr hpl hpp
          have HPP := Lib.hid hpp
          have HPLN := Lib.hid hpl
          clear hpp hpl hpb
          refine hpr.mono ?_
          rintro e w11 ⟨rfl, hb11⟩
          have HL11 := Lib.hid (HC1g.out.low.trans (hb11.mono HC1g.out.low.size))
          clear hb11 hpr
          go_wp2_with fail
          refine (parse_any pb w11 HPLN.out).mono ?_
          rintro e w12 ⟨hpa, hb12⟩
          unfold PaEnd at hpa
          rw [HPP.out] at hpa
          obtain ⟨by_, rfl, hby, hply⟩ := hpa
          have HL12 := Lib.hid (HL11.out.trans (hb12.mono HL11.out.size))
          have HPY := Lib.hid hply
          clear hb12 hply hby
          go_wp2_with fail
          refine (pposts_any by_ l w12 HPY.out (by rw [HLN.out]; omega)).mono ?_
          rintro e w13 ⟨v1, rfl, hp1, hb13⟩
          have HL13 := Lib.hid (HL12.out.trans (hb13.mono HL12.out.size))
          have HPY13 := Lib.hid (HPY.out.below hb13)
          have HV1 := Lib.hid hp1
          clear hb13 hp1
          have hsm := refsame5_any v1 _ l l w13 HV1.out (HP3.out.later HL13.out) (by rw [HLN.out]; omega) (by rw [HLN.out]; omega)
          rw [decide_eq_true rfl] at hsm
          have HSM := Lib.hid hsm
          clear hsm
          go_wp2_with fail
          refine HSM.out.mono ?_
          rintro e w14 ⟨rfl, q, rfl⟩
          have hbq : Below w13.heap.size w13 (w13.drewN q) := below_drewN _
          have HL14 := Lib.hid (HL13.out.trans (hbq.mono HL13.out.size))
          have HPY14 := Lib.hid (HPY13.out.below hbq)
          clear hbq
          obtain ⟨w14, hw14⟩ : ∃ w14, w14 = w13.drewN q := ⟨_, rfl⟩
          rw [← hw14] at HL14 HPY14 ⊢
          clear hw14
          have hm1 := pmax_any by_ l w14 HPY14.out
          have hm2 := pmax_any bl l w14 (HPL.out.below HL14.out)
          have hk1 := pblocks_any by_ l w14 HPY14.out
          have hk2 := pblocks_any bl l w14 (HPL.out.below HL14.out)
          obtain ⟨M, hM⟩ : ∃ M, M = PostM.mx l := ⟨_, rfl⟩
          obtain ⟨bn, hbn⟩ : ∃ bn, bn = PostM.cnt l.length := ⟨_, rfl⟩
          rw [← hM] at hm1 hm2
          rw [← hbn] at hk1 hk2
          have HM1 := Lib.hid hm1
          have HM2 := Lib.hid hm2
          have HK1 := Lib.hid hk1
          have HK2 := Lib.hid hk2
          clear hm1 hm2 hk1 hk2 hM hbn
          go_wp2_with fail
          refine HM1.out.mono ?_
          rintro e wa ⟨rfl, hwa⟩
          rw [← hwa]
          clear hwa
          go_wp2_with fail
          refine HM2.out.mono ?_
          rintro e wa ⟨rfl, hwa⟩
          rw [← hwa]
          clear hwa
          go_wp2_with fail
          refine HK1.out.mono ?_
          rintro e wa ⟨rfl, hwa⟩
          rw [← hwa]
          clear hwa
          go_wp2_with fail
          refine HK2.out.mono ?_
          rintro e wa ⟨rfl, hwa⟩
          rw [← hwa]
          clear hwa
          go_wp2
          go_ret
          exact ⟨rfl, HB3.out.trans (HL14.out.mono HB3.out.size)⟩
set_option maxHeartbeats 1000000 in
set_option maxRecDepth 100000 in
theorem bounds_long (A : Option Addr) (n cp : Nat) (doc : Int) (w : World) (hn : ¬ n ≤ 300) :
    Calls Try.prog 5 #[.slice A n cp, .int .i64 doc] w fun e w' => e = .returned (.bool true) ∧ Below w.heap.size w w' := by
  have hd1 : decide ((300 : Int) < (n : Int)) = true := decide_eq_true (by omega)
  go_enter Try.func5, Try.ntmps5
  go_wp2_with fail
  refine (awake5_any _).mono ?_
  rintro e w1 ⟨rfl, b1⟩
  go_wp2_with fail
  go_ret
  exact ⟨rfl, b1⟩
set_option maxHeartbeats 1000000 in
set_option maxRecDepth 100000 in
theorem bounds_wrong (A : Option Addr) (n cp : Nat) (l : List (Int × Int)) (doc : Int) (w : World) (hn : n ≤ 300) (hln : l.length = n) (hP : Prd w (.slice A n cp) l) (hr : PostM.rightL l = false) :
    Calls Try.prog 5 #[.slice A n cp, .int .i64 doc] w fun e w' => e = .returned (.bool true) ∧ Below w.heap.size w w' := by
  have hd1 : decide ((300 : Int) < (n : Int)) = false := decide_eq_false (by omega)
  have HP := Lib.hid hP
  have HR := Lib.hid hr
  have HLN := Lib.hid hln
  clear hP hr hln
  go_enter Try.func5, Try.ntmps5
  go_wp2_with fail
  refine (awake5_any _).mono ?_
  rintro e w1 ⟨rfl, hb1⟩
  go_wp2_with fail
  refine (build_no _ l w1 (HP.out.later hb1) (by rw [HLN.out]; omega) HR.out).mono ?_
  rintro e w3 ⟨rfl, hb3⟩
  go_wp2
  go_ret
  exact ⟨rfl, hb1.trans (hb3.mono hb1.size)⟩
end Go.Proofs.Ytlcmdnmifmjjgaa

namespace Go.Proofs.Ytlcmdnmifmjjgaa
open Go.ChangeShapes Go.WideShapes Go.ChangeAt Go.RowKit

set_option maxRecDepth 100000 in
theorem postingbounds_lifted (os : Os) (started : os.Started) (H : Type) (enc : TypeId × Value → H) :
    ReturnsInHanded {} Try.checked os 5 .any (Rows.postingBoundsSpec.pre6 enc Try.prog Try.f5 Rows.postingBoundsRow.domain false) (Rows.postingBoundsSpec.post enc Try.prog Try.f5 false true false false) := by
  refine returnsInHanded_of_change (C := Try.checked) knob started (by kernel_rfl) Try.func5
    (ChangeSpec.witness6 (enc := enc) (C := Try.checked) false ⟨#[], #[.slice none 0 0, .int .i64 0], []⟩ 8 (by kernel_rfl) (by kernel_rfl) (by kernel_rfl) (by kernel_rfl)) ?_
  intro W base args ds gs before hval0 hW hcnd _
  have hval : ∀ (j : Nat) t v, Try.f5.params[j]? = some t → args[j]? = some v → Value.okWide Try.prog W .any base t v := hval0
  have hW' := hW
  obtain ⟨p, q, hA0, hV, rfl, hfz, hnd⟩ := hW
  have hA : DataW.TrodAll enc Try.prog W 0 (fun _ => true) true Try.f5.params.toList args.toList ds p := hA0
  rw [Try.params5] at hA hval
  obtain ⟨v0, vs0, d0, ds0, p0, q0, hargs, rfl, rfl, h0, r0⟩ := trodAll_cons hA
  obtain ⟨v1, vs1, d1, ds1, p1, q1, rfl, rfl, rfl, h1, r1⟩ := trodAll_cons r0
  obtain ⟨rfl, rfl, rfl⟩ := trodAll_nil r1
  obtain rfl : args = #[v0, v1] := by cases args; simp_all
  obtain ⟨rfl, rfl⟩ := trodVars_none hV
  obtain ⟨A, n, cp, l, rfl, hln, hP⟩ := posts_of_trod (hval 0 22 v0 rfl rfl) (fun x hx => hW'.lt x (by simp [hx])) h0
  obtain ⟨doc, rfl, rfl, rfl, w0⟩ := open_int Try.underlying3 (hval 1 3 v1 rfl rfl) h1
  have walk : Calls Try.prog 5 #[.slice A n cp, .int .i64 doc] W fun e w' => e = .returned (.bool true) ∧ Below W.heap.size W w' := by
    by_cases hn : n ≤ 300
    · cases hr : PostM.rightL l with
      | true => exact bounds_main A n cp l doc W hn hln hP hr
      | false => exact bounds_wrong A n cp l doc W hn hln hP hr
    · exact bounds_long A n cp doc W hn
  refine walk.mono fun e W' ⟨he, hg⟩ => ?_
  subst he
  exact ⟨_, rfl, law_post (s := Rows.postingBoundsSpec) hW' rfl rfl rfl rfl (by kernel_rfl) (by kernel_rfl) hg⟩

theorem postingbounds_holds : Rows.PostingBoundsSaid :=
  OpenClaim.holds_of_wide 5 Try.f5 rfl rfl rfl rfl rfl rfl rfl ⟨rfl, rfl, rfl, rfl, rfl⟩ rfl rfl rfl rfl rfl (by kernel_rfl) Try.func5 (by kernel_rfl)
    (of_decide_eq_true (by kernel_rfl)) (by unfold Func.isWrapper; first | (rw [if_pos (by decide +kernel)]; kernel_rfl) | (rw [if_neg (by decide +kernel)]; exact ⟨rfl, rfl⟩))
    (fun os started H enc _ => postingbounds_lifted os started H enc)
end Go.Proofs.Ytlcmdnmifmjjgaa
