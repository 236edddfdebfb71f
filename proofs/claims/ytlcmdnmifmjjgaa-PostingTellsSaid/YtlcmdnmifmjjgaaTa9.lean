/- PostingTells: called with any slice of posts and any string it returns true, and the arguments read behind the call as they read before. No condition. -/
import Derived.Deep.QuietTactic
import Derived.BigQuiet
import Derived.Deep.AppendLies
import Derived.BigRegion
import Derived.Deep.RegionLaw
import Derived.Deep.RegionHeld3
import Derived.Test.YtlcmdnmifmjjgaaTa8

/- Posts: the document's Same, Max, Seek. -/
namespace Go.Proofs.Ytlcmdnmifmjjgaa
open Go.RowKit

set_option maxHeartbeats 4000000 in
set_option maxRecDepth 100000 in
theorem refsame5_any (v1 v2 : Value) (l1 l2 : List (Int × Int)) (w : World) (h1 : Prd w v1 l1) (h2 : Prd w v2 l2) (hl : l1.length ≤ 1000000) (hl2 : l2.length ≤ 1000000) :
    Calls Try.prog 13 #[v1, v2] w fun e w' => e = .returned (.bool (decide (l1 = l2))) ∧ ∃ n, w' = w.drewN n := by
  obtain ⟨A1, cp1, rfl, hcp1, hA1, hP1⟩ := h1
  obtain ⟨A2, cp2, rfl, hcp2, hA2, hP2⟩ := h2
  obtain ⟨n, hn⟩ : ∃ n, n = l1.length := ⟨_, rfl⟩
  obtain ⟨m, hm⟩ : ∃ m, m = l2.length := ⟨_, rfl⟩
  have HP1 := Lib.hid hP1
  have HP2 := Lib.hid hP2
  rw [← hn] at hcp1 hl ⊢
  rw [← hm] at hcp2 hl2 ⊢
  have HN := Lib.hid hn
  have HM := Lib.hid hm
  by_cases hnm : n = m
  · subst hnm
    have hd : ((n : Int) != (n : Int)) = false := by simp
    clear hP1 hP2 hA1 hA2 hn hm
    go_enter Try.func13, Try.ntmps13
    go_wp2
    go_loopw [5] (fun x wr => ∃ i : Nat, x = .int .i64 i ∧ i ≤ n ∧ l1.take i = l2.take i ∧ ∃ q, wr = w.drewN q) (fun x _ => n - (intOf x).toNat)
    case atStart => exact ⟨0, by go_num, Nat.zero_le _, rfl, 0, rfl⟩
    case round =>
      obtain ⟨i, rfl, hi, htk, q, rfl⟩ := hrel
      have HTK := Lib.hid htk
      clear htk
      by_cases hlt : i < n
      · have hd1 : decide ((i : Int) < (n : Int)) = true := decide_eq_true (by omega)
        have hd2 : decide (i < n) = true := decide_eq_true hlt
        have hi1 : i < l1.length := by rw [← HN.out]; exact hlt
        have hi2 : i < l2.length := by rw [← HM.out]; exact hlt
        obtain ⟨b1, o1, rfl, _, c0, c1⟩ := HP1.out.2 i hi1
        obtain ⟨b2, o2, rfl, _, e0, e1⟩ := HP2.out.2 i hi2
        obtain ⟨⟨x1, x2⟩, hx⟩ : ∃ x, x = l1[i] := ⟨_, rfl⟩
        obtain ⟨⟨y1, y2⟩, hy⟩ : ∃ y, y = l2[i] := ⟨_, rfl⟩
        rw [← hx] at c0 c1
        rw [← hy] at e0 e1
        have hi0 : (0 : Int) ≤ (i : Int) := by omega
        have hin : (i : Int) < (n : Int) := by omega
        by_cases hxy : (x1, x2) = (y1, y2)
        · have hT : Hid (l1.take (i + 1) = l2.take (i + 1)) := Lib.hid (by rw [PostM.take_snoc_p l1 i hi1, PostM.take_snoc_p l2 i hi2, HTK.out, ← hx, ← hy, hxy])
          injection hxy with q1 q2
          subst q1; subst q2
          clear hx hy
          go_wp2
          go_quiet (fail)
          go_wp2
          exact ⟨⟨i + 1, by go_num, by omega, hT.out, _, rfl⟩, by simp [intOf]; omega⟩
        · have hne : decide (l1 = l2) = false := decide_eq_false (fun e => hxy (by rw [hx, hy]; simp [e]))
          have HNE := Lib.hid hne
          clear hx hy hne
          by_cases hq1 : x1 = y1
          · subst hq1
            have hq2 : x2 ≠ y2 := fun e => hxy (by rw [e])
            have hb2 : (x2 == y2) = false := by simpa using hq2
            clear hxy
            go_wp2
            go_quiet (fail)
            go_wp2
            go_ret
            exact ⟨by rw [HNE.out]; rfl, _, World.drewN_drewN _ _ _⟩
          · have hb1 : (x1 == y1) = false := by simpa using hq1
            clear hxy
            go_wp2
            go_quiet (fail)
            go_wp2
            go_ret
            exact ⟨by rw [HNE.out]; rfl, _, World.drewN_drewN _ _ _⟩
      · have hin : i = n := by omega
        subst hin
        have hd1 : decide ((i : Int) < (i : Int)) = false := by simp
        have hd2 : decide (i < i) = false := by simp
        have heq : decide (l1 = l2) = true := decide_eq_true (by
          have := HTK.out
          rwa [List.take_of_length_le (by rw [← HN.out]; exact Nat.le_refl _), List.take_of_length_le (by rw [← HM.out]; exact Nat.le_refl _)] at this)
        have HE := Lib.hid heq
        clear heq
        go_wp2
        go_ret
        exact ⟨by rw [HE.out]; rfl, q, rfl⟩
  · have hd : ((n : Int) != (m : Int)) = true := by simp; omega
    have hne : decide (l1 = l2) = false := decide_eq_false (fun e => hnm (by rw [HN.out, HM.out, e]))
    have HNE := Lib.hid hne
    clear hP1 hP2 hA1 hA2 hn hm hne
    go_enter Try.func13, Try.ntmps13
    go_wp2
    go_ret
    exact ⟨by rw [HNE.out]; rfl, 0, rfl⟩

theorem Sk.one {l : List (Int × Int)} {a x y : Nat} {doc : Int} (h : Sk l a doc x) (k : Sk l a doc y) : x = y := by
  rcases Nat.lt_trichotomy x y with h1 | h1 | h1
  · have h2 := k.2.2.1 x h.1 h1
    have h3 := h.2.2.2 (by have := k.2.1; omega)
    omega
  · exact h1
  · have h2 := h.2.2.1 y k.1 h1
    have h3 := k.2.2.2 (by have := h.2.1; omega)
    omega
theorem atP_get {l : List (Int × Int)} {k : Nat} (h : k < l.length) : atP l k = l[k] := by
  unfold atP
  rw [List.getD_eq_getElem?_getD, List.getElem?_eq_getElem h]
  rfl

set_option maxHeartbeats 2000000 in
set_option maxRecDepth 100000 in
theorem refmax5_any (v : Value) (l : List (Int × Int)) (w : World) (h : Prd w v l) (hl : l.length ≤ 1000000) :
    Calls Try.prog 11 #[v] w fun e w' => e = .returned (.int .i64 (PostM.mx l)) ∧ w' = w := by
  have hP := h
  obtain ⟨A, cp, rfl, hcp⟩ := h.form
  obtain ⟨n, hn⟩ : ∃ n, n = l.length := ⟨_, rfl⟩
  rw [← hn] at hl hcp hP ⊢
  have HN := Lib.hid hn
  have HP := Lib.hid hP
  clear hn hP h
  go_enter Try.func11, Try.ntmps11
  go_wp2
  go_loopw [3, 4] (fun x i wr => ∃ k : Nat, k ≤ n ∧ i = .int .i64 k ∧ x = .int .i64 (PostM.mx (l.take k)) ∧ wr = w) (fun _ i _ => n - (intOf i).toNat)
  case atStart => exact ⟨0, by omega, rfl, rfl, rfl⟩
  case round =>
    obtain ⟨k, hk, rfl, rfl, hwr⟩ := hrel
    subst hwr
    by_cases hkn : k < n
    · have hkl : k < l.length := by rw [← HN.out]; exact hkn
      obtain ⟨b, o, rfl, hbw, c0, c1⟩ := (HP.out).at_ k hkl
      have hs := PostM.mx_snoc (l.take k) l[k]
      rw [← PostM.take_snoc_p l k hkl] at hs
      obtain ⟨⟨p1, p2⟩, hp⟩ : ∃ p, p = l[k] := ⟨_, rfl⟩
      rw [← hp] at c0 c1 hs
      simp only at c0 c1 hs
      obtain ⟨m, hm⟩ : ∃ m, m = PostM.mx (l.take k) := ⟨_, rfl⟩
      rw [← hm] at hs ⊢
      have q1 : (0 : Int) ≤ (k : Int) := by omega
      have q2 : (k : Int) < (n : Int) := by omega
      have q3 : decide ((k : Int) < (n : Int)) = true := decide_eq_true q2
      have q4 : decide (k < n) = true := decide_eq_true hkn
      by_cases hg : m < p2
      · have d : decide (m < p2) = true := decide_eq_true hg
        have HS := Lib.hid (hs.trans (show max m p2 = p2 by omega))
        clear hs hm hp hg
        go_wp2
        exact ⟨⟨k + 1, by omega, by go_num, by rw [HS.out], trivial⟩, by simp [intOf]; omega⟩
      · have d : decide (m < p2) = false := decide_eq_false hg
        have HS := Lib.hid (hs.trans (show max m p2 = m by omega))
        clear hs hm hp hg
        go_wp2
        exact ⟨⟨k + 1, by omega, by go_num, by rw [HS.out], trivial⟩, by simp [intOf]; omega⟩
    · obtain rfl : k = n := by omega
      have q3 : decide ((k : Int) < (k : Int)) = false := by simp
      have q4 : decide (k < k) = false := by simp
      have ht : l.take k = l := List.take_of_length_le (by rw [← HN.out]; exact Nat.le_refl _)
      rw [ht]
      go_wp2
      go_ret
      exact ⟨rfl, rfl⟩

set_option maxHeartbeats 2000000 in
set_option maxRecDepth 100000 in
theorem refseek5_any (v : Value) (l : List (Int × Int)) (a : Nat) (doc : Int) (w : World) (h : Prd w v l) (hl : l.length ≤ 1000000) (ha : a ≤ l.length) :
    Calls Try.prog 22 #[v, .int .i64 (a : Int), .int .i64 doc] w fun e w' => (∃ a' : Nat, e = .returned (.int .i64 (a' : Int)) ∧ Sk l a doc a') ∧ w' = w := by
  have hP := h
  obtain ⟨A, cp, rfl, hcp⟩ := h.form
  obtain ⟨n, hn⟩ : ∃ n, n = l.length := ⟨_, rfl⟩
  rw [← hn] at hl hcp hP ha ⊢
  have HN := Lib.hid hn
  have HP := Lib.hid hP
  clear hn hP h
  go_enter Try.func22, Try.ntmps22
  go_wp2
  go_loopw [1] (fun x wr => ∃ k : Nat, a ≤ k ∧ k ≤ n ∧ x = .int .i64 k ∧ (∀ j, a ≤ j → j < k → (atP l j).1 < doc) ∧ wr = w) (fun x _ => n - (intOf x).toNat)
  case atStart => exact ⟨a, Nat.le_refl _, ha, rfl, fun j h1 h2 => absurd h2 (by omega), rfl⟩
  case round =>
    obtain ⟨k, hak, hk, rfl, hall, hwr⟩ := hrel
    subst hwr
    have HALL := Lib.hid hall
    clear hall
    by_cases hkn : k < n
    · have hkl : k < l.length := by rw [← HN.out]; exact hkn
      obtain ⟨b, o, rfl, hbw, c0, c1⟩ := (HP.out).at_ k hkl
      have hat := atP_get hkl
      obtain ⟨⟨p1, p2⟩, hp⟩ : ∃ p, p = l[k] := ⟨_, rfl⟩
      rw [← hp] at c0 c1 hat
      simp only at c0 c1
      have HAT := Lib.hid hat
      have q1 : (0 : Int) ≤ (k : Int) := by omega
      have q2 : (k : Int) < (n : Int) := by omega
      have q3 : decide ((k : Int) < (n : Int)) = true := decide_eq_true q2
      have q4 : decide (k < n) = true := decide_eq_true hkn
      clear hat hp
      by_cases hg : p1 < doc
      · have d : decide (p1 < doc) = true := decide_eq_true hg
        have HG := Lib.hid hg
        clear hg
        go_wp2
        refine ⟨⟨k + 1, by omega, by omega, by go_num, fun j h1 h2 => ?_, trivial⟩, by simp [intOf]; omega⟩
        by_cases e : j = k
        · rw [e, HAT.out]; exact HG.out
        · exact HALL.out j h1 (by omega)
      · have d : decide (p1 < doc) = false := decide_eq_false hg
        have HG := Lib.hid hg
        clear hg
        go_wp2
        go_ret
        refine ⟨⟨k, rfl, hak, by rw [← HN.out]; exact hk, HALL.out, fun _ => ?_⟩, rfl⟩
        rw [HAT.out]
        have := HG.out
        simp only
        omega
    · obtain rfl : k = n := by omega
      have q3 : decide ((k : Int) < (k : Int)) = false := by simp
      have q4 : decide (k < k) = false := by simp
      go_wp2
      go_ret
      exact ⟨⟨k, rfl, hak, by rw [← HN.out]; exact Nat.le_refl _, HALL.out, fun h => absurd h (by rw [← HN.out]; omega)⟩, rfl⟩
end Go.Proofs.Ytlcmdnmifmjjgaa

/- Posts: 'awake'. -/
namespace Go.Proofs.Ytlcmdnmifmjjgaa
open Go.RowKit

def L5 : List (Int × Int) := [(1, 5), (3, 9), (4, 2), (8, 1), (9, 4)]
theorem L5_right : PostM.rightL L5 = true := by decide
theorem Fst.one {g : Nat → Int} {m : Nat} {doc : Int} {i j : Nat} (h : Fst g m doc i) (k : Fst g m doc j) : i = j := by
  obtain ⟨h1, h2, h3⟩ := h
  obtain ⟨k1, k2, k3⟩ := k
  rcases Nat.lt_trichotomy i j with e | e | e
  · have := k2 i e; have := h3 (by omega); omega
  · exact e
  · have := h2 j e; have := k3 (by omega); omega
theorem prd_cells {W : World} {g : Nat} {t : TypeId} {fr : Nat × Nat} {l : List (Int × Int)} (h : W.heap[g]? = some (.cells (l.flatMap enc2).toArray t fr)) : Prd W (.slice (some ⟨g, 0, none⟩) l.length l.length) l := by
  refine ⟨some ⟨g, 0, none⟩, l.length, rfl, Nat.le_refl _, (fun e => by cases e), rfl, fun k hk => ⟨g, 0, rfl, (Array.getElem?_eq_some_iff.1 h).1, ?_⟩⟩
  obtain ⟨a, b⟩ := flat_get l k hk
  unfold World.cell?
  simp only [h, Nat.zero_add]
  refine ⟨?_, ?_⟩
  · simpa using a
  · simpa using b
theorem sk5 : Sk L5 0 5 3 := by
  refine ⟨by omega, by decide, fun k h1 h2 => ?_, fun _ => by decide⟩
  have : k = 0 ∨ k = 1 ∨ k = 2 := by omega
  rcases this with rfl | rfl | rfl <;> decide
theorem BlkEnd.one {l : List (Int × Int)} {doc : Int} {e : Ending} (h : BlkEnd l doc e) (i : Nat) (hi : Fst (lastG (PostM.blks l)) (PostM.cnt l.length) doc i) : e = .returned (.tuple #[.int .i64 (if i < PostM.cnt l.length then ((PostM.blks l).getD i (0, 0)).1 else 0), .int .i64 (if i < PostM.cnt l.length then ((PostM.blks l).getD i (0, 0)).2 else -1)]) := by
  obtain ⟨j, hj, he⟩ := h
  obtain rfl : j = i := Fst.one hj hi
  exact he
theorem blk5_2 {e : Ending} (h : BlkEnd L5 2 e) : e = .returned (.tuple #[.int .i64 9, .int .i64 8]) := h.one 0 ⟨by decide, fun k hk => by omega, fun _ => by decide⟩
theorem blk5_9 {e : Ending} (h : BlkEnd L5 9 e) : e = .returned (.tuple #[.int .i64 4, .int .i64 9]) := h.one 1 ⟨by decide, fun k hk => by
  obtain rfl : k = 0 := by omega
  decide, fun _ => by decide⟩

set_option maxHeartbeats 4000000 in
set_option maxRecDepth 100000 in
theorem awake5_any (w : World) : Calls Try.prog 6 #[] w fun e w' => e = .returned (.bool true) ∧ Below w.heap.size w w' := by
  go_enter Try.func6, Try.ntmps6
  go_wp2_with fail
  refine (build_yes _ L5 _ (prd_cells (l := L5) (heap_alloc_new _ _)) (by decide) L5_right).mono ?_
  rintro e w1 ⟨bl, rfl, hbl, hpl, hb1⟩
  have HB1 := Lib.hid ((pl1 w _).trans (hb1.mono (by simp)))
  have HPL := Lib.hid hpl
  clear hb1 hpl hbl
  go_wp2_with fail
  refine (build_no _ [(1, 0)] _ (prd_cells (l := [(1, 0)]) (heap_alloc_new _ _)) (by decide) (by decide)).mono ?_
  rintro e w2 ⟨rfl, hb2⟩
  have hb12 : Below w1.heap.size w1 w2 := (pl1 w1 _).trans (hb2.mono (by simp))
  have HB2 := Lib.hid (HB1.out.trans (hb12.mono HB1.out.size))
  have HPL2 := Lib.hid (HPL.out.below hb12)
  clear hb2 hb12
  go_wp2_with fail
  refine (cursor_any bl L5 w2 w2 HPL2.out (Below.refl _ _)).mono ?_
  rintro e w3 ⟨c, rfl, hc, hpc, hb3⟩
  have HPC3 := Lib.hid hpc
  clear hb3 hpc
  go_wp2_with fail
  refine (seek_any c L5 0 5 w2 w3 HPC3.out (by decide) L5_right).mono ?_
  rintro e w4 ⟨rfl, ⟨a', hpc, hsk⟩, ht⟩
  obtain rfl : a' = 3 := Sk.one hsk sk5
  have HPC4 := Lib.hid hpc
  clear hpc hsk ht
  go_wp2_with fail
  have hat := at_any c L5 3 w2 w4 HPC4.out
  rw [show sv (atP L5 3) = .agg #[.int .i64 8, .int .i64 1] from rfl, show decide (3 < L5.length) = true from by decide] at hat
  refine hat.mono ?_
  rintro e w5 ⟨rfl, hb5⟩
  have HPC5 := Lib.hid (HPC4.out.below hb5)
  clear hb5 hat
  go_wp2_with fail
  obtain ⟨B6, hB6⟩ : ∃ B6, B6 = w5.heap.size := ⟨_, rfl⟩
  obtain ⟨w6, hw6⟩ : ∃ w6, w6 = w5.alloc (.cells #[.int .i64 8, .int .i64 1] 47) := ⟨_, rfl⟩
  have g6 : w6.heap[B6]? = some (.cells #[.int .i64 8, .int .i64 1] 47 (0, 0)) := by rw [hw6, hB6]; exact heap_alloc_new _ _
  have hc6 : c < B6 := by rw [hB6]; obtain ⟨_, _, _, _, _, _, _, h6⟩ := HPC5.out; exact (Array.getElem?_eq_some_iff.1 h6).1
  have HPC6 := Lib.hid (HPC5.out.below (w' := w6) (by rw [hw6]; exact pl1 _ _))
  rw [← hw6, ← hB6]
  clear hw6 hB6
  refine (block_any c L5 3 2 w2 w6 HPC6.out (by decide) (lastG_mono L5_right)).mono ?_
  rintro e w7 ⟨he, hb7⟩
  obtain rfl := blk5_2 he
  have HPC7 := Lib.hid (HPC6.out.below hb7)
  have g7 := blk_stay hb7 g6
  clear hb7 g6 he
  go_wp2_with fail
  refine (block_any c L5 3 9 w2 w7 HPC7.out (by decide) (lastG_mono L5_right)).mono ?_
  rintro e w8 ⟨he, hb8⟩
  obtain rfl := blk5_9 he
  have HPC8 := Lib.hid (HPC7.out.below hb8)
  have g8 := blk_stay hb8 g7
  clear hb8 g7 he
  go_wp2_with fail
  refine (next_any c L5 3 w2 w8 HPC8.out (by decide)).mono ?_
  rintro e w9 ⟨rfl, hpc, ht⟩
  have HPC9 : Hid (PC w2 w9 c L5 4) := Lib.hid hpc
  have g9 := (ht.block B6 (Array.getElem?_eq_some_iff.1 g8).1 (by omega)).trans g8
  clear hpc ht g8
  go_wp2_with fail
  refine (next_any c L5 4 w2 w9 HPC9.out (by decide)).mono ?_
  rintro e w10 ⟨rfl, hpc, ht⟩
  have HPC10 : Hid (PC w2 w10 c L5 5) := Lib.hid hpc
  have g10 := (ht.block B6 (Array.getElem?_eq_some_iff.1 g9).1 (by omega)).trans g9
  clear hpc ht g9
  go_wp2_with fail
  have hat := at_any c L5 5 w2 w10 HPC10.out
  rw [show sv (atP L5 5) = .agg #[.int .i64 0, .int .i64 0] from rfl, show decide (5 < L5.length) = false from by decide] at hat
  refine hat.mono ?_
  rintro e w11 ⟨rfl, hb11⟩
  have HB11 := Lib.hid (HPC10.out.below hb11).low
  have g11 := blk_stay hb11 g10
  clear hb11 hat g10
  go_wp2_with fail
  obtain ⟨w12, hw12⟩ : ∃ w12, w12 = w11.alloc (.cells #[.int .i64 0, .int .i64 0] 47) := ⟨_, rfl⟩
  have h12 : Below w11.heap.size w11 w12 := by rw [hw12]; exact pl1 _ _
  have HB12 := Lib.hid (HB11.out.trans (h12.mono HB11.out.size))
  have g12 := blk_stay h12 g11
  rw [← hw12]
  clear hw12 g11 h12
  refine (print_any bl L5 w12 (HPL2.out.below HB12.out) (by decide) L5_right).mono ?_
  rintro e w13 ⟨rfl, hb13⟩
  have HB13 := Lib.hid (HB12.out.trans (hb13.mono HB12.out.size))
  have g13 := blk_stay hb13 g12
  clear hb13 g12
  go_wp2_with fail
  refine (parse_any (printB L5) w13 (printB_len L5 L5_right (by decide))).mono ?_
  rintro e w14 ⟨hpa, hb14⟩
  have hpr := parA_print L5 L5_right (by decide)
  unfold PaEnd at hpa
  rw [hpr] at hpa
  obtain ⟨by_, rfl, hby, hpl⟩ := hpa
  have HB14 := Lib.hid (HB13.out.trans (hb14.mono HB13.out.size))
  have g14 := blk_stay hb14 g13
  have HPY := Lib.hid hpl
  clear hb14 g13 hpl hpr
  have k60 := cell_of_cells (i := 0) g14 rfl
  have k61 := cell_of_cells (i := 1) g14 rfl
  go_wp2_with fail
  have HPX := Lib.hid (HPL2.out.below HB14.out)
  refine (plen_any bl L5 w14 HPX.out).mono ?_
  rintro e w' ⟨rfl, rfl⟩
  go_wp2_with fail
  refine (pmax_any bl L5 w14 HPX.out).mono ?_
  rintro e w' ⟨rfl, rfl⟩
  rw [show PostM.mx L5 = 9 from by decide]
  go_wp2_with fail
  refine (pblocks_any bl L5 w14 HPX.out).mono ?_
  rintro e w' ⟨rfl, rfl⟩
  rw [show PostM.cnt L5.length = 2 from by decide]
  go_wp2_with fail
  refine (pposts_any by_ L5 w14 HPY.out (by decide)).mono ?_
  rintro e w15 ⟨v1, rfl, hp1, hb15⟩
  have HP1 := Lib.hid hp1
  have HPX15 := Lib.hid (HPX.out.below hb15)
  have HB15 := Lib.hid (HB14.out.trans (hb15.mono HB14.out.size))
  clear hp1 hb15
  go_wp2_with fail
  refine (pposts_any bl L5 w15 HPX15.out (by decide)).mono ?_
  rintro e w16 ⟨v2, rfl, hp2, hb16⟩
  have HP2 := Lib.hid hp2
  have HP1' := Lib.hid (HP1.out.later hb16)
  have HB16 := Lib.hid (HB15.out.trans (hb16.mono HB15.out.size))
  clear hp2 hb16
  go_wp2_with fail
  refine (refsame5_any v1 v2 L5 L5 w16 HP1'.out HP2.out (by decide) (by decide)).mono ?_
  rintro e w17 ⟨rfl, q, rfl⟩
  rw [show decide (L5 = L5) = true from by decide]
  go_wp2_with fail
  go_ret
  have hz := HB2.out.trans (HB16.out.mono HB2.out.size)
  exact ⟨rfl, hz.trans ((below_drewN _).mono hz.size)⟩
end Go.Proofs.Ytlcmdnmifmjjgaa

/- Posts: the document's Right. -/
namespace Go.Proofs.Ytlcmdnmifmjjgaa
open Go.RowKit

set_option maxHeartbeats 4000000 in
set_option maxRecDepth 100000 in
theorem refright5_any (v : Value) (l : List (Int × Int)) (w : World) (h : Prd w v l) (hl : l.length ≤ 1000000) :
    Calls Try.prog 8 #[v] w fun e w' => e = .returned (.bool (PostM.rightL l)) ∧ ∃ n, w' = w.drewN n := by
  have hP := h
  obtain ⟨A, cp, rfl, hcp⟩ := h.form
  obtain ⟨n, hn⟩ : ∃ n, n = l.length := ⟨_, rfl⟩
  rw [← hn] at hl hcp hP ⊢
  have HN := Lib.hid hn
  have HP := Lib.hid hP
  clear hn hP h
  go_enter Try.func8, Try.ntmps8
  go_wp2
  go_loopw [3] (fun x wr => ∃ k : Nat, k ≤ n ∧ x = .int .i64 k ∧ PostM.rgt (-1) (l.take k) = true ∧ ∃ q, wr = w.drewN q) (fun x _ => n - (intOf x).toNat)
  case atStart => exact ⟨0, by omega, rfl, rfl, 0, rfl⟩
  case round =>
    obtain ⟨k, hk, rfl, hr, q, rfl⟩ := hrel
    by_cases hkn : k < n
    · have hkl : k < l.length := by rw [← HN.out]; exact hkn
      obtain ⟨b, o, rfl, hbw, c0, c1⟩ := (HP.out).at_ k hkl
      have hnext := PostM.rgt_next (la := -1) k hkl
      rw [hr, Bool.true_and, PostM.rgt_one] at hnext
      have hpre : PostM.rightL l = true → PostM.rgt (-1) (l.take (k + 1)) = true := fun h => PostM.rgt_prefix (k + 1) h
      have hla : (k = 0 ∧ PostM.lastOf (-1) (l.take k) = -1) ∨ ∃ j, ∃ hj : j < l.length, k = j + 1 ∧ PostM.lastOf (-1) (l.take k) = l[j].1 ∧ 0 ≤ l[j].1 := by
        rcases k with _ | j
        · exact .inl ⟨rfl, rfl⟩
        · have hj : j < l.length := by omega
          refine .inr ⟨j, hj, rfl, PostM.lastOf_get _ _ _ hj, ?_⟩
          have := (PostM.rgt_all hr l[j] (by rw [PostM.take_snoc_p l j hj]; exact List.mem_append_right _ (List.mem_singleton.2 rfl))).1
          omega
      obtain ⟨⟨p1, p2⟩, hp⟩ : ∃ p, p = l[k] := ⟨_, rfl⟩
      rw [← hp] at c0 c1 hnext
      simp only at c0 c1 hnext
      obtain ⟨la, hlaz⟩ : ∃ la, la = PostM.lastOf (-1) (l.take k) := ⟨_, rfl⟩
      rw [← hlaz] at hnext hla
      have HNX := Lib.hid hnext
      have hno : (decide (la < p1) && decide (p1 ≤ 2147483647) && decide (1 ≤ p2) && decide (p2 ≤ 65535)) = false → PostM.rightL l = false := fun h => by
        cases hx : PostM.rightL l with
        | false => rfl
        | true => have := hpre hx; rw [HNX.out, h] at this; cases this
      have HNO := Lib.hid hno
      clear hno hnext hpre hlaz hp hr
      have q1 : (0 : Int) ≤ (k : Int) := by omega
      have q2 : (k : Int) < (n : Int) := by omega
      have q3 : decide ((k : Int) < (n : Int)) = true := decide_eq_true q2
      have q4 : decide (k < n) = true := decide_eq_true hkn
      have hlo : -1 ≤ la := by rcases hla with ⟨_, e⟩ | ⟨j, _, _, e, h0⟩ <;> omega
      have HLA := Lib.hid hla
      clear hla
      by_cases t1 : p1 < 0
      · have d1 : decide (p1 < 0) = true := decide_eq_true t1
        have HZ := Lib.hid (HNO.out (by rw [decide_eq_false (show ¬ la < p1 by omega)]; rfl))
        clear t1 hlo
        go_wp2
        go_quiet (fail)
        go_wp2
        go_ret
        exact ⟨by rw [HZ.out]; rfl, _, World.drewN_drewN _ _ _⟩
      · have d1 : decide (p1 < 0) = false := decide_eq_false t1
        by_cases t2 : p1 ≤ 2147483647
        · have d2 : decide (2147483647 < p1) = false := decide_eq_false (by omega)
          by_cases t3 : 1 ≤ p2
          · have d3 : decide (p2 < 1) = false := decide_eq_false (by omega)
            by_cases t4 : p2 ≤ 65535
            · have d4 : decide (65535 < p2) = false := decide_eq_false (by omega)
              rcases HLA.out with ⟨hk0, hl1⟩ | ⟨j, hj, hkj, hl1, hj0⟩
              · have hok : Hid (PostM.rgt (-1) (l.take (k + 1)) = true) := Lib.hid (by rw [HNX.out, decide_eq_true (show la < p1 by omega)]; simp [t2, t3, t4])
                have d5 : decide ((0 : Int) < (k : Int)) = false := decide_eq_false (by omega)
                have d6 : decide (0 < k) = false := decide_eq_false (by omega)
                have hk1 : k + 1 ≤ n := by omega
                clear t1 t2 t3 t4 hl1 hlo hk0
                go_wp2
                go_quiet (fail)
                go_wp2
                exact ⟨⟨k + 1, hk1, by go_num, hok.out, _, rfl⟩, by simp [intOf]; omega⟩
              · obtain ⟨b', o', e', hbw', c2, _⟩ := (HP.out).at_ j hj
                injection e' with e'
                injection e' with e1 e2
                subst e1; subst e2
                obtain ⟨g, hg⟩ : ∃ g, g = l[j].1 := ⟨_, rfl⟩
                rw [← hg] at c2 hl1 hj0
                have d5 : decide ((0 : Int) < (k : Int)) = true := decide_eq_true (by omega)
                have d6 : decide (0 < k) = true := decide_eq_true (by omega)
                have hwr : IntKind.i64.wrap ((k : Int) - 1) = (j : Int) := (IntWalk.i64_in _ (by omega)).trans (by omega)
                have q5 : (0 : Int) ≤ (j : Int) := by omega
                have q6 : (j : Int) < (n : Int) := by omega
                clear hg
                by_cases t5 : la < p1
                · have hok : Hid (PostM.rgt (-1) (l.take (k + 1)) = true) := Lib.hid (by rw [HNX.out, decide_eq_true t5]; simp [t2, t3, t4])
                  have d7 : decide (p1 ≤ g) = false := decide_eq_false (by omega)
                  have hk1 : k + 1 ≤ n := by omega
                  have HK := Lib.hid hkj
                  clear t1 t2 t3 t4 t5 hl1 hlo hkj hj0
                  go_wp2
                  go_quiet (fail)
                  go_wp2
                  exact ⟨⟨k + 1, hk1, by go_num, hok.out, _, rfl⟩, by simp [intOf]; omega⟩
                · have d7 : decide (p1 ≤ g) = true := decide_eq_true (by omega)
                  have HZ := Lib.hid (HNO.out (by rw [decide_eq_false t5]; rfl))
                  clear t1 t2 t3 t4 t5 hl1 hlo hkj hj0
                  go_wp2
                  go_quiet (fail)
                  go_wp2
                  go_ret
                  exact ⟨by rw [HZ.out]; rfl, _, World.drewN_drewN _ _ _⟩
            · have d4 : decide (65535 < p2) = true := decide_eq_true (by omega)
              have HZ := Lib.hid (HNO.out (by simp [t4]))
              clear t1 t2 t3 t4 hlo
              go_wp2
              go_quiet (fail)
              go_wp2
              go_ret
              exact ⟨by rw [HZ.out]; rfl, _, World.drewN_drewN _ _ _⟩
          · have d3 : decide (p2 < 1) = true := decide_eq_true (by omega)
            have HZ := Lib.hid (HNO.out (by simp [t3]))
            clear t1 t2 t3 hlo
            go_wp2
            go_quiet (fail)
            go_wp2
            go_ret
            exact ⟨by rw [HZ.out]; rfl, _, World.drewN_drewN _ _ _⟩
        · have d2 : decide (2147483647 < p1) = true := decide_eq_true (by omega)
          have HZ := Lib.hid (HNO.out (by simp [t2]))
          clear t1 t2 hlo
          go_wp2
          go_quiet (fail)
          go_wp2
          go_ret
          exact ⟨by rw [HZ.out]; rfl, _, World.drewN_drewN _ _ _⟩
    · obtain rfl : k = n := by omega
      have q3 : decide ((k : Int) < (k : Int)) = false := by simp
      have q4 : decide (k < k) = false := by simp
      have ht : l.take k = l := List.take_of_length_le (by rw [← HN.out]; exact Nat.le_refl _)
      rw [ht] at hr
      have HZ : Hid (PostM.rightL l = true) := Lib.hid hr
      clear hr
      go_wp2
      go_ret
      exact ⟨by rw [HZ.out]; rfl, q, rfl⟩
end Go.Proofs.Ytlcmdnmifmjjgaa

/- Posts: the document's Block. -/
namespace Go.Proofs.Ytlcmdnmifmjjgaa
open Go.RowKit

theorem piece_part {l : List (Int × Int)} {n f k t : Nat} (hn : n = l.length) (hf : f = 4 * k) (ht : t = min (f + 4) n) : (l.drop f).take (t - f) = PostM.piece l k := by
  unfold PostM.piece
  rw [← hf]
  by_cases e : f + 4 ≤ n
  · rw [show t - f = 4 by omega]
  · rw [show t - f = n - f by omega, hn, List.take_of_length_le (by simp), List.take_of_length_le (by simp; rw [← hn]; omega)]

set_option maxHeartbeats 4000000 in
set_option maxRecDepth 100000 in
theorem refblock5_any (v : Value) (l : List (Int × Int)) (doc : Int) (w : World) (h : Prd w v l) (hl : l.length ≤ 1000000) :
    Calls Try.prog 25 #[v, .int .i64 doc] w fun e w' => BlkEnd l doc e ∧ ∃ n, w' = w.drewN n := by
  have hP := h
  obtain ⟨A, cp, rfl, hcp⟩ := h.form
  unfold BlkEnd
  obtain ⟨n, hn⟩ : ∃ n, n = l.length := ⟨_, rfl⟩
  obtain ⟨B, hB⟩ : ∃ B, B = PostM.blks l := ⟨_, rfl⟩
  rw [← hn] at hl hcp hP ⊢
  obtain ⟨c, hc⟩ : ∃ c, c = PostM.cnt n := ⟨_, rfl⟩
  rw [← hB, ← hc]
  have HN := Lib.hid hn
  have HP := Lib.hid hP
  have HB := Lib.hid hB
  have hc' : c = (n + 3) / 4 := hc
  have HC := Lib.hid hc
  have HC2 := Lib.hid hc'
  clear hn hP h hB hc hc'
  go_enter Try.func25, Try.ntmps25
  go_wp2
  go_loopw [6] (fun x wr => ∃ k f : Nat, f = 4 * k ∧ k ≤ c ∧ f ≤ n + 3 ∧ x = .int .i64 f ∧ (∀ j, j < k → lastG B j < doc) ∧ ∃ q, wr = w.drewN q) (fun x _ => n + 4 - (intOf x).toNat)
  case atStart => exact ⟨0, 0, rfl, by omega, by omega, rfl, fun j h => absurd h (by omega), 0, rfl⟩
  case round =>
    obtain ⟨k, f, hf, hk, hfn, rfl, hall, q, hwr⟩ := hrel
    have hPr : Prd wr (.slice A n cp) l := by rw [hwr]; exact (HP.out).later (below_drewN_p w q)
    have HPR := Lib.hid hPr
    have HWR := Lib.hid hwr
    clear hPr hwr
    have HALL := Lib.hid hall
    have HF := Lib.hid hf
    clear hall hf
    have z0 : (0 : Int) ≤ (f : Int) := by omega
    by_cases hkn : f < n
    · have hkc : k < c := by have := HF.out; have := HC2.out; omega
      obtain ⟨m, hm, hmt, hlg⟩ : ∃ m, ∃ hm : m < l.length, m + 1 = min (f + 4) n ∧ lastG B k = l[m].1 := by
        obtain ⟨hj, e⟩ := lastG_is l k (by rw [← HN.out, ← HC.out]; exact hkc)
        refine ⟨min (4 * k + 4) l.length - 1, hj, ?_, by rw [HB.out]; exact e⟩
        have := HF.out
        have := HN.out
        omega
      obtain ⟨t, ht⟩ : ∃ t, t = m + 1 := ⟨_, rfl⟩
      have hpc := piece_part (l := l) HN.out HF.out (ht.trans hmt)
      obtain ⟨b, o, rfl, hbw, c0, _⟩ := (HPR.out).at_ m hm
      have hpart := (HPR.out).part f (t - f) (cp - f) (by rw [← HN.out]; omega) (by omega)
      rw [hpc] at hpart
      have hpl : (PostM.piece l k).length ≤ 1000000 := by rw [← hpc, List.length_take]; omega
      have HMX : Hid (∀ m, Calls Try.prog 11 #[.slice (some ⟨b, o + f * 2, none⟩) (t - f) (cp - f)] (wr.drewN m) fun e w' => e = .returned (.int .i64 (PostM.mx (PostM.piece l k))) ∧ w' = wr.drewN m) := Lib.hid (fun m => refmax5_any _ _ _ (hpart.later (below_drewN_p wr m)) hpl)
      obtain ⟨X, hX⟩ : ∃ X, X = PostM.mx (PostM.piece l k) := ⟨_, rfl⟩
      rw [← hX] at HMX
      obtain ⟨g, hg⟩ : ∃ g, g = l[m].1 := ⟨_, rfl⟩
      rw [← hg] at c0 hlg
      have hgd : B.getD k (0, 0) = (X, g) := by
        have e := blks_get l k (by rw [← HN.out, ← HC.out]; exact hkc)
        rw [← HB.out] at e
        rw [e, hX, ← hlg]
        unfold lastG
        rw [e]
        rfl
      have HGD := Lib.hid hgd
      have HLG := Lib.hid hlg
      obtain ⟨u, hu⟩ : ∃ u, u = f + 4 := ⟨_, rfl⟩
      have hwu : IntKind.i64.wrap ((f : Int) + 4) = (u : Int) := (IntWalk.i64_in _ (by omega)).trans (by omega)
      have q1 : (f : Int) < (n : Int) := by omega
      have q2 : decide ((f : Int) < (n : Int)) = true := decide_eq_true q1
      have q3 : decide (f < n) = true := decide_eq_true hkn
      have q4 : (0 : Int) ≤ (m : Int) := by omega
      have q5 : (m : Int) < (n : Int) := by omega
      have q6 : (f : Int) ≤ (t : Int) := by omega
      have q7 : (t : Int) ≤ (cp : Int) := by omega
      have q8 : ¬ cp = f := by omega
      have q9 : ¬ (cp : Int) = (f : Int) := by omega
      have hnext : u = 4 * (k + 1) ∧ k + 1 ≤ c ∧ u ≤ n + 3 ∧ n + 4 - u < n + 4 - f := by have := HF.out; omega
      have HNX := Lib.hid hnext
      have HKC := Lib.hid hkc
      have hwt : IntKind.i64.wrap ((t : Int) - 1) = (m : Int) := (IntWalk.i64_in _ (by omega)).trans (by omega)
      clear hpc hpart hpl hX hg hgd hlg hnext hkc
      have HALL2 : Hid (g < doc → ∀ j, j < k + 1 → lastG B j < doc) := Lib.hid (fun hgd j hj => by
        by_cases e : j = k
        · rw [e, HLG.out]; exact hgd
        · exact HALL.out j (by omega))
      by_cases hnu : n < u
      · obtain rfl : t = n := by omega
        have r1 : (t : Int) < (u : Int) := by omega
        have r2 : decide ((t : Int) < (u : Int)) = true := decide_eq_true r1
        have r3 : decide (t < u) = true := decide_eq_true hnu
        clear hu ht
        by_cases hd : doc ≤ g
        · have d : decide (doc ≤ g) = true := decide_eq_true hd
          have HD := Lib.hid hd
          clear hd hmt
          go_wp2
          go_quiet ((go_at_call 11; exact Calls.quiet_of_same (HMX.out _)))
          go_wp2
          go_ret2
          have e1 := HKC.out
          exact ⟨⟨k, ⟨by omega, HALL.out, fun _ => by rw [HLG.out]; exact HD.out⟩, by rw [HGD.out, if_pos e1, if_pos e1]; rfl⟩, _, by rw [HWR.out]; exact World.drewN_drewN _ _ _⟩
        · have d : decide (doc ≤ g) = false := decide_eq_false hd
          have HD := Lib.hid hd
          clear hd hmt
          go_wp2
          exact ⟨⟨k + 1, u, HNX.out.1, HNX.out.2.1, HNX.out.2.2.1, rfl, HALL2.out (by have := HD.out; omega), q, HWR.out⟩, by simp [intOf]; have := HNX.out.2.2.2; omega⟩
      · obtain rfl : t = u := by omega
        have r1 : ¬ (n : Int) < (t : Int) := by omega
        have r2 : decide ((n : Int) < (t : Int)) = false := decide_eq_false r1
        have r3 : decide (n < t) = false := decide_eq_false hnu
        clear hu ht
        by_cases hd : doc ≤ g
        · have d : decide (doc ≤ g) = true := decide_eq_true hd
          have HD := Lib.hid hd
          clear hd hmt
          go_wp2
          go_quiet ((go_at_call 11; exact Calls.quiet_of_same (HMX.out _)))
          go_wp2
          go_ret2
          have e1 := HKC.out
          exact ⟨⟨k, ⟨by omega, HALL.out, fun _ => by rw [HLG.out]; exact HD.out⟩, by rw [HGD.out, if_pos e1, if_pos e1]; rfl⟩, _, by rw [HWR.out]; exact World.drewN_drewN _ _ _⟩
        · have d : decide (doc ≤ g) = false := decide_eq_false hd
          have HD := Lib.hid hd
          clear hd hmt
          go_wp2
          exact ⟨⟨k + 1, t, HNX.out.1, HNX.out.2.1, HNX.out.2.2.1, rfl, HALL2.out (by have := HD.out; omega), q, HWR.out⟩, by simp [intOf]; have := HNX.out.2.2.2; omega⟩
    · have hkc : k = c := by have := HF.out; have := HC2.out; omega
      have q2 : decide ((f : Int) < (n : Int)) = false := decide_eq_false (by omega)
      have q3 : decide (f < n) = false := decide_eq_false hkn
      have HK := Lib.hid hkc
      clear hkc
      go_wp2
      go_ret2
      exact ⟨⟨c, ⟨Nat.le_refl _, by rw [← HK.out]; exact HALL.out, fun h => absurd h (by omega)⟩, by rw [if_neg (by omega), if_neg (by omega)]; rfl⟩, q, HWR.out⟩
end Go.Proofs.Ytlcmdnmifmjjgaa

/- Posts: the document's Print. -/
namespace Go.Proofs.Ytlcmdnmifmjjgaa
open Go.RowKit

/-- two rows of one's own, apart -/
structure Two (w : World) (base : Nat) (v1 : Value) (l1 : List Int) (v2 : Value) (l2 : List Int) : Prop where
  a : IntRow w base v1 l1
  b : IntRow w base v2 l2
  ne : ∀ g, v1.ownBlock = some g → v2.ownBlock ≠ some g
theorem Two.symm {w : World} {base : Nat} {v1 v2 : Value} {l1 l2 : List Int} (h : Two w base v1 l1 v2 l2) : Two w base v2 l2 v1 l1 := ⟨h.b, h.a, fun g h2 h1 => h.ne g h1 h2⟩
theorem Two.alloc {w : World} {base : Nat} {v1 v2 : Value} {l1 l2 : List Int} (h : Two w base v1 l1 v2 l2) (o : Obj) : Two (w.alloc o) base v1 l1 v2 l2 := ⟨IntRow.alloc h.a o, IntRow.alloc h.b o, h.ne⟩
theorem Two.nil_ (w : World) (base : Nat) : Two w base (.slice none 0 0) [] (.slice none 0 0) [] := ⟨IntRow.nil_ _ _, IntRow.nil_ _ _, fun g h => by simp [Value.ownBlock] at h⟩
theorem wpList_append_two {w : World} {ops : Array Oper} {rest : List Oper} {o : Oper} {a : Act} {Q : Exit → Act → World → Prop} (hgd : o.guard = none) (s x : Operand)
    (ho : o.op = .call { callee := .builtin .append, args := #[s, x], argTypes := #[60, 60] })
    (base : Nat) (v1 : Value) (l1 : List Int) (v2 : Value) (l2 : List Int) (hs : a.eval s = v1) (hT : Two w base v1 l1 v2 l2)
    (g c : Nat) (b : Int) (hx : a.eval x = .slice (some ⟨g, 0, none⟩) 1 c) (hc : w.cell? ⟨g, 0, none⟩ = some (.int .i64 b)) (hbase : base ≤ w.heap.size) (hn : l1.length ≤ 1000000000)
    (h : ∀ v' w', Two w' base v' (l1 ++ [b]) v2 l2 → Below base w w' → wpList Try.prog ops Q rest (a.put o.dst v') w') : wpList Try.prog ops Q (o :: rest) a w := by
  obtain ⟨i0, hi, hz0, hz1, hz2⟩ := info_parts int_info
  refine wpList_append_lies w hgd s x 60 ho base 3 i0 _ 1 8 Try.underlying60 hi hz0 hz1 hz2 rfl (by omega) _ _ _ hs hT.a ⟨g, 0, none⟩ 1 c [.int .i64 b] hx rfl (fun j u hu => ?_) (fun u hu => ?_) (by omega) (by simp [maxLen]; omega) (by omega) hbase _ rfl ?_
  · match j, hu with
    | 0, hu => simp at hu; subst hu; rw [add_none]; exact hc
  · simp at hu; subst hu; rfl
  · intro g' cap w' hown' hg' hat hlt
    have hb : Below base w w' := (Below.refl _ _).grown hg' hbase (fun k hk => (World.ownsRow.lt hT.a k hk).1)
    refine h _ w' ⟨?_, World.ownsRow.kept hT.b hg' ?_, fun k hk h2 => ?_⟩ hb
    · unfold IntRow
      rw [List.length_append, List.map_append]
      exact hown'
    · cases e : v2.ownBlock with
      | none => exact .inl rfl
      | some k => exact .inr (fun e1 => hT.ne k e1.symm e)
    · have e1 : g' = k := by simpa [Value.ownBlock] using hk
      subst e1
      rcases hat with h1 | h1
      · exact hT.ne _ h1 h2
      · have := (World.ownsRow.lt hT.b _ h2).2
        omega

theorem docs_more (l : List (Int × Int)) (k : Nat) (h : k < l.length) : (docsL l).take (k + 1) = (docsL l).take k ++ [l[k].1] := by
  unfold docsL
  rw [List.take_succ_eq_append_getElem (by rw [List.length_map]; exact h)]
  simp
theorem wts_more (l : List (Int × Int)) (k : Nat) (h : k < l.length) : (wtsL l).take (k + 1) = (wtsL l).take k ++ [l[k].2] := by
  unfold wtsL
  rw [List.take_succ_eq_append_getElem (by rw [List.length_map]; exact h)]
  simp

set_option maxHeartbeats 4000000 in
set_option maxRecDepth 100000 in
theorem refprint5_any (v : Value) (l : List (Int × Int)) (w : World) (h : Prd w v l) (hl : l.length ≤ 300) (hr : PostM.rightL l = true) :
    Calls Try.prog 16 #[v] w fun e w' => e = .returned (.string (ofBytes (printB l))) ∧ Below w.heap.size w w' := by
  have hP := h
  obtain ⟨A, cp, rfl, hcp⟩ := h.form
  obtain ⟨n, hn⟩ : ∃ n, n = l.length := ⟨_, rfl⟩
  rw [← hn] at hl hcp hP ⊢
  have HN := Lib.hid hn
  have HP := Lib.hid hP
  have HR := Lib.hid hr
  clear hn hP h hr
  go_enter Try.func16, Try.ntmps16
  go_wp2
  go_loopw [3, 4, 5] (fun d e x wr => ∃ k : Nat, k ≤ n ∧ x = .int .i64 k ∧ Two wr w.heap.size d ((docsL l).take k) e ((wtsL l).take k) ∧ Below w.heap.size w wr) (fun _ _ x _ => n - (intOf x).toNat)
  case atStart => exact ⟨0, by omega, rfl, Two.nil_ _ _, Below.refl _ _⟩
  case round =>
    obtain ⟨k, hk, rfl, hT, hb⟩ := hrel
    have hlw : (docsL l).length = n ∧ (wtsL l).length = n := by unfold docsL wtsL; rw [List.length_map, List.length_map]; exact ⟨HN.out.symm, HN.out.symm⟩
    by_cases hkn : k < n
    · have hkl : k < l.length := by rw [← HN.out]; exact hkn
      obtain ⟨b, o, rfl, hbw, c0, c1⟩ := (HP.out).at_ k hkl
      have c0 := (hb.cell (p := ⟨b, o + k * 2, none⟩) hbw).trans c0
      have c1 := (hb.cell (p := ⟨b, o + k * 2 + 1, none⟩) hbw).trans c1
      have m1 := docs_more l k hkl
      have m2 := wts_more l k hkl
      obtain ⟨⟨p1, p2⟩, hp⟩ : ∃ p, p = l[k] := ⟨_, rfl⟩
      rw [← hp] at c0 c1 m1 m2
      simp only at c0 c1 m1 m2
      have M1 := Lib.hid m1
      have M2 := Lib.hid m2
      have l1 : ((docsL l).take k).length ≤ 1000000000 := by rw [List.length_take]; omega
      have l2 : ((wtsL l).take k).length ≤ 1000000000 := by rw [List.length_take]; omega
      obtain ⟨D, hD⟩ : ∃ D, D = (docsL l).take k := ⟨_, rfl⟩
      obtain ⟨E, hE⟩ : ∃ E, E = (wtsL l).take k := ⟨_, rfl⟩
      rw [← hD] at hT l1 M1
      rw [← hE] at hT l2 M2
      have q1 : (0 : Int) ≤ (k : Int) := by omega
      have q2 : (k : Int) < (n : Int) := by omega
      have q3 : decide ((k : Int) < (n : Int)) = true := decide_eq_true q2
      have q4 : decide (k < n) = true := decide_eq_true hkn
      have hBs := hb.size
      have HB := Lib.hid hb
      have HT := Lib.hid hT
      clear m1 m2 hp hD hE hb hT hlw
      go_upto_region 6 with (at_builtin; refine wpList_append_two rfl _ _ rfl w.heap.size _ D _ E rfl (HT.out.alloc _) _ _ p1 rfl (by go_simp) (by simp; omega) l1 ?_; intro v1 W1 hT1 hb1; have k1 := (hb1.cell (p := ⟨b, o + k * 2 + 1, none⟩) hbw).trans (((Below.refl w.heap.size wr).alloc hBs (.cells #[.int .i64 p1] 3)).cell (p := ⟨b, o + k * 2 + 1, none⟩) hbw |>.trans c1))
      have hB1 := (HB.out.alloc hBs (.cells #[.int .i64 p1] 3)).trans hb1
      have hBs1 := hB1.size
      have HB1 := Lib.hid hB1
      have HT1 := Lib.hid hT1
      clear hB1 hT1 hb1
      go_wp2_with (at_builtin; refine wpList_append_two rfl _ _ rfl w.heap.size _ E _ (D ++ [p1]) rfl (HT1.out.symm.alloc _) _ _ p2 rfl (by go_simp) (by simp; omega) l2 ?_; intro v2 W2 hT2 hb2)
      go_wp2
      exact ⟨⟨k + 1, by omega, by go_num, by rw [M1.out, M2.out]; exact hT2.symm, (HB1.out.alloc hBs1 _).trans hb2⟩, by simp [intOf]; omega⟩
    · obtain rfl : k = n := by omega
      have q3 : decide ((k : Int) < (k : Int)) = false := by simp
      have q4 : decide (k < k) = false := by simp
      rw [List.take_of_length_le (by omega), List.take_of_length_le (by omega)] at hT
      obtain ⟨A1, c1, rfl, hj1⟩ := hT.a.ints
      obtain ⟨A2, c2, rfl, hj2⟩ := hT.b.ints
      rw [hlw.1] at hj1 ⊢
      rw [hlw.2] at hj2 ⊢
      have HJ2 := Lib.hid hj2
      have HBB := Lib.hid hb
      have HLW := Lib.hid hlw
      clear hT hb hj2 hlw
      go_wp2_with fail
      refine (refrising_any _ k _ _ _ (by omega) hj1 (docs_64 HR.out)).mono ?_
      rintro e w2 ⟨rfl, hb2⟩
      have hj2 := HJ2.out.below hb2
      have HB2 := Lib.hid hb2
      clear hb2 hj1
      go_wp2_with fail
      refine (reffixed_any _ k _ 16 _ w2 (by omega) (by omega) hj2 (wts_64 HR.out)).mono ?_
      rintro e w3 ⟨rfl, hb3⟩
      have HB3 := Lib.hid hb3
      clear hb3 hj2
      have hl1 := risS_len (docsL l) (by rw [HLW.out.1]; omega) (docs_64 HR.out)
      have hl2 := fixS_len 16 (wtsL l) (by rw [HLW.out.2]; omega)
      have hq1 : (ofBytes (risS (docsL l))).size ≤ 10010 := by rw [size_ofBytes']; exact hl1
      have hq2 : (ofBytes (fixS 16 (wtsL l))).size ≤ 10010 := by rw [size_ofBytes']; exact hl2
      go_wp2_with fail
      rw [ofBytes_app, ofBytes_list]
      refine (refseal_all _ w3 (by rw [List.length_append]; omega)).mono ?_
      rintro e w4 ⟨rfl, hb4⟩
      have HB4 := Lib.hid hb4
      clear hb4 hl1 hl2
      go_wp2
      go_ret
      have e1 := HBB.out.trans (HB2.out.mono HBB.out.size)
      have e2 := e1.trans (HB3.out.mono e1.size)
      exact ⟨rfl, e2.trans (HB4.out.mono e2.size)⟩
end Go.Proofs.Ytlcmdnmifmjjgaa

/- Posts: the document's Parse. -/
namespace Go.Proofs.Ytlcmdnmifmjjgaa
open Go.RowKit

theorem step_ps {e : TypeId} {w : World} {ops : Array Oper} {o : Oper} {a : Act} {K : Act → World → Prop} {Q : Exit → Act → World → Prop} {E : Prop} {T : TypeId} (ty : PairTy e T) (hgd : o.guard = none) (s x : Operand)
    (ho : o.op = .call { callee := .builtin .append, args := #[s, x], argTypes := #[T, T] })
    (base : Nat) (v0 : Value) (l0 : List (Int × Int)) (hs : a.eval s = v0) (hown : PRow e w base v0 l0) (hbase : base ≤ w.heap.size)
    (A : Option Addr) (n cp : Nat) (l : List (Int × Int)) (hx : a.eval x = .slice A n cp) (hS : Pairs w A n l) (hA : A = none → cp = 0) (hn : l0.length + n ≤ 1000000000)
    (h : ∀ v' w', PRow e w' base v' (l0 ++ l) → w.grownBy w' v0.ownBlock → K (a.put o.dst v') w') :
    if Region.wanted o (yielded ops a.tmps) = true then Oper.wp Try.prog o a w K Q else E := by
  have hw : Region.wanted o (yielded ops a.tmps) = true := by simp [Region.wanted, hgd]
  rw [if_pos hw]
  exact wp_append_ps ty s x ho base v0 l0 hs hown hbase A n cp l hx hS hA hn h

def RpEnd (x : List UInt8) (e : Ending) (w' : World) : Prop := match (parA x).1 with
  | none => e = .returned (.tuple #[.slice none 0 0, .int .i64 (parA x).2])
  | some l => ∃ v, e = .returned (.tuple #[v, .int .i64 (parA x).2]) ∧ Prd w' v l ∧ l.length ≤ 1000000
theorem RpEnd.none_ {w' : World} {x : List UInt8} {e : Ending} {c : Int} (h : parA x = (none, c)) (he : e = .returned (.tuple #[.slice none 0 0, .int .i64 c])) : RpEnd x e w' := by unfold RpEnd; rw [h]; exact he
theorem RpEnd.some_ {w' : World} {x : List UInt8} {e : Ending} {l : List (Int × Int)} {v : Value} (h : parA x = (some l, 0)) (he : e = .returned (.tuple #[v, .int .i64 0])) (hp : Prd w' v l) (hl : l.length ≤ 1000000) : RpEnd x e w' := by unfold RpEnd; rw [h]; exact ⟨v, he, hp, hl⟩

theorem sb5 {U w' : World} {b o R : Nat} {x y : Value} (c0 : U.cell? ⟨b, o, none⟩ = some x) (r0 : U.cell? ⟨R, 0, none⟩ = some y) (hb : b < U.heap.size) (hR : R < U.heap.size) (h : Below U.heap.size U w') : w'.cell? ⟨b, o, none⟩ = some x ∧ w'.cell? ⟨R, 0, none⟩ = some y ∧ Below U.heap.size U w' :=
  ⟨(h.cell (p := ⟨b, o, none⟩) hb).trans c0, (h.cell (p := ⟨R, 0, none⟩) hR).trans r0, h⟩
theorem bel5_a {U w : World} (h : Below U.heap.size U w) (o : Obj) : Below U.heap.size U (w.alloc o) := h.alloc h.size o
theorem bel5_h {U w w' : World} {o : Obj} {v : Value} (h : Below U.heap.size U w) (hg : (w.alloc o).drew.grownBy w' v.ownBlock) (hv : ∀ g, v.ownBlock = some g → U.heap.size ≤ g) : Below U.heap.size U w' := (bel5_a h o).drew.grown hg (bel5_a h o).drew.size hv
theorem bel5_g {U w w' : World} {o : Obj} {v : Value} (h : Below U.heap.size U w) (hg : (w.alloc o).grownBy w' v.ownBlock) (hv : ∀ g, v.ownBlock = some g → U.heap.size ≤ g) : Below U.heap.size U w' := (bel5_a h o).grown hg (bel5_a h o).size hv
theorem PostM.parL_more (docs : List Int) (s : List UInt8) (k : Nat) (h : k < docs.length) : (PostM.parL docs s).take (k + 1) = (PostM.parL docs s).take k ++ [(docs[k], PostM.wtAt s k)] := by
  rw [List.take_succ_eq_append_getElem (by rw [PostM.parL_len]; exact h)]
  congr 1
  unfold PostM.parL
  rw [List.getElem_map, List.getElem_range, List.getD_eq_getElem?_getD, List.getElem?_eq_getElem h]
  rfl
theorem byte_get {s : List UInt8} {T : ByteArray} (h : T = ofBytes s) (j : Nat) (hj : j < T.size) : T[j] = s.getD j 0 := by
  subst h
  have hl : j < s.length := by rw [← size_ofBytes' s]; exact hj
  rw [List.getD_eq_getElem?_getD, List.getElem?_eq_getElem hl]
  show (ofBytes s).data[j]'_ = _
  simp [ofBytes]
theorem pairs_post (w : World) (x1 x2 : Int) : Pairs (w.alloc (.cells #[.int .i64 x1, .int .i64 x2] 47)) (some ⟨w.heap.size, 0, none⟩) 1 [(x1, x2)] := by
  refine ⟨rfl, fun k hk => ⟨w.heap.size, 0, rfl, by simp, ?_⟩⟩
  have e : k = 0 := by simpa using hk
  subst e
  exact ⟨by go_simp, by go_simp⟩
set_option maxHeartbeats 4000000 in
set_option maxRecDepth 100000 in
theorem refparse5_any (x : List UInt8) (w : World) (hx : x.length ≤ 60000) :
    Calls Try.prog 18 #[.string (ofBytes x)] w fun e w' => RpEnd x e w' ∧ Below w.heap.size w w' := by
  have hO := refopen_all x w (by omega)
  have hvl : (openV x).data.toList.length ≤ x.length := by
    have hz : (ofBytes (x.take (x.length - 4))).data.toList.length ≤ x.length := by rw [ofBytes_list, List.length_take]; omega
    unfold openV
    split
    · simp
    · split
      · exact hz
      · simp
  obtain ⟨s, hs⟩ : ∃ s, s = (openV x).data.toList := ⟨_, rfl⟩
  have hov : openV x = ofBytes s := by rw [hs, ofBytes_self]
  obtain ⟨c, hc⟩ : ∃ c, c = openC x := ⟨_, rfl⟩
  rw [hov, ← hc] at hO
  rw [← hs] at hvl
  have HO := Lib.hid hO
  have HS := Lib.hid hs
  have HC := Lib.hid hc
  clear hO hs hov hc
  by_cases hc0 : c = 0
  · subst hc0
    have hM := fun W => mrising_any W s false (s.length : Int) (by omega) (by intro h; cases h)
    have hst : (ofBytes s).size = s.length := size_ofBytes' s
    have hmR : mR s false = .agg #[.string (ofBytes s), .bool false] := rfl
    have hmost := PostM.rRis_most 2147483648 s (by omega)
    unfold rsV rsS rsB at hM
    rw [hmost, hmR] at hM
    cases hR : PackM.rRis 2147483648 s with
    | none =>
      rw [hR] at hM
      simp only at hM
      have HM := Lib.hid hM
      have HRR := Lib.hid hR
      have hsi : ((ofBytes s).size : Int) = (s.length : Int) := by rw [hst]
      clear hM hmost hmR hR
      go_enter Try.func18, Try.ntmps18
      go_wp2_with fail
      refine HO.out.mono ?_
      rintro e w1 ⟨rfl, hb1⟩
      have HB1 := Lib.hid hb1
      clear hb1
      go_wp2_with fail
      refine (HM.out w1).mono ?_
      rintro e w2 ⟨⟨A, cp, rfl, _, _⟩, hb2⟩
      have HB2 := Lib.hid (HB1.out.trans (hb2.mono HB1.out.size))
      have hmR2 : mR [] true = .agg #[.string (ofBytes []), .bool true] := rfl
      clear hb2
      go_wp2
      go_ret2
      exact ⟨RpEnd.none_ (parA_form HC.out.symm (by rw [← HS.out]; unfold PostM.rdP; rw [HRR.out])) rfl, HB2.out.alloc HB2.out.size _⟩
    | some y =>
      obtain ⟨docs, s1⟩ := y
      rw [hR] at hM
      simp only at hM
      have hsh : docs.length + s1.length ≤ s.length := by
        have hR2 := hR
        unfold PackM.rRis at hR2
        cases hn : PackM.num PackM.MAXI 0 0 s with
        | none => rw [hn] at hR2; cases hR2
        | some z =>
          obtain ⟨n, r⟩ := z
          rw [hn] at hR2
          simp only [Option.bind_some] at hR2
          have hs2 := PackM.num_short hn
          by_cases h1 : (2147483648 : Int) < (n : Int)
          · rw [if_pos h1] at hR2; cases hR2
          · rw [if_neg h1] at hR2
            have := PackM.ris_short n (-1) r docs s1 hR2
            omega
      have hrdp : PostM.rdP s = if s1.length = 2 * docs.length then some (PostM.parL docs s1) else none := by unfold PostM.rdP; rw [hR]
      have HM := Lib.hid hM
      have HRP := Lib.hid hrdp
      clear hM hmost hmR hR hrdp
      obtain ⟨n, hn⟩ : ∃ n, n = docs.length := ⟨_, rfl⟩
      obtain ⟨T, hT⟩ : ∃ T, T = ofBytes s1 := ⟨_, rfl⟩
      have hTz : T.size = s1.length := by rw [hT]; exact size_ofBytes' s1
      obtain ⟨q, hq⟩ : ∃ q, q = s1.length := ⟨_, rfl⟩
      rw [← hn, ← hq] at hsh
      rw [← hq] at hTz
      have HN := Lib.hid hn
      have HT := Lib.hid hT
      have HQ := Lib.hid hq
      have hwm : IntKind.i64.wrap (2 * (n : Int)) = ((2 * n : Nat) : Int) := (IntWalk.i64_in _ (by omega)).trans (by omega)
      obtain ⟨d, hd⟩ : ∃ d, d = 2 * n := ⟨_, rfl⟩
      rw [← hd] at hwm
      have HD := Lib.hid hd
      have hdl : d ≤ 200000 := by omega
      clear hn hq hd hT
      have hw2 : mR s1 false = .agg #[.string T, .bool false] := by rw [HT.out]; rfl
      go_enter Try.func18, Try.ntmps18
      go_wp2_with fail
      refine HO.out.mono ?_
      rintro e w1 ⟨rfl, hb1⟩
      have HB1 := Lib.hid hb1
      clear hb1
      go_wp2_with fail
      refine (HM.out w1).mono ?_
      rintro e w2 ⟨⟨A, cp, rfl, hAn, hI⟩, hb2⟩
      have HB2 := Lib.hid (HB1.out.trans (hb2.mono HB1.out.size))
      rw [← HN.out] at hI ⊢
      have HI := Lib.hid hI
      clear hb2 hAn hI
      by_cases hqd : q = d
      · have e1 : ((q : Int) != (d : Int)) = false := by simp; omega
        have HQD := Lib.hid hqd
        go_wp2
        obtain ⟨R, hRb⟩ : ∃ R, R = w2.heap.size := ⟨_, rfl⟩
        obtain ⟨w3, hw3⟩ : ∃ w3, w3 = w2.alloc (.cells #[.string T, .bool false] 75) := ⟨_, rfl⟩
        have hB23 : Below w2.heap.size w2 w3 := by rw [hw3]; exact pl1 _ _
        have hB3 : Below w.heap.size w w3 := HB2.out.trans (hB23.mono HB2.out.size)
        have hr0 : w3.cell? ⟨R, 0, none⟩ = some (.string T) := by rw [hw3, hRb]; go_simp
        have hRlt : R < w3.heap.size := by rw [hw3, hRb]; simp
        have hI3 := HI.out.below hB23
        rw [← hRb, ← hw3]
        have HI3 := Lib.hid hI3
        have HR0 := Lib.hid hr0
        have HB3 := Lib.hid hB3
        clear HM HO HI hw3 hB23 hr0 hI3 hB3 hRb hw2 hwm e1
        go_loopw [8, 9] (fun v i wr => ∃ k : Nat, k ≤ n ∧ i = .int .i64 k ∧ PRow 47 wr w3.heap.size v ((PostM.parL docs s1).take k) ∧ Below w3.heap.size w3 wr) (fun _ i _ => n - (intOf i).toNat)
        case atStart => exact ⟨0, by omega, rfl, PRow.nil_ _ _, Below.refl _ _⟩
        case round =>
          obtain ⟨k, hk, rfl, hrow, hb⟩ := hrel
          by_cases hkn : k < n
          · have hkd : k < docs.length := by rw [← HN.out]; exact hkn
            obtain ⟨b, o, rfl, hbw, c0⟩ := HI3.out.2 k hkd
            have hbw3 : b < w3.heap.size := hbw
            have c03 := c0
            have c0 := (hb.cell (p := ⟨b, o + k, none⟩) hbw).trans c0
            have r0 := (hb.cell (p := ⟨R, 0, none⟩) hRlt).trans HR0.out
            obtain ⟨dk, hdk⟩ : ∃ dk, dk = docs[k] := ⟨_, rfl⟩
            rw [← hdk] at c0 c03
            have hdq := HD.out
            obtain ⟨j1, hj1⟩ : ∃ j1, j1 = 2 * k := ⟨_, rfl⟩
            obtain ⟨j2, hj2⟩ : ∃ j2, j2 = 2 * k + 1 := ⟨_, rfl⟩
            have hwj1 : IntKind.i64.wrap (2 * (k : Int)) = (j1 : Int) := (IntWalk.i64_in _ (by omega)).trans (by omega)
            have hwj2 : IntKind.i64.wrap ((j1 : Int) + 1) = (j2 : Int) := (IntWalk.i64_in _ (by omega)).trans (by omega)
            have g1 : j1 < T.size := by omega
            have g2 : j2 < T.size := by omega
            have g7 : j1 < d := by omega
            have g8 : j2 < d := by omega
            have g3 : (0 : Int) ≤ (j1 : Int) := by omega
            have g4 : (0 : Int) ≤ (j2 : Int) := by omega
            have g5 : (j1 : Int) < (T.size : Int) := by omega
            have g6 : (j2 : Int) < (T.size : Int) := by omega
            have q1 : (0 : Int) ≤ (k : Int) := by omega
            have q2 : (k : Int) < (n : Int) := by omega
            have q3 : decide ((k : Int) < (n : Int)) = true := decide_eq_true q2
            have q4 : decide (k < n) = true := decide_eq_true hkn
            have hy1 := T[j1].toNat_lt
            have hy2 := T[j2].toNat_lt
            have hwz : IntKind.i64.wrap (256 * (T[j2].toNat : Int)) = 256 * (T[j2].toNat : Int) := IntWalk.i64_in _ (by omega)
            have hwp : IntKind.i64.wrap ((T[j1].toNat : Int) + 256 * (T[j2].toNat : Int)) = (T[j1].toNat : Int) + 256 * (T[j2].toNat : Int) := IntWalk.i64_in _ (by omega)
            have hlen : ((PostM.parL docs s1).take k).length + 1 ≤ 1000000000 := by rw [List.length_take]; omega
            obtain ⟨L, hL⟩ : ∃ L, L = (PostM.parL docs s1).take k := ⟨_, rfl⟩
            rw [← hL] at hrow hlen
            have HL := Lib.hid hL
            have HJ := Lib.hid (And.intro hj1 hj2)
            have HDK := Lib.hid hdk
            have hown0 := fun g (hg : Value.ownBlock _ = some g) => (World.ownsRow.lt hrow g hg).1
            have HROW := Lib.hid hrow
            have HB := Lib.hid hb
            have hbs := hb.size
            clear hL hj1 hj2 hdk hrow hb hdq
            have HC0 := Lib.hid c03
            go_wp2
            go_region_held3 (fun w' => w'.cell? ⟨b, o + k, none⟩ = some (.int .i64 dk) ∧ w'.cell? ⟨R, 0, none⟩ = some (.string T) ∧ Below w3.heap.size w3 w')
              ((go_split_ands; refine sb5 HC0.out HR0.out hbw3 hRlt ?_; first | assumption | (exact bel5_a (by assumption) _) | (exact Below.drew (by assumption)) | (exact Below.drew (bel5_a (by assumption) _))))
              ((refine step_ps post_ty (by rfl) (.tmp 43) (.tmp 64) (by rfl) w3.heap.size _ L (by rfl) (HROW.out.later (by first | exact (pl1 _ _).drew | exact pl1 _ _)) (by simp; omega) (some ⟨_, 0, none⟩) 1 1 [(dk, _)] (by rfl) (by first | exact (pairs_post wr dk _).later (Below.refl _ _).drew | exact pairs_post wr dk _) (by intro e; cases e) hlen ?_; intro v1 W1 hown1 hg1; have bel1 : Below w3.heap.size w3 W1 := (by first | exact bel5_g HB.out hg1 hown0 | exact bel5_h HB.out hg1 hown0)))
            all_goals
              have hmore := PostM.parL_more docs s1 k hkd
              have hp1 := byte_get HT.out j1 g1
              have hp2 := byte_get HT.out j2 g2
              have hwt : PostM.wtAt s1 k = (T[j1].toNat : Int) + 256 * (T[j2].toNat : Int) := by unfold PostM.wtAt; rw [hp1, hp2, HJ.out.1, HJ.out.2]
              rw [hwt, ← HL.out, ← HDK.out] at hmore
              have HMO := Lib.hid hmore
              clear hmore hwt hp1 hp2
              go_wp2
              refine ⟨⟨k + 1, by omega, by simp, ?_, bel1⟩, by simp [intOf]; omega⟩
              rw [HMO.out]
              have hx : IntKind.i64.wrap (IntKind.i64.wrap (T[j1].toNat : Int) + IntKind.i64.wrap (256 * IntKind.i64.wrap (T[j2].toNat : Int))) = (T[j1].toNat : Int) + 256 * (T[j2].toNat : Int) := by
                rw [IntWalk.i64_in (T[j1].toNat : Int) (by omega), IntWalk.i64_in (T[j2].toNat : Int) (by omega), hwz, hwp]
              rw [hx] at hown1
              exact hown1
          · have q3 : decide ((k : Int) < (n : Int)) = false := decide_eq_false (by omega)
            have q4 : decide (k < n) = false := decide_eq_false hkn
            rw [List.take_of_length_le (by rw [PostM.parL_len, ← HN.out]; omega)] at hrow
            have hP := hrow.prd
            have hpl : (PostM.parL docs s1).length ≤ 1000000 := by rw [PostM.parL_len, ← HN.out]; omega
            have hri := refright5_any _ _ wr hP hpl
            obtain ⟨r, hr⟩ : ∃ r, r = PostM.rightL (PostM.parL docs s1) := ⟨_, rfl⟩
            rw [← hr] at hri
            have hrd : PostM.rdP (openV x).data.toList = some (PostM.parL docs s1) := by rw [← HS.out, HRP.out, if_pos (by rw [← HQ.out, ← HN.out, ← HD.out]; exact HQD.out)]
            have HRD := Lib.hid hrd
            have HRI := Lib.hid hri
            have HRR := Lib.hid hr
            have HP := Lib.hid hP
            have HBW := Lib.hid (HB3.out.trans (hb.mono HB3.out.size))
            have HPL := Lib.hid hpl
            clear hrow hP hri hr hrd hb hpl
            go_wp2_with fail
            refine HRI.out.mono ?_
            rintro e w5 ⟨rfl, qn, rfl⟩
            cases r with
            | false =>
              go_wp2
              go_ret2
              exact ⟨RpEnd.none_ (parA_wrong HC.out.symm HRD.out HRR.out.symm) rfl, HBW.out.trans ((below_drewN_p wr qn).mono HBW.out.size)⟩
            | true =>
              go_wp2
              go_ret2
              exact ⟨RpEnd.some_ (parA_good HC.out.symm HRD.out HRR.out.symm) rfl (HP.out.later (below_drewN_p wr qn)) HPL.out, HBW.out.trans ((below_drewN_p wr qn).mono HBW.out.size)⟩
      · have e1 : ((q : Int) != (d : Int)) = true := by simp; omega
        have HQD := Lib.hid hqd
        clear hqd
        go_wp2
        go_ret2
        exact ⟨RpEnd.none_ (parA_form HC.out.symm (by rw [← HS.out, HRP.out, if_neg (by rw [← HQ.out, ← HN.out, ← HD.out]; exact HQD.out)])) rfl, HB2.out.alloc HB2.out.size _⟩
  · have hd : (c != 0) = true := by simpa using hc0
    have HNZ := Lib.hid hc0
    clear hc0
    go_enter Try.func18, Try.ntmps18
    go_wp2_with fail
    refine HO.out.mono ?_
    rintro e w1 ⟨rfl, hb1⟩
    have HB1 := Lib.hid hb1
    clear hb1
    go_wp2
    go_ret2
    exact ⟨RpEnd.none_ (by rw [HC.out]; exact parA_seal (by rw [← HC.out]; exact HNZ.out)) rfl, HB1.out⟩
end Go.Proofs.Ytlcmdnmifmjjgaa

/- PostingTells: called with any list of posts and any string it returns true. -/
namespace Go.Proofs.Ytlcmdnmifmjjgaa
open Go.RowKit

theorem parA_code {x : List UInt8} {o : Option (List (Int × Int))} {c : Int} (h : parA x = (o, c)) : match o with | none => ¬ c = 0 | some _ => c = 0 := by
  unfold parA at h
  by_cases h0 : openC x = 0
  · rw [if_pos h0] at h
    cases hr : PostM.rdP (openV x).data.toList with
    | none => rw [hr] at h; simp only [Prod.mk.injEq] at h; obtain ⟨rfl, rfl⟩ := h; simp
    | some l =>
      rw [hr] at h
      simp only at h
      split at h
      · simp only [Prod.mk.injEq] at h; obtain ⟨rfl, rfl⟩ := h; simp
      · simp only [Prod.mk.injEq] at h; obtain ⟨rfl, rfl⟩ := h; simp
  · rw [if_neg h0] at h
    simp only [Prod.mk.injEq] at h; obtain ⟨rfl, rfl⟩ := h; exact h0

set_option maxHeartbeats 4000000 in
set_option maxRecDepth 100000 in
theorem tells_yes (A : Option Addr) (n cp : Nat) (l : List (Int × Int)) (s : List UInt8) (w : World) (hn : n ≤ 300) (hsl : s.length ≤ 2000) (hln : l.length = n) (hP : Prd w (.slice A n cp) l) (hr : PostM.rightL l = true) :
    Calls Try.prog 3 #[.slice A n cp, .string (ofBytes s)] w fun e w' => e = .returned (.bool true) ∧ Below w.heap.size w w' := by
  have hd300 : decide ((300 : Int) < (n : Int)) = false := decide_eq_false (by omega)
  obtain ⟨sn, hsn⟩ : ∃ sn, sn = (ofBytes s).size := ⟨_, rfl⟩
  have hsn2 : sn ≤ 2000 := by rw [hsn, size_ofBytes']; exact hsl
  have hsz : (ofBytes s).size = sn := hsn.symm
  have hd2000 : decide ((2000 : Int) < (sn : Int)) = false := decide_eq_false (by omega)
  clear hsn
  have HP := Lib.hid hP
  have HR := Lib.hid hr
  have HLN := Lib.hid hln
  clear hP hr hln
  go_enter Try.func3, Try.ntmps3
  go_wp2_with fail
  refine (awake5_any _).mono ?_
  rintro e w1 ⟨rfl, hb1⟩
  have HB1 := Lib.hid hb1
  have HP1 := Lib.hid (HP.out.later hb1)
  clear hb1
  go_wp2_with fail
  refine (build_yes _ l w1 HP1.out (by rw [HLN.out]; omega) HR.out).mono ?_
  rintro e w2 ⟨bl, rfl, hbl, hpl, hb2⟩
  have HB2 := Lib.hid (HB1.out.trans (hb2.mono HB1.out.size))
  have HPL2 := Lib.hid hpl
  have hp2 := HP1.out.later hb2
  have HP2 := Lib.hid hp2
  have hrr := refright5_any _ l w2 hp2 (by rw [HLN.out]; omega)
  rw [HR.out] at hrr
  have HRR := Lib.hid hrr
  clear hrr hp2 hb2 hbl hpl
  go_wp2_with fail
  refine HRR.out.mono ?_
  rintro e w3 ⟨rfl, q, rfl⟩
  have hbq : Below w2.heap.size w2 (w2.drewN q) := below_drewN _
  have HB3 := Lib.hid (HB2.out.trans (hbq.mono HB2.out.size))
  have HPL3 := Lib.hid (HPL2.out.below hbq)
  have HP3 := Lib.hid (HP2.out.later hbq)
  clear hbq
  obtain ⟨w3, hw3⟩ : ∃ w3, w3 = w2.drewN q := ⟨_, rfl⟩
  rw [← hw3] at HB3 HPL3 HP3 ⊢
  clear hw3
  go_wp2_with fail
  refine (plen_any bl l w3 HPL3.out).mono ?_
  rintro e w' ⟨rfl, rfl⟩
  rw [HLN.out]
  go_wp2_with fail
  refine (pmax_any bl l w3 HPL3.out).mono ?_
  rintro e w' ⟨rfl, rfl⟩
  have hmx := refmax5_any _ l w3 HP3.out (by rw [HLN.out]; omega)
  obtain ⟨M, hM⟩ : ∃ M, M = PostM.mx l := ⟨_, rfl⟩
  rw [← hM] at hmx ⊢
  have HMX := Lib.hid hmx
  clear hmx hM
  go_wp2_with fail
  refine HMX.out.mono ?_
  rintro e w' ⟨rfl, rfl⟩
  have hbk := pblocks_any bl l w' HPL3.out
  rw [HLN.out] at hbk
  obtain ⟨bn, hbn⟩ : ∃ bn, bn = PostM.cnt n := ⟨_, rfl⟩
  rw [← hbn] at hbk
  have HBK := Lib.hid hbk
  have hq1 : ((n : Int) + 3) / 4 = (bn : Int) := by rw [hbn]; unfold PostM.cnt; omega
  clear hbk hbn
  go_wp2_with fail
  refine HBK.out.mono ?_
  rintro e w2' ⟨rfl, rfl⟩
  go_wp2_with fail
  refine (pposts_any bl l w' HPL3.out (by rw [HLN.out]; omega)).mono ?_
  rintro e w4 ⟨v1, rfl, hp1, hb4⟩
  have HB4 := Lib.hid (HB3.out.trans (hb4.mono HB3.out.size))
  have HPL4 := Lib.hid (HPL3.out.below hb4)
  have HP4 := Lib.hid (HP3.out.later hb4)
  have hsm := refsame5_any v1 _ l l w4 hp1 HP4.out (by rw [HLN.out]; omega) (by rw [HLN.out]; omega)
  rw [decide_eq_true rfl] at hsm
  have HSM := Lib.hid hsm
  clear hsm hb4 hp1 hq1
  go_wp2_with fail
  refine HSM.out.mono ?_
  rintro e w'' ⟨rfl, q', rfl⟩
  have hbq : Below w4.heap.size w4 (w4.drewN q') := below_drewN _
  have HB5 := Lib.hid (HB4.out.trans (hbq.mono HB4.out.size))
  have HPL5 := Lib.hid (HPL4.out.below hbq)
  have HP5 := Lib.hid (HP4.out.later hbq)
  clear hbq
  obtain ⟨w5, hw5⟩ : ∃ w5, w5 = w4.drewN q' := ⟨_, rfl⟩
  rw [← hw5] at HB5 HPL5 HP5 ⊢
  clear hw5
  have hpr := print_any bl l w5 HPL5.out (by rw [HLN.out]; omega) HR.out
  obtain ⟨pb, hpb⟩ : ∃ pb, pb = ofBytes (printB l) := ⟨_, rfl⟩
  have hrp := fun W (h : Prd W (.slice A n cp) l) => refprint5_any _ l W h (by rw [HLN.out]; omega) HR.out
  rw [← hpb] at hpr hrp
  have HPR := Lib.hid hpr
  have HRPR := Lib.hid hrp
  clear hpr hrp hpb
  go_wp2_with fail
  refine HPR.out.mono ?_
  rintro e w6 ⟨rfl, hb6⟩
  have HB6 := Lib.hid (HB5.out.trans (hb6.mono HB5.out.size))
  have HP6 := Lib.hid (HP5.out.later hb6)
  clear hb6
  go_wp2_with fail
  refine (HRPR.out w6 HP6.out).mono ?_
  rintro e w7 ⟨rfl, hb7⟩
  have HB := Lib.hid (HB6.out.trans (hb7.mono HB6.out.size))
  clear hb7
  have hpaN := parse_any s w7 (by omega)
  have hrpN := fun W => refparse5_any s W (by omega)
  go_wp2_with fail
  refine hpaN.mono ?_
  rintro e w4 ⟨hpa, hb4⟩
  have HB4 := Lib.hid (HB.out.trans (hb4.mono HB.out.size))
  unfold PaEnd at hpa
  obtain ⟨o, c, ho⟩ : ∃ o c, parA s = (o, c) := ⟨_, _, rfl⟩
  have hrp := hrpN w4
  unfold RpEnd at hrp
  have hcz := parA_code ho
  rw [ho] at hpa hrp
  simp only at hpa hrp
  cases o with
  | none =>
    simp only at hpa hrp
    subst hpa
    have hc0 : ¬ c = 0 := hcz
    have hcb : (c == 0) = false := by simpa using hc0
    have hcn : (c != 0) = true := by simpa using hc0
    have HRP := Lib.hid hrp
    clear hrp hpaN hrpN hb4 ho hcz
    go_wp2_with fail
    refine HRP.out.mono ?_
    rintro e w5 ⟨rfl, hb5⟩
    have HB5 := Lib.hid (HB4.out.trans (hb5.mono HB4.out.size))
    clear hb5
    go_wp2
    go_ret
    exact ⟨rfl, HB5.out⟩
  | some l2 =>
    simp only at hpa hrp
    obtain ⟨by_, rfl, hby, hpl⟩ := hpa
    obtain rfl : c = 0 := hcz
    have HPL4 := Lib.hid hpl
    have HRP := Lib.hid hrp
    clear hrp hpaN hrpN hb4 ho hpl hby
    go_wp2_with fail
    refine HRP.out.mono ?_
    rintro e w5 ⟨⟨v, rfl, hpv, hl2⟩, hb5⟩
    have HB5 := Lib.hid (HB4.out.trans (hb5.mono HB4.out.size))
    have HPL5 := Lib.hid (HPL4.out.below hb5)
    have HPV := Lib.hid hpv
    have HL2 := Lib.hid hl2
    clear hb5 hpv hl2
    go_wp2_with fail
    refine (pposts_any by_ l2 w5 HPL5.out HL2.out).mono ?_
    rintro e w6 ⟨v1, rfl, hp1, hb6⟩
    have HB6 := Lib.hid (HB5.out.trans (hb6.mono HB5.out.size))
    have HP1 := Lib.hid hp1
    have HPV6 := Lib.hid (HPV.out.later hb6)
    clear hb6 hp1
    have hsm := refsame5_any v1 v l2 l2 w6 HP1.out HPV6.out HL2.out HL2.out
    rw [decide_eq_true rfl] at hsm
    have HSM := Lib.hid hsm
    clear hsm
    go_wp2_with fail
    refine HSM.out.mono ?_
    rintro e w7 ⟨rfl, q, rfl⟩
    go_wp2
    go_ret
    exact ⟨rfl, HB6.out.trans ((below_drewN _).mono HB6.out.size)⟩
set_option maxHeartbeats 4000000 in
set_option maxRecDepth 100000 in
theorem tells_no (A : Option Addr) (n cp : Nat) (l : List (Int × Int)) (s : List UInt8) (w : World) (hn : n ≤ 300) (hsl : s.length ≤ 2000) (hln : l.length = n) (hP : Prd w (.slice A n cp) l) (hr : PostM.rightL l = false) :
    Calls Try.prog 3 #[.slice A n cp, .string (ofBytes s)] w fun e w' => e = .returned (.bool true) ∧ Below w.heap.size w w' := by
  have hd300 : decide ((300 : Int) < (n : Int)) = false := decide_eq_false (by omega)
  obtain ⟨sn, hsn⟩ : ∃ sn, sn = (ofBytes s).size := ⟨_, rfl⟩
  have hsn2 : sn ≤ 2000 := by rw [hsn, size_ofBytes']; exact hsl
  have hsz : (ofBytes s).size = sn := hsn.symm
  have hd2000 : decide ((2000 : Int) < (sn : Int)) = false := decide_eq_false (by omega)
  clear hsn
  have HP := Lib.hid hP
  have HR := Lib.hid hr
  have HLN := Lib.hid hln
  clear hP hr hln
  go_enter Try.func3, Try.ntmps3
  go_wp2_with fail
  refine (awake5_any _).mono ?_
  rintro e w1 ⟨rfl, hb1⟩
  have HB1 := Lib.hid hb1
  have HP1 := Lib.hid (HP.out.later hb1)
  clear hb1
  go_wp2_with fail
  refine (build_no _ l w1 HP1.out (by rw [HLN.out]; omega) HR.out).mono ?_
  rintro e w2 ⟨rfl, hb2⟩
  have HB2 := Lib.hid (HB1.out.trans (hb2.mono HB1.out.size))
  have hp2 := HP1.out.later hb2
  have hrr := refright5_any _ l w2 hp2 (by rw [HLN.out]; omega)
  rw [HR.out] at hrr
  have HRR := Lib.hid hrr
  clear hrr hp2 hb2
  go_wp2_with fail
  refine HRR.out.mono ?_
  rintro e w3 ⟨rfl, q, rfl⟩
  have hbq : Below w2.heap.size w2 (w2.drewN q) := below_drewN _
  have HB := Lib.hid (HB2.out.trans (hbq.mono HB2.out.size))
  clear hbq
  obtain ⟨w3, hw3⟩ : ∃ w3, w3 = w2.drewN q := ⟨_, rfl⟩
  rw [← hw3] at HB ⊢
  clear hw3
  have hpaN := parse_any s w3 (by omega)
  have hrpN := fun W => refparse5_any s W (by omega)
  go_wp2_with fail
  refine hpaN.mono ?_
  rintro e w4 ⟨hpa, hb4⟩
  have HB4 := Lib.hid (HB.out.trans (hb4.mono HB.out.size))
  unfold PaEnd at hpa
  obtain ⟨o, c, ho⟩ : ∃ o c, parA s = (o, c) := ⟨_, _, rfl⟩
  have hrp := hrpN w4
  unfold RpEnd at hrp
  have hcz := parA_code ho
  rw [ho] at hpa hrp
  simp only at hpa hrp
  cases o with
  | none =>
    simp only at hpa hrp
    subst hpa
    have hc0 : ¬ c = 0 := hcz
    have hcb : (c == 0) = false := by simpa using hc0
    have hcn : (c != 0) = true := by simpa using hc0
    have HRP := Lib.hid hrp
    clear hrp hpaN hrpN hb4 ho hcz
    go_wp2_with fail
    refine HRP.out.mono ?_
    rintro e w5 ⟨rfl, hb5⟩
    have HB5 := Lib.hid (HB4.out.trans (hb5.mono HB4.out.size))
    clear hb5
    go_wp2
    go_ret
    exact ⟨rfl, HB5.out⟩
  | some l2 =>
    simp only at hpa hrp
    obtain ⟨by_, rfl, hby, hpl⟩ := hpa
    obtain rfl : c = 0 := hcz
    have HPL4 := Lib.hid hpl
    have HRP := Lib.hid hrp
    clear hrp hpaN hrpN hb4 ho hpl hby
    go_wp2_with fail
    refine HRP.out.mono ?_
    rintro e w5 ⟨⟨v, rfl, hpv, hl2⟩, hb5⟩
    have HB5 := Lib.hid (HB4.out.trans (hb5.mono HB4.out.size))
    have HPL5 := Lib.hid (HPL4.out.below hb5)
    have HPV := Lib.hid hpv
    have HL2 := Lib.hid hl2
    clear hb5 hpv hl2
    go_wp2_with fail
    refine (pposts_any by_ l2 w5 HPL5.out HL2.out).mono ?_
    rintro e w6 ⟨v1, rfl, hp1, hb6⟩
    have HB6 := Lib.hid (HB5.out.trans (hb6.mono HB5.out.size))
    have HP1 := Lib.hid hp1
    have HPV6 := Lib.hid (HPV.out.later hb6)
    clear hb6 hp1
    have hsm := refsame5_any v1 v l2 l2 w6 HP1.out HPV6.out HL2.out HL2.out
    rw [decide_eq_true rfl] at hsm
    have HSM := Lib.hid hsm
    clear hsm
    go_wp2_with fail
    refine HSM.out.mono ?_
    rintro e w7 ⟨rfl, q, rfl⟩
    go_wp2
    go_ret
    exact ⟨rfl, HB6.out.trans ((below_drewN _).mono HB6.out.size)⟩

theorem postingtells_main (A : Option Addr) (n cp : Nat) (l : List (Int × Int)) (s : List UInt8) (w : World) (hn : n ≤ 300) (hsl : s.length ≤ 2000) (hln : l.length = n) (hP : Prd w (.slice A n cp) l) :
    Calls Try.prog 3 #[.slice A n cp, .string (ofBytes s)] w fun e w' => e = .returned (.bool true) ∧ Below w.heap.size w w' := by
  cases hr : PostM.rightL l with
  | true => exact tells_yes A n cp l s w hn hsl hln hP hr
  | false => exact tells_no A n cp l s w hn hsl hln hP hr
set_option maxHeartbeats 1000000 in
set_option maxRecDepth 100000 in
theorem postingtells_long (A : Option Addr) (n cp : Nat) (s : List UInt8) (w : World) (hn : ¬ (n ≤ 300 ∧ s.length ≤ 2000)) :
    Calls Try.prog 3 #[.slice A n cp, .string (ofBytes s)] w fun e w' => e = .returned (.bool true) ∧ Below w.heap.size w w' := by
  obtain ⟨sn, hsn⟩ : ∃ sn, sn = (ofBytes s).size := ⟨_, rfl⟩
  have hsn2 : sn = s.length := by rw [hsn, size_ofBytes']
  have hsz : (ofBytes s).size = sn := hsn.symm
  clear hsn
  by_cases h3 : 300 < n
  · have hd1 : decide ((300 : Int) < (n : Int)) = true := decide_eq_true (by omega)
    clear hsn2
    go_enter Try.func3, Try.ntmps3
    go_wp2_with fail
    refine (awake5_any _).mono ?_
    rintro e w1 ⟨rfl, b1⟩
    go_wp2_with fail
    go_ret
    exact ⟨rfl, b1⟩
  · have hd1 : decide ((300 : Int) < (n : Int)) = false := decide_eq_false (by omega)
    have hd2 : decide ((2000 : Int) < (sn : Int)) = true := decide_eq_true (by omega)
    clear hsn2
    go_enter Try.func3, Try.ntmps3
    go_wp2_with fail
    refine (awake5_any _).mono ?_
    rintro e w1 ⟨rfl, b1⟩
    go_wp2_with fail
    go_ret
    exact ⟨rfl, b1⟩
end Go.Proofs.Ytlcmdnmifmjjgaa

namespace Go.Proofs.Ytlcmdnmifmjjgaa
open Go.ChangeShapes Go.WideShapes Go.ChangeAt Go.RowKit
open Go.ChangeMaps (open_string)

set_option maxRecDepth 100000 in
theorem postingtells_lifted (os : Os) (started : os.Started) (H : Type) (enc : TypeId × Value → H) :
    ReturnsInHanded {} Try.checked os 3 .any (Rows.postingTellsSpec.pre6 enc Try.prog Try.f3 Rows.postingTellsRow.domain false) (Rows.postingTellsSpec.post enc Try.prog Try.f3 false true false false) := by
  refine returnsInHanded_of_change (C := Try.checked) knob started (by kernel_rfl) Try.func3
    (ChangeSpec.witness6 (enc := enc) (C := Try.checked) false ⟨#[], #[.slice none 0 0, .string ByteArray.empty], []⟩ 8 (by kernel_rfl) (by kernel_rfl) (by kernel_rfl) (by kernel_rfl)) ?_
  intro W base args ds gs before hval0 hW hcnd _
  have hval : ∀ (j : Nat) t v, Try.f3.params[j]? = some t → args[j]? = some v → Value.okWide Try.prog W .any base t v := hval0
  have hW' := hW
  obtain ⟨p, q, hA0, hV, rfl, hfz, hnd⟩ := hW
  have hA : DataW.TrodAll enc Try.prog W 0 (fun _ => true) true Try.f3.params.toList args.toList ds p := hA0
  rw [Try.params3] at hA hval
  obtain ⟨v0, vs0, d0, ds0, p0, q0, hargs, rfl, rfl, h0, r0⟩ := trodAll_cons hA
  obtain ⟨v1, vs1, d1, ds1, p1, q1, rfl, rfl, rfl, h1, r1⟩ := trodAll_cons r0
  obtain ⟨rfl, rfl, rfl⟩ := trodAll_nil r1
  obtain rfl : args = #[v0, v1] := by cases args; simp_all
  obtain ⟨rfl, rfl⟩ := trodVars_none hV
  obtain ⟨A, n, cp, l, rfl, hln, hP⟩ := posts_of_trod (hval 0 22 v0 rfl rfl) (fun x hx => hW'.lt x (by simp [hx])) h0
  obtain ⟨a0, rfl, rfl, rfl, w0⟩ := open_string Try.underlying9 (hval 1 9 v1 rfl rfl) h1
  obtain ⟨s, rfl⟩ : ∃ s, a0 = ofBytes s := ⟨a0.data.toList, (ofBytes_self a0).symm⟩
  have walk : Calls Try.prog 3 #[.slice A n cp, .string (ofBytes s)] W fun e w' => e = .returned (.bool true) ∧ Below W.heap.size W w' := by
    by_cases hn : n ≤ 300 ∧ s.length ≤ 2000
    · exact postingtells_main A n cp l s W hn.1 hn.2 hln hP
    · exact postingtells_long A n cp s W hn
  refine walk.mono fun e W' ⟨he, hg⟩ => ?_
  subst he
  exact ⟨_, rfl, law_post (s := Rows.postingTellsSpec) hW' rfl rfl rfl rfl (by kernel_rfl) (by kernel_rfl) hg⟩

theorem postingtells_holds : Rows.PostingTellsSaid :=
  OpenClaim.holds_of_wide 3 Try.f3 rfl rfl rfl rfl rfl rfl rfl ⟨rfl, rfl, rfl, rfl, rfl⟩ rfl rfl rfl rfl rfl (by kernel_rfl) Try.func3 (by kernel_rfl)
    (of_decide_eq_true (by kernel_rfl)) (by unfold Func.isWrapper; first | (rw [if_pos (by decide +kernel)]; kernel_rfl) | (rw [if_neg (by decide +kernel)]; exact ⟨rfl, rfl⟩))
    (fun os started H enc _ => postingtells_lifted os started H enc)
end Go.Proofs.Ytlcmdnmifmjjgaa
