
/- Two lists held against each other, number by number (the program's and the document's). -/
import Derived.Test.YtdjbdhfellofoaaDocL
import Derived.Laws.StructEq
import Derived.Deep.QuietTactic
import Derived.BigQuiet
namespace Go.Proofs.Ytdjbdhfellofoaa.Do
open Go.RowKit Go.Proofs.Ytdjbdhfellofoaa DocM

set_option maxHeartbeats 4000000 in
set_option maxRecDepth 100000 in
theorem eqterms_any (A1 A2 : Option Addr) (n m cp1 cp2 : Nat) (l1 l2 : List (Int × Int)) (w : World) (h1 : Pairs w A1 n l1) (h2 : Pairs w A2 m l2) (hl : n ≤ 1000000) (hl2 : m ≤ 1000000) :
    Calls Try.prog 38 #[.slice A1 n cp1, .slice A2 m cp2] w fun e w' => e = .returned (.bool (decide (l1 = l2))) ∧ ∃ q, w' = w.drewN q := by
  have HP1 := Lib.hid h1
  have HP2 := Lib.hid h2
  have HN := Lib.hid h1.1
  have HM := Lib.hid h2.1
  by_cases hnm : n = m
  · subst hnm
    have hd : ((n : Int) != (n : Int)) = false := by simp
    clear h1 h2
    go_enter Try.func38, Try.ntmps38
    go_wp2
    go_loopw [13] (fun x wr => ∃ i : Nat, x = .int .i64 i ∧ i ≤ n ∧ l1.take i = l2.take i ∧ ∃ q, wr = w.drewN q) (fun x _ => n - (intOf x).toNat)
    case atStart => exact ⟨0, by go_num, Nat.zero_le _, rfl, 0, rfl⟩
    case round =>
      obtain ⟨i, rfl, hi, htk, q, rfl⟩ := hrel
      have HTK := Lib.hid htk
      clear htk
      by_cases hlt : i < n
      · have hd1 : decide ((i : Int) < (n : Int)) = true := decide_eq_true (by omega)
        have hd2 : decide (i < n) = true := decide_eq_true hlt
        have hi1 : i < l1.length := by rw [HN.out]; exact hlt
        have hi2 : i < l2.length := by rw [HM.out]; exact hlt
        obtain ⟨b1, o1, rfl, _, c0, c1⟩ := HP1.out.2 i hi1
        obtain ⟨b2, o2, rfl, _, e0, e1⟩ := HP2.out.2 i hi2
        obtain ⟨⟨x1, x2⟩, hx⟩ : ∃ x, x = l1[i] := ⟨_, rfl⟩
        obtain ⟨⟨y1, y2⟩, hy⟩ : ∃ y, y = l2[i] := ⟨_, rfl⟩
        rw [← hx] at c0 c1
        rw [← hy] at e0 e1
        have hi0 : (0 : Int) ≤ (i : Int) := by omega
        have hin : (i : Int) < (n : Int) := by omega
        by_cases hxy : (x1, x2) = (y1, y2)
        · have hT : Hid (l1.take (i + 1) = l2.take (i + 1)) := Lib.hid (by rw [List.take_succ_eq_append_getElem hi1, List.take_succ_eq_append_getElem hi2, HTK.out, ← hx, ← hy, hxy])
          injection hxy with q1 q2
          subst q1; subst q2
          clear hx hy
          go_wp2
          go_quiet (fail)
          go_wp2
          exact ⟨⟨i + 1, by go_num, by omega, hT.out, _, rfl⟩, by simp [intOf]; omega⟩
        · have hne : decide (l1 = l2) = false := decide_eq_false (fun e => hxy (by rw [hx, hy]; simp [e]))
          have HNE := Lib.hid hne
          clear hx hy hne
          by_cases hq1 : x1 = y1
          · subst hq1
            have hq2 : x2 ≠ y2 := fun e => hxy (by rw [e])
            have hb2 : (x2 == y2) = false := by simpa using hq2
            clear hxy
            go_wp2
            go_quiet (fail)
            go_wp2
            go_ret
            exact ⟨by rw [HNE.out]; rfl, _, World.drewN_drewN _ _ _⟩
          · have hb1 : (x1 == y1) = false := by simpa using hq1
            clear hxy
            go_wp2
            go_quiet (fail)
            go_wp2
            go_ret
            exact ⟨by rw [HNE.out]; rfl, _, World.drewN_drewN _ _ _⟩
      · have hin : i = n := by omega
        subst hin
        have hd1 : decide ((i : Int) < (i : Int)) = false := by simp
        have hd2 : decide (i < i) = false := by simp
        have heq : decide (l1 = l2) = true := decide_eq_true (by
          have := HTK.out
          rwa [List.take_of_length_le (by rw [HN.out]; exact Nat.le_refl _), List.take_of_length_le (by rw [HM.out]; exact Nat.le_refl _)] at this)
        have HE := Lib.hid heq
        clear heq
        go_wp2
        go_ret
        exact ⟨by rw [HE.out]; rfl, q, rfl⟩
  · have hd : ((n : Int) != (m : Int)) = true := by simp; omega
    have hne : decide (l1 = l2) = false := decide_eq_false (fun e => hnm (by rw [← HN.out, ← HM.out, e]))
    have HNE := Lib.hid hne
    clear h1 h2 hne
    go_enter Try.func38, Try.ntmps38
    go_wp2
    go_ret
    exact ⟨by rw [HNE.out]; rfl, 0, rfl⟩
set_option maxHeartbeats 4000000 in
set_option maxRecDepth 100000 in
theorem eqints_any (A1 A2 : Option Addr) (n m cp1 cp2 : Nat) (l1 l2 : List Int) (w : World) (h1 : Ivs w A1 n l1) (h2 : Ivs w A2 m l2) (hl : n ≤ 1000000) (hl2 : m ≤ 1000000) :
    Calls Try.prog 39 #[.slice A1 n cp1, .slice A2 m cp2] w fun e w' => e = .returned (.bool (decide (l1 = l2))) ∧ ∃ q, w' = w.drewN q := by
  have HP1 := Lib.hid h1
  have HP2 := Lib.hid h2
  have HN := Lib.hid h1.1
  have HM := Lib.hid h2.1
  by_cases hnm : n = m
  · subst hnm
    have hd : ((n : Int) != (n : Int)) = false := by simp
    clear h1 h2
    go_enter Try.func39, Try.ntmps39
    go_wp2
    go_loopw [13] (fun x wr => ∃ i : Nat, x = .int .i64 i ∧ i ≤ n ∧ l1.take i = l2.take i ∧ ∃ q, wr = w.drewN q) (fun x _ => n - (intOf x).toNat)
    case atStart => exact ⟨0, by go_num, Nat.zero_le _, rfl, 0, rfl⟩
    case round =>
      obtain ⟨i, rfl, hi, htk, q, rfl⟩ := hrel
      have HTK := Lib.hid htk
      clear htk
      by_cases hlt : i < n
      · have hd1 : decide ((i : Int) < (n : Int)) = true := decide_eq_true (by omega)
        have hd2 : decide (i < n) = true := decide_eq_true hlt
        have hi1 : i < l1.length := by rw [HN.out]; exact hlt
        have hi2 : i < l2.length := by rw [HM.out]; exact hlt
        obtain ⟨b1, o1, rfl, _, c0⟩ := HP1.out.2 i hi1
        obtain ⟨b2, o2, rfl, _, e0⟩ := HP2.out.2 i hi2
        obtain ⟨x1, hx⟩ : ∃ x, x = l1[i] := ⟨_, rfl⟩
        obtain ⟨y1, hy⟩ : ∃ y, y = l2[i] := ⟨_, rfl⟩
        rw [← hx] at c0
        rw [← hy] at e0
        have hi0 : (0 : Int) ≤ (i : Int) := by omega
        have hin : (i : Int) < (n : Int) := by omega
        by_cases hxy : x1 = y1
        · have hT : Hid (l1.take (i + 1) = l2.take (i + 1)) := Lib.hid (by rw [List.take_succ_eq_append_getElem hi1, List.take_succ_eq_append_getElem hi2, HTK.out, ← hx, ← hy, hxy])
          subst hxy
          have hb0 : (x1 != x1) = false := by simp
          clear hx hy
          go_wp2
          go_quiet (fail)
          go_wp2
          exact ⟨⟨i + 1, by go_num, by omega, hT.out, _, rfl⟩, by simp [intOf]; omega⟩
        · have hne : decide (l1 = l2) = false := decide_eq_false (fun e => hxy (by rw [hx, hy]; simp [e]))
          have HNE := Lib.hid hne
          clear hx hy hne
          have hb1 : (x1 != y1) = true := by simpa using hxy
          clear hxy
          go_wp2
          go_quiet (fail)
          go_wp2
          go_ret
          exact ⟨by rw [HNE.out]; rfl, _, World.drewN_drewN _ _ _⟩
      · have hin : i = n := by omega
        subst hin
        have hd1 : decide ((i : Int) < (i : Int)) = false := by simp
        have hd2 : decide (i < i) = false := by simp
        have heq : decide (l1 = l2) = true := decide_eq_true (by
          have := HTK.out
          rwa [List.take_of_length_le (by rw [HN.out]; exact Nat.le_refl _), List.take_of_length_le (by rw [HM.out]; exact Nat.le_refl _)] at this)
        have HE := Lib.hid heq
        clear heq
        go_wp2
        go_ret
        exact ⟨by rw [HE.out]; rfl, q, rfl⟩
  · have hd : ((n : Int) != (m : Int)) = true := by simp; omega
    have hne : decide (l1 = l2) = false := decide_eq_false (fun e => hnm (by rw [← HN.out, ← HM.out, e]))
    have HNE := Lib.hid hne
    clear h1 h2 hne
    go_enter Try.func39, Try.ntmps39
    go_wp2
    go_ret
    exact ⟨by rw [HNE.out]; rfl, 0, rfl⟩
set_option maxHeartbeats 4000000 in
set_option maxRecDepth 100000 in
theorem rsame_any (A1 A2 : Option Addr) (n m cp1 cp2 : Nat) (l1 l2 : List Int) (w : World) (h1 : Ivs w A1 n l1) (h2 : Ivs w A2 m l2) (hl : n ≤ 1000000) (hl2 : m ≤ 1000000) :
    Calls Try.prog 37 #[.slice A1 n cp1, .slice A2 m cp2] w fun e w' => e = .returned (.bool (decide (l1 = l2))) ∧ ∃ q, w' = w.drewN q := by
  have HP1 := Lib.hid h1
  have HP2 := Lib.hid h2
  have HN := Lib.hid h1.1
  have HM := Lib.hid h2.1
  by_cases hnm : n = m
  · subst hnm
    have hd : ((n : Int) != (n : Int)) = false := by simp
    clear h1 h2
    go_enter Try.func37, Try.ntmps37
    go_wp2
    go_loopw [5] (fun x wr => ∃ i : Nat, x = .int .i64 i ∧ i ≤ n ∧ l1.take i = l2.take i ∧ ∃ q, wr = w.drewN q) (fun x _ => n - (intOf x).toNat)
    case atStart => exact ⟨0, by go_num, Nat.zero_le _, rfl, 0, rfl⟩
    case round =>
      obtain ⟨i, rfl, hi, htk, q, rfl⟩ := hrel
      have HTK := Lib.hid htk
      clear htk
      by_cases hlt : i < n
      · have hd1 : decide ((i : Int) < (n : Int)) = true := decide_eq_true (by omega)
        have hd2 : decide (i < n) = true := decide_eq_true hlt
        have hi1 : i < l1.length := by rw [HN.out]; exact hlt
        have hi2 : i < l2.length := by rw [HM.out]; exact hlt
        obtain ⟨b1, o1, rfl, _, c0⟩ := HP1.out.2 i hi1
        obtain ⟨b2, o2, rfl, _, e0⟩ := HP2.out.2 i hi2
        obtain ⟨x1, hx⟩ : ∃ x, x = l1[i] := ⟨_, rfl⟩
        obtain ⟨y1, hy⟩ : ∃ y, y = l2[i] := ⟨_, rfl⟩
        rw [← hx] at c0
        rw [← hy] at e0
        have hi0 : (0 : Int) ≤ (i : Int) := by omega
        have hin : (i : Int) < (n : Int) := by omega
        by_cases hxy : x1 = y1
        · have hT : Hid (l1.take (i + 1) = l2.take (i + 1)) := Lib.hid (by rw [List.take_succ_eq_append_getElem hi1, List.take_succ_eq_append_getElem hi2, HTK.out, ← hx, ← hy, hxy])
          subst hxy
          have hb0 : (x1 != x1) = false := by simp
          clear hx hy
          go_wp2
          go_quiet (fail)
          go_wp2
          exact ⟨⟨i + 1, by go_num, by omega, hT.out, _, rfl⟩, by simp [intOf]; omega⟩
        · have hne : decide (l1 = l2) = false := decide_eq_false (fun e => hxy (by rw [hx, hy]; simp [e]))
          have HNE := Lib.hid hne
          clear hx hy hne
          have hb1 : (x1 != y1) = true := by simpa using hxy
          clear hxy
          go_wp2
          go_quiet (fail)
          go_wp2
          go_ret
          exact ⟨by rw [HNE.out]; rfl, _, World.drewN_drewN _ _ _⟩
      · have hin : i = n := by omega
        subst hin
        have hd1 : decide ((i : Int) < (i : Int)) = false := by simp
        have hd2 : decide (i < i) = false := by simp
        have heq : decide (l1 = l2) = true := decide_eq_true (by
          have := HTK.out
          rwa [List.take_of_length_le (by rw [HN.out]; exact Nat.le_refl _), List.take_of_length_le (by rw [HM.out]; exact Nat.le_refl _)] at this)
        have HE := Lib.hid heq
        clear heq
        go_wp2
        go_ret
        exact ⟨by rw [HE.out]; rfl, q, rfl⟩
  · have hd : ((n : Int) != (m : Int)) = true := by simp; omega
    have hne : decide (l1 = l2) = false := decide_eq_false (fun e => hnm (by rw [← HN.out, ← HM.out, e]))
    have HNE := Lib.hid hne
    clear h1 h2 hne
    go_enter Try.func37, Try.ntmps37
    go_wp2
    go_ret
    exact ⟨by rw [HNE.out]; rfl, 0, rfl⟩
end Go.Proofs.Ytdjbdhfellofoaa.Do
