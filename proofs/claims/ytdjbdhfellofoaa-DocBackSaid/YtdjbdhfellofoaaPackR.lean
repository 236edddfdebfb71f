
/- The document's reader: Bytes. -/
import Derived.Test.YtdjbdhfellofoaaPackQ
namespace Go.Proofs.Ytdjbdhfellofoaa
open Go.RowKit

theorem by_out {n : Int} {s : List UInt8} {bad : Bool} (h : bad = true ∧ s = [] ∨ ¬ (0 ≤ n ∧ n ≤ (s.length : Int))) : byS n s = [] ∧ byB n s bad = true ∧ byV n s = [] := by
  unfold byS byB byV
  rcases h with ⟨rfl, rfl⟩ | h
  · simp
  · rw [if_neg h, if_neg h, if_neg h]; exact ⟨rfl, rfl, rfl⟩

set_option maxHeartbeats 1600000 in
set_option maxRecDepth 100000 in
theorem mbytes_any (w : World) (s : List UInt8) (bad : Bool) (n : Int) (_hl : s.length ≤ 100000000) (hbad : bad = true → s = []) :
    Calls Try.prog 56 #[mR s bad, .int .i64 n] w fun e w' => e = .returned (.tuple #[mR (byS n s) (byB n s bad), .string (ofBytes (byV n s))]) ∧ Below w.heap.size w w' := by
  obtain ⟨wA, hwA⟩ : ∃ wA, wA = wMR w s bad := ⟨_, rfl⟩
  obtain ⟨A, hA⟩ : ∃ A, A = w.heap.size := ⟨_, rfl⟩
  obtain ⟨R, hR⟩ : ∃ R, R = w.heap.size + 1 := ⟨_, rfl⟩
  have a0 := wMR_a0 w s bad
  have a1 := wMR_a1 w s bad
  have r0 := wMR_r0 w s bad
  have r1 := wMR_r1 w s bad
  have f0 := wMR_f0 w s bad
  have f1 := wMR_f1 w s bad
  have hAs := wMR_size w s bad
  have hBA := wMR_below w s bad
  rw [← hwA, ← hA] at a0 a1
  rw [← hwA, ← hR] at r0 r1 f0 f1 hAs
  rw [← hwA] at hBA
  unfold wMR at hwA
  have hRw : w.heap.size ≤ R := by omega
  have hAR : A < R := by omega
  have hs : (ofBytes s).size = s.length := size_ofBytes s
  obtain ⟨N, hN⟩ : ∃ N, N = s.length := ⟨_, rfl⟩
  rw [← hN] at hs _hl
  have HN := Lib.hid hN
  clear hN
  have hmR : mR s bad = .agg #[.string (ofBytes s), .bool bad] := rfl
  rw [hmR]
  clear hmR
  cases bad with
  | true =>
    have hs0 := hbad rfl
    subst hs0
    have HX := Lib.hid (by_out (n := n) (s := []) (bad := true) (.inl ⟨rfl, rfl⟩))
    clear hbad
    go_enter Try.func56, Try.ntmps56
    go_wp2_with fail
    rw [← hwA, ← hR, ← hA]
    clear hwA hR hA
    refine (mfail_any _).mono ?_
    rintro e w1 ⟨rfl, hb⟩
    have r0' := (hb.cell (p := ⟨R, 0, none⟩) hAs).trans r0
    have r1' := (hb.cell (p := ⟨R, 1, none⟩) hAs).trans r1
    have f0' := (hb.frozen (p := ⟨R, 0, none⟩) hAs).trans f0
    have f1' := (hb.frozen (p := ⟨R, 1, none⟩) hAs).trans f1
    unfold mR
    go_wp2
    have g0 := set2_0 r0' (.string (ofBytes [])) (.bool true) r1'
    have g1 := set2_1 r1' (.string (ofBytes [])) (.bool true)
    have gB := below_set2 (hBA.trans (hb.mono (by omega))) hRw (.string (ofBytes [])) (.bool true)
    generalize (w1.setCell ⟨R, 0, none⟩ (.string (ofBytes []))).setCell ⟨R, 1, none⟩ (.bool true) = w2 at g0 g1 gB ⊢
    rw [HX.out.1, HX.out.2.1, HX.out.2.2]
    exact bodyPost_ret (v := .tuple #[.agg #[.string (ofBytes []), .bool true], .string ⟨#[]⟩]) (by simp [results, Try.results56, go_sem, g0, g1]) rfl ⟨rfl, gB⟩
  | false =>
    by_cases h0 : n < 0
    · have hd : decide (n < 0) = true := decide_eq_true h0
      have HX := Lib.hid (by_out (n := n) (s := s) (bad := false) (.inr (by omega)))
      go_enter Try.func56, Try.ntmps56
      go_wp2_with fail
      rw [← hwA, ← hR, ← hA]
      clear hwA hR hA
      refine (mfail_any _).mono ?_
      rintro e w1 ⟨rfl, hb⟩
      have r0' := (hb.cell (p := ⟨R, 0, none⟩) hAs).trans r0
      have r1' := (hb.cell (p := ⟨R, 1, none⟩) hAs).trans r1
      have f0' := (hb.frozen (p := ⟨R, 0, none⟩) hAs).trans f0
      have f1' := (hb.frozen (p := ⟨R, 1, none⟩) hAs).trans f1
      unfold mR
      go_wp2
      have g0 := set2_0 r0' (.string (ofBytes [])) (.bool true) r1'
      have g1 := set2_1 r1' (.string (ofBytes [])) (.bool true)
      have gB := below_set2 (hBA.trans (hb.mono (by omega))) hRw (.string (ofBytes [])) (.bool true)
      generalize (w1.setCell ⟨R, 0, none⟩ (.string (ofBytes []))).setCell ⟨R, 1, none⟩ (.bool true) = w2 at g0 g1 gB ⊢
      rw [HX.out.1, HX.out.2.1, HX.out.2.2]
      exact bodyPost_ret (v := .tuple #[.agg #[.string (ofBytes []), .bool true], .string ⟨#[]⟩]) (by simp [results, Try.results56, go_sem, g0, g1]) rfl ⟨rfl, gB⟩
    · have hd : decide (n < 0) = false := decide_eq_false h0
      obtain ⟨m, rfl⟩ := Int.eq_ofNat_of_zero_le (Int.not_lt.1 h0)
      by_cases h1 : m ≤ N
      · have hd1 : decide (N < m) = false := decide_eq_false (by omega)
        have e1 := extract_take s m
        have e2 := extract_drop s m N HN.out
        have hx : byS (m : Int) s = s.drop m ∧ byB (m : Int) s false = false ∧ byV (m : Int) s = s.take m := by
          unfold byS byB byV
          rw [← HN.out, if_pos ⟨by omega, by omega⟩, if_pos ⟨by omega, by omega⟩, if_pos ⟨by omega, by omega⟩, Int.toNat_natCast]
          exact ⟨rfl, rfl, rfl⟩
        have HX := Lib.hid hx
        clear hx
        go_enter Try.func56, Try.ntmps56
        go_wp2
        rw [← hwA, ← hR, ← hA]
        clear hwA hR hA
        go_region
        all_goals go_wp2
        have g0 : ((wA.setCell ⟨R, 0, none⟩ (.string (ofBytes (s.drop m)))).setCell ⟨R, 1, none⟩ (.bool false)).drew.cell? ⟨R, 0, none⟩ = some (.string (ofBytes (s.drop m))) := set2_0 r0 _ _ r1
        have g1 : ((wA.setCell ⟨R, 0, none⟩ (.string (ofBytes (s.drop m)))).setCell ⟨R, 1, none⟩ (.bool false)).drew.cell? ⟨R, 1, none⟩ = some (.bool false) := set2_1 r1 _ _
        have gB := (below_set2 hBA hRw (.string (ofBytes (s.drop m))) (.bool false)).drew
        generalize ((wA.setCell ⟨R, 0, none⟩ (.string (ofBytes (s.drop m)))).setCell ⟨R, 1, none⟩ (.bool false)).drew = w2 at g0 g1 gB ⊢
        rw [HX.out.1, HX.out.2.1, HX.out.2.2]
        exact bodyPost_ret (v := .tuple #[.agg #[.string (ofBytes (s.drop m)), .bool false], .string (ofBytes (s.take m))]) (by simp [results, Try.results56, go_sem, g0, g1]) rfl ⟨rfl, gB⟩
      · have hd1 : decide (N < m) = true := decide_eq_true (by omega)
        have HX := Lib.hid (by_out (n := (m : Int)) (s := s) (bad := false) (.inr (by rw [← HN.out]; omega)))
        go_enter Try.func56, Try.ntmps56
        go_wp2_with fail
        rw [← hwA, ← hR, ← hA]
        clear hwA hR hA
        refine (mfail_any _).mono ?_
        rintro e w1 ⟨rfl, hb⟩
        have r0' := (hb.cell (p := ⟨R, 0, none⟩) hAs).trans r0
        have r1' := (hb.cell (p := ⟨R, 1, none⟩) hAs).trans r1
        have f0' := (hb.frozen (p := ⟨R, 0, none⟩) hAs).trans f0
        have f1' := (hb.frozen (p := ⟨R, 1, none⟩) hAs).trans f1
        unfold mR
        go_wp2
        have g0 := set2_0 r0' (.string (ofBytes [])) (.bool true) r1'
        have g1 := set2_1 r1' (.string (ofBytes [])) (.bool true)
        have gB := below_set2 (hBA.trans (hb.mono (by omega))) hRw (.string (ofBytes [])) (.bool true)
        generalize (w1.setCell ⟨R, 0, none⟩ (.string (ofBytes []))).setCell ⟨R, 1, none⟩ (.bool true) = w2 at g0 g1 gB ⊢
        rw [HX.out.1, HX.out.2.1, HX.out.2.2]
        exact bodyPost_ret (v := .tuple #[.agg #[.string (ofBytes []), .bool true], .string ⟨#[]⟩]) (by simp [results, Try.results56, go_sem, g0, g1]) rfl ⟨rfl, gB⟩
end Go.Proofs.Ytdjbdhfellofoaa
