
/- The document's reader: TakeFixed. -/
import Derived.Test.YtdjbdhfellofoaaPackS
namespace Go.Proofs.Ytdjbdhfellofoaa
open Go.RowKit

set_option maxHeartbeats 1600000 in
set_option maxRecDepth 100000 in
theorem mfixed_out (w : World) (s : List UInt8) (bad : Bool) (m n : Int) (hout : ¬ (0 ≤ m ∧ m ≤ 32 ∧ 0 ≤ n ∧ n ≤ 65536)) :
    Calls Try.prog 32 #[mR s bad, .int .i64 m, .int .i64 n] w fun e w' => MEnd w.heap.size (fxV m n s bad) (fxS m n s bad) (fxB m n s bad) e w' ∧ Below w.heap.size w w' := by
  have hnone : fxR m n s bad = none := by unfold fxR; rw [if_neg (fun x => hout x.2)]
  have hx0 := fx_none hnone
  have HX := Lib.hid (show fxS m n s bad = [] ∧ fxB m n s bad = true ∧ fxV m n s bad = [] from ⟨hx0.2.1, hx0.2.2, hx0.1⟩)
  clear hnone hx0
  obtain ⟨wA, hwA⟩ : ∃ wA, wA = wMR w s bad := ⟨_, rfl⟩
  obtain ⟨A, hA⟩ : ∃ A, A = w.heap.size := ⟨_, rfl⟩
  obtain ⟨R, hR⟩ : ∃ R, R = w.heap.size + 1 := ⟨_, rfl⟩
  have a0 := wMR_a0 w s bad
  have a1 := wMR_a1 w s bad
  have r0 := wMR_r0 w s bad
  have r1 := wMR_r1 w s bad
  have f0 := wMR_f0 w s bad
  have f1 := wMR_f1 w s bad
  have hAs := wMR_size w s bad
  have hBA := wMR_below w s bad
  rw [← hwA, ← hA] at a0 a1
  rw [← hwA, ← hR] at r0 r1 f0 f1 hAs
  rw [← hwA] at hBA
  unfold wMR at hwA
  have hRw : w.heap.size ≤ R := by omega
  have hAR : A < R := by omega
  have hmR : mR s bad = .agg #[.string (ofBytes s), .bool bad] := rfl
  have mdA : MD wA R [] false := by rw [hwA, hR]; have := MD.new (w.alloc (.cells #[.string (ofBytes s), .bool bad] 69)) [] false; rw [show (w.alloc (.cells #[.string (ofBytes s), .bool bad] 69)).heap.size = w.heap.size + 1 from by simp] at this; exact this
  rw [hmR]
  clear hmR
  by_cases hm0 : m < 0
  · have hd : decide (m < 0) = true := decide_eq_true hm0
    go_enter Try.func32, Try.ntmps32
    go_wp2_with fail
    rw [← hwA, ← hR, ← hA]
    clear hwA hR hA
    have mdR := mdA
    have hBW := hBA
    refine (mfail_any _).mono ?_
    rintro e wf ⟨rfl, hbf⟩
    have mdf := mdR.later hbf
    have q0 := mdf.c0
    have q1 := mdf.c1
    have p0 := mdf.free 0
    have p1 := mdf.free 1
    unfold mR
    go_wp2
    have g0 := set2_0 q0 (.string (ofBytes [])) (.bool true) q1
    have g1 := set2_1 q1 (.string (ofBytes [])) (.bool true)
    have gB := below_set2 (hBW.trans (hbf.mono hBW.size)) hRw (.string (ofBytes [])) (.bool true)
    generalize (wf.setCell ⟨R, 0, none⟩ (.string (ofBytes []))).setCell ⟨R, 1, none⟩ (.bool true) = w9 at g0 g1 gB ⊢
    rw [HX.out.1, HX.out.2.1, HX.out.2.2]
    exact bodyPost_ret (v := .tuple #[.agg #[.string (ofBytes []), .bool true], .slice none 0 0]) (by simp [results, Try.results32, go_sem, g0, g1]) rfl ⟨MEnd.none_ rfl, gB⟩
  · have hd : decide (m < 0) = false := decide_eq_false hm0
    by_cases hm1 : 32 < m
    · have hd1 : decide (32 < m) = true := decide_eq_true hm1
      go_enter Try.func32, Try.ntmps32
      go_wp2_with fail
      rw [← hwA, ← hR, ← hA]
      clear hwA hR hA
      have mdR := mdA
      have hBW := hBA
      refine (mfail_any _).mono ?_
      rintro e wf ⟨rfl, hbf⟩
      have mdf := mdR.later hbf
      have q0 := mdf.c0
      have q1 := mdf.c1
      have p0 := mdf.free 0
      have p1 := mdf.free 1
      unfold mR
      go_wp2
      have g0 := set2_0 q0 (.string (ofBytes [])) (.bool true) q1
      have g1 := set2_1 q1 (.string (ofBytes [])) (.bool true)
      have gB := below_set2 (hBW.trans (hbf.mono hBW.size)) hRw (.string (ofBytes [])) (.bool true)
      generalize (wf.setCell ⟨R, 0, none⟩ (.string (ofBytes []))).setCell ⟨R, 1, none⟩ (.bool true) = w9 at g0 g1 gB ⊢
      rw [HX.out.1, HX.out.2.1, HX.out.2.2]
      exact bodyPost_ret (v := .tuple #[.agg #[.string (ofBytes []), .bool true], .slice none 0 0]) (by simp [results, Try.results32, go_sem, g0, g1]) rfl ⟨MEnd.none_ rfl, gB⟩
    · have hd1 : decide (32 < m) = false := decide_eq_false hm1
      by_cases hn0 : n < 0
      · have hd2 : decide (n < 0) = true := decide_eq_true hn0
        go_enter Try.func32, Try.ntmps32
        go_wp2_with fail
        rw [← hwA, ← hR, ← hA]
        clear hwA hR hA
        have mdR := mdA
        have hBW := hBA
        refine (mfail_any _).mono ?_
        rintro e wf ⟨rfl, hbf⟩
        have mdf := mdR.later hbf
        have q0 := mdf.c0
        have q1 := mdf.c1
        have p0 := mdf.free 0
        have p1 := mdf.free 1
        unfold mR
        go_wp2
        have g0 := set2_0 q0 (.string (ofBytes [])) (.bool true) q1
        have g1 := set2_1 q1 (.string (ofBytes [])) (.bool true)
        have gB := below_set2 (hBW.trans (hbf.mono hBW.size)) hRw (.string (ofBytes [])) (.bool true)
        generalize (wf.setCell ⟨R, 0, none⟩ (.string (ofBytes []))).setCell ⟨R, 1, none⟩ (.bool true) = w9 at g0 g1 gB ⊢
        rw [HX.out.1, HX.out.2.1, HX.out.2.2]
        exact bodyPost_ret (v := .tuple #[.agg #[.string (ofBytes []), .bool true], .slice none 0 0]) (by simp [results, Try.results32, go_sem, g0, g1]) rfl ⟨MEnd.none_ rfl, gB⟩
      · have hd2 : decide (n < 0) = false := decide_eq_false hn0
        have hd3 : decide (65536 < n) = true := decide_eq_true (by omega)
        go_enter Try.func32, Try.ntmps32
        go_wp2_with fail
        rw [← hwA, ← hR, ← hA]
        clear hwA hR hA
        have mdR := mdA
        have hBW := hBA
        refine (mfail_any _).mono ?_
        rintro e wf ⟨rfl, hbf⟩
        have mdf := mdR.later hbf
        have q0 := mdf.c0
        have q1 := mdf.c1
        have p0 := mdf.free 0
        have p1 := mdf.free 1
        unfold mR
        go_wp2
        have g0 := set2_0 q0 (.string (ofBytes [])) (.bool true) q1
        have g1 := set2_1 q1 (.string (ofBytes [])) (.bool true)
        have gB := below_set2 (hBW.trans (hbf.mono hBW.size)) hRw (.string (ofBytes [])) (.bool true)
        generalize (wf.setCell ⟨R, 0, none⟩ (.string (ofBytes []))).setCell ⟨R, 1, none⟩ (.bool true) = w9 at g0 g1 gB ⊢
        rw [HX.out.1, HX.out.2.1, HX.out.2.2]
        exact bodyPost_ret (v := .tuple #[.agg #[.string (ofBytes []), .bool true], .slice none 0 0]) (by simp [results, Try.results32, go_sem, g0, g1]) rfl ⟨MEnd.none_ rfl, gB⟩

/-- one bit of a text, as the walk reads it -/
theorem bit_facts (P : List UInt8) (q N : Nat) (hN : N = P.length) (hq : q < 8 * N) : ∃ e8 m8 x y : Nat, e8 < N ∧ m8 < 8 ∧ (q : Int) / 8 = (e8 : Int) ∧ (q : Int) % 8 = (m8 : Int) ∧ x < 256 ∧ y < 256 ∧ (∀ h, ((ofBytes P)[e8]'h).toNat = x) ∧ (x : Int) / 2 ^ m8 = (y : Int) ∧ PackM.bitAt P q = y % 2 := by
  have he : q / 8 < P.length := by omega
  refine ⟨q / 8, q % 8, (P[q / 8]).toNat, (P[q / 8]).toNat / 2 ^ (q % 8), by omega, by omega, by omega, by omega, (P[q / 8]).toNat_lt, Nat.lt_of_le_of_lt (Nat.div_le_self _ _) (P[q / 8]).toNat_lt, fun h => rfl, by simp, ?_⟩
  unfold PackM.bitAt
  rw [List.getD_eq_getElem?_getD, List.getElem?_eq_getElem he]
  rfl

set_option maxHeartbeats 3200000 in
set_option maxRecDepth 100000 in
theorem mfixed_in (w : World) (s : List UInt8) (bad : Bool) (m n : Nat) (hl : s.length ≤ 100000) (hbad : bad = true → s = []) (hm : m ≤ 32) (hn : n ≤ 65536) :
    Calls Try.prog 32 #[mR s bad, .int .i64 (m : Int), .int .i64 (n : Int)] w fun e w' => MEnd w.heap.size (fxV m n s bad) (fxS m n s bad) (fxB m n s bad) e w' ∧ Below w.heap.size w w' := by
  have fails : fxR m n s bad = none → fxS m n s bad = [] ∧ fxB m n s bad = true ∧ fxV m n s bad = [] := fun h => by
    have hx0 := fx_none h
    exact ⟨hx0.2.1, hx0.2.2, hx0.1⟩
  have HFAIL := Lib.hid fails
  clear fails
  obtain ⟨p, hp⟩ : ∃ p, p = m * n := ⟨_, rfl⟩
  have hpl : p ≤ 2097152 := by
    rw [hp]
    calc m * n ≤ 32 * n := Nat.mul_le_mul_right _ hm
      _ ≤ 2097152 := by omega
  have hpI : (m : Int) * (n : Int) = (p : Int) := by rw [hp]; simp
  have HP := Lib.hid hp
  clear hp
  obtain ⟨L, hL⟩ : ∃ L, L = (p + 7) / 8 := ⟨_, rfl⟩
  have hLl : L ≤ 300000 := by omega
  have hLp : p ≤ 8 * L := by omega
  have hLp2 : 8 * L ≤ p + 7 := by omega
  have hLI : ((p : Int) + 7) / 8 = (L : Int) := by omega
  have HL := Lib.hid hL
  clear hL
  obtain ⟨wA, hwA⟩ : ∃ wA, wA = wMR w s bad := ⟨_, rfl⟩
  obtain ⟨A, hA⟩ : ∃ A, A = w.heap.size := ⟨_, rfl⟩
  obtain ⟨R, hR⟩ : ∃ R, R = w.heap.size + 1 := ⟨_, rfl⟩
  have a0 := wMR_a0 w s bad
  have a1 := wMR_a1 w s bad
  have r0 := wMR_r0 w s bad
  have r1 := wMR_r1 w s bad
  have f0 := wMR_f0 w s bad
  have f1 := wMR_f1 w s bad
  have hAs := wMR_size w s bad
  have hBA := wMR_below w s bad
  rw [← hwA, ← hA] at a0 a1
  rw [← hwA, ← hR] at r0 r1 f0 f1 hAs
  rw [← hwA] at hBA
  unfold wMR at hwA
  have hRw : w.heap.size ≤ R := by omega
  have hAR : A < R := by omega
  have hmR : mR s bad = .agg #[.string (ofBytes s), .bool bad] := rfl
  have mdA : MD wA R [] false := by rw [hwA, hR]; have := MD.new (w.alloc (.cells #[.string (ofBytes s), .bool bad] 69)) [] false; rw [show (w.alloc (.cells #[.string (ofBytes s), .bool bad] 69)).heap.size = w.heap.size + 1 from by simp] at this; exact this
  have hd : decide ((m : Int) < 0) = false := decide_eq_false (by omega)
  have hd1 : decide (32 < (m : Int)) = false := decide_eq_false (by omega)
  have hd2 : decide ((n : Int) < 0) = false := decide_eq_false (by omega)
  have hd3 : decide (65536 < (n : Int)) = false := decide_eq_false (by omega)
  have hv := fun W => mbytes_any W s bad (L : Int) (by omega) hbad
  obtain ⟨S1, hS1⟩ : ∃ S1, S1 = byS (L : Int) s := ⟨_, rfl⟩
  obtain ⟨b1, hb1⟩ : ∃ b1, b1 = byB (L : Int) s bad := ⟨_, rfl⟩
  obtain ⟨P, hPE⟩ : ∃ P, P = byV (L : Int) s := ⟨_, rfl⟩
  rw [← hS1, ← hb1, ← hPE, hmR] at hv
  rw [hmR]
  have HS1 := Lib.hid hS1
  have HB1 := Lib.hid hb1
  have HPE := Lib.hid hPE
  clear hmR hS1 hb1 hPE
  go_enter Try.func32, Try.ntmps32
  go_wp2_with fail
  rw [← hwA, ← hR, ← hA]
  clear hwA hR hA
  refine (hv _).mono ?_
  rintro e w1 ⟨rfl, hb⟩
  clear hv a0 a1 r0 r1 f0 f1
  have hB1 : Below w.heap.size w w1 := hBA.trans (hb.mono (by omega))
  have hsz1 := hB1.size
  have md1 := mdA.later hb
  have hR1 := md1.lt
  have hBW := hB1.alloc hsz1 (.cells #[.string (ofBytes S1), .bool b1] 69)
  have mdR := md1.alloc (.cells #[.string (ofBytes S1), .bool b1] 69)
  have mdX := MD.new w1 S1 b1
  unfold mR
  cases b1 with
  | true =>
    have hnone : fxR m n s bad = none := by
      unfold fxR
      cases hbb : bad with
      | true => rw [if_neg (fun h => by cases h.1)]
      | false =>
        rw [if_pos ⟨rfl, by omega, by omega, by omega, by omega⟩, Int.toNat_natCast, Int.toNat_natCast]
        unfold PackM.rFix
        rw [← HP.out, ← HL.out]
        have h1 := HB1.out
        unfold byB at h1
        rw [hbb] at h1
        by_cases hLs : L ≤ s.length
        · rw [if_pos ⟨by omega, by omega⟩] at h1; cases h1
        · rw [if_pos (by omega)]
    have HX := Lib.hid (HFAIL.out hnone)
    clear hnone hbad
    go_wp2_with fail
    refine (mfail_any _).mono ?_
    rintro e wf ⟨rfl, hbf⟩
    have mdf := mdR.later hbf
    have q0 := mdf.c0
    have q1 := mdf.c1
    have p0 := mdf.free 0
    have p1 := mdf.free 1
    unfold mR
    go_wp2
    have g0 := set2_0 q0 (.string (ofBytes [])) (.bool true) q1
    have g1 := set2_1 q1 (.string (ofBytes [])) (.bool true)
    have gB := below_set2 (hBW.trans (hbf.mono hBW.size)) hRw (.string (ofBytes [])) (.bool true)
    generalize (wf.setCell ⟨R, 0, none⟩ (.string (ofBytes []))).setCell ⟨R, 1, none⟩ (.bool true) = w9 at g0 g1 gB ⊢
    rw [HX.out.1, HX.out.2.1, HX.out.2.2]
    exact bodyPost_ret (v := .tuple #[.agg #[.string (ofBytes []), .bool true], .slice none 0 0]) (by simp [results, Try.results32, go_sem, g0, g1]) rfl ⟨MEnd.none_ rfl, gB⟩
  | false =>
    have hgood : bad = false ∧ L ≤ s.length := by
      have h1 := HB1.out
      unfold byB at h1
      by_cases hLs : L ≤ s.length
      · rw [if_pos ⟨by omega, by omega⟩] at h1; exact ⟨h1.symm, hLs⟩
      · rw [if_neg (by omega)] at h1; cases h1
    obtain ⟨rfl, hLs⟩ := hgood
    have e1 : P = s.take L := by rw [HPE.out]; unfold byV; rw [if_pos ⟨by omega, by omega⟩, Int.toNat_natCast]
    have e2 : S1 = s.drop L := by rw [HS1.out]; unfold byS; rw [if_pos ⟨by omega, by omega⟩, Int.toNat_natCast]
    have hPl : L = P.length := by rw [e1, List.length_take]; omega
    have hfx : fxR m n s false = if PackM.bv P p (L * 8 - p) = 0 then some (PackM.nums P m n, S1) else none := by
      unfold fxR
      rw [if_pos ⟨rfl, by omega, by omega, by omega, by omega⟩, Int.toNat_natCast, Int.toNat_natCast]
      unfold PackM.rFix
      rw [← HP.out, ← HL.out, if_neg (by omega), ← e1, ← e2]
    have hPs : (ofBytes P).size = L := by rw [size_ofBytes, ← hPl]
    have HPL := Lib.hid hPl
    have HFX := Lib.hid hfx
    clear hPl hfx e1 e2 hbad
    obtain ⟨X, hX⟩ : ∃ X, X = w1.heap.size := ⟨_, rfl⟩
    rw [← hX] at mdX hR1
    have hRX : R < X := hR1
    have hXw : w.heap.size ≤ X := by omega
    go_wp2
    rw [← hX]
    have hXs : X + 1 ≤ (w1.alloc (.cells #[.string (ofBytes S1), .bool false] 69)).heap.size := by rw [hX]; simp
    clear hX
    generalize w1.alloc (.cells #[.string (ofBytes S1), .bool false] 69) = wB at hBW mdR mdX hXs ⊢
    go_loopw [10, 11] (fun o i wr => ∃ (k : Nat), k ≤ n ∧ i = .int .i64 k ∧ IntRow wr (X + 1) o (toI (PackM.nums P m k)) ∧ MD wr R [] false ∧ MD wr X S1 false ∧ X + 1 ≤ wr.heap.size ∧ Below w.heap.size w wr) (fun _ i _ => n - (intOf i).toNat)
    case atStart => exact ⟨0, by omega, rfl, IntRow.nil_ _ _, mdR, mdX, hXs, hBW⟩
    case round =>
      clear hBW mdR mdX hXs md1 hb hB1 hsz1
      obtain ⟨k, hk, rfl, hrow, mdR, mdX, hXs, hBW⟩ := hrel
      by_cases hlt : k < n
      · have hdk : decide ((k : Int) < (n : Int)) = true := decide_eq_true (by omega)
        obtain ⟨q, hq⟩ : ∃ q, q = k * m := ⟨_, rfl⟩
        have hqI : (k : Int) * (m : Int) = (q : Int) := by rw [hq]; simp
        have hqm : q + m ≤ p := by
          have : (k + 1) * m ≤ n * m := Nat.mul_le_mul_right _ hlt
          rw [Nat.succ_mul] at this
          rw [HP.out, Nat.mul_comm m n, hq]; exact this
        have HQ := Lib.hid hq
        clear hq
        go_wp2
        go_loop [12, 13] (fun v i => ∃ (j x : Nat), j ≤ m ∧ i = .int .i64 ((j : Int) - 1) ∧ x = PackM.bv P (q + j) (m - j) ∧ v = .int .i64 x) (fun _ i => (intOf i + 1).toNat)
        case atStart => exact ⟨m, 0, by omega, rfl, by rw [Nat.sub_self]; rfl, rfl⟩
        case round =>
          obtain ⟨j, x, hj, rfl, hx, rfl⟩ := hrel
          have hxl : x < 2 ^ (m - j) := by rw [hx]; exact PackM.bv_lt _ _ _
          have h32 := pow32 (m - j) (by omega)
          by_cases hj0 : 0 < j
          · obtain ⟨i, rfl⟩ : ∃ i, j = i + 1 := ⟨j - 1, by omega⟩
            obtain ⟨e8, m8, xx, y, he8, hm8, hq1, hq2, hxx, hy, hbx, hyI, hbit⟩ := bit_facts P (q + i) L HPL.out (by omega)
            have hez : e8 < (ofBytes P).size := by rw [hPs]; exact he8
            have hbx2 := hbx hez
            have hnext : PackM.bv P (q + i) (m - i) = y % 2 + 2 * x := by
              rw [show m - i = (m - (i + 1)) + 1 from by omega, PackM.bv, hbit, hx]
              rfl
            have HNX := Lib.hid hnext
            have hiI : ((i + 1 : Nat) : Int) - 1 = (i : Int) := by omega
            have hqiI : (q : Int) + (i : Int) = ((q + i : Nat) : Int) := by omega
            rw [hiI]
            obtain ⟨r, hr⟩ : ∃ r, r = q + i := ⟨_, rfl⟩
            rw [← hr] at hqiI hq1 hq2
            have hrl : r ≤ 3000000 := by omega
            have hdj : decide ((0 : Int) ≤ (i : Int)) = true := decide_eq_true (by omega)
            clear hnext hx hbit hbx hr hiI
            go_wp2
            exact ⟨⟨i, x * 2 + y % 2, by omega, rfl, by rw [HNX.out]; omega, by go_num⟩, by simp [intOf]⟩
          · have hj1 : j = 0 := by omega
            subst hj1
            rw [Nat.add_zero, Nat.sub_zero] at hx
            have hnew : toI (PackM.nums P m (k + 1)) = toI (PackM.nums P m k) ++ [(x : Int)] := by rw [nums_succ, toI_snoc, ← HQ.out, ← hx]
            have HNEW := Lib.hid hnew
            have hll : (toI (PackM.nums P m k)).length ≤ 1000000000 := by rw [toI_length, nums_length]; omega
            have hm1 : ((0 : Nat) : Int) - 1 = -1 := rfl
            rw [hm1]
            clear hnew hx hm1 hxl
            go_wp2_with (at_builtin; refine wpList_append_int rfl _ _ rfl (X + 1) _ (toI (PackM.nums P m k)) rfl (hrow.alloc _) _ _ (x : Int) rfl (by go_simp) (by simp; omega) hll ?_; intro v' w4 hown' hb4)
            go_wp2
            exact ⟨⟨k + 1, by omega, by go_num, by rw [HNEW.out]; exact hown', (mdR.alloc _).under (by omega) hb4, (mdX.alloc _).under (by omega) hb4, Nat.le_trans (Nat.le_trans hXs (by simp)) hb4.size, (hBW.alloc hBW.size _).trans (hb4.mono (by omega))⟩, by simp [intOf]; omega⟩
      · have hdk : decide ((k : Int) < (n : Int)) = false := decide_eq_false (by omega)
        have hkn : k = n := by omega
        subst hkn
        obtain ⟨A8, c8, rfl, hI8⟩ := hrow.ints
        rw [toI_length, nums_length] at hI8 ⊢
        have HROW := Lib.hid hrow
        clear hrow hI8
        obtain ⟨E, hE⟩ : ∃ E, E = 8 * L := ⟨_, rfl⟩
        have h8I : 8 * (L : Int) = (E : Int) := by omega
        have hE1 : p ≤ E := by omega
        have hE2 : E ≤ 3000000 := by omega
        have HE := Lib.hid hE
        clear hE
        go_wp2
        go_loop [15] (fun i => ∃ (q : Nat), p ≤ q ∧ q ≤ E ∧ i = .int .i64 q ∧ ∀ j, p + j < q → PackM.bitAt P (p + j) = 0) (fun i => E - (intOf i).toNat)
        case atStart => exact ⟨p, by omega, by omega, rfl, fun j hj => by omega⟩
        case round =>
          obtain ⟨q, hpq, hqL, rfl, hz⟩ := hrel
          have HZ := Lib.hid hz
          clear hz
          by_cases hq : q < E
          · obtain ⟨e8, m8, xx, y, he8, hm8, hq1, hq2, hxx, hy, hbx, hyI, hbit⟩ := bit_facts P q L HPL.out (by rw [← HE.out]; exact hq)
            have hez : e8 < (ofBytes P).size := by rw [hPs]; exact he8
            have hbx2 := hbx hez
            have hdq : decide ((q : Int) < (E : Int)) = true := decide_eq_true (by omega)
            have HBIT := Lib.hid hbit
            clear hbit hbx
            by_cases hy1 : y % 2 = 1
            · have hyb : ((y : Int) % 2 == 1) = true := beq_iff_eq.2 (by omega)
              have hne : ¬ PackM.bv P p (L * 8 - p) = 0 := by
                intro h0
                have := (PackM.bv_zero P (L * 8 - p) p).1 h0 (q - p) (by have := HE.out; omega)
                rw [show p + (q - p) = q from by omega, HBIT.out] at this
                omega
              have HX := Lib.hid (HFAIL.out (by rw [HFX.out, if_neg hne]))
              clear hne
              go_wp2_with fail
              refine (mfail_any _).mono ?_
              rintro e wf ⟨rfl, hbf⟩
              have mdf := mdR.later hbf
              have q0 := mdf.c0
              have q1 := mdf.c1
              have p0 := mdf.free 0
              have p1 := mdf.free 1
              unfold mR
              go_wp2
              have g0 := set2_0 q0 (.string (ofBytes [])) (.bool true) q1
              have g1 := set2_1 q1 (.string (ofBytes [])) (.bool true)
              have gB := below_set2 (hBW.trans (hbf.mono hBW.size)) hRw (.string (ofBytes [])) (.bool true)
              generalize (wf.setCell ⟨R, 0, none⟩ (.string (ofBytes []))).setCell ⟨R, 1, none⟩ (.bool true) = w9 at g0 g1 gB ⊢
              rw [HX.out.1, HX.out.2.1, HX.out.2.2]
              exact bodyPost_ret (v := .tuple #[.agg #[.string (ofBytes []), .bool true], .slice none 0 0]) (by simp [results, Try.results32, go_sem, g0, g1]) rfl ⟨MEnd.none_ rfl, gB⟩
            · have hyb : ((y : Int) % 2 == 1) = false := beq_eq_false_iff_ne.2 (by omega)
              go_wp2
              refine ⟨⟨q + 1, by omega, by omega, by go_num, fun j hj => ?_⟩, by simp [intOf]; omega⟩
              by_cases he : p + j = q
              · rw [he, HBIT.out]; omega
              · exact HZ.out j (by omega)
          · have hdq : decide ((q : Int) < (E : Int)) = false := decide_eq_false (by omega)
            have h0 : PackM.bv P p (L * 8 - p) = 0 := (PackM.bv_zero P (L * 8 - p) p).2 (fun i hi => HZ.out i (by have := HE.out; omega))
            have hres : fxR m k s false = some (PackM.nums P m k, S1) := by rw [HFX.out, if_pos h0]
            have HRES := Lib.hid hres
            have x0 := mdX.c0
            have x1 := mdX.c1
            have q0 := mdR.c0
            have q1 := mdR.c1
            have p0 := mdR.free 0
            have p1 := mdR.free 1
            clear h0 hres
            go_wp2
            have g0 := set2_0 q0 (.string (ofBytes S1)) (.bool false) q1
            have g1 := set2_1 q1 (.string (ofBytes S1)) (.bool false)
            have gB := below_set2 hBW hRw (.string (ofBytes S1)) (.bool false)
            have gI := ((HROW.out.setBelow (c := R) (by omega) 0 (.string (ofBytes S1))).setBelow (c := R) (by omega) 1 (.bool false)).ints_.2
            generalize (wr.setCell ⟨R, 0, none⟩ (.string (ofBytes S1))).setCell ⟨R, 1, none⟩ (.bool false) = w9 at g0 g1 gB gI ⊢
            have hx3 : fxV m k s false = toI (PackM.nums P m k) ∧ fxS m k s false = S1 ∧ fxB m k s false = false := by unfold fxV fxS fxB; rw [HRES.out]; exact ⟨rfl, rfl, rfl⟩
            rw [hx3.1, hx3.2.1, hx3.2.2]
            have hln : (toI (PackM.nums P m k)).length = k := by rw [toI_length, nums_length]
            exact bodyPost_ret (v := .tuple #[.agg #[.string (ofBytes S1), .bool false], .slice A8 k c8]) (by simp [results, Try.results32, go_sem, g0, g1]) rfl ⟨⟨A8, c8, by rw [hln]; rfl, fun ad h => Nat.le_trans (by omega) (HROW.out.blk ad h), gI⟩, gB⟩
end Go.Proofs.Ytdjbdhfellofoaa
