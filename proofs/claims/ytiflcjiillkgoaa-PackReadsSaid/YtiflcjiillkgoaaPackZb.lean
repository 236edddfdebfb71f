/- PackReads answers true: the walk. -/
import Derived.Test.YtiflcjiillkgoaaPackZa
import Derived.Test.YtiflcjiillkgoaaPackX
import Derived.Test.YtiflcjiillkgoaaPackY
namespace Go.Proofs.Ytiflcjiillkgoaa
open Go.RowKit

theorem RD.drewN {w : World} {b : Nat} {s : List UInt8} {bad : Bool} (h : RD w b s bad) (q : Nat) : RD (w.drewN q) b s bad := h

set_option maxHeartbeats 8000000 in
set_option maxRecDepth 100000 in
theorem packreads_main (s : List UInt8) (A : Option Addr) (n cp : Nat) (l : List (Int × Int × Int)) (w : World) (hs : s.length ≤ 2000) (hn : n ≤ 40) (hI : Asks w A n l) :
    Calls Try.prog 6 #[.string (ofBytes s), .slice A n cp] w fun e w' => e = .returned (.bool true) ∧ Below w.heap.size w w' := by
  obtain ⟨N, hN⟩ : ∃ N, N = s.length := ⟨_, rfl⟩
  have hsz : (ofBytes s).size = N := by rw [size_ofBytes, hN]
  have hNl : N ≤ 2000 := by omega
  have hd1 : decide ((2000 : Int) < (N : Int)) = false := decide_eq_false (by omega)
  have hd2 : decide ((40 : Int) < (n : Int)) = false := decide_eq_false (by omega)
  have HN := Lib.hid hN
  clear hN
  have HLEN := Lib.hid hI.1
  have HI := Lib.hid hI
  clear hI
  go_enter Try.func6, Try.ntmps6
  go_wp2_with fail
  refine (awake2_any _).mono ?_
  rintro e w1 ⟨rfl, b1⟩
  go_wp2_with fail
  refine (rnew_any _ _ (by omega)).mono ?_
  rintro e w2 ⟨b, rfl, hb, rd2, b2⟩
  have b02 : Below w.heap.size w w2 := b1.trans (b2.mono b1.size)
  have hbw : w.heap.size ≤ b := Nat.le_trans b1.size hb
  clear b1 b2 hb
  have md0 := MD.new w2 s false
  have rd0 := rd2.alloc (.cells #[.string (ofBytes s), .bool false] 55)
  have b03 := b02.alloc b02.size (.cells #[.string (ofBytes s), .bool false] 55)
  have hbl := rd2.lt
  obtain ⟨X, hX⟩ : ∃ X, X = w2.heap.size := ⟨_, rfl⟩
  rw [← hX] at md0 hbl
  have hXw : w.heap.size ≤ X := by rw [hX]; exact b02.size
  have hXb : X ≠ b := by omega
  go_wp2
  rw [← hX]
  clear hX b02 rd2
  generalize w2.alloc (.cells #[.string (ofBytes s), .bool false] 55) = w3 at md0 rd0 b03 ⊢
  go_loopw [7] (fun i wr => ∃ (k : Nat) (s' : List UInt8) (bad' : Bool), k ≤ n ∧ i = .int .i64 k ∧ RD wr b s' bad' ∧ MD wr X s' bad' ∧ StOk s' bad' ∧ Below w.heap.size w wr) (fun i _ => n - (intOf i).toNat)
  case atStart => exact ⟨0, s, false, by omega, rfl, rd0, md0, ⟨fun e => (by cases e), hs⟩, b03⟩
  case round =>
    clear md0 rd0 b03
    obtain ⟨k, s', bad', hk, rfl, rdr, mdr, hst, hBr⟩ := hrel
    by_cases hlt : k < n
    · have hd : decide ((k : Int) < (n : Int)) = true := decide_eq_true (by omega)
      have hkl : k < l.length := by rw [HLEN.out]; exact hlt
      obtain ⟨ab, ao, rfl, habl, k0, k1, k2⟩ := HI.out.2 k hkl
      have a0 := (hBr.cell (p := ⟨ab, ao + k * 3, none⟩) habl).trans k0
      have a1 := (hBr.cell (p := ⟨ab, ao + k * 3 + 1, none⟩) habl).trans k1
      have a2 := (hBr.cell (p := ⟨ab, ao + k * 3 + 2, none⟩) habl).trans k2
      obtain ⟨kd, hkd⟩ : ∃ kd, kd = l[k].1 := ⟨_, rfl⟩
      obtain ⟨qn, hqn⟩ : ∃ qn, qn = l[k].2.1 := ⟨_, rfl⟩
      obtain ⟨qw, hqw⟩ : ∃ qw, qw = l[k].2.2 := ⟨_, rfl⟩
      rw [← hkd] at a0
      rw [← hqn] at a1
      rw [← hqw] at a2
      clear k0 k1 k2 hkd hqn hqw
      have hsl := hst.2
      have hsb := hst.1
      have HSB := Lib.hid hsb
      clear hsb
      have rd1 := rdr.alloc (.cells #[.int .i64 kd, .int .i64 qn, .int .i64 qw] 57)
      have md1 := mdr.alloc (.cells #[.int .i64 kd, .int .i64 qn, .int .i64 qw] 57)
      have hwb : wr.heap.size ≠ b := by have := rdr.lt; omega
      have z1 : (wr.alloc (.cells #[.int .i64 kd, .int .i64 qn, .int .i64 qw] 57)).cell? ⟨wr.heap.size, 1, none⟩ = some (.int .i64 qn) := by go_simp
      have z2 : (wr.alloc (.cells #[.int .i64 kd, .int .i64 qn, .int .i64 qw] 57)).cell? ⟨wr.heap.size, 2, none⟩ = some (.int .i64 qw) := by go_simp
      have hB1 := hBr.alloc hBr.size (.cells #[.int .i64 kd, .int .i64 qn, .int .i64 qw] 57)
      by_cases h0 : kd = 0
      · subst h0
        go_wp2_with fail
        refine (rvarint_any _ b s' bad' (by omega) rd1).mono ?_
        rintro e w2 ⟨rfl, rd2, hg⟩
        have hB2 := below_reader hB1 hbw hg
        have md2 := md1.grown hg hXb
        have y1 := (cell_of_grown hg (p := ⟨wr.heap.size, 1, none⟩) (by simp) (fun e => hwb (by injection e))).trans z1
        have y2 := (cell_of_grown hg (p := ⟨wr.heap.size, 2, none⟩) (by simp) (fun e => hwb (by injection e))).trans z2
        have m0 := md2.c0
        have m1 := md2.c1
        have hmR : mR s' bad' = .agg #[.string (ofBytes s'), .bool bad'] := rfl
        have hdoc := fun W => mvarint_any W s' bad' (by omega) HSB.out
        rw [hmR] at hdoc
        clear hmR
        go_wp2_with fail
        refine (hdoc _).mono ?_
        rintro e w3 ⟨rfl, hb3⟩
        clear hdoc m0 m1 y1 y2
        have hB3 : Below w.heap.size w w3 := hB2.trans (hb3.mono hB2.size)
        have md3 := md2.later hb3
        have rd3 := rd2.later hb3
        have x0 := md3.c0
        have x1 := md3.c1
        have x0f := md3.free 0
        have x1f := md3.free 1
        obtain ⟨S2, hS2⟩ : ∃ S2, S2 = nS PackM.MAXI s' := ⟨_, rfl⟩
        obtain ⟨B2, hB2e⟩ : ∃ B2, B2 = nB PackM.MAXI s' bad' := ⟨_, rfl⟩
        have hst2 := st_num (most := PackM.MAXI) hst
        rw [← hS2, ← hB2e] at rd3 hst2
        unfold mR
        rw [← hS2, ← hB2e]
        clear hS2 hB2e
        have mdz := md3.set2 S2 B2
        have rdz : RD ((w3.setCell ⟨X, 0, none⟩ (.string (ofBytes S2))).setCell ⟨X, 1, none⟩ (.bool B2)) b S2 B2 := (rd3.kept (Below.heap_setCell w3 _ _ b (fun e => hXb e.symm))).kept (Below.heap_setCell _ _ _ b (fun e => hXb e.symm))
        have hBz := below_set2 hB3 hXw (.string (ofBytes S2)) (.bool B2)
        go_upto_region 34 with fail
        generalize (w3.setCell ⟨X, 0, none⟩ (.string (ofBytes S2))).setCell ⟨X, 1, none⟩ (.bool B2) = wz at mdz rdz hBz ⊢
        have I1 : Ints wz none 0 [] := ⟨rfl, fun k hk => by simp at hk⟩
        have I2 := I1
        have c0 := mdz.c0
        have c1 := mdz.c1
        have hsz2 : (ofBytes S2).size = S2.length := size_ofBytes S2
        go_quiet ((first | (go_at_call 39; exact Calls.quiet_of (same_quiet _ _ _ _ _ [] _ (by omega) I1 I2)) | (go_at_call 40; exact Calls.quiet_of_same ((rleft_any _ b S2 B2 (rdz.drewN _)).mono (fun _ _ h => ⟨h.1, h.2.symm⟩))) | (go_at_call 41; exact Calls.quiet_of_same ((rbad_any _ b S2 B2 (rdz.drewN _)).mono (fun _ _ h => ⟨h.1, h.2.symm⟩)))))
        go_wp2
        exact ⟨⟨k + 1, S2, B2, by omega, by go_num, rdz, mdz, hst2, hBz.trans ((below_drewN _).mono hBz.size)⟩, by simp [intOf]; omega⟩
      · have g0 : (kd == 0) = false := beq_eq_false_iff_ne.2 h0
        by_cases h1 : kd = 1
        · subst h1
          go_wp2_with fail
          refine (rzigzag_any _ b s' bad' (by omega) rd1).mono ?_
          rintro e w2 ⟨rfl, rd2, hg⟩
          have hB2 := below_reader hB1 hbw hg
          have md2 := md1.grown hg hXb
          have y1 := (cell_of_grown hg (p := ⟨wr.heap.size, 1, none⟩) (by simp) (fun e => hwb (by injection e))).trans z1
          have y2 := (cell_of_grown hg (p := ⟨wr.heap.size, 2, none⟩) (by simp) (fun e => hwb (by injection e))).trans z2
          have m0 := md2.c0
          have m1 := md2.c1
          have hmR : mR s' bad' = .agg #[.string (ofBytes s'), .bool bad'] := rfl
          have hdoc := fun W => mzigzag_any W s' bad' (by omega) HSB.out
          rw [hmR] at hdoc
          clear hmR
          go_wp2_with fail
          refine (hdoc _).mono ?_
          rintro e w3 ⟨rfl, hb3⟩
          clear hdoc m0 m1 y1 y2
          have hB3 : Below w.heap.size w w3 := hB2.trans (hb3.mono hB2.size)
          have md3 := md2.later hb3
          have rd3 := rd2.later hb3
          have x0 := md3.c0
          have x1 := md3.c1
          have x0f := md3.free 0
          have x1f := md3.free 1
          obtain ⟨S2, hS2⟩ : ∃ S2, S2 = nS PackM.MAXU s' := ⟨_, rfl⟩
          obtain ⟨B2, hB2e⟩ : ∃ B2, B2 = nB PackM.MAXU s' bad' := ⟨_, rfl⟩
          have hst2 := st_num (most := PackM.MAXU) hst
          rw [← hS2, ← hB2e] at rd3 hst2
          unfold mR
          rw [← hS2, ← hB2e]
          clear hS2 hB2e
          have mdz := md3.set2 S2 B2
          have rdz : RD ((w3.setCell ⟨X, 0, none⟩ (.string (ofBytes S2))).setCell ⟨X, 1, none⟩ (.bool B2)) b S2 B2 := (rd3.kept (Below.heap_setCell w3 _ _ b (fun e => hXb e.symm))).kept (Below.heap_setCell _ _ _ b (fun e => hXb e.symm))
          have hBz := below_set2 hB3 hXw (.string (ofBytes S2)) (.bool B2)
          go_upto_region 34 with fail
          generalize (w3.setCell ⟨X, 0, none⟩ (.string (ofBytes S2))).setCell ⟨X, 1, none⟩ (.bool B2) = wz at mdz rdz hBz ⊢
          have I1 : Ints wz none 0 [] := ⟨rfl, fun k hk => by simp at hk⟩
          have I2 := I1
          have c0 := mdz.c0
          have c1 := mdz.c1
          have hsz2 : (ofBytes S2).size = S2.length := size_ofBytes S2
          go_quiet ((first | (go_at_call 39; exact Calls.quiet_of (same_quiet _ _ _ _ _ [] _ (by omega) I1 I2)) | (go_at_call 40; exact Calls.quiet_of_same ((rleft_any _ b S2 B2 (rdz.drewN _)).mono (fun _ _ h => ⟨h.1, h.2.symm⟩))) | (go_at_call 41; exact Calls.quiet_of_same ((rbad_any _ b S2 B2 (rdz.drewN _)).mono (fun _ _ h => ⟨h.1, h.2.symm⟩)))))
          go_wp2
          exact ⟨⟨k + 1, S2, B2, by omega, by go_num, rdz, mdz, hst2, hBz.trans ((below_drewN _).mono hBz.size)⟩, by simp [intOf]; omega⟩
        · have g1 : (kd == 1) = false := beq_eq_false_iff_ne.2 h1
          by_cases h2 : kd = 2
          · subst h2
            by_cases h3k : 3000 < qn
            · have hdk : decide (3000 < qn) = true := decide_eq_true h3k
              go_wp2
              go_ret
              exact ⟨rfl, hB1⟩
            · have hdk : decide (3000 < qn) = false := decide_eq_false h3k
              go_wp2_with fail
              refine (rrising_any _ b s' bad' qn (by omega) HSB.out rd1).mono ?_
              rintro e w2 ⟨⟨A1, p1, rfl, N1, J1, rd2⟩, hg⟩
              have hB2 := below_reader hB1 hbw hg
              have md2 := md1.grown hg hXb
              have y1 := (cell_of_grown hg (p := ⟨wr.heap.size, 1, none⟩) (by simp) (fun e => hwb (by injection e))).trans z1
              have y2 := (cell_of_grown hg (p := ⟨wr.heap.size, 2, none⟩) (by simp) (fun e => hwb (by injection e))).trans z2
              have m0 := md2.c0
              have m1 := md2.c1
              have hmR : mR s' bad' = .agg #[.string (ofBytes s'), .bool bad'] := rfl
              have hdoc := fun W => mrising_any W s' bad' qn (by omega) HSB.out
              rw [hmR] at hdoc
              clear hmR
              go_wp2_with fail
              refine (hdoc _).mono ?_
              rintro e w3 ⟨⟨A2, p2, rfl, N2, J2⟩, hb3⟩
              clear hdoc m0 m1 y1 y2
              have hB3 : Below w.heap.size w w3 := hB2.trans (hb3.mono hB2.size)
              have md3 := md2.later hb3
              have rd3 := rd2.later hb3
              have x0 := md3.c0
              have x1 := md3.c1
              have x0f := md3.free 0
              have x1f := md3.free 1
              obtain ⟨S2, hS2⟩ : ∃ S2, S2 = rsS qn s' := ⟨_, rfl⟩
              obtain ⟨B2, hB2e⟩ : ∃ B2, B2 = rsB qn s' bad' := ⟨_, rfl⟩
              have hst2 := st_ris (most := qn) hst
              have hvl : (rsV qn s').length ≤ 65536 := Nat.le_trans (rsV_len hst) (by omega)
              have J1' := J1.below hb3
              obtain ⟨V, hV⟩ : ∃ V, V = rsV qn s' := ⟨_, rfl⟩
              rw [← hV] at J1' J2 hvl ⊢
              clear hV J1
              rw [← hS2, ← hB2e] at rd3 hst2
              unfold mR
              rw [← hS2, ← hB2e]
              clear hS2 hB2e
              have mdz := md3.set2 S2 B2
              have rdz : RD ((w3.setCell ⟨X, 0, none⟩ (.string (ofBytes S2))).setCell ⟨X, 1, none⟩ (.bool B2)) b S2 B2 := (rd3.kept (Below.heap_setCell w3 _ _ b (fun e => hXb e.symm))).kept (Below.heap_setCell _ _ _ b (fun e => hXb e.symm))
              have hBz := below_set2 hB3 hXw (.string (ofBytes S2)) (.bool B2)
              have I1 := J1'.setBoth (X := X) (fun ad h => by have := N1 ad h; have h1 := md1.lt; omega) (.string (ofBytes S2)) (.bool B2)
              have I2 := J2.setBoth (X := X) (fun ad h => by have := N2 ad h; have h1 := md2.lt; omega) (.string (ofBytes S2)) (.bool B2)
              go_upto_region 34 with fail
              generalize (w3.setCell ⟨X, 0, none⟩ (.string (ofBytes S2))).setCell ⟨X, 1, none⟩ (.bool B2) = wz at mdz rdz hBz I1 I2 ⊢
              have c0 := mdz.c0
              have c1 := mdz.c1
              have hsz2 : (ofBytes S2).size = S2.length := size_ofBytes S2
              go_quiet ((first | (go_at_call 39; exact Calls.quiet_of (same_quiet _ _ _ _ _ V _ (by omega) I1 I2)) | (go_at_call 40; exact Calls.quiet_of_same ((rleft_any _ b S2 B2 (rdz.drewN _)).mono (fun _ _ h => ⟨h.1, h.2.symm⟩))) | (go_at_call 41; exact Calls.quiet_of_same ((rbad_any _ b S2 B2 (rdz.drewN _)).mono (fun _ _ h => ⟨h.1, h.2.symm⟩)))))
              go_wp2
              exact ⟨⟨k + 1, S2, B2, by omega, by go_num, rdz, mdz, hst2, hBz.trans ((below_drewN _).mono hBz.size)⟩, by simp [intOf]; omega⟩
          · have g2 : (kd == 2) = false := beq_eq_false_iff_ne.2 h2
            by_cases h3 : kd = 3
            · subst h3
              by_cases h3k : 3000 < qn
              · have hdk : decide (3000 < qn) = true := decide_eq_true h3k
                by_cases h6k : qn ≤ 65536
                · have hdl : decide (qn ≤ 65536) = true := decide_eq_true h6k
                  go_wp2
                  go_ret
                  exact ⟨rfl, hB1⟩
                · have hdl : decide (qn ≤ 65536) = false := decide_eq_false h6k
                  go_wp2_with fail
                  refine (rfixed_all _ b s' bad' qw qn (by omega) HSB.out rd1).mono ?_
                  rintro e w2 ⟨⟨A1, p1, rfl, N1, J1, rd2⟩, hg⟩
                  have hB2 := below_reader hB1 hbw hg
                  have md2 := md1.grown hg hXb
                  have y1 := (cell_of_grown hg (p := ⟨wr.heap.size, 1, none⟩) (by simp) (fun e => hwb (by injection e))).trans z1
                  have y2 := (cell_of_grown hg (p := ⟨wr.heap.size, 2, none⟩) (by simp) (fun e => hwb (by injection e))).trans z2
                  have m0 := md2.c0
                  have m1 := md2.c1
                  have hmR : mR s' bad' = .agg #[.string (ofBytes s'), .bool bad'] := rfl
                  have hdoc := fun W => mfixed_all W s' bad' qw qn (by omega) HSB.out
                  rw [hmR] at hdoc
                  clear hmR
                  go_wp2_with fail
                  refine (hdoc _).mono ?_
                  rintro e w3 ⟨⟨A2, p2, rfl, N2, J2⟩, hb3⟩
                  clear hdoc m0 m1 y1 y2
                  have hB3 : Below w.heap.size w w3 := hB2.trans (hb3.mono hB2.size)
                  have md3 := md2.later hb3
                  have rd3 := rd2.later hb3
                  have x0 := md3.c0
                  have x1 := md3.c1
                  have x0f := md3.free 0
                  have x1f := md3.free 1
                  obtain ⟨S2, hS2⟩ : ∃ S2, S2 = fxS qw qn s' bad' := ⟨_, rfl⟩
                  obtain ⟨B2, hB2e⟩ : ∃ B2, B2 = fxB qw qn s' bad' := ⟨_, rfl⟩
                  have hst2 := st_fix (m := qw) (n := qn) hst
                  have hvl : (fxV qw qn s' bad').length ≤ 65536 := fxV_len
                  have J1' := J1.below hb3
                  obtain ⟨V, hV⟩ : ∃ V, V = fxV qw qn s' bad' := ⟨_, rfl⟩
                  rw [← hV] at J1' J2 hvl ⊢
                  clear hV J1
                  rw [← hS2, ← hB2e] at rd3 hst2
                  unfold mR
                  rw [← hS2, ← hB2e]
                  clear hS2 hB2e
                  have mdz := md3.set2 S2 B2
                  have rdz : RD ((w3.setCell ⟨X, 0, none⟩ (.string (ofBytes S2))).setCell ⟨X, 1, none⟩ (.bool B2)) b S2 B2 := (rd3.kept (Below.heap_setCell w3 _ _ b (fun e => hXb e.symm))).kept (Below.heap_setCell _ _ _ b (fun e => hXb e.symm))
                  have hBz := below_set2 hB3 hXw (.string (ofBytes S2)) (.bool B2)
                  have I1 := J1'.setBoth (X := X) (fun ad h => by have := N1 ad h; have h1 := md1.lt; omega) (.string (ofBytes S2)) (.bool B2)
                  have I2 := J2.setBoth (X := X) (fun ad h => by have := N2 ad h; have h1 := md2.lt; omega) (.string (ofBytes S2)) (.bool B2)
                  go_upto_region 34 with fail
                  generalize (w3.setCell ⟨X, 0, none⟩ (.string (ofBytes S2))).setCell ⟨X, 1, none⟩ (.bool B2) = wz at mdz rdz hBz I1 I2 ⊢
                  have c0 := mdz.c0
                  have c1 := mdz.c1
                  have hsz2 : (ofBytes S2).size = S2.length := size_ofBytes S2
                  go_quiet ((first | (go_at_call 39; exact Calls.quiet_of (same_quiet _ _ _ _ _ V _ (by omega) I1 I2)) | (go_at_call 40; exact Calls.quiet_of_same ((rleft_any _ b S2 B2 (rdz.drewN _)).mono (fun _ _ h => ⟨h.1, h.2.symm⟩))) | (go_at_call 41; exact Calls.quiet_of_same ((rbad_any _ b S2 B2 (rdz.drewN _)).mono (fun _ _ h => ⟨h.1, h.2.symm⟩)))))
                  go_wp2
                  exact ⟨⟨k + 1, S2, B2, by omega, by go_num, rdz, mdz, hst2, hBz.trans ((below_drewN _).mono hBz.size)⟩, by simp [intOf]; omega⟩
              · have hdk : decide (3000 < qn) = false := decide_eq_false h3k
                go_wp2_with fail
                refine (rfixed_all _ b s' bad' qw qn (by omega) HSB.out rd1).mono ?_
                rintro e w2 ⟨⟨A1, p1, rfl, N1, J1, rd2⟩, hg⟩
                have hB2 := below_reader hB1 hbw hg
                have md2 := md1.grown hg hXb
                have y1 := (cell_of_grown hg (p := ⟨wr.heap.size, 1, none⟩) (by simp) (fun e => hwb (by injection e))).trans z1
                have y2 := (cell_of_grown hg (p := ⟨wr.heap.size, 2, none⟩) (by simp) (fun e => hwb (by injection e))).trans z2
                have m0 := md2.c0
                have m1 := md2.c1
                have hmR : mR s' bad' = .agg #[.string (ofBytes s'), .bool bad'] := rfl
                have hdoc := fun W => mfixed_all W s' bad' qw qn (by omega) HSB.out
                rw [hmR] at hdoc
                clear hmR
                go_wp2_with fail
                refine (hdoc _).mono ?_
                rintro e w3 ⟨⟨A2, p2, rfl, N2, J2⟩, hb3⟩
                clear hdoc m0 m1 y1 y2
                have hB3 : Below w.heap.size w w3 := hB2.trans (hb3.mono hB2.size)
                have md3 := md2.later hb3
                have rd3 := rd2.later hb3
                have x0 := md3.c0
                have x1 := md3.c1
                have x0f := md3.free 0
                have x1f := md3.free 1
                obtain ⟨S2, hS2⟩ : ∃ S2, S2 = fxS qw qn s' bad' := ⟨_, rfl⟩
                obtain ⟨B2, hB2e⟩ : ∃ B2, B2 = fxB qw qn s' bad' := ⟨_, rfl⟩
                have hst2 := st_fix (m := qw) (n := qn) hst
                have hvl : (fxV qw qn s' bad').length ≤ 65536 := fxV_len
                have J1' := J1.below hb3
                obtain ⟨V, hV⟩ : ∃ V, V = fxV qw qn s' bad' := ⟨_, rfl⟩
                rw [← hV] at J1' J2 hvl ⊢
                clear hV J1
                rw [← hS2, ← hB2e] at rd3 hst2
                unfold mR
                rw [← hS2, ← hB2e]
                clear hS2 hB2e
                have mdz := md3.set2 S2 B2
                have rdz : RD ((w3.setCell ⟨X, 0, none⟩ (.string (ofBytes S2))).setCell ⟨X, 1, none⟩ (.bool B2)) b S2 B2 := (rd3.kept (Below.heap_setCell w3 _ _ b (fun e => hXb e.symm))).kept (Below.heap_setCell _ _ _ b (fun e => hXb e.symm))
                have hBz := below_set2 hB3 hXw (.string (ofBytes S2)) (.bool B2)
                have I1 := J1'.setBoth (X := X) (fun ad h => by have := N1 ad h; have h1 := md1.lt; omega) (.string (ofBytes S2)) (.bool B2)
                have I2 := J2.setBoth (X := X) (fun ad h => by have := N2 ad h; have h1 := md2.lt; omega) (.string (ofBytes S2)) (.bool B2)
                go_upto_region 34 with fail
                generalize (w3.setCell ⟨X, 0, none⟩ (.string (ofBytes S2))).setCell ⟨X, 1, none⟩ (.bool B2) = wz at mdz rdz hBz I1 I2 ⊢
                have c0 := mdz.c0
                have c1 := mdz.c1
                have hsz2 : (ofBytes S2).size = S2.length := size_ofBytes S2
                go_quiet ((first | (go_at_call 39; exact Calls.quiet_of (same_quiet _ _ _ _ _ V _ (by omega) I1 I2)) | (go_at_call 40; exact Calls.quiet_of_same ((rleft_any _ b S2 B2 (rdz.drewN _)).mono (fun _ _ h => ⟨h.1, h.2.symm⟩))) | (go_at_call 41; exact Calls.quiet_of_same ((rbad_any _ b S2 B2 (rdz.drewN _)).mono (fun _ _ h => ⟨h.1, h.2.symm⟩)))))
                go_wp2
                exact ⟨⟨k + 1, S2, B2, by omega, by go_num, rdz, mdz, hst2, hBz.trans ((below_drewN _).mono hBz.size)⟩, by simp [intOf]; omega⟩
            · have g3 : (kd == 3) = false := beq_eq_false_iff_ne.2 h3
              by_cases h4 : kd = 4
              · subst h4
                go_wp2_with fail
                refine (rbytes_any _ b s' bad' qn (by omega) rd1).mono ?_
                rintro e w2 ⟨rfl, rd2, hg⟩
                have hB2 := below_reader hB1 hbw hg
                have md2 := md1.grown hg hXb
                have y1 := (cell_of_grown hg (p := ⟨wr.heap.size, 1, none⟩) (by simp) (fun e => hwb (by injection e))).trans z1
                have y2 := (cell_of_grown hg (p := ⟨wr.heap.size, 2, none⟩) (by simp) (fun e => hwb (by injection e))).trans z2
                have m0 := md2.c0
                have m1 := md2.c1
                have hmR : mR s' bad' = .agg #[.string (ofBytes s'), .bool bad'] := rfl
                have hdoc := fun W => mbytes_any W s' bad' qn (by omega) HSB.out
                rw [hmR] at hdoc
                clear hmR
                go_wp2_with fail
                refine (hdoc _).mono ?_
                rintro e w3 ⟨rfl, hb3⟩
                clear hdoc m0 m1 y1 y2
                have hB3 : Below w.heap.size w w3 := hB2.trans (hb3.mono hB2.size)
                have md3 := md2.later hb3
                have rd3 := rd2.later hb3
                have x0 := md3.c0
                have x1 := md3.c1
                have x0f := md3.free 0
                have x1f := md3.free 1
                obtain ⟨S2, hS2⟩ : ∃ S2, S2 = byS qn s' := ⟨_, rfl⟩
                obtain ⟨B2, hB2e⟩ : ∃ B2, B2 = byB qn s' bad' := ⟨_, rfl⟩
                have hst2 := st_by (n := qn) hst
                rw [← hS2, ← hB2e] at rd3 hst2
                unfold mR
                rw [← hS2, ← hB2e]
                clear hS2 hB2e
                have mdz := md3.set2 S2 B2
                have rdz : RD ((w3.setCell ⟨X, 0, none⟩ (.string (ofBytes S2))).setCell ⟨X, 1, none⟩ (.bool B2)) b S2 B2 := (rd3.kept (Below.heap_setCell w3 _ _ b (fun e => hXb e.symm))).kept (Below.heap_setCell _ _ _ b (fun e => hXb e.symm))
                have hBz := below_set2 hB3 hXw (.string (ofBytes S2)) (.bool B2)
                go_upto_region 34 with fail
                generalize (w3.setCell ⟨X, 0, none⟩ (.string (ofBytes S2))).setCell ⟨X, 1, none⟩ (.bool B2) = wz at mdz rdz hBz ⊢
                have I1 : Ints wz none 0 [] := ⟨rfl, fun k hk => by simp at hk⟩
                have I2 := I1
                have c0 := mdz.c0
                have c1 := mdz.c1
                have hsz2 : (ofBytes S2).size = S2.length := size_ofBytes S2
                go_quiet ((first | (go_at_call 39; exact Calls.quiet_of (same_quiet _ _ _ _ _ [] _ (by omega) I1 I2)) | (go_at_call 40; exact Calls.quiet_of_same ((rleft_any _ b S2 B2 (rdz.drewN _)).mono (fun _ _ h => ⟨h.1, h.2.symm⟩))) | (go_at_call 41; exact Calls.quiet_of_same ((rbad_any _ b S2 B2 (rdz.drewN _)).mono (fun _ _ h => ⟨h.1, h.2.symm⟩)))))
                go_wp2
                exact ⟨⟨k + 1, S2, B2, by omega, by go_num, rdz, mdz, hst2, hBz.trans ((below_drewN _).mono hBz.size)⟩, by simp [intOf]; omega⟩
              · have g4 : (kd == 4) = false := beq_eq_false_iff_ne.2 h4
                obtain ⟨S2, hS2⟩ : ∃ S2, S2 = s' := ⟨_, rfl⟩
                obtain ⟨B2, hB2⟩ : ∃ B2, B2 = bad' := ⟨_, rfl⟩
                rw [← hS2, ← hB2] at rd1 md1
                have hst2 : StOk S2 B2 := by rw [hS2, hB2]; exact hst
                clear hS2 hB2
                have mdz := md1
                have rdz := rd1
                have hBz := hB1
                go_upto_region 34 with fail
                clear rd1 md1 hB1
                generalize wr.alloc (.cells #[.int .i64 kd, .int .i64 qn, .int .i64 qw] 57) = wz at mdz rdz hBz ⊢
                have I1 : Ints wz none 0 [] := ⟨rfl, fun k hk => by simp at hk⟩
                have I2 := I1
                have c0 := mdz.c0
                have c1 := mdz.c1
                have hsz2 : (ofBytes S2).size = S2.length := size_ofBytes S2
                go_quiet ((first | (go_at_call 39; exact Calls.quiet_of (same_quiet _ _ _ _ _ [] _ (by omega) I1 I2)) | (go_at_call 40; exact Calls.quiet_of_same ((rleft_any _ b S2 B2 (rdz.drewN _)).mono (fun _ _ h => ⟨h.1, h.2.symm⟩))) | (go_at_call 41; exact Calls.quiet_of_same ((rbad_any _ b S2 B2 (rdz.drewN _)).mono (fun _ _ h => ⟨h.1, h.2.symm⟩)))))
                go_wp2
                exact ⟨⟨k + 1, S2, B2, by omega, by go_num, rdz, mdz, hst2, hBz.trans ((below_drewN _).mono hBz.size)⟩, by simp [intOf]; omega⟩
    · have hd : decide ((k : Int) < (n : Int)) = false := decide_eq_false (by omega)
      go_wp2
      go_ret
      exact ⟨rfl, hBr⟩

set_option maxHeartbeats 4000000 in
set_option maxRecDepth 100000 in
theorem packreads_long (s : List UInt8) (A : Option Addr) (n cp : Nat) (w : World) (hn : ¬ (s.length ≤ 2000 ∧ n ≤ 40)) :
    Calls Try.prog 6 #[.string (ofBytes s), .slice A n cp] w fun e w' => e = .returned (.bool true) ∧ Below w.heap.size w w' := by
  have hsz : (ofBytes s).size = s.length := size_ofBytes s
  by_cases h3 : 2000 < s.length
  · have hd1 : decide ((2000 : Int) < (s.length : Int)) = true := decide_eq_true (by omega)
    go_enter Try.func6, Try.ntmps6
    go_wp2_with fail
    refine (awake2_any _).mono ?_
    rintro e w1 ⟨rfl, b1⟩
    go_wp2_with fail
    go_ret
    exact ⟨rfl, b1⟩
  · have hd1 : decide ((2000 : Int) < (s.length : Int)) = false := decide_eq_false (by omega)
    have hd2 : decide ((40 : Int) < (n : Int)) = true := decide_eq_true (by omega)
    go_enter Try.func6, Try.ntmps6
    go_wp2_with fail
    refine (awake2_any _).mono ?_
    rintro e w1 ⟨rfl, b1⟩
    go_wp2_with fail
    go_ret
    exact ⟨rfl, b1⟩
end Go.Proofs.Ytiflcjiillkgoaa
