
/- DocTells, walked. -/
import Derived.Test.YtdjbdhfellofoaaDocU
import Derived.Deep.RegionHeld3
namespace Go.Proofs.Ytdjbdhfellofoaa.DocM
open Go.Proofs.Ytdjbdhfellofoaa
theorem rdV_small (s : List UInt8) : (rdV s).ts.length ≤ 64 ∧ (rdV s).v.length ≤ 8 := by
  unfold rdV
  cases h : rdC s with
  | none => exact ⟨by simp [ch0], by simp [ch0]⟩
  | some x =>
    have : rawC s = some x := by
      unfold rdC at h
      cases hr : rawC s with
      | none => rw [hr] at h; cases h
      | some y =>
        rw [hr] at h
        simp only [Option.bind_some] at h
        split at h
        · rw [h]
        · cases h
    exact (raw_here (c := x.1) (t := x.2) this).2
theorem paV_small (s : List UInt8) : (paV s).ts.length ≤ 64 ∧ (paV s).v.length ≤ 8 := by
  unfold paV
  split
  · exact rdV_small s
  · exact ⟨by simp [ch0], by simp [ch0]⟩
end Go.Proofs.Ytdjbdhfellofoaa.DocM
namespace Go.Proofs.Ytdjbdhfellofoaa.Do
open Go.RowKit Go.Proofs.Ytdjbdhfellofoaa DocM

theorem of_lit (d : Int) (A A2 : Option Addr) (n cp n2 cp2 : Nat) (tg : Int) (gn : Bool) (w : World) :
    Calls Try.prog 9 #[.agg #[.int .i64 d, .slice A n cp, .slice A2 n2 cp2, .int .i64 tg, .bool gn]] w fun e w' => e = .returned (.agg #[.int .i64 d, .slice A n cp, .slice A2 n2 cp2, .int .i64 tg, .bool gn]) ∧ Below w.heap.size w w' := of_any ⟨d, [], [], tg, gn⟩ (.slice A n cp) (.slice A2 n2 cp2) w ⟨_, _, _, rfl⟩ ⟨_, _, _, rfl⟩
theorem k25 {U X w1 : World} {p0 p1 p2 p3 p4 p5 p6 p7 p8 p9 p10 p11 p12 p13 p14 p15 p16 p17 p18 p19 p20 p21 p22 p23 p24 : Addr} {v0 v1 v2 v3 v4 v5 v6 v7 v8 v9 v10 v11 v12 v13 v14 v15 v16 v17 v18 v19 v20 v21 v22 v23 v24 : Value} (hb : Below X.heap.size X w1) (h : X.cell? p0 = some v0 ∧ X.cell? p1 = some v1 ∧ X.cell? p2 = some v2 ∧ X.cell? p3 = some v3 ∧ X.cell? p4 = some v4 ∧ X.cell? p5 = some v5 ∧ X.cell? p6 = some v6 ∧ X.cell? p7 = some v7 ∧ X.cell? p8 = some v8 ∧ X.cell? p9 = some v9 ∧ X.cell? p10 = some v10 ∧ X.cell? p11 = some v11 ∧ X.cell? p12 = some v12 ∧ X.cell? p13 = some v13 ∧ X.cell? p14 = some v14 ∧ X.cell? p15 = some v15 ∧ X.cell? p16 = some v16 ∧ X.cell? p17 = some v17 ∧ X.cell? p18 = some v18 ∧ X.cell? p19 = some v19 ∧ X.cell? p20 = some v20 ∧ X.cell? p21 = some v21 ∧ X.cell? p22 = some v22 ∧ X.cell? p23 = some v23 ∧ X.cell? p24 = some v24 ∧ Below U.heap.size U X) : w1.cell? p0 = some v0 ∧ w1.cell? p1 = some v1 ∧ w1.cell? p2 = some v2 ∧ w1.cell? p3 = some v3 ∧ w1.cell? p4 = some v4 ∧ w1.cell? p5 = some v5 ∧ w1.cell? p6 = some v6 ∧ w1.cell? p7 = some v7 ∧ w1.cell? p8 = some v8 ∧ w1.cell? p9 = some v9 ∧ w1.cell? p10 = some v10 ∧ w1.cell? p11 = some v11 ∧ w1.cell? p12 = some v12 ∧ w1.cell? p13 = some v13 ∧ w1.cell? p14 = some v14 ∧ w1.cell? p15 = some v15 ∧ w1.cell? p16 = some v16 ∧ w1.cell? p17 = some v17 ∧ w1.cell? p18 = some v18 ∧ w1.cell? p19 = some v19 ∧ w1.cell? p20 = some v20 ∧ w1.cell? p21 = some v21 ∧ w1.cell? p22 = some v22 ∧ w1.cell? p23 = some v23 ∧ w1.cell? p24 = some v24 ∧ Below U.heap.size U w1 :=
  have k : ∀ {p v}, X.cell? p = some v → w1.cell? p = some v := fun {p _} e => (hb.cell (World.block_lt_of_cell? X p e)).trans e
  ⟨k h.1, k h.2.1, k h.2.2.1, k h.2.2.2.1, k h.2.2.2.2.1, k h.2.2.2.2.2.1, k h.2.2.2.2.2.2.1, k h.2.2.2.2.2.2.2.1, k h.2.2.2.2.2.2.2.2.1, k h.2.2.2.2.2.2.2.2.2.1, k h.2.2.2.2.2.2.2.2.2.2.1, k h.2.2.2.2.2.2.2.2.2.2.2.1, k h.2.2.2.2.2.2.2.2.2.2.2.2.1, k h.2.2.2.2.2.2.2.2.2.2.2.2.2.1, k h.2.2.2.2.2.2.2.2.2.2.2.2.2.2.1, k h.2.2.2.2.2.2.2.2.2.2.2.2.2.2.2.1, k h.2.2.2.2.2.2.2.2.2.2.2.2.2.2.2.2.1, k h.2.2.2.2.2.2.2.2.2.2.2.2.2.2.2.2.2.1, k h.2.2.2.2.2.2.2.2.2.2.2.2.2.2.2.2.2.2.1, k h.2.2.2.2.2.2.2.2.2.2.2.2.2.2.2.2.2.2.2.1, k h.2.2.2.2.2.2.2.2.2.2.2.2.2.2.2.2.2.2.2.2.1, k h.2.2.2.2.2.2.2.2.2.2.2.2.2.2.2.2.2.2.2.2.2.1, k h.2.2.2.2.2.2.2.2.2.2.2.2.2.2.2.2.2.2.2.2.2.2.1, k h.2.2.2.2.2.2.2.2.2.2.2.2.2.2.2.2.2.2.2.2.2.2.2.1, k h.2.2.2.2.2.2.2.2.2.2.2.2.2.2.2.2.2.2.2.2.2.2.2.2.1, h.2.2.2.2.2.2.2.2.2.2.2.2.2.2.2.2.2.2.2.2.2.2.2.2.2.trans (hb.mono h.2.2.2.2.2.2.2.2.2.2.2.2.2.2.2.2.2.2.2.2.2.2.2.2.2.size)⟩
theorem k25D {U : World} {p0 p1 p2 p3 p4 p5 p6 p7 p8 p9 p10 p11 p12 p13 p14 p15 p16 p17 p18 p19 p20 p21 p22 p23 p24 : Addr} {v0 v1 v2 v3 v4 v5 v6 v7 v8 v9 v10 v11 v12 v13 v14 v15 v16 v17 v18 v19 v20 v21 v22 v23 v24 : Value} (h0 : U.cell? p0 = some v0) (h1 : U.cell? p1 = some v1) (h2 : U.cell? p2 = some v2) (h3 : U.cell? p3 = some v3) (h4 : U.cell? p4 = some v4) (h5 : U.cell? p5 = some v5) (h6 : U.cell? p6 = some v6) (h7 : U.cell? p7 = some v7) (h8 : U.cell? p8 = some v8) (h9 : U.cell? p9 = some v9) (h10 : U.cell? p10 = some v10) (h11 : U.cell? p11 = some v11) (h12 : U.cell? p12 = some v12) (h13 : U.cell? p13 = some v13) (h14 : U.cell? p14 = some v14) (h15 : U.cell? p15 = some v15) (h16 : U.cell? p16 = some v16) (h17 : U.cell? p17 = some v17) (h18 : U.cell? p18 = some v18) (h19 : U.cell? p19 = some v19) (h20 : U.cell? p20 = some v20) (h21 : U.cell? p21 = some v21) (h22 : U.cell? p22 = some v22) (h23 : U.cell? p23 = some v23) (h24 : U.cell? p24 = some v24) : U.drew.cell? p0 = some v0 ∧ U.drew.cell? p1 = some v1 ∧ U.drew.cell? p2 = some v2 ∧ U.drew.cell? p3 = some v3 ∧ U.drew.cell? p4 = some v4 ∧ U.drew.cell? p5 = some v5 ∧ U.drew.cell? p6 = some v6 ∧ U.drew.cell? p7 = some v7 ∧ U.drew.cell? p8 = some v8 ∧ U.drew.cell? p9 = some v9 ∧ U.drew.cell? p10 = some v10 ∧ U.drew.cell? p11 = some v11 ∧ U.drew.cell? p12 = some v12 ∧ U.drew.cell? p13 = some v13 ∧ U.drew.cell? p14 = some v14 ∧ U.drew.cell? p15 = some v15 ∧ U.drew.cell? p16 = some v16 ∧ U.drew.cell? p17 = some v17 ∧ U.drew.cell? p18 = some v18 ∧ U.drew.cell? p19 = some v19 ∧ U.drew.cell? p20 = some v20 ∧ U.drew.cell? p21 = some v21 ∧ U.drew.cell? p22 = some v22 ∧ U.drew.cell? p23 = some v23 ∧ U.drew.cell? p24 = some v24 ∧ Below U.heap.size U U.drew := ⟨h0, h1, h2, h3, h4, h5, h6, h7, h8, h9, h10, h11, h12, h13, h14, h15, h16, h17, h18, h19, h20, h21, h22, h23, h24, (Below.refl _ _).drew⟩
set_option maxHeartbeats 16000000 in
set_option maxRecDepth 100000 in
theorem doctells_main (c : Ch) (A A2 : Option Addr) (n cp n2 cp2 : Nat) (s : List UInt8) (w : World) (h : Pairs w A n c.ts) (hv : Ivs w A2 n2 c.v) (hn : n ≤ 100) (hn2 : n2 ≤ 20) (hs : s.length ≤ 1000) :
    Calls Try.prog 3 #[chV c (.slice A n cp) (.slice A2 n2 cp2), .string (ofBytes s)] w fun e w' => e = .returned (.bool true) ∧ Below w.heap.size w w' := by
  have H := Lib.hid h
  have HV := Lib.hid hv
  have FW := Lib.hid (fun W => few_any c A A2 n n2 cp cp2 W)
  have PR := Lib.hid (fun W (hW : Below w.heap.size w W) => print_any c A A2 n cp n2 cp2 W (H.out.later hW) (HV.out.later hW) (by omega))
  have RP := Lib.hid (fun W (hW : Below w.heap.size w W) => refprint10_any c A A2 n cp n2 cp2 W (H.out.later hW) (HV.out.later hW) (by omega) (by omega))
  have RG := Lib.hid (fun W (hW : Below w.heap.size w W) => right_any c A A2 n cp n2 cp2 W (H.out.later hW) (HV.out.later hW) (by omega))
  have RR := Lib.hid (fun W (hW : Below w.heap.size w W) => refright10_any c A A2 n cp n2 cp2 W (H.out.later hW) (HV.out.later hW) (by omega) (by omega))
  have hfew : fewB n n2 = true := by unfold fewB; rw [decide_eq_true hn, decide_eq_true hn2]; rfl
  rw [hfew] at FW
  unfold prA at PR RP
  obtain ⟨sq, hsq⟩ : ∃ q, q = ofBytes (if rightC c = 0 then prB c else []) := ⟨_, rfl⟩
  rw [← hsq] at PR RP
  obtain ⟨rc, hrc⟩ : ∃ x, x = rightC c := ⟨_, rfl⟩
  rw [← hrc] at PR RP RG RR
  obtain ⟨N, hN⟩ : ∃ N, N = s.length := ⟨_, rfl⟩
  have hsz : (ofBytes s).size = N := by rw [size_ofBytes, hN]
  have hd : decide ((1000 : Int) < (N : Int)) = false := decide_eq_false (by omega)
  unfold chV at FW PR RP RG RR ⊢
  obtain ⟨d, ts, v, tg, gn⟩ := c
  simp only at H HV FW PR RP RG RR ⊢
  clear h hv hfew hsq hrc
  have PX := Lib.hid (fun W => parse_any' W s (by omega))
  have PY := Lib.hid (fun W => refparse10_any W s (by omega))
  have NW := Lib.hid (fun W => rnew_any W s (by omega))
  have RZ := Lib.hid (fun W b hW => read_any' W b s (by omega) hW)
  have RW := Lib.hid (fun W => refread10_any W s (by omega))
  have HN := Lib.hid hN
  clear hN hs
  obtain ⟨str, hstr⟩ : ∃ q, q = ofBytes s := ⟨_, rfl⟩
  rw [← hstr] at PX PY NW RW hsz ⊢
  clear hstr
  go_enter Try.func3, Try.ntmps3
  go_wp2_with fail
  obtain ⟨B2, hB2⟩ : ∃ B, B = w.heap.size := ⟨_, rfl⟩
  rw [← hB2]
  have CX : Hid (Bx (w.alloc (.cells #[.int .i64 d, .slice A n cp, .slice A2 n2 cp2, .int .i64 tg, .bool gn] 27)) B2 #[.int .i64 d, .slice A n cp, .slice A2 n2 cp2, .int .i64 tg, .bool gn]) := Lib.hid (by
    subst hB2
    exact heap_alloc_new w _)
  have BB := Lib.hid (pl1 w (.cells #[.int .i64 d, .slice A n cp, .slice A2 n2 cp2, .int .i64 tg, .bool gn] 27))
  clear hB2
  generalize (w.alloc (.cells #[.int .i64 d, .slice A n cp, .slice A2 n2 cp2, .int .i64 tg, .bool gn] 27)) = w0 at CX BB ⊢
  refine (awake10_any _).mono ?_
  rintro e w1 ⟨rfl, hb⟩
  have CX := Lib.hid (CX.out.later hb)
  have BB := Lib.hid (BB.out.trans (hb.mono BB.out.size))
  clear hb
  have c0 := CX.out.at_ 0 rfl
  have c1 := CX.out.at_ 1 rfl
  have c2 := CX.out.at_ 2 rfl
  have c3 := CX.out.at_ 3 rfl
  have c4 := CX.out.at_ 4 rfl
  go_wp2_with fail
  refine (FW.out _).mono ?_
  rintro e w2 ⟨rfl, hb⟩
  have CX := Lib.hid (CX.out.later hb)
  have BB := Lib.hid (BB.out.trans (hb.mono BB.out.size))
  clear hb c0 c1 c2 c3 c4 FW
  have c0 := CX.out.at_ 0 rfl
  have c1 := CX.out.at_ 1 rfl
  have c2 := CX.out.at_ 2 rfl
  have c3 := CX.out.at_ 3 rfl
  have c4 := CX.out.at_ 4 rfl
  go_wp2_with fail
  refine (PR.out _ BB.out).mono ?_
  rintro e w3 ⟨rfl, hb⟩
  have CX := Lib.hid (CX.out.later hb)
  have BB := Lib.hid (BB.out.trans (hb.mono BB.out.size))
  clear hb c0 c1 c2 c3 c4 PR
  have c0 := CX.out.at_ 0 rfl
  have c1 := CX.out.at_ 1 rfl
  have c2 := CX.out.at_ 2 rfl
  have c3 := CX.out.at_ 3 rfl
  have c4 := CX.out.at_ 4 rfl
  go_wp2_with fail
  refine (of_lit _ _ _ _ _ _ _ _ _ _).mono ?_
  rintro e w4 ⟨rfl, hb⟩
  have CX := Lib.hid (CX.out.later hb)
  have BB := Lib.hid (BB.out.trans (hb.mono BB.out.size))
  clear hb c0 c1 c2 c3 c4
  go_wp2_with fail
  refine (RP.out _ BB.out).mono ?_
  rintro e w5 ⟨rfl, hb⟩
  have CX := Lib.hid (CX.out.later hb)
  have BB := Lib.hid (BB.out.trans (hb.mono BB.out.size))
  clear hb RP
  go_wp2_with fail
  refine (PX.out _).mono ?_
  rintro e w6 ⟨⟨T9, V9, rfl, hT, hV, _, _⟩, hb⟩
  have CX := Lib.hid (CX.out.later hb)
  have BB := Lib.hid (BB.out.trans (hb.mono BB.out.size))
  clear hb PX
  obtain ⟨hp1, hp2⟩ := paV_small s
  obtain ⟨cx, hcx⟩ : ∃ q, q = paV s := ⟨_, rfl⟩
  rw [← hcx] at hT hV hp1 hp2 PY ⊢
  obtain ⟨pc, hpc⟩ : ∃ q, q = paC s := ⟨_, rfl⟩
  rw [← hpc] at PY ⊢
  clear hcx hpc
  obtain ⟨dx, xts, xv, tx, gx⟩ := cx
  unfold chV at PY ⊢
  simp only at hT hV hp1 hp2 PY ⊢
  obtain ⟨A9, cp9, rfl, _, _, hP⟩ := hT
  obtain ⟨E9, ep9, rfl, hI⟩ := hV
  obtain ⟨nx, hnx⟩ : ∃ q, q = xts.length := ⟨_, rfl⟩
  obtain ⟨mx, hmx⟩ : ∃ q, q = xv.length := ⟨_, rfl⟩
  rw [← hnx] at hP hp1 ⊢
  rw [← hmx] at hI hp2 ⊢
  have P9 := Lib.hid hP
  have I9 := Lib.hid hI
  have HNX := Lib.hid hnx
  have HMX := Lib.hid hmx
  clear hP hI hnx hmx
  go_wp2_with fail
  obtain ⟨B9, hB9⟩ : ∃ B, B = w6.heap.size := ⟨_, rfl⟩
  rw [← hB9]
  have hb := pl1 w6 (.cells #[.int .i64 dx, .slice A9 nx cp9, .slice E9 mx ep9, .int .i64 tx, .bool gx] 27)
  have X9 : Hid (Bx (w6.alloc (.cells #[.int .i64 dx, .slice A9 nx cp9, .slice E9 mx ep9, .int .i64 tx, .bool gx] 27)) B9 #[.int .i64 dx, .slice A9 nx cp9, .slice E9 mx ep9, .int .i64 tx, .bool gx]) := Lib.hid (by
    subst hB9
    exact heap_alloc_new w6 _)
  have CX := Lib.hid (CX.out.later hb)
  have P9 := Lib.hid (P9.out.later hb)
  have I9 := Lib.hid (I9.out.later hb)
  have BB := Lib.hid (BB.out.trans (hb.mono BB.out.size))
  clear hb hB9
  generalize (w6.alloc (.cells #[.int .i64 dx, .slice A9 nx cp9, .slice E9 mx ep9, .int .i64 tx, .bool gx] 27)) = w6b at X9 CX P9 I9 BB ⊢
  refine (PY.out _).mono ?_
  rintro e w7 ⟨⟨T11, V11, rfl, hT, hV⟩, hb⟩
  have CX := Lib.hid (CX.out.later hb)
  have P9 := Lib.hid (P9.out.later hb)
  have I9 := Lib.hid (I9.out.later hb)
  have X9 := Lib.hid (X9.out.later hb)
  have BB := Lib.hid (BB.out.trans (hb.mono BB.out.size))
  clear hb PY
  obtain ⟨A11, cp11, rfl, _, _, hP⟩ := hT
  obtain ⟨E11, ep11, rfl, hI⟩ := hV
  rw [← HNX.out] at hP ⊢
  rw [← HMX.out] at hI ⊢
  have P11 := Lib.hid hP
  have I11 := Lib.hid hI
  clear hP hI
  go_wp2_with fail
  obtain ⟨B11, hB11⟩ : ∃ B, B = w7.heap.size := ⟨_, rfl⟩
  rw [← hB11]
  have hb := pl1 w7 (.cells #[.int .i64 dx, .slice A11 nx cp11, .slice E11 mx ep11, .int .i64 tx, .bool gx] 36)
  have Y11 : Hid (Br (w7.alloc (.cells #[.int .i64 dx, .slice A11 nx cp11, .slice E11 mx ep11, .int .i64 tx, .bool gx] 36)) B11 #[.int .i64 dx, .slice A11 nx cp11, .slice E11 mx ep11, .int .i64 tx, .bool gx]) := Lib.hid (by
    subst hB11
    exact heap_alloc_new w7 _)
  have CX := Lib.hid (CX.out.later hb)
  have P9 := Lib.hid (P9.out.later hb)
  have I9 := Lib.hid (I9.out.later hb)
  have X9 := Lib.hid (X9.out.later hb)
  have P11 := Lib.hid (P11.out.later hb)
  have I11 := Lib.hid (I11.out.later hb)
  have BB := Lib.hid (BB.out.trans (hb.mono BB.out.size))
  clear hb hB11
  generalize (w7.alloc (.cells #[.int .i64 dx, .slice A11 nx cp11, .slice E11 mx ep11, .int .i64 tx, .bool gx] 36)) = w7b at Y11 CX P9 I9 X9 P11 I11 BB ⊢
  refine (NW.out _).mono ?_
  rintro e w8 ⟨r, rfl, hrn, hrd, hb7⟩
  have HB7 := Lib.hid hb7
  have HRN := Lib.hid hrn
  clear hb7 hrn NW
  go_wp2_with fail
  refine (RZ.out _ _ hrd).mono ?_
  rintro e w9 ⟨⟨T14, V14, s', bad', rfl, hT, hV, hrd, hs', _, _⟩, hgr⟩
  have hb := below_rd HB7.out HRN.out hgr
  have CX := Lib.hid (CX.out.later hb)
  have P9 := Lib.hid (P9.out.later hb)
  have I9 := Lib.hid (I9.out.later hb)
  have X9 := Lib.hid (X9.out.later hb)
  have P11 := Lib.hid (P11.out.later hb)
  have I11 := Lib.hid (I11.out.later hb)
  have Y11 := Lib.hid (Y11.out.later hb)
  have BB := Lib.hid (BB.out.trans (hb.mono BB.out.size))
  have RDZ := Lib.hid hrd
  have HSZ := Lib.hid hs'
  clear hb HB7 HRN hgr hrd hs' RZ
  obtain ⟨hq1, hq2⟩ := rdV_small s
  obtain ⟨cz, hcz⟩ : ∃ q, q = rdV s := ⟨_, rfl⟩
  rw [← hcz] at hT hV hq1 hq2 RW ⊢
  obtain ⟨ok, hok⟩ : ∃ q, q = rdK s := ⟨_, rfl⟩
  rw [← hok] at HSZ RW ⊢
  obtain ⟨rs, hrs⟩ : ∃ q, q = rdS s := ⟨_, rfl⟩
  rw [← hrs] at HSZ RW
  clear hcz hok hrs
  obtain ⟨dz, zts, zv, tz, gz⟩ := cz
  unfold chV at RW ⊢
  simp only at hT hV hq1 hq2 RW ⊢
  obtain ⟨A14, cp14, rfl, _, _, hP⟩ := hT
  obtain ⟨E14, ep14, rfl, hI⟩ := hV
  obtain ⟨nz, hnz⟩ : ∃ q, q = zts.length := ⟨_, rfl⟩
  obtain ⟨mz, hmz⟩ : ∃ q, q = zv.length := ⟨_, rfl⟩
  rw [← hnz] at hP hq1 ⊢
  rw [← hmz] at hI hq2 ⊢
  have P14 := Lib.hid hP
  have I14 := Lib.hid hI
  have HNZ := Lib.hid hnz
  have HMZ := Lib.hid hmz
  clear hP hI hnz hmz
  go_wp2_with fail
  obtain ⟨B14, hB14⟩ : ∃ B, B = w9.heap.size := ⟨_, rfl⟩
  rw [← hB14]
  have hb := pl1 w9 (.cells #[.int .i64 dz, .slice A14 nz cp14, .slice E14 mz ep14, .int .i64 tz, .bool gz] 27)
  have Z14 : Hid (Bx (w9.alloc (.cells #[.int .i64 dz, .slice A14 nz cp14, .slice E14 mz ep14, .int .i64 tz, .bool gz] 27)) B14 #[.int .i64 dz, .slice A14 nz cp14, .slice E14 mz ep14, .int .i64 tz, .bool gz]) := Lib.hid (by
    subst hB14
    exact heap_alloc_new w9 _)
  have CX := Lib.hid (CX.out.later hb)
  have P9 := Lib.hid (P9.out.later hb)
  have I9 := Lib.hid (I9.out.later hb)
  have X9 := Lib.hid (X9.out.later hb)
  have P11 := Lib.hid (P11.out.later hb)
  have I11 := Lib.hid (I11.out.later hb)
  have Y11 := Lib.hid (Y11.out.later hb)
  have RDZ := Lib.hid (RDZ.out.later hb)
  have P14 := Lib.hid (P14.out.later hb)
  have I14 := Lib.hid (I14.out.later hb)
  have BB := Lib.hid (BB.out.trans (hb.mono BB.out.size))
  clear hb hB14
  generalize (w9.alloc (.cells #[.int .i64 dz, .slice A14 nz cp14, .slice E14 mz ep14, .int .i64 tz, .bool gz] 27)) = w9b at Z14 CX P9 I9 X9 P11 I11 Y11 RDZ P14 I14 BB ⊢
  refine (RW.out _).mono ?_
  rintro e w10 ⟨⟨T16, V16, rfl, hT, hV, _, _⟩, hb⟩
  have CX := Lib.hid (CX.out.later hb)
  have P9 := Lib.hid (P9.out.later hb)
  have I9 := Lib.hid (I9.out.later hb)
  have X9 := Lib.hid (X9.out.later hb)
  have P11 := Lib.hid (P11.out.later hb)
  have I11 := Lib.hid (I11.out.later hb)
  have Y11 := Lib.hid (Y11.out.later hb)
  have RDZ := Lib.hid (RDZ.out.later hb)
  have P14 := Lib.hid (P14.out.later hb)
  have I14 := Lib.hid (I14.out.later hb)
  have Z14 := Lib.hid (Z14.out.later hb)
  have BB := Lib.hid (BB.out.trans (hb.mono BB.out.size))
  clear hb RW
  obtain ⟨A16, cp16, rfl, _, _, hP⟩ := hT
  obtain ⟨E16, ep16, rfl, hI⟩ := hV
  rw [← HNZ.out] at hP ⊢
  rw [← HMZ.out] at hI ⊢
  have P16 := Lib.hid hP
  have I16 := Lib.hid hI
  clear hP hI
  obtain ⟨rq, hrq⟩ : ∃ q, q = ofBytes rs := ⟨_, rfl⟩
  rw [← hrq]
  have HRQ := Lib.hid hrq
  clear hrq
  go_upto_region 12 with fail
  obtain ⟨B16, hB16⟩ : ∃ B, B = w10.heap.size := ⟨_, rfl⟩
  rw [← hB16]
  have hb := pl1 w10 (.cells #[.int .i64 dz, .slice A16 nz cp16, .slice E16 mz ep16, .int .i64 tz, .bool gz] 36)
  have V16 : Hid (Br (w10.alloc (.cells #[.int .i64 dz, .slice A16 nz cp16, .slice E16 mz ep16, .int .i64 tz, .bool gz] 36)) B16 #[.int .i64 dz, .slice A16 nz cp16, .slice E16 mz ep16, .int .i64 tz, .bool gz]) := Lib.hid (by
    subst hB16
    exact heap_alloc_new w10 _)
  have CX := Lib.hid (CX.out.later hb)
  have P9 := Lib.hid (P9.out.later hb)
  have I9 := Lib.hid (I9.out.later hb)
  have X9 := Lib.hid (X9.out.later hb)
  have P11 := Lib.hid (P11.out.later hb)
  have I11 := Lib.hid (I11.out.later hb)
  have Y11 := Lib.hid (Y11.out.later hb)
  have RDZ := Lib.hid (RDZ.out.later hb)
  have P14 := Lib.hid (P14.out.later hb)
  have I14 := Lib.hid (I14.out.later hb)
  have Z14 := Lib.hid (Z14.out.later hb)
  have P16 := Lib.hid (P16.out.later hb)
  have I16 := Lib.hid (I16.out.later hb)
  have BB := Lib.hid (BB.out.trans (hb.mono BB.out.size))
  clear hb hB16
  generalize (w10.alloc (.cells #[.int .i64 dz, .slice A16 nz cp16, .slice E16 mz ep16, .int .i64 tz, .bool gz] 36)) = w11 at V16 CX P9 I9 X9 P11 I11 Y11 RDZ P14 I14 Z14 P16 I16 BB ⊢
  have c0 := CX.out.at_ 0 rfl
  have c1 := CX.out.at_ 1 rfl
  have c2 := CX.out.at_ 2 rfl
  have c3 := CX.out.at_ 3 rfl
  have c4 := CX.out.at_ 4 rfl
  have x0 := X9.out.at_ 0 rfl
  have x1 := X9.out.at_ 1 rfl
  have x2 := X9.out.at_ 2 rfl
  have x3 := X9.out.at_ 3 rfl
  have x4 := X9.out.at_ 4 rfl
  have y0 := Y11.out.at_ 0 rfl
  have y1 := Y11.out.at_ 1 rfl
  have y2 := Y11.out.at_ 2 rfl
  have y3 := Y11.out.at_ 3 rfl
  have y4 := Y11.out.at_ 4 rfl
  have z0 := Z14.out.at_ 0 rfl
  have z1 := Z14.out.at_ 1 rfl
  have z2 := Z14.out.at_ 2 rfl
  have z3 := Z14.out.at_ 3 rfl
  have z4 := Z14.out.at_ 4 rfl
  have v0 := V16.out.at_ 0 rfl
  have v1 := V16.out.at_ 1 rfl
  have v2 := V16.out.at_ 2 rfl
  have v3 := V16.out.at_ 3 rfl
  have v4 := V16.out.at_ 4 rfl
  have K1 := Lib.hid (fun W (hS : W.cell? ⟨B2, 0, none⟩ = some (.int .i64 d) ∧ W.cell? ⟨B2, 1, none⟩ = some (.slice A n cp) ∧ W.cell? ⟨B2, 2, none⟩ = some (.slice A2 n2 cp2) ∧ W.cell? ⟨B2, 3, none⟩ = some (.int .i64 tg) ∧ W.cell? ⟨B2, 4, none⟩ = some (.bool gn) ∧ W.cell? ⟨B9, 0, none⟩ = some (.int .i64 dx) ∧ W.cell? ⟨B9, 1, none⟩ = some (.slice A9 nx cp9) ∧ W.cell? ⟨B9, 2, none⟩ = some (.slice E9 mx ep9) ∧ W.cell? ⟨B9, 3, none⟩ = some (.int .i64 tx) ∧ W.cell? ⟨B9, 4, none⟩ = some (.bool gx) ∧ W.cell? ⟨B11, 0, none⟩ = some (.int .i64 dx) ∧ W.cell? ⟨B11, 1, none⟩ = some (.slice A11 nx cp11) ∧ W.cell? ⟨B11, 2, none⟩ = some (.slice E11 mx ep11) ∧ W.cell? ⟨B11, 3, none⟩ = some (.int .i64 tx) ∧ W.cell? ⟨B11, 4, none⟩ = some (.bool gx) ∧ W.cell? ⟨B14, 0, none⟩ = some (.int .i64 dz) ∧ W.cell? ⟨B14, 1, none⟩ = some (.slice A14 nz cp14) ∧ W.cell? ⟨B14, 2, none⟩ = some (.slice E14 mz ep14) ∧ W.cell? ⟨B14, 3, none⟩ = some (.int .i64 tz) ∧ W.cell? ⟨B14, 4, none⟩ = some (.bool gz) ∧ W.cell? ⟨B16, 0, none⟩ = some (.int .i64 dz) ∧ W.cell? ⟨B16, 1, none⟩ = some (.slice A16 nz cp16) ∧ W.cell? ⟨B16, 2, none⟩ = some (.slice E16 mz ep16) ∧ W.cell? ⟨B16, 3, none⟩ = some (.int .i64 tz) ∧ W.cell? ⟨B16, 4, none⟩ = some (.bool gz) ∧ Below w11.heap.size w11 W) => RG.out W (BB.out.trans (hS.2.2.2.2.2.2.2.2.2.2.2.2.2.2.2.2.2.2.2.2.2.2.2.2.2.mono BB.out.size)))
  have K2 := Lib.hid (fun W (hS : W.cell? ⟨B2, 0, none⟩ = some (.int .i64 d) ∧ W.cell? ⟨B2, 1, none⟩ = some (.slice A n cp) ∧ W.cell? ⟨B2, 2, none⟩ = some (.slice A2 n2 cp2) ∧ W.cell? ⟨B2, 3, none⟩ = some (.int .i64 tg) ∧ W.cell? ⟨B2, 4, none⟩ = some (.bool gn) ∧ W.cell? ⟨B9, 0, none⟩ = some (.int .i64 dx) ∧ W.cell? ⟨B9, 1, none⟩ = some (.slice A9 nx cp9) ∧ W.cell? ⟨B9, 2, none⟩ = some (.slice E9 mx ep9) ∧ W.cell? ⟨B9, 3, none⟩ = some (.int .i64 tx) ∧ W.cell? ⟨B9, 4, none⟩ = some (.bool gx) ∧ W.cell? ⟨B11, 0, none⟩ = some (.int .i64 dx) ∧ W.cell? ⟨B11, 1, none⟩ = some (.slice A11 nx cp11) ∧ W.cell? ⟨B11, 2, none⟩ = some (.slice E11 mx ep11) ∧ W.cell? ⟨B11, 3, none⟩ = some (.int .i64 tx) ∧ W.cell? ⟨B11, 4, none⟩ = some (.bool gx) ∧ W.cell? ⟨B14, 0, none⟩ = some (.int .i64 dz) ∧ W.cell? ⟨B14, 1, none⟩ = some (.slice A14 nz cp14) ∧ W.cell? ⟨B14, 2, none⟩ = some (.slice E14 mz ep14) ∧ W.cell? ⟨B14, 3, none⟩ = some (.int .i64 tz) ∧ W.cell? ⟨B14, 4, none⟩ = some (.bool gz) ∧ W.cell? ⟨B16, 0, none⟩ = some (.int .i64 dz) ∧ W.cell? ⟨B16, 1, none⟩ = some (.slice A16 nz cp16) ∧ W.cell? ⟨B16, 2, none⟩ = some (.slice E16 mz ep16) ∧ W.cell? ⟨B16, 3, none⟩ = some (.int .i64 tz) ∧ W.cell? ⟨B16, 4, none⟩ = some (.bool gz) ∧ Below w11.heap.size w11 W) => RR.out W (BB.out.trans (hS.2.2.2.2.2.2.2.2.2.2.2.2.2.2.2.2.2.2.2.2.2.2.2.2.2.mono BB.out.size)))
  have K3 := Lib.hid (fun W (hS : W.cell? ⟨B2, 0, none⟩ = some (.int .i64 d) ∧ W.cell? ⟨B2, 1, none⟩ = some (.slice A n cp) ∧ W.cell? ⟨B2, 2, none⟩ = some (.slice A2 n2 cp2) ∧ W.cell? ⟨B2, 3, none⟩ = some (.int .i64 tg) ∧ W.cell? ⟨B2, 4, none⟩ = some (.bool gn) ∧ W.cell? ⟨B9, 0, none⟩ = some (.int .i64 dx) ∧ W.cell? ⟨B9, 1, none⟩ = some (.slice A9 nx cp9) ∧ W.cell? ⟨B9, 2, none⟩ = some (.slice E9 mx ep9) ∧ W.cell? ⟨B9, 3, none⟩ = some (.int .i64 tx) ∧ W.cell? ⟨B9, 4, none⟩ = some (.bool gx) ∧ W.cell? ⟨B11, 0, none⟩ = some (.int .i64 dx) ∧ W.cell? ⟨B11, 1, none⟩ = some (.slice A11 nx cp11) ∧ W.cell? ⟨B11, 2, none⟩ = some (.slice E11 mx ep11) ∧ W.cell? ⟨B11, 3, none⟩ = some (.int .i64 tx) ∧ W.cell? ⟨B11, 4, none⟩ = some (.bool gx) ∧ W.cell? ⟨B14, 0, none⟩ = some (.int .i64 dz) ∧ W.cell? ⟨B14, 1, none⟩ = some (.slice A14 nz cp14) ∧ W.cell? ⟨B14, 2, none⟩ = some (.slice E14 mz ep14) ∧ W.cell? ⟨B14, 3, none⟩ = some (.int .i64 tz) ∧ W.cell? ⟨B14, 4, none⟩ = some (.bool gz) ∧ W.cell? ⟨B16, 0, none⟩ = some (.int .i64 dz) ∧ W.cell? ⟨B16, 1, none⟩ = some (.slice A16 nz cp16) ∧ W.cell? ⟨B16, 2, none⟩ = some (.slice E16 mz ep16) ∧ W.cell? ⟨B16, 3, none⟩ = some (.int .i64 tz) ∧ W.cell? ⟨B16, 4, none⟩ = some (.bool gz) ∧ Below w11.heap.size w11 W) => refsame10_any ⟨dx, xts, xv, tx, gx⟩ A9 E9 A11 E11 nx mx nx mx cp9 ep9 cp11 ep11 W (P9.out.later hS.2.2.2.2.2.2.2.2.2.2.2.2.2.2.2.2.2.2.2.2.2.2.2.2.2) (I9.out.later hS.2.2.2.2.2.2.2.2.2.2.2.2.2.2.2.2.2.2.2.2.2.2.2.2.2) (P11.out.later hS.2.2.2.2.2.2.2.2.2.2.2.2.2.2.2.2.2.2.2.2.2.2.2.2.2) (I11.out.later hS.2.2.2.2.2.2.2.2.2.2.2.2.2.2.2.2.2.2.2.2.2.2.2.2.2) (by omega) (by omega))
  have K4 := Lib.hid (fun W (hS : W.cell? ⟨B2, 0, none⟩ = some (.int .i64 d) ∧ W.cell? ⟨B2, 1, none⟩ = some (.slice A n cp) ∧ W.cell? ⟨B2, 2, none⟩ = some (.slice A2 n2 cp2) ∧ W.cell? ⟨B2, 3, none⟩ = some (.int .i64 tg) ∧ W.cell? ⟨B2, 4, none⟩ = some (.bool gn) ∧ W.cell? ⟨B9, 0, none⟩ = some (.int .i64 dx) ∧ W.cell? ⟨B9, 1, none⟩ = some (.slice A9 nx cp9) ∧ W.cell? ⟨B9, 2, none⟩ = some (.slice E9 mx ep9) ∧ W.cell? ⟨B9, 3, none⟩ = some (.int .i64 tx) ∧ W.cell? ⟨B9, 4, none⟩ = some (.bool gx) ∧ W.cell? ⟨B11, 0, none⟩ = some (.int .i64 dx) ∧ W.cell? ⟨B11, 1, none⟩ = some (.slice A11 nx cp11) ∧ W.cell? ⟨B11, 2, none⟩ = some (.slice E11 mx ep11) ∧ W.cell? ⟨B11, 3, none⟩ = some (.int .i64 tx) ∧ W.cell? ⟨B11, 4, none⟩ = some (.bool gx) ∧ W.cell? ⟨B14, 0, none⟩ = some (.int .i64 dz) ∧ W.cell? ⟨B14, 1, none⟩ = some (.slice A14 nz cp14) ∧ W.cell? ⟨B14, 2, none⟩ = some (.slice E14 mz ep14) ∧ W.cell? ⟨B14, 3, none⟩ = some (.int .i64 tz) ∧ W.cell? ⟨B14, 4, none⟩ = some (.bool gz) ∧ W.cell? ⟨B16, 0, none⟩ = some (.int .i64 dz) ∧ W.cell? ⟨B16, 1, none⟩ = some (.slice A16 nz cp16) ∧ W.cell? ⟨B16, 2, none⟩ = some (.slice E16 mz ep16) ∧ W.cell? ⟨B16, 3, none⟩ = some (.int .i64 tz) ∧ W.cell? ⟨B16, 4, none⟩ = some (.bool gz) ∧ Below w11.heap.size w11 W) => refsame10_any ⟨dz, zts, zv, tz, gz⟩ A14 E14 A16 E16 nz mz nz mz cp14 ep14 cp16 ep16 W (P14.out.later hS.2.2.2.2.2.2.2.2.2.2.2.2.2.2.2.2.2.2.2.2.2.2.2.2.2) (I14.out.later hS.2.2.2.2.2.2.2.2.2.2.2.2.2.2.2.2.2.2.2.2.2.2.2.2.2) (P16.out.later hS.2.2.2.2.2.2.2.2.2.2.2.2.2.2.2.2.2.2.2.2.2.2.2.2.2) (I16.out.later hS.2.2.2.2.2.2.2.2.2.2.2.2.2.2.2.2.2.2.2.2.2.2.2.2.2) (by omega) (by omega))
  unfold chV at K3 K4
  simp only at K3 K4
  have RDZ := Lib.hid RDZ.out
  clear RG RR H HV P9 I9 P11 I11 P14 I14 P16 I16 CX X9 Y11 Z14 V16 HNX HMX HNZ HMZ hp1 hp2 hq1 hq2 hn hn2 hd hsz
  go_region_held3 (fun W => W.cell? ⟨B2, 0, none⟩ = some (.int .i64 d) ∧ W.cell? ⟨B2, 1, none⟩ = some (.slice A n cp) ∧ W.cell? ⟨B2, 2, none⟩ = some (.slice A2 n2 cp2) ∧ W.cell? ⟨B2, 3, none⟩ = some (.int .i64 tg) ∧ W.cell? ⟨B2, 4, none⟩ = some (.bool gn) ∧ W.cell? ⟨B9, 0, none⟩ = some (.int .i64 dx) ∧ W.cell? ⟨B9, 1, none⟩ = some (.slice A9 nx cp9) ∧ W.cell? ⟨B9, 2, none⟩ = some (.slice E9 mx ep9) ∧ W.cell? ⟨B9, 3, none⟩ = some (.int .i64 tx) ∧ W.cell? ⟨B9, 4, none⟩ = some (.bool gx) ∧ W.cell? ⟨B11, 0, none⟩ = some (.int .i64 dx) ∧ W.cell? ⟨B11, 1, none⟩ = some (.slice A11 nx cp11) ∧ W.cell? ⟨B11, 2, none⟩ = some (.slice E11 mx ep11) ∧ W.cell? ⟨B11, 3, none⟩ = some (.int .i64 tx) ∧ W.cell? ⟨B11, 4, none⟩ = some (.bool gx) ∧ W.cell? ⟨B14, 0, none⟩ = some (.int .i64 dz) ∧ W.cell? ⟨B14, 1, none⟩ = some (.slice A14 nz cp14) ∧ W.cell? ⟨B14, 2, none⟩ = some (.slice E14 mz ep14) ∧ W.cell? ⟨B14, 3, none⟩ = some (.int .i64 tz) ∧ W.cell? ⟨B14, 4, none⟩ = some (.bool gz) ∧ W.cell? ⟨B16, 0, none⟩ = some (.int .i64 dz) ∧ W.cell? ⟨B16, 1, none⟩ = some (.slice A16 nz cp16) ∧ W.cell? ⟨B16, 2, none⟩ = some (.slice E16 mz ep16) ∧ W.cell? ⟨B16, 3, none⟩ = some (.int .i64 tz) ∧ W.cell? ⟨B16, 4, none⟩ = some (.bool gz) ∧ Below w11.heap.size w11 W)
    ((first | exact k25 hb (by assumption) | exact k25D c0 c1 c2 c3 c4 x0 x1 x2 x3 x4 y0 y1 y2 y3 y4 z0 z1 z2 z3 z4 v0 v1 v2 v3 v4 | go_keep))
    (first
      | (go_at_call 9; ((with_reducible refine (of_lit _ _ _ _ _ _ _ _ _ _).mono ?_); rintro e wa ⟨rfl, hb⟩))
      | (go_at_call 15; ((with_reducible refine (K1.out _ (by assumption)).mono ?_); rintro e wb ⟨rfl, hb⟩))
      | (go_at_call 16; ((with_reducible refine (K2.out _ (by assumption)).mono ?_); rintro e wc ⟨rfl, hb⟩))
      | (go_at_call 17; first
          | ((with_reducible refine (K3.out _ (by assumption)).mono ?_); rintro e wd ⟨rfl, hb⟩)
          | ((with_reducible refine (K4.out _ (by assumption)).mono ?_); rintro e we ⟨rfl, hb⟩)))
  all_goals
    have hz : we.cell? ⟨B2, 0, none⟩ = some (.int .i64 d) ∧ we.cell? ⟨B2, 1, none⟩ = some (.slice A n cp) ∧ we.cell? ⟨B2, 2, none⟩ = some (.slice A2 n2 cp2) ∧ we.cell? ⟨B2, 3, none⟩ = some (.int .i64 tg) ∧ we.cell? ⟨B2, 4, none⟩ = some (.bool gn) ∧ we.cell? ⟨B9, 0, none⟩ = some (.int .i64 dx) ∧ we.cell? ⟨B9, 1, none⟩ = some (.slice A9 nx cp9) ∧ we.cell? ⟨B9, 2, none⟩ = some (.slice E9 mx ep9) ∧ we.cell? ⟨B9, 3, none⟩ = some (.int .i64 tx) ∧ we.cell? ⟨B9, 4, none⟩ = some (.bool gx) ∧ we.cell? ⟨B11, 0, none⟩ = some (.int .i64 dx) ∧ we.cell? ⟨B11, 1, none⟩ = some (.slice A11 nx cp11) ∧ we.cell? ⟨B11, 2, none⟩ = some (.slice E11 mx ep11) ∧ we.cell? ⟨B11, 3, none⟩ = some (.int .i64 tx) ∧ we.cell? ⟨B11, 4, none⟩ = some (.bool gx) ∧ we.cell? ⟨B14, 0, none⟩ = some (.int .i64 dz) ∧ we.cell? ⟨B14, 1, none⟩ = some (.slice A14 nz cp14) ∧ we.cell? ⟨B14, 2, none⟩ = some (.slice E14 mz ep14) ∧ we.cell? ⟨B14, 3, none⟩ = some (.int .i64 tz) ∧ we.cell? ⟨B14, 4, none⟩ = some (.bool gz) ∧ we.cell? ⟨B16, 0, none⟩ = some (.int .i64 dz) ∧ we.cell? ⟨B16, 1, none⟩ = some (.slice A16 nz cp16) ∧ we.cell? ⟨B16, 2, none⟩ = some (.slice E16 mz ep16) ∧ we.cell? ⟨B16, 3, none⟩ = some (.int .i64 tz) ∧ we.cell? ⟨B16, 4, none⟩ = some (.bool gz) ∧ Below w11.heap.size w11 we := by assumption
    have BZ := Lib.hid (BB.out.trans (hz.2.2.2.2.2.2.2.2.2.2.2.2.2.2.2.2.2.2.2.2.2.2.2.2.2.mono BB.out.size))
    have RDE := Lib.hid (RDZ.out.later hz.2.2.2.2.2.2.2.2.2.2.2.2.2.2.2.2.2.2.2.2.2.2.2.2.2)
    clear hz hb c0 c1 c2 c3 c4 x0 x1 x2 x3 x4 y0 y1 y2 y3 y4 z0 z1 z2 z3 z4 v0 v1 v2 v3 v4 K1 K2 K3 K4
    obtain ⟨M, hM⟩ : ∃ M, M = rs.length := ⟨_, rfl⟩
    have hrqs : rq.size = M := by rw [HRQ.out, size_ofBytes, hM]
    have HM := Lib.hid hM
    clear hM
    cases ok with
    | false =>
      go_wp2
      go_ret
      exact ⟨by simp, BZ.out⟩
    | true =>
      have hs1 : s'.length = M := by rw [HSZ.out rfl, HM.out]
      have HS1 := Lib.hid hs1
      clear hs1
      go_wp2_with fail
      refine (rleft_any _ r s' bad' RDE.out).mono ?_
      rintro e wf ⟨rfl, rfl⟩
      rw [HS1.out]
      go_wp2
      go_ret
      exact ⟨by simp, BZ.out⟩
end Go.Proofs.Ytdjbdhfellofoaa.Do
