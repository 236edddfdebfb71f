
/- DocBack, walked. -/
import Derived.Test.YtdjbdhfellofoaaDocU
namespace Go.Proofs.Ytdjbdhfellofoaa.DocM
open Go.Proofs.Ytdjbdhfellofoaa
theorem rdV_small (s : List UInt8) : (rdV s).ts.length ≤ 64 ∧ (rdV s).v.length ≤ 8 := by
  unfold rdV
  cases h : rdC s with
  | none => exact ⟨by simp [ch0], by simp [ch0]⟩
  | some x =>
    have : rawC s = some x := by
      unfold rdC at h
      cases hr : rawC s with
      | none => rw [hr] at h; cases h
      | some y =>
        rw [hr] at h
        simp only [Option.bind_some] at h
        split at h
        · rw [h]
        · cases h
    exact (raw_here (c := x.1) (t := x.2) this).2
theorem paV_small (s : List UInt8) : (paV s).ts.length ≤ 64 ∧ (paV s).v.length ≤ 8 := by
  unfold paV
  split
  · exact rdV_small s
  · exact ⟨by simp [ch0], by simp [ch0]⟩
/-- what is parsed of any bytes is printed to these -/
theorem pa_back {s : List UInt8} (h : paK s = true) : rightC (paV s) = 0 ∧ prB (paV s) = s := by
  rw [(Do.pa_yes h).1]
  unfold paK at h
  rw [Bool.and_eq_true, decide_eq_true_eq] at h
  obtain ⟨h1, h2⟩ := h
  cases hr : rdC s with
  | none =>
    rw [(rd_none hr).2.1] at h1
    cases h1
  | some x =>
    obtain ⟨c, t⟩ := x
    obtain ⟨e1, _, e3⟩ := rd_some hr
    obtain ⟨q1, q2⟩ := rd_here hr
    rw [e1]
    rw [e3] at h2
    subst h2
    rw [List.append_nil] at q1
    exact ⟨q2, q1.symm⟩
theorem bytes_eq {c d : Ch} (hc : rightC c = 0) (hd : rightC d = 0) (b : Bool) (hb : b = sameC c d) : ((ofBytes (prB c)).toList == (ofBytes (prB d)).toList) = b := by
  rw [hb, ByteArray.toList_eq, ByteArray.toList_eq, ofBytes_list, ofBytes_list]
  cases hs : sameC c d with
  | true =>
    obtain rfl := (same_iff c d).1 hs
    simp
  | false =>
    rw [beq_eq_false_iff_ne]
    intro e
    have h := (same_iff c d).2 (pr_inj hc hd e)
    rw [h] at hs
    cases hs
end Go.Proofs.Ytdjbdhfellofoaa.DocM
namespace Go.Proofs.Ytdjbdhfellofoaa.Do
open Go.RowKit Go.Proofs.Ytdjbdhfellofoaa DocM

theorem print_back (s : List UInt8) (w : World) (A A2 : Option Addr) (n cp n2 cp2 : Nat) (hk : paK s = true) (h : Pairs w A n (paV s).ts) (hv : Ivs w A2 n2 (paV s).v) (hn : n ≤ 1000000000) :
    Calls Try.prog 7 #[chV (paV s) (.slice A n cp) (.slice A2 n2 cp2)] w fun e w' => e = .returned (.tuple #[.string (ofBytes s), .int .i64 0]) ∧ Below w.heap.size w w' := by
  refine (print_any (paV s) A A2 n cp n2 cp2 w h hv hn).mono fun e w' ⟨h1, h2⟩ => ⟨?_, h2⟩
  obtain ⟨q1, q2⟩ := pa_back hk
  rw [h1]
  unfold prA
  rw [if_pos q1, q1, q2]
theorem read_there (c : Ch) (s : List UInt8) (w : World) (b : Nat) (hc : rightC c = 0) (hs : s.length ≤ 1000) (h : RD w b (prB c ++ s) false) :
    Calls Try.prog 13 #[.pointer (some ⟨b, 0, none⟩)] w fun e w' => (∃ T V bad', e = .returned (.tuple #[chV c T V, .bool true]) ∧ Prd w' T c.ts ∧ Vrd w' V c.v ∧ RD w' b s bad') ∧ w.grownBy w' (some b) := by
  have hl := prB_len hc
  refine (read_any' w b (prB c ++ s) (by rw [List.length_append]; omega) h).mono fun e w' ⟨⟨T, V, s', bad', h1, h2, h3, h4, h5, _, _⟩, h6⟩ => ?_
  obtain ⟨e1, e2, e3⟩ := rd_some (rd_there hc s)
  rw [e1, e2] at h1
  rw [e1] at h2 h3
  have h5 := h5 e2
  rw [e3] at h5
  subst h5
  exact ⟨⟨T, V, bad', h1, h2, h3, h4⟩, h6⟩
set_option maxHeartbeats 16000000 in
set_option maxRecDepth 100000 in
theorem docback_main (c d : Ch) (A A2 D D2 : Option Addr) (n cp n2 cp2 m dp m2 dp2 : Nat) (s : List UInt8) (w : World) (h : Pairs w A n c.ts) (hv : Ivs w A2 n2 c.v) (g : Pairs w D m d.ts) (gv : Ivs w D2 m2 d.v) (hn : n ≤ 100) (hn2 : n2 ≤ 20) (hm : m ≤ 100) (hm2 : m2 ≤ 20) (hs : s.length ≤ 1000) :
    Calls Try.prog 4 #[chV c (.slice A n cp) (.slice A2 n2 cp2), chV d (.slice D m dp) (.slice D2 m2 dp2), .string (ofBytes s)] w fun e w' => e = .returned (.bool true) ∧ Below w.heap.size w w' := by
  have H := Lib.hid h
  have HV := Lib.hid hv
  have G := Lib.hid g
  have GV := Lib.hid gv
  have hlen1 := h.1
  have hlen2 := hv.1
  have FC := Lib.hid (fun W => few_any c A A2 n n2 cp cp2 W)
  have FD := Lib.hid (fun W => few_any d D D2 m m2 dp dp2 W)
  have PC := Lib.hid (fun W (hW : Below w.heap.size w W) => print_any c A A2 n cp n2 cp2 W (H.out.later hW) (HV.out.later hW) (by omega))
  have PD := Lib.hid (fun W (hW : Below w.heap.size w W) => print_any d D D2 m dp m2 dp2 W (G.out.later hW) (GV.out.later hW) (by omega))
  have RG := Lib.hid (fun W (hW : Below w.heap.size w W) => right_any c A A2 n cp n2 cp2 W (H.out.later hW) (HV.out.later hW) (by omega))
  have SX := Lib.hid (fun W A' A2' p' p2' (hW : Below w.heap.size w W) (hx : Pairs W A' n c.ts) (hx2 : Ivs W A2' n2 c.v) => dsame_any c c A' A2' A A2 n n2 n n2 p' p2' cp cp2 W hx hx2 (H.out.later hW) (HV.out.later hW) (by omega) (by omega) (by omega) (by omega))
  have SD := Lib.hid (fun W (hW : Below w.heap.size w W) => dsame_any c d A A2 D D2 n n2 m m2 cp cp2 dp dp2 W (H.out.later hW) (HV.out.later hW) (G.out.later hW) (GV.out.later hW) (by omega) (by omega) (by omega) (by omega))
  rw [(same_iff c c).2 rfl] at SX
  have hfew : fewB n n2 = true := by unfold fewB; rw [decide_eq_true hn, decide_eq_true hn2]; rfl
  have hfew2 : fewB m m2 = true := by unfold fewB; rw [decide_eq_true hm, decide_eq_true hm2]; rfl
  rw [hfew] at FC
  rw [hfew2] at FD
  unfold prA at PC PD
  have RT := Lib.hid (fun (hc : rightC c = 0) W b hW => read_there c s W b hc hs hW)
  have NW := Lib.hid (fun (hc : rightC c = 0) W => rnew_any W (prB c ++ s) (by have := prB_len hc; rw [List.length_append]; omega))
  have SA : Hid (∀ (hc : rightC c = 0) W, (Op.stringOp .add (ofBytes (prB c)) (ofBytes s)).run Try.prog W = .ok (.string (ofBytes (prB c ++ s))) W) := Lib.hid (fun hc W => str_add (prB c) s (by have := prB_len hc; omega) (by omega) W)
  have HB : Hid (∀ b, b = sameC c d → rightC c = 0 → rightC d = 0 → ((ofBytes (prB c)).toList == (ofBytes (prB d)).toList) = b) := Lib.hid (fun b hb h1 h2 => bytes_eq h1 h2 b hb)
  obtain ⟨sq, hsq⟩ : ∃ q, q = ofBytes (if rightC c = 0 then prB c else []) := ⟨_, rfl⟩
  obtain ⟨uq, huq⟩ : ∃ q, q = ofBytes (if rightC d = 0 then prB d else []) := ⟨_, rfl⟩
  rw [← hsq] at PC
  rw [← huq] at PD
  obtain ⟨sm, hsm⟩ : ∃ q, q = sameC c d := ⟨_, rfl⟩
  rw [← hsm] at SD
  have HSM := Lib.hid hsm
  have HSQ := Lib.hid hsq
  have HUQ := Lib.hid huq
  obtain ⟨rc, hrc⟩ : ∃ x, x = rightC c := ⟨_, rfl⟩
  rw [← hrc] at PC RG
  obtain ⟨rd, hrd⟩ : ∃ x, x = rightC d := ⟨_, rfl⟩
  rw [← hrd] at PD
  have HRC := Lib.hid hrc
  have HRD := Lib.hid hrd
  obtain ⟨N, hN⟩ : ∃ N, N = s.length := ⟨_, rfl⟩
  have hsz : (ofBytes s).size = N := by rw [size_ofBytes, hN]
  have hd : decide ((1000 : Int) < (N : Int)) = false := decide_eq_false (by omega)
  have HN := Lib.hid hN
  have PX := Lib.hid (fun W => parse_any' W s (by omega))
  have PB := Lib.hid (fun (hk : paK s = true) W A n cp A2 n2 cp2 (h : Pairs W A n (paV s).ts) (hv : Ivs W A2 n2 (paV s).v) (hn : n ≤ 1000000000) => print_back s W A A2 n cp n2 cp2 hk h hv hn)
  obtain ⟨str, hstr⟩ : ∃ q, q = ofBytes s := ⟨_, rfl⟩
  rw [← hstr] at PX PB SA hsz ⊢
  unfold chV at FC FD PC PD RG SX SD RT ⊢
  obtain ⟨c0, hc0⟩ : ∃ x, x = c.doc := ⟨_, rfl⟩
  obtain ⟨c3, hc3⟩ : ∃ x, x = c.tags := ⟨_, rfl⟩
  obtain ⟨c4, hc4⟩ : ∃ x, x = c.gone := ⟨_, rfl⟩
  obtain ⟨d0, hd0⟩ : ∃ x, x = d.doc := ⟨_, rfl⟩
  obtain ⟨d3, hd3⟩ : ∃ x, x = d.tags := ⟨_, rfl⟩
  obtain ⟨d4, hd4⟩ : ∃ x, x = d.gone := ⟨_, rfl⟩
  rw [← hc0, ← hc3, ← hc4] at FC PC RG SX SD RT ⊢
  rw [← hd0, ← hd3, ← hd4] at FD PD SD ⊢
  have HL1 := Lib.hid hlen1
  have HL2 := Lib.hid hlen2
  clear h hv g gv hfew hfew2 hsq huq hsm hrc hrd hN hs hstr hc0 hc3 hc4 hd0 hd3 hd4 hlen1 hlen2 H HV G GV hn hn2 hm hm2
  go_enter Try.func4, Try.ntmps4
  go_wp2_with fail
  have hC : (w.alloc (.cells #[.int .i64 c0, .slice A n cp, .slice A2 n2 cp2, .int .i64 c3, .bool c4] 27)).heap.size = w.heap.size + 1 := by simp
  obtain ⟨B3, hB3⟩ : ∃ B, B = w.heap.size := ⟨_, rfl⟩
  obtain ⟨B4, hB4⟩ : ∃ B, B = w.heap.size + 1 := ⟨_, rfl⟩
  try rw [hC]
  rw [← hB4, ← hB3]
  have CX : Hid (Bx ((w.alloc (.cells #[.int .i64 c0, .slice A n cp, .slice A2 n2 cp2, .int .i64 c3, .bool c4] 27)).alloc (.cells #[.int .i64 d0, .slice D m dp, .slice D2 m2 dp2, .int .i64 d3, .bool d4] 27)) B3 #[.int .i64 c0, .slice A n cp, .slice A2 n2 cp2, .int .i64 c3, .bool c4]) := Lib.hid (by
    subst hB3
    have q : Bx (w.alloc (.cells #[.int .i64 c0, .slice A n cp, .slice A2 n2 cp2, .int .i64 c3, .bool c4] 27)) w.heap.size #[.int .i64 c0, .slice A n cp, .slice A2 n2 cp2, .int .i64 c3, .bool c4] := heap_alloc_new w _
    exact q.later (pl1 _ _))
  have DX : Hid (Bx ((w.alloc (.cells #[.int .i64 c0, .slice A n cp, .slice A2 n2 cp2, .int .i64 c3, .bool c4] 27)).alloc (.cells #[.int .i64 d0, .slice D m dp, .slice D2 m2 dp2, .int .i64 d3, .bool d4] 27)) B4 #[.int .i64 d0, .slice D m dp, .slice D2 m2 dp2, .int .i64 d3, .bool d4]) := Lib.hid (by
    have q : Bx ((w.alloc (.cells #[.int .i64 c0, .slice A n cp, .slice A2 n2 cp2, .int .i64 c3, .bool c4] 27)).alloc (.cells #[.int .i64 d0, .slice D m dp, .slice D2 m2 dp2, .int .i64 d3, .bool d4] 27)) (w.alloc (.cells #[.int .i64 c0, .slice A n cp, .slice A2 n2 cp2, .int .i64 c3, .bool c4] 27)).heap.size #[.int .i64 d0, .slice D m dp, .slice D2 m2 dp2, .int .i64 d3, .bool d4] := heap_alloc_new _ _
    rw [hC, ← hB4] at q
    exact q)
  have BB : Hid (Below w.heap.size w ((w.alloc (.cells #[.int .i64 c0, .slice A n cp, .slice A2 n2 cp2, .int .i64 c3, .bool c4] 27)).alloc (.cells #[.int .i64 d0, .slice D m dp, .slice D2 m2 dp2, .int .i64 d3, .bool d4] 27))) := Lib.hid ((pl1 w _).trans ((pl1 _ _).mono (by simp)))
  clear hB3 hB4 hC
  generalize ((w.alloc (.cells #[.int .i64 c0, .slice A n cp, .slice A2 n2 cp2, .int .i64 c3, .bool c4] 27)).alloc (.cells #[.int .i64 d0, .slice D m dp, .slice D2 m2 dp2, .int .i64 d3, .bool d4] 27)) = w0 at CX DX BB ⊢
  refine (awake10_any _).mono ?_
  rintro e w1 ⟨rfl, hb⟩
  have CX := Lib.hid (CX.out.later hb)
  have DX := Lib.hid (DX.out.later hb)
  have BB := Lib.hid (BB.out.trans (hb.mono BB.out.size))
  clear hb
  have q0 := CX.out.at_ 0 rfl
  have q1 := CX.out.at_ 1 rfl
  have q2 := CX.out.at_ 2 rfl
  have q3 := CX.out.at_ 3 rfl
  have q4 := CX.out.at_ 4 rfl
  go_wp2_with fail
  refine (FC.out _).mono ?_
  rintro e w2 ⟨rfl, hb⟩
  have CX := Lib.hid (CX.out.later hb)
  have DX := Lib.hid (DX.out.later hb)
  have BB := Lib.hid (BB.out.trans (hb.mono BB.out.size))
  clear hb q0 q1 q2 q3 q4 FC
  have q0 := DX.out.at_ 0 rfl
  have q1 := DX.out.at_ 1 rfl
  have q2 := DX.out.at_ 2 rfl
  have q3 := DX.out.at_ 3 rfl
  have q4 := DX.out.at_ 4 rfl
  go_wp2_with fail
  refine (FD.out _).mono ?_
  rintro e w3 ⟨rfl, hb⟩
  have CX := Lib.hid (CX.out.later hb)
  have DX := Lib.hid (DX.out.later hb)
  have BB := Lib.hid (BB.out.trans (hb.mono BB.out.size))
  clear hb q0 q1 q2 q3 q4 FD
  go_wp2_with fail
  refine (PX.out _).mono ?_
  rintro e w6 ⟨⟨T9, V9, rfl, hT, hV, _, _⟩, hb⟩
  have CX := Lib.hid (CX.out.later hb)
  have DX := Lib.hid (DX.out.later hb)
  have BB := Lib.hid (BB.out.trans (hb.mono BB.out.size))
  clear hb PX hd
  obtain ⟨hp1, hp2⟩ := paV_small s
  obtain ⟨cx, hcx⟩ : ∃ q, q = paV s := ⟨_, rfl⟩
  rw [← hcx] at hT hV hp1 hp2 PB ⊢
  obtain ⟨pc, hpc⟩ : ∃ q, q = paC s := ⟨_, rfl⟩
  rw [← hpc]
  have HPC := Lib.hid hpc
  clear hcx hpc
  obtain ⟨dx, xts, xv, tx, gx⟩ := cx
  unfold chV at PB ⊢
  simp only at hT hV hp1 hp2 PB ⊢
  obtain ⟨A9, cp9, rfl, _, _, hP⟩ := hT
  obtain ⟨E9, ep9, rfl, hI⟩ := hV
  obtain ⟨nx, hnx⟩ : ∃ q, q = xts.length := ⟨_, rfl⟩
  obtain ⟨mx, hmx⟩ : ∃ q, q = xv.length := ⟨_, rfl⟩
  rw [← hnx] at hP hp1 ⊢
  rw [← hmx] at hI hp2 ⊢
  have P9 := Lib.hid hP
  have I9 := Lib.hid hI
  clear hP hI hnx hmx
  go_upto_if 39 with fail
  obtain ⟨B9, hB9⟩ : ∃ B, B = w6.heap.size := ⟨_, rfl⟩
  rw [← hB9]
  have hb := pl1 w6 (.cells #[.int .i64 dx, .slice A9 nx cp9, .slice E9 mx ep9, .int .i64 tx, .bool gx] 27)
  have X9 : Hid (Bx (w6.alloc (.cells #[.int .i64 dx, .slice A9 nx cp9, .slice E9 mx ep9, .int .i64 tx, .bool gx] 27)) B9 #[.int .i64 dx, .slice A9 nx cp9, .slice E9 mx ep9, .int .i64 tx, .bool gx]) := Lib.hid (by
    subst hB9
    exact heap_alloc_new w6 _)
  have CX := Lib.hid (CX.out.later hb)
  have DX := Lib.hid (DX.out.later hb)
  have P9 := Lib.hid (P9.out.later hb)
  have I9 := Lib.hid (I9.out.later hb)
  have BB := Lib.hid (BB.out.trans (hb.mono BB.out.size))
  clear hb hB9
  generalize (w6.alloc (.cells #[.int .i64 dx, .slice A9 nx cp9, .slice E9 mx ep9, .int .i64 tx, .bool gx] 27)) = w7 at CX DX X9 P9 I9 BB ⊢
  have HP1 := Lib.hid hp1
  have HSZ := Lib.hid hsz
  clear hp1 hp2 hsz
  go_cut [] (fun wx => Below w7.heap.size w7 wx)
  case first =>
    have x0 := X9.out.at_ 0 rfl
    have x1 := X9.out.at_ 1 rfl
    have x2 := X9.out.at_ 2 rfl
    have x3 := X9.out.at_ 3 rfl
    have x4 := X9.out.at_ 4 rfl
    by_cases hk : paK s = true
    · obtain rfl : pc = 0 := HPC.out.trans (pa_yes hk).2
      have PQ := Lib.hid (fun W (hW : Below w7.heap.size w7 W) => PB.out hk W A9 nx cp9 E9 mx ep9 (P9.out.later hW) (I9.out.later hW) (by have := HP1.out; omega))
      clear hk
      go_wp2_with fail
      refine (PQ.out _ (Below.refl _ _)).mono ?_
      rintro e w8 ⟨rfl, hb⟩
      have HBQ := Lib.hid hb
      clear hb x0 x1 x2 x3 x4
      go_wp2_with fail
      go_meet
      exact HBQ.out
    · obtain rfl : pc = 2 := HPC.out.trans (pa_no (by simpa using hk)).2
      clear hk
      go_wp2_with fail
      go_meet
      exact Below.refl _ _
  case rest =>
    have CX := Lib.hid (CX.out.later hcut)
    have DX := Lib.hid (DX.out.later hcut)
    have BB := Lib.hid (BB.out.trans (hcut.mono BB.out.size))
    clear hcut X9 P9 I9 PB HPC HP1
    have q0 := CX.out.at_ 0 rfl
    have q1 := CX.out.at_ 1 rfl
    have q2 := CX.out.at_ 2 rfl
    have q3 := CX.out.at_ 3 rfl
    have q4 := CX.out.at_ 4 rfl
    go_wp2_with fail
    refine (PC.out _ BB.out).mono ?_
    rintro e w8 ⟨rfl, hb⟩
    have CX := Lib.hid (CX.out.later hb)
    have DX := Lib.hid (DX.out.later hb)
    have BB := Lib.hid (BB.out.trans (hb.mono BB.out.size))
    clear hb q0 q1 q2 q3 q4 PC
    have q0 := DX.out.at_ 0 rfl
    have q1 := DX.out.at_ 1 rfl
    have q2 := DX.out.at_ 2 rfl
    have q3 := DX.out.at_ 3 rfl
    have q4 := DX.out.at_ 4 rfl
    go_wp2_with fail
    refine (PD.out _ BB.out).mono ?_
    rintro e w9 ⟨rfl, hb⟩
    have CX := Lib.hid (CX.out.later hb)
    have DX := Lib.hid (DX.out.later hb)
    have BB := Lib.hid (BB.out.trans (hb.mono BB.out.size))
    clear hb q0 q1 q2 q3 q4 PD
    have q0 := CX.out.at_ 0 rfl
    have q1 := CX.out.at_ 1 rfl
    have q2 := CX.out.at_ 2 rfl
    have q3 := CX.out.at_ 3 rfl
    have q4 := CX.out.at_ 4 rfl
    by_cases hc : rightC c = 0
    · obtain rfl : rc = 0 := HRC.out.trans hc
      have hsq : sq = ofBytes (prB c) := by rw [HSQ.out, if_pos hc]
      have SA := Lib.hid (SA.out hc)
      have NW := Lib.hid (NW.out hc)
      have RT := Lib.hid (RT.out hc)
      have HEQ : Hid (rightC d = 0 → (sq.toList == uq.toList) = sm) := Lib.hid (fun h2 => by
        rw [hsq, HUQ.out, if_pos h2]
        exact HB.out sm HSM.out hc h2)
      obtain ⟨all, hall⟩ : ∃ q, q = prB c ++ s := ⟨_, rfl⟩
      rw [← hall] at SA NW RT
      rw [← hsq] at SA
      obtain ⟨aq, haq⟩ : ∃ q, q = ofBytes all := ⟨_, rfl⟩
      rw [← haq] at SA NW
      have SA' := SA.out
      clear hc hsq hall haq SA RG
      go_wp2_with fail
      refine (NW.out _).mono ?_
      rintro e w10 ⟨r, rfl, hrn, hrd, hb7⟩
      have HB7 := Lib.hid hb7
      have HRN := Lib.hid hrn
      clear hb7 hrn NW SA' q0 q1 q2 q3 q4
      go_wp2_with fail
      refine (RT.out _ _ hrd).mono ?_
      rintro e w11 ⟨⟨T14, V14, bad', rfl, hT, hV, hrd'⟩, hgr⟩
      have hb := below_rd HB7.out HRN.out hgr
      have CX := Lib.hid (CX.out.later hb)
      have DX := Lib.hid (DX.out.later hb)
      have BB := Lib.hid (BB.out.trans (hb.mono BB.out.size))
      have RDZ := Lib.hid hrd'
      clear hb HB7 HRN hgr hrd hrd' RT
      obtain ⟨A14, cp14, rfl, _, _, hP⟩ := hT
      obtain ⟨E14, ep14, rfl, hI⟩ := hV
      rw [HL1.out] at hP ⊢
      rw [HL2.out] at hI ⊢
      have P14 := Lib.hid hP
      have I14 := Lib.hid hI
      clear hP hI
      go_upto_region 16 with fail
      obtain ⟨B16, hB16⟩ : ∃ B, B = w11.heap.size := ⟨_, rfl⟩
      rw [← hB16]
      have hb := pl1 w11 (.cells #[.int .i64 c0, .slice A14 n cp14, .slice E14 n2 ep14, .int .i64 c3, .bool c4] 27)
      have X16 : Hid (Bx (w11.alloc (.cells #[.int .i64 c0, .slice A14 n cp14, .slice E14 n2 ep14, .int .i64 c3, .bool c4] 27)) B16 #[.int .i64 c0, .slice A14 n cp14, .slice E14 n2 ep14, .int .i64 c3, .bool c4]) := Lib.hid (by
        subst hB16
        exact heap_alloc_new w11 _)
      have CX := Lib.hid (CX.out.later hb)
      have DX := Lib.hid (DX.out.later hb)
      have P14 := Lib.hid (P14.out.later hb)
      have I14 := Lib.hid (I14.out.later hb)
      have RDZ := Lib.hid (RDZ.out.later hb)
      have BB := Lib.hid (BB.out.trans (hb.mono BB.out.size))
      clear hb hB16
      generalize (w11.alloc (.cells #[.int .i64 c0, .slice A14 n cp14, .slice E14 n2 ep14, .int .i64 c3, .bool c4] 27)) = w12 at CX DX X16 P14 I14 RDZ BB ⊢
      have q0 := CX.out.at_ 0 rfl
      have q1 := CX.out.at_ 1 rfl
      have q2 := CX.out.at_ 2 rfl
      have q3 := CX.out.at_ 3 rfl
      have q4 := CX.out.at_ 4 rfl
      have x0 := X16.out.at_ 0 rfl
      have x1 := X16.out.at_ 1 rfl
      have x2 := X16.out.at_ 2 rfl
      have x3 := X16.out.at_ 3 rfl
      have x4 := X16.out.at_ 4 rfl
      have SQ := Lib.hid (SX.out w12 A14 E14 cp14 ep14 BB.out P14.out I14.out)
      by_cases hdr : rightC d = 0
      · obtain rfl : rd = 0 := HRD.out.trans hdr
        have he := HEQ.out hdr
        clear hdr HEQ
        go_wp2_with fail
        refine SQ.out.mono ?_
        rintro e w13 ⟨rfl, hb⟩
        have CX := Lib.hid (CX.out.later hb)
        have DX := Lib.hid (DX.out.later hb)
        have RDZ := Lib.hid (RDZ.out.later hb)
        have BB := Lib.hid (BB.out.trans (hb.mono BB.out.size))
        clear hb q0 q1 q2 q3 q4 x0 x1 x2 x3 x4 SQ
        have q0 := CX.out.at_ 0 rfl
        have q1 := CX.out.at_ 1 rfl
        have q2 := CX.out.at_ 2 rfl
        have q3 := CX.out.at_ 3 rfl
        have q4 := CX.out.at_ 4 rfl
        have d0' := DX.out.at_ 0 rfl
        have d1' := DX.out.at_ 1 rfl
        have d2' := DX.out.at_ 2 rfl
        have d3' := DX.out.at_ 3 rfl
        have d4' := DX.out.at_ 4 rfl
        go_wp2_with fail
        refine (rleft_any _ r s bad' RDZ.out).mono ?_
        rintro e w14 ⟨rfl, rfl⟩
        rw [← HN.out]
        have hsz : str.size = N := HSZ.out
        go_wp2_with fail
        refine (SD.out _ BB.out).mono ?_
        rintro e w15 ⟨rfl, hb⟩
        have BB := Lib.hid (BB.out.trans (hb.mono BB.out.size))
        clear hb q0 q1 q2 q3 q4 d0' d1' d2' d3' d4'
        go_wp2
        go_ret
        exact ⟨by simp, BB.out⟩
      · have hne : (rd != 0) = true := by
          rw [HRD.out]
          simpa using hdr
        clear hdr HEQ
        go_wp2_with fail
        refine SQ.out.mono ?_
        rintro e w13 ⟨rfl, hb⟩
        have RDZ := Lib.hid (RDZ.out.later hb)
        have BB := Lib.hid (BB.out.trans (hb.mono BB.out.size))
        clear hb q0 q1 q2 q3 q4 x0 x1 x2 x3 x4 SQ
        go_wp2_with fail
        refine (rleft_any _ r s bad' RDZ.out).mono ?_
        rintro e w14 ⟨rfl, rfl⟩
        rw [← HN.out]
        have hsz : str.size = N := HSZ.out
        go_wp2
        go_ret
        exact ⟨by simp, BB.out⟩
    · have hne : (rc != 0) = true := by
        rw [HRC.out]
        simpa using hc
      have hq := empty_is [] true rfl
      have hsq : sq = ofBytes [] := by rw [HSQ.out, if_neg hc]
      rw [← hsq] at hq
      clear hc hsq
      go_wp2_with fail
      refine (RG.out _ BB.out).mono ?_
      rintro e w10 ⟨rfl, hb⟩
      have BB := Lib.hid (BB.out.trans (hb.mono BB.out.size))
      clear hb
      go_wp2
      go_ret
      exact ⟨by simp, BB.out⟩
end Go.Proofs.Ytdjbdhfellofoaa.Do
