
/- The document's side: what is found. -/
import Derived.Test.YtjdlocmchmeipaaDenseK
import Derived.Test.YtjdlocmchmeipaaTopL
import Derived.IntWalk
namespace Go.Proofs.Ytjdlocmchmeipaa
open Go.RowKit

set_option maxHeartbeats 2000000 in
set_option maxRecDepth 100000 in
theorem reffind7_prod (A1 A2 A4 : Option Addr) (n1 n2 n4 c1 c2 c4 : Nat) (q nl : List Int) (l : List (Int × List Int)) (k : Nat) (may : Int → Bool) (w : World) (h1 : 1 ≤ k) (h2 : k ≤ 1000) (hq : Ivs w A1 n1 q) (hr : Rws w A2 n2 l) (hnt : Ivs w A4 n4 nl) (hn1 : n1 ≤ 1000000) (hn2 : n2 ≤ 1000000) (hn4 : n4 ≤ 1000000) (hsh : ∀ r ∈ l, r.2.length ≤ 1000000) (hmay : ∀ d, may d = butB nl d) :
    Calls Try.prog 12 #[.int .i64 (mI false), .slice A1 n1 c1, .slice A2 n2 c2, .int .i64 k, .slice A4 n4 c4] w fun e w' => ∃ v', e = .returned (.tuple #[v', .int .i64 (fE (mI false) q l k)]) ∧ Prd w' v' (TopM.best k (fA (mI false) q l k may)) ∧ Below w.heap.size w w' := by
  have HRG := Lib.hid (refright7_any A1 n1 c1 q w hq hn1)
  obtain ⟨vq, hvq⟩ : ∃ v, v = DenM.vec q := ⟨_, rfl⟩
  rw [← hvq] at HRG
  have hd1 : decide ((k : Int) < 1) = false := decide_eq_false (by omega)
  have hd2 : decide ((1000 : Int) < (k : Int)) = false := decide_eq_false (by omega)
  have H := Lib.hid hr
  have HL := Lib.hid hr.1
  have HQ := Lib.hid hq
  have HNT := Lib.hid hnt
  have HNL := Lib.hid hnt.1
  have HSH := Lib.hid hsh
  have HVQ := Lib.hid hvq
  have HNQ := Lib.hid hn1
  have HFE : Hid (fE (mI false) q l k = if (DenM.vec q && DenM.rowsB l (-1)) = true then 0 else 2) := Lib.hid (by
    unfold fE
    rw [if_neg]
    rintro (h | h | h)
    · exact absurd h (by decide)
    · omega
    · omega)
  have HFA : Hid (DenM.vec q = true → DenM.rowsB l (-1) = true → fA (mI false) q l k may = DenM.vis false q may l) := Lib.hid (fun h1 h2 => by
    unfold fA
    rw [HFE.out, h1, h2]
    rfl)
  have HFN : Hid ((DenM.vec q && DenM.rowsB l (-1)) = false → fE (mI false) q l k = 2 ∧ fA (mI false) q l k may = []) := Lib.hid (fun h => by
    have e : fE (mI false) q l k = 2 := by rw [HFE.out, h]; rfl
    refine ⟨e, ?_⟩
    unfold fA
    rw [e]
    rfl)
  have HMAY := Lib.hid hmay
  clear hr hq hnt hsh hvq hn1 hmay
  unfold mI
  unfold mI at HFE HFA HFN
  cases vq with
  | false =>
    have HF := Lib.hid (HFN.out (by rw [← HVQ.out]; rfl))
    go_enter Try.func12, Try.ntmps12
    go_wp2_with fail
    refine HRG.out.mono ?_
    rintro e w3 ⟨rfl, hw3⟩
    have hw4 := hw3.symm
    subst hw4
    go_wp2
    go_ret2
    exact ⟨_, by rw [HF.out.1]; rfl, by rw [HF.out.2, TopM.best_nil]; exact prd_nil w, Below.refl _ _⟩
  | true =>
    go_enter Try.func12, Try.ntmps12
    go_wp2_with fail
    refine HRG.out.mono ?_
    rintro e w3 ⟨rfl, hw3⟩
    have hw4 := hw3.symm
    subst hw4
    go_wp2_with fail
    go_loopw [12, 13] (fun x y wr => ∃ (j : Nat) (last : Int) (vr : Value), x = vr ∧ y = .int .i64 j ∧ j ≤ n2 ∧ PairRow wr w.heap.size vr (DenM.vis false q may (l.take j)) ∧ Below w.heap.size w wr ∧ -1 ≤ last ∧ (j = 0 → last = -1) ∧ (∀ (h : j < l.length + 1) (h0 : 0 < j), last = (l[j - 1]'(by omega)).1) ∧ DenM.rowsB l (-1) = DenM.rowsB (l.drop j) last) (fun _ y _ => n2 - (intOf y).toNat)
    case atStart => exact ⟨0, -1, _, rfl, rfl, by omega, PairRow.nil_ _ _, Below.refl _ _, by omega, fun _ => rfl, fun _ h => by omega, rfl⟩
    case round =>
      obtain ⟨j, last, vrow, hvr, rfl, hj, hrow, hb, hl1, hl0, hlp, hrb⟩ := hrel
      have hvr2 := hvr.symm
      subst hvr2
      by_cases hlt : j < n2
      · have hmi : (j : Int) < (n2 : Int) := by omega
        have hjl : j < l.length := by rw [HL.out]; exact hlt
        have hR := H.out.later hb
        obtain ⟨b, o, A3, n3, c3, hAe, hbl, hc0, hc1', hI⟩ := hR.2 j hjl
        have hc1 := hc1'
        have hprev : ∀ p, j = p + 1 → wr.cell? ⟨b, o + p * 2, none⟩ = some (.int .i64 last) := fun p hp => by
          subst hp
          obtain ⟨b', o', _, _, _, e, _, h0, _, _⟩ := hR.2 p (by omega)
          rw [hAe] at e
          injection e with e
          injection e with e1 e2 _
          subst e1
          subst e2
          rw [h0, hlp (by omega) (by omega)]
          rfl
        subst hAe
        have HPV := Lib.hid hprev
        have HL0 := Lib.hid hl0
        clear hprev hl0
        rw [rowsB_next hjl] at hrb
        have hvs := DenM.vis_snoc false q may (l.take j) l[j]
        rw [← List.take_succ_eq_append_getElem hjl] at hvs
        have hn3 := HSH.out _ (List.getElem_mem hjl)
        rw [hI.1] at hn3
        have HRV := Lib.hid (fun W (hW : Below wr.heap.size wr W) => refright7_any A3 n3 c3 l[j].2 W (hI.later hW) (by omega))
        have HSC := Lib.hid (fun W (hW : Below wr.heap.size wr W) => refscore7_any (mI false) A1 A3 n1 n3 c1 c3 q l[j].2 W ((HQ.out.later hb).later hW) (hI.later hW) HNQ.out (by omega))
        have HNR := Lib.hid (HNT.out.later hb)
        unfold mI at HSC
        have hlp2 : (l[j + 1 - 1]'(by omega)).1 = l[j].1 := rfl
        have HLP2 := Lib.hid hlp2
        have HSV : Hid (DenM.vec l[j].2 = true → scV (mI false) q l[j].2 = DenM.score false q l[j].2) := Lib.hid (fun h => by
          unfold scV scE
          rw [← HVQ.out, h]
          rfl)
        unfold mI at HSV
        have hmd := HMAY.out l[j].1
        obtain ⟨d, hd⟩ : ∃ d, d = l[j].1 := ⟨_, rfl⟩
        obtain ⟨vv, hvv⟩ : ∃ v, v = DenM.vec l[j].2 := ⟨_, rfl⟩
        obtain ⟨sc, hsc⟩ : ∃ s, s = scV 0 q l[j].2 := ⟨_, rfl⟩
        obtain ⟨se, hse⟩ : ∃ s, s = scE 0 q l[j].2 := ⟨_, rfl⟩
        rw [← hd] at hc0 hrb hvs HLP2 hmd
        rw [← hvv] at hrb HRV HSV
        rw [← hsc, ← hse] at HSC
        rw [← hsc] at HSV
        have HRB := Lib.hid hrb
        have HVS := Lib.hid hvs
        have HB := Lib.hid hb
        have HROW := Lib.hid hrow
        have HMD := Lib.hid hmd
        have hbl3 := hbl
        have hsz : w.heap.size ≤ wr.heap.size := hb.size
        clear hd hvv hrb hvs hb hrow hI hsc hse hlp hlp2 hR hmd hc1 hbl3
        have hbad : ∀ t : Bool, DenM.rowsB l (-1) = false → t = true → fE 0 q l k = 2 ∧ fA 0 q l k may = [] := fun t h _ => HFN.out (by rw [h]; simp)
        have HBAD := Lib.hid hbad
        clear hbad
        have hbe : ∀ W, Below wr.heap.size wr W → Below w.heap.size w W := fun W hW => HB.out.trans (hW.mono hsz)
        have HBE := Lib.hid hbe
        clear hbe
        by_cases h1 : d < 0
        · have dd1 : decide (d < 0) = true := decide_eq_true h1
          have HF := Lib.hid (HBAD.out true (by rw [HRB.out, decide_eq_false (by omega)]; rfl) rfl)
          go_upto_region 10 with fail
          obtain ⟨U, hU⟩ : ∃ U, U = wr.alloc (.cells #[.int .i64 d, .slice A3 n3 c3] 63) := ⟨_, rfl⟩
          rw [← hU]
          have hbu := heap_alloc_new wr (.cells #[.int .i64 d, .slice A3 n3 c3] 63)
          rw [← hU] at hbu
          have HUB : Hid (Below wr.heap.size wr U) := Lib.hid (by rw [hU]; exact pl1 _ _)
          have u0 := cell_of_cells (i := 0) hbu rfl
          have u1 := cell_of_cells (i := 1) hbu rfl
          simp only [List.getElem_toArray, List.getElem_cons_zero, List.getElem_cons_succ] at u0 u1
          have HBU := Lib.hid hbu
          have HRQ := Lib.hid (fun n => HRV.out (U.drewN n) (HUB.out.trans ((below_drewN_p _ _).mono HUB.out.size)))
          try have kpu := (HUB.out.cell (p := ⟨b, o + p * 2, none⟩) hbl).trans kp
          clear hU hbu
          go_quiet ((first | (exact Calls.quiet_of_same (HRQ.out _))))
          have HUD : Hid (Below wr.heap.size wr (U.drewN nq)) := Lib.hid (HUB.out.trans ((below_drewN_p _ _).mono HUB.out.size))
          go_wp2
          go_ret2
          exact ⟨_, by rw [HF.out.1]; rfl, by rw [HF.out.2, TopM.best_nil]; exact prd_nil _, HBE.out _ HUD.out⟩
        · have dd1 : decide (d < 0) = false := decide_eq_false h1
          by_cases h2 : 2147483647 < d
          · have dd2 : decide (2147483647 < d) = true := decide_eq_true h2
            have HF := Lib.hid (HBAD.out true (by rw [HRB.out, decide_eq_false (show ¬ d ≤ 2147483647 by omega)]; simp) rfl)
            go_upto_region 10 with fail
            obtain ⟨U, hU⟩ : ∃ U, U = wr.alloc (.cells #[.int .i64 d, .slice A3 n3 c3] 63) := ⟨_, rfl⟩
            rw [← hU]
            have hbu := heap_alloc_new wr (.cells #[.int .i64 d, .slice A3 n3 c3] 63)
            rw [← hU] at hbu
            have HUB : Hid (Below wr.heap.size wr U) := Lib.hid (by rw [hU]; exact pl1 _ _)
            have u0 := cell_of_cells (i := 0) hbu rfl
            have u1 := cell_of_cells (i := 1) hbu rfl
            simp only [List.getElem_toArray, List.getElem_cons_zero, List.getElem_cons_succ] at u0 u1
            have HBU := Lib.hid hbu
            have HRQ := Lib.hid (fun n => HRV.out (U.drewN n) (HUB.out.trans ((below_drewN_p _ _).mono HUB.out.size)))
            try have kpu := (HUB.out.cell (p := ⟨b, o + p * 2, none⟩) hbl).trans kp
            clear hU hbu
            go_quiet ((first | (exact Calls.quiet_of_same (HRQ.out _))))
            have HUD : Hid (Below wr.heap.size wr (U.drewN nq)) := Lib.hid (HUB.out.trans ((below_drewN_p _ _).mono HUB.out.size))
            go_wp2
            go_ret2
            exact ⟨_, by rw [HF.out.1]; rfl, by rw [HF.out.2, TopM.best_nil]; exact prd_nil _, HBE.out _ HUD.out⟩
          · have dd2 : decide (2147483647 < d) = false := decide_eq_false h2
            cases vv with
            | false =>
              have HF := Lib.hid (HBAD.out true (by rw [HRB.out]; simp) rfl)
              go_upto_region 10 with fail
              obtain ⟨U, hU⟩ : ∃ U, U = wr.alloc (.cells #[.int .i64 d, .slice A3 n3 c3] 63) := ⟨_, rfl⟩
              rw [← hU]
              have hbu := heap_alloc_new wr (.cells #[.int .i64 d, .slice A3 n3 c3] 63)
              rw [← hU] at hbu
              have HUB : Hid (Below wr.heap.size wr U) := Lib.hid (by rw [hU]; exact pl1 _ _)
              have u0 := cell_of_cells (i := 0) hbu rfl
              have u1 := cell_of_cells (i := 1) hbu rfl
              simp only [List.getElem_toArray, List.getElem_cons_zero, List.getElem_cons_succ] at u0 u1
              have HBU := Lib.hid hbu
              have HRQ := Lib.hid (fun n => HRV.out (U.drewN n) (HUB.out.trans ((below_drewN_p _ _).mono HUB.out.size)))
              try have kpu := (HUB.out.cell (p := ⟨b, o + p * 2, none⟩) hbl).trans kp
              clear hU hbu
              go_quiet ((first | (exact Calls.quiet_of_same (HRQ.out _))))
              have HUD : Hid (Below wr.heap.size wr (U.drewN nq)) := Lib.hid (HUB.out.trans ((below_drewN_p _ _).mono HUB.out.size))
              go_wp2
              go_ret2
              exact ⟨_, by rw [HF.out.1]; rfl, by rw [HF.out.2, TopM.best_nil]; exact prd_nil _, HBE.out _ HUD.out⟩
            | true =>
              by_cases h0 : j = 0
              · have dj : decide ((0 : Int) < (j : Int)) = false := decide_eq_false (by omega)
                have dj2 : decide (0 < j) = false := decide_eq_false (by omega)
                have hld : last < d := by have := HL0.out h0; omega
                clear h0
                have HRB2 : Hid (DenM.rowsB l (-1) = DenM.rowsB (l.drop (j + 1)) d) := Lib.hid (by rw [HRB.out, decide_eq_true hld, decide_eq_true (show d ≤ 2147483647 by omega)]; rfl)
                go_upto_region 10 with fail
                obtain ⟨U, hU⟩ : ∃ U, U = wr.alloc (.cells #[.int .i64 d, .slice A3 n3 c3] 63) := ⟨_, rfl⟩
                rw [← hU]
                have hbu := heap_alloc_new wr (.cells #[.int .i64 d, .slice A3 n3 c3] 63)
                rw [← hU] at hbu
                have HUB : Hid (Below wr.heap.size wr U) := Lib.hid (by rw [hU]; exact pl1 _ _)
                have u0 := cell_of_cells (i := 0) hbu rfl
                have u1 := cell_of_cells (i := 1) hbu rfl
                simp only [List.getElem_toArray, List.getElem_cons_zero, List.getElem_cons_succ] at u0 u1
                have HBU := Lib.hid hbu
                have HRQ := Lib.hid (fun n => HRV.out (U.drewN n) (HUB.out.trans ((below_drewN_p _ _).mono HUB.out.size)))
                
                try have kpu := (HUB.out.cell (p := ⟨b, o + p * 2, none⟩) hbl).trans kp
                clear hU hbu
                go_quiet ((first | (exact Calls.quiet_of_same (HRQ.out _))))
                have HUD : Hid (Below wr.heap.size wr (U.drewN nq)) := Lib.hid (HUB.out.trans ((below_drewN_p _ _).mono HUB.out.size))
                have HU2 : Hid ((U.drewN nq).heap[wr.heap.size]? = some (.cells #[.int .i64 d, .slice A3 n3 c3] 63 (0, 0))) := Lib.hid (by exact blk_stay (below_drewN_p U _) HBU.out)
                try clear kpu
                clear u0 u1 HBU HUB HRQ
                generalize U.drewN nq = U2 at HUD HU2 ⊢
                clear nq U
                go_wp2_with fail
                go_loopw [15, 16] (fun x y W2 => ∃ i : Nat, x = .bool ((nl.take i).all (fun z => !(z == d))) ∧ y = .int .i64 i ∧ i ≤ n4 ∧ Below U2.heap.size U2 W2) (fun _ y _ => n4 - (intOf y).toNat)
                case atStart => exact ⟨0, rfl, rfl, by omega, Below.refl _ _⟩
                case round =>
                  obtain ⟨i, hxb, rfl, hi, hb2⟩ := hrel
                  obtain ⟨bb, hbb⟩ : ∃ b, b = (nl.take i).all (fun z => !(z == d)) := ⟨_, rfl⟩
                  rw [← hbb] at hxb
                  have hxb2 := hxb
                  subst hxb2
                  have HB2 := Lib.hid hb2
                  have HBB := Lib.hid hbb
                  have k2 := cell_of_cells (i := 0) (blk_stay hb2 HU2.out) rfl
                  simp only [List.getElem_toArray, List.getElem_cons_zero] at k2
                  by_cases hlt4 : i < n4
                  · have hmi4 : (i : Int) < (n4 : Int) := by omega
                    have hil : i < nl.length := by rw [HNL.out]; exact hlt4
                    obtain ⟨b5, o5, hA5, hl5, hc5⟩ := (HNR.out.later (HUD.out.trans (hb2.mono HUD.out.size))).2 i hil
                    obtain ⟨z, hz⟩ : ∃ z, z = nl[i] := ⟨_, rfl⟩
                    rw [← hz] at hc5
                    have hnx : (nl.take (i + 1)).all (fun z => !(z == d)) = (bb && !(z == d)) := by
                      rw [List.take_succ_eq_append_getElem hil, List.all_append, ← hbb, ← hz]
                      simp
                    have HNX := Lib.hid hnx
                    subst hA5
                    clear hbb hnx hz hb2 hxb
                    cases bb with
                    | false =>
                      go_wp2_with fail
                      go_quiet (fail)
                      go_wp2
                      go_roundw
                      case rel => exact ⟨i + 1, by rw [HNX.out]; rfl, by go_num, by omega, HB2.out.trans ((below_drewN_p _ _).mono HB2.out.size)⟩
                      case measure => simp [intOf]; omega
                    | true =>
                      by_cases hzd : z = d
                      · have e1 : (z != d) = false := by simpa using hzd
                        have e2 : (z == d) = true := by simpa using hzd
                        have HNY : Hid ((nl.take (i + 1)).all (fun z => !(z == d)) = false) := Lib.hid (by rw [HNX.out, e2]; rfl)
                        clear hzd
                        go_wp2_with fail
                        go_quiet (fail)
                        go_wp2
                        go_roundw
                        case rel => exact ⟨i + 1, by rw [HNY.out], by go_num, by omega, HB2.out.trans ((below_drewN_p _ _).mono HB2.out.size)⟩
                        case measure => simp [intOf]; omega
                      · have e1 : (z != d) = true := by simpa using hzd
                        have e2 : (z == d) = false := by simpa using hzd
                        have HNY : Hid ((nl.take (i + 1)).all (fun z => !(z == d)) = true) := Lib.hid (by rw [HNX.out, e2]; rfl)
                        clear hzd
                        go_wp2_with fail
                        go_quiet (fail)
                        go_wp2
                        go_roundw
                        case rel => exact ⟨i + 1, by rw [HNY.out], by go_num, by omega, HB2.out.trans ((below_drewN_p _ _).mono HB2.out.size)⟩
                        case measure => simp [intOf]; omega
                  · have hmi4 : ¬ (i : Int) < (n4 : Int) := by omega
                    obtain rfl : i = n4 := by omega
                    rw [List.take_of_length_le (by rw [HNL.out]; exact Nat.le_refl _)] at hbb
                    have hmb : bb = may d := by rw [HMD.out, hbb]; rfl
                    have HVS2 := HVS
                    rw [← hmb] at HVS2
                    have hb3 := HUD.out.trans (hb2.mono HUD.out.size)
                    have hsv := HSV.out (by first | rfl | trivial)
                    have HR2 := Lib.hid (blk_stay hb2 HU2.out)
                    have k3 := cell_of_cells (i := 1) (blk_stay hb2 HU2.out) rfl
                    simp only [List.getElem_toArray, List.getElem_cons_zero, List.getElem_cons_succ] at k3
                    have HSC2 := Lib.hid (HSC.out _ hb3)
                    have HB3 := Lib.hid hb3
                    have HSV2 := Lib.hid hsv
                    clear hbb hmb hb2 hb3 hsv hxb
                    go_wp2_with fail
                    refine HSC2.out.mono ?_
                    rintro e w6 ⟨rfl, hb6⟩
                    have HB6 := Lib.hid (HB3.out.trans (hb6.mono HB3.out.size))
                    have k6 := cell_of_cells (i := 0) (blk_stay hb6 HR2.out) rfl
                    simp only [List.getElem_toArray, List.getElem_cons_zero] at k6
                    have HRW := Lib.hid (HROW.out.later HB6.out)
                    have HLN := Lib.hid (vis_len false q may (l.take j))
                    have hlj : (l.take j).length ≤ 1000000 := by rw [List.length_take]; omega
                    clear hb6 k2 k3
                    cases bb with
                    | false =>
                      have HVS3 : Hid (DenM.vis false q may (l.take (j + 1)) = DenM.vis false q may (l.take j)) := Lib.hid (by rw [HVS2.out]; rfl)
                      go_wp2
                      go_roundw
                      case rel => exact ⟨j + 1, d, _, rfl, by go_num, by omega, by rw [HVS3.out]; exact HRW.out, HBE.out _ HB6.out, by omega, fun h => by omega, fun _ _ => HLP2.out.symm, HRB2.out⟩
                      case measure => simp [intOf]; omega
                    | true =>
                      have HVS3 : Hid (DenM.vis false q may (l.take (j + 1)) = DenM.vis false q may (l.take j) ++ [(d, sc)]) := Lib.hid (by rw [HVS2.out, HSV2.out]; rfl)
                      have hbk := heap_alloc_new w6 (.cells #[.int .i64 d, .int .i64 sc] 54)
                      have d0 := Lib.hid (cell_of_cells (i := 0) hbk rfl)
                      have d1 := Lib.hid (cell_of_cells (i := 1) hbk rfl)
                      have HRW7 := Lib.hid (HRW.out.later (pl1 w6 (.cells #[.int .i64 d, .int .i64 sc] 54)))
                      have HB7 : Hid (Below w.heap.size w (w6.alloc (.cells #[.int .i64 d, .int .i64 sc] 54))) := Lib.hid (HBE.out _ (HB6.out.trans ((pl1 _ _).mono HB6.out.size)))
                      have hsz7 : w.heap.size ≤ (w6.alloc (.cells #[.int .i64 d, .int .i64 sc] 54)).heap.size := HB7.out.size
                      clear hbk
                      go_wp2_with (at_builtin; refine wpList_append_pair rfl _ _ rfl w.heap.size _ _ rfl HRW7.out w6.heap.size 1 (d, sc) rfl d0.out d1.out hsz7 (by have := HLN.out; omega) ?_; intro v' w8 hown' hg8)
                      have HF : Hid (PairRow w8 w.heap.size v' (DenM.vis false q may (l.take (j + 1))) ∧ Below w.heap.size w w8) := Lib.hid (by
                        refine ⟨by rw [HVS3.out]; exact hown', ?_⟩
                        exact HB7.out.grown hg8 HB7.out.size (fun q hq => (World.ownsRow.lt HRW7.out q hq).1))
                      clear hown' hg8
                      go_roundw
                      case rel => exact ⟨j + 1, d, _, rfl, by go_num, by omega, HF.out.1, HF.out.2, by omega, fun h => by omega, fun _ _ => HLP2.out.symm, HRB2.out⟩
                      case measure => simp [intOf]; omega
              · obtain ⟨p, hp⟩ : ∃ p, j = p + 1 := ⟨j - 1, by omega⟩
                have kp := HPV.out p hp
                have dj : decide ((0 : Int) < (j : Int)) = true := decide_eq_true (by omega)
                have dj2 : decide (0 < j) = true := decide_eq_true (by omega)
                have djp : IntKind.i64.wrap ((j : Int) - 1) = (p : Int) := by rw [IntWalk.i64_in _ (by omega)]; omega
                have hp0 : (0 : Int) ≤ (p : Int) := by omega
                have hpn : (p : Int) < (n2 : Int) := by omega
                have HPE := Lib.hid hp
                clear hp
                by_cases h3 : d ≤ last
                · have dd3 : decide (d ≤ last) = true := decide_eq_true h3
                  have HF := Lib.hid (HBAD.out true (by rw [HRB.out, decide_eq_false (show ¬ last < d by omega)]; rfl) rfl)
                  go_upto_region 10 with fail
                  obtain ⟨U, hU⟩ : ∃ U, U = wr.alloc (.cells #[.int .i64 d, .slice A3 n3 c3] 63) := ⟨_, rfl⟩
                  rw [← hU]
                  have hbu := heap_alloc_new wr (.cells #[.int .i64 d, .slice A3 n3 c3] 63)
                  rw [← hU] at hbu
                  have HUB : Hid (Below wr.heap.size wr U) := Lib.hid (by rw [hU]; exact pl1 _ _)
                  have u0 := cell_of_cells (i := 0) hbu rfl
                  have u1 := cell_of_cells (i := 1) hbu rfl
                  simp only [List.getElem_toArray, List.getElem_cons_zero, List.getElem_cons_succ] at u0 u1
                  have HBU := Lib.hid hbu
                  have HRQ := Lib.hid (fun n => HRV.out (U.drewN n) (HUB.out.trans ((below_drewN_p _ _).mono HUB.out.size)))
                  try have kpu := (HUB.out.cell (p := ⟨b, o + p * 2, none⟩) hbl).trans kp
                  clear hU hbu
                  go_quiet ((first | (exact Calls.quiet_of_same (HRQ.out _))))
                  have HUD : Hid (Below wr.heap.size wr (U.drewN nq)) := Lib.hid (HUB.out.trans ((below_drewN_p _ _).mono HUB.out.size))
                  go_wp2
                  go_ret2
                  exact ⟨_, by rw [HF.out.1]; rfl, by rw [HF.out.2, TopM.best_nil]; exact prd_nil _, HBE.out _ HUD.out⟩
                · have hld : last < d := by omega
                  have dd3 : decide (d ≤ last) = false := decide_eq_false h3
                  have HRB2 : Hid (DenM.rowsB l (-1) = DenM.rowsB (l.drop (j + 1)) d) := Lib.hid (by rw [HRB.out, decide_eq_true hld, decide_eq_true (show d ≤ 2147483647 by omega)]; rfl)
                  go_upto_region 10 with fail
                  obtain ⟨U, hU⟩ : ∃ U, U = wr.alloc (.cells #[.int .i64 d, .slice A3 n3 c3] 63) := ⟨_, rfl⟩
                  rw [← hU]
                  have hbu := heap_alloc_new wr (.cells #[.int .i64 d, .slice A3 n3 c3] 63)
                  rw [← hU] at hbu
                  have HUB : Hid (Below wr.heap.size wr U) := Lib.hid (by rw [hU]; exact pl1 _ _)
                  have u0 := cell_of_cells (i := 0) hbu rfl
                  have u1 := cell_of_cells (i := 1) hbu rfl
                  simp only [List.getElem_toArray, List.getElem_cons_zero, List.getElem_cons_succ] at u0 u1
                  have HBU := Lib.hid hbu
                  have HRQ := Lib.hid (fun n => HRV.out (U.drewN n) (HUB.out.trans ((below_drewN_p _ _).mono HUB.out.size)))
                  
                  try have kpu := (HUB.out.cell (p := ⟨b, o + p * 2, none⟩) hbl).trans kp
                  clear hU hbu
                  go_quiet ((first | (exact Calls.quiet_of_same (HRQ.out _))))
                  have HUD : Hid (Below wr.heap.size wr (U.drewN nq)) := Lib.hid (HUB.out.trans ((below_drewN_p _ _).mono HUB.out.size))
                  have HU2 : Hid ((U.drewN nq).heap[wr.heap.size]? = some (.cells #[.int .i64 d, .slice A3 n3 c3] 63 (0, 0))) := Lib.hid (by exact blk_stay (below_drewN_p U _) HBU.out)
                  try clear kpu
                  clear u0 u1 HBU HUB HRQ
                  generalize U.drewN nq = U2 at HUD HU2 ⊢
                  clear nq U
                  go_wp2_with fail
                  go_loopw [15, 16] (fun x y W2 => ∃ i : Nat, x = .bool ((nl.take i).all (fun z => !(z == d))) ∧ y = .int .i64 i ∧ i ≤ n4 ∧ Below U2.heap.size U2 W2) (fun _ y _ => n4 - (intOf y).toNat)
                  case atStart => exact ⟨0, rfl, rfl, by omega, Below.refl _ _⟩
                  case round =>
                    obtain ⟨i, hxb, rfl, hi, hb2⟩ := hrel
                    obtain ⟨bb, hbb⟩ : ∃ b, b = (nl.take i).all (fun z => !(z == d)) := ⟨_, rfl⟩
                    rw [← hbb] at hxb
                    have hxb2 := hxb
                    subst hxb2
                    have HB2 := Lib.hid hb2
                    have HBB := Lib.hid hbb
                    have k2 := cell_of_cells (i := 0) (blk_stay hb2 HU2.out) rfl
                    simp only [List.getElem_toArray, List.getElem_cons_zero] at k2
                    by_cases hlt4 : i < n4
                    · have hmi4 : (i : Int) < (n4 : Int) := by omega
                      have hil : i < nl.length := by rw [HNL.out]; exact hlt4
                      obtain ⟨b5, o5, hA5, hl5, hc5⟩ := (HNR.out.later (HUD.out.trans (hb2.mono HUD.out.size))).2 i hil
                      obtain ⟨z, hz⟩ : ∃ z, z = nl[i] := ⟨_, rfl⟩
                      rw [← hz] at hc5
                      have hnx : (nl.take (i + 1)).all (fun z => !(z == d)) = (bb && !(z == d)) := by
                        rw [List.take_succ_eq_append_getElem hil, List.all_append, ← hbb, ← hz]
                        simp
                      have HNX := Lib.hid hnx
                      subst hA5
                      clear hbb hnx hz hb2 hxb
                      cases bb with
                      | false =>
                        go_wp2_with fail
                        go_quiet (fail)
                        go_wp2
                        go_roundw
                        case rel => exact ⟨i + 1, by rw [HNX.out]; rfl, by go_num, by omega, HB2.out.trans ((below_drewN_p _ _).mono HB2.out.size)⟩
                        case measure => simp [intOf]; omega
                      | true =>
                        by_cases hzd : z = d
                        · have e1 : (z != d) = false := by simpa using hzd
                          have e2 : (z == d) = true := by simpa using hzd
                          have HNY : Hid ((nl.take (i + 1)).all (fun z => !(z == d)) = false) := Lib.hid (by rw [HNX.out, e2]; rfl)
                          clear hzd
                          go_wp2_with fail
                          go_quiet (fail)
                          go_wp2
                          go_roundw
                          case rel => exact ⟨i + 1, by rw [HNY.out], by go_num, by omega, HB2.out.trans ((below_drewN_p _ _).mono HB2.out.size)⟩
                          case measure => simp [intOf]; omega
                        · have e1 : (z != d) = true := by simpa using hzd
                          have e2 : (z == d) = false := by simpa using hzd
                          have HNY : Hid ((nl.take (i + 1)).all (fun z => !(z == d)) = true) := Lib.hid (by rw [HNX.out, e2]; rfl)
                          clear hzd
                          go_wp2_with fail
                          go_quiet (fail)
                          go_wp2
                          go_roundw
                          case rel => exact ⟨i + 1, by rw [HNY.out], by go_num, by omega, HB2.out.trans ((below_drewN_p _ _).mono HB2.out.size)⟩
                          case measure => simp [intOf]; omega
                    · have hmi4 : ¬ (i : Int) < (n4 : Int) := by omega
                      obtain rfl : i = n4 := by omega
                      rw [List.take_of_length_le (by rw [HNL.out]; exact Nat.le_refl _)] at hbb
                      have hmb : bb = may d := by rw [HMD.out, hbb]; rfl
                      have HVS2 := HVS
                      rw [← hmb] at HVS2
                      have hb3 := HUD.out.trans (hb2.mono HUD.out.size)
                      have hsv := HSV.out (by first | rfl | trivial)
                      have HR2 := Lib.hid (blk_stay hb2 HU2.out)
                      have k3 := cell_of_cells (i := 1) (blk_stay hb2 HU2.out) rfl
                      simp only [List.getElem_toArray, List.getElem_cons_zero, List.getElem_cons_succ] at k3
                      have HSC2 := Lib.hid (HSC.out _ hb3)
                      have HB3 := Lib.hid hb3
                      have HSV2 := Lib.hid hsv
                      clear hbb hmb hb2 hb3 hsv hxb
                      go_wp2_with fail
                      refine HSC2.out.mono ?_
                      rintro e w6 ⟨rfl, hb6⟩
                      have HB6 := Lib.hid (HB3.out.trans (hb6.mono HB3.out.size))
                      have k6 := cell_of_cells (i := 0) (blk_stay hb6 HR2.out) rfl
                      simp only [List.getElem_toArray, List.getElem_cons_zero] at k6
                      have HRW := Lib.hid (HROW.out.later HB6.out)
                      have HLN := Lib.hid (vis_len false q may (l.take j))
                      have hlj : (l.take j).length ≤ 1000000 := by rw [List.length_take]; omega
                      clear hb6 k2 k3
                      cases bb with
                      | false =>
                        have HVS3 : Hid (DenM.vis false q may (l.take (j + 1)) = DenM.vis false q may (l.take j)) := Lib.hid (by rw [HVS2.out]; rfl)
                        go_wp2
                        go_roundw
                        case rel => exact ⟨j + 1, d, _, rfl, by go_num, by omega, by rw [HVS3.out]; exact HRW.out, HBE.out _ HB6.out, by omega, fun h => by omega, fun _ _ => HLP2.out.symm, HRB2.out⟩
                        case measure => simp [intOf]; omega
                      | true =>
                        have HVS3 : Hid (DenM.vis false q may (l.take (j + 1)) = DenM.vis false q may (l.take j) ++ [(d, sc)]) := Lib.hid (by rw [HVS2.out, HSV2.out]; rfl)
                        have hbk := heap_alloc_new w6 (.cells #[.int .i64 d, .int .i64 sc] 54)
                        have d0 := Lib.hid (cell_of_cells (i := 0) hbk rfl)
                        have d1 := Lib.hid (cell_of_cells (i := 1) hbk rfl)
                        have HRW7 := Lib.hid (HRW.out.later (pl1 w6 (.cells #[.int .i64 d, .int .i64 sc] 54)))
                        have HB7 : Hid (Below w.heap.size w (w6.alloc (.cells #[.int .i64 d, .int .i64 sc] 54))) := Lib.hid (HBE.out _ (HB6.out.trans ((pl1 _ _).mono HB6.out.size)))
                        have hsz7 : w.heap.size ≤ (w6.alloc (.cells #[.int .i64 d, .int .i64 sc] 54)).heap.size := HB7.out.size
                        clear hbk
                        go_wp2_with (at_builtin; refine wpList_append_pair rfl _ _ rfl w.heap.size _ _ rfl HRW7.out w6.heap.size 1 (d, sc) rfl d0.out d1.out hsz7 (by have := HLN.out; omega) ?_; intro v' w8 hown' hg8)
                        have HF : Hid (PairRow w8 w.heap.size v' (DenM.vis false q may (l.take (j + 1))) ∧ Below w.heap.size w w8) := Lib.hid (by
                          refine ⟨by rw [HVS3.out]; exact hown', ?_⟩
                          exact HB7.out.grown hg8 HB7.out.size (fun q hq => (World.ownsRow.lt HRW7.out q hq).1))
                        clear hown' hg8
                        go_roundw
                        case rel => exact ⟨j + 1, d, _, rfl, by go_num, by omega, HF.out.1, HF.out.2, by omega, fun h => by omega, fun _ _ => HLP2.out.symm, HRB2.out⟩
                        case measure => simp [intOf]; omega
      · have hmi : ¬ (j : Int) < (n2 : Int) := by omega
        obtain rfl : j = n2 := by omega
        have htk : l.take j = l := List.take_of_length_le (by rw [HL.out]; exact Nat.le_refl _)
        rw [List.drop_of_length_le (by rw [HL.out]; exact Nat.le_refl _)] at hrb
        rw [htk] at hrow
        have hvl := vis_len false q may l
        rw [HL.out] at hvl
        have HBS := Lib.hid (fun W (hW : Below wr.heap.size wr W) => refbest_any (k : Int) vrow (DenM.vis false q may l) W (hrow.later hW).prd (by omega))
        have HV : Hid (fE 0 q l k = 0 ∧ fA 0 q l k may = DenM.vis false q may l) := Lib.hid ⟨by rw [HFE.out, ← HVQ.out, hrb]; rfl, HFA.out HVQ.out.symm hrb⟩
        have HB := Lib.hid hb
        clear hb hrow hrb htk hlp hl0
        go_wp2_with fail
        refine (HBS.out wr (Below.refl _ _)).mono ?_
        rintro e w5 ⟨v', rfl, hp, hb5, _⟩
        have HP := Lib.hid hp
        clear hp
        go_wp2
        go_ret2
        exact ⟨v', by rw [HV.out.1]; rfl, by rw [HV.out.2]; exact HP.out, HB.out.trans (hb5.mono HB.out.size)⟩
end Go.Proofs.Ytjdlocmchmeipaa
