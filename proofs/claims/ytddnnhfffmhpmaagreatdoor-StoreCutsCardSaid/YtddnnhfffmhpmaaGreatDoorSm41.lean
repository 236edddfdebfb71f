/- Own texts, merged (41 of 42). -/
import Derived.Test.YtddnnhfffmhpmaaGreatDoorSm34

/- StoreCuts answers true. -/
namespace Go.Proofs.YtddnnhfffmhpmaaGreatDoor.St
open Go.RowKit Go.Proofs.YtddnnhfffmhpmaaGreatDoor DocM StoM Do
open VdM

set_option maxHeartbeats 8000000 in
set_option maxRecDepth 100000 in
theorem cuts_main (w : World) (A : Option Addr) (n cp : Nat) (l : List Ax) (h : ActsR w A n l) (hat : ∀ a ∈ l, a.at_ ≤ 9223372036854775807) :
    Calls Tryz.prog 4 #[.slice A n cp] w fun e w' => e = .returned (.bool true) ∧ Below w.heap.size w w' := by
  have HA := Lib.hid h
  have HAT := Lib.hid hat
  have HAW := Lib.hid (awake11_any w)
  have HFEW := Lib.hid (fun W (hW : Below w.heap.size w W) => few11_any W A n cp l (h.later hW))
  have hlen := Lib.hid h.1
  clear h hat
  by_cases hf : fewL l
  rotate_left
  · have hfb : decide (fewL l) = false := decide_eq_false hf
    rw [hfb] at HFEW
    clear hf hfb
    go_enter Tryz.func4, Tryz.ntmps4
    go_wp2_with fail
    refine HAW.out.mono ?_
    rintro e w1 ⟨rfl, hb1⟩
    have HB1 := Lib.hid hb1
    clear hb1
    go_wp2_with fail
    refine (HFEW.out w1 HB1.out).mono ?_
    rintro e w2 ⟨rfl, hb2⟩
    have HB2 := Lib.hid (HB1.out.trans (hb2.mono HB1.out.size))
    clear hb2
    go_wp2
    go_ret
    exact ⟨rfl, HB2.out⟩
  have hfb : decide (fewL l) = true := decide_eq_true hf
  rw [hfb] at HFEW
  have HFW := Lib.hid hf
  have HMADE := Lib.hid (fun W => made_any W 1048576 (by decide) (by decide))
  clear hf hfb
  go_enter Tryz.func4, Tryz.ntmps4
  go_wp2_with fail
  refine HAW.out.mono ?_
  rintro e w1 ⟨rfl, hb1⟩
  have HB1 := Lib.hid hb1
  clear hb1
  go_wp2_with fail
  refine (HFEW.out w1 HB1.out).mono ?_
  rintro e w2 ⟨rfl, hb2⟩
  have HB2 := Lib.hid (HB1.out.trans (hb2.mono HB1.out.size))
  clear hb2 HFEW HAW
  go_wp2_with fail
  refine (HMADE.out w2).mono ?_
  rintro e w3 ⟨p, F, rfl, hA, hl, hb3⟩
  obtain ⟨d, hd⟩ : ∃ d, d = p.d := ⟨_, rfl⟩
  obtain ⟨s, hs⟩ : ∃ s, s = p.s := ⟨_, rfl⟩
  have HST : Hid (CutR w d 0 s (.slice none 0 0) (fun _ => False) w3) := Lib.hid ⟨p, F, _, g0, [], 0, 0, [], 0, ⟨hA, ⟨fun b hb => Nat.le_trans HB2.out.size (hl b hb), HB2.out.trans (hb3.mono HB2.out.size), fun b hb => by rcases hb with hb | hb <;> cases hb⟩, ⟨by decide, by show usF [] ≤ _; decide, Nat.zero_le _⟩⟩, hd.symm, hs.symm, by decide, rfl, Drow.nil_ _ _ _⟩
  rw [← hd, ← hs]
  clear hA hl hb3 hd hs
  go_wp2
  go_loopw [4, 5, 6] (fun sv vm x wr => ∃ i s : Nat, sv = .pointer (some ⟨s, 0, none⟩) ∧ x = .int .i64 (i : Int) ∧ i ≤ n ∧ CutR w d i s vm (fun _ => False) wr) (fun _ _ x _ => n - (intOf x).toNat)
  case atStart => exact ⟨0, s, rfl, rfl, Nat.zero_le _, HST.out⟩
  case round =>
    obtain ⟨i, s1, rfl, rfl, hi, hR⟩ := hrel
    have HR := Lib.hid hR
    by_cases hil : i < n
    · have hib : (i : Int) < (n : Int) := by omega
      have hiv : i < l.length := by have := hlen.out; omega
      obtain ⟨b, o, rfl, -, p1, q1, n1, k1, m1, j1, eT, eV, hT, hV, c0, c1, c2, c3, c4, c5, c6, c7⟩ := (HA.out.later hR.below).2 i hiv
      have hfw := HFW.out.2 l[i] (List.getElem_mem hiv)
      have hato := HAT.out l[i] (List.getElem_mem hiv)
      have HI50 : Hid (i < 50) := Lib.hid (by have := HFW.out.1; omega)
      have htw : Prd w (.slice p1 n1 k1) l[i].c.1.ts ∧ Vrd w (.slice q1 m1 j1) l[i].c.1.v := by
        obtain ⟨_, _, _, _, p', q', n', k', m', j', e1, e2, g1, g2, _⟩ := HA.out.2 i hiv
        rw [eT] at e1
        rw [eV] at e2
        rw [e1, e2]
        exact ⟨g1, g2⟩
      generalize l[i] = a at c0 c1 c4 c5 c6 c7 eT eV hfw htw hato
      have HTV := Lib.hid htw
      have HFWI := Lib.hid hfw
      have HATO := Lib.hid hato
      have HIM : Hid (i + 1 ≤ n) := Lib.hid (by omega)
      clear hR hT hV eT eV hfw hi htw hato
      obtain ⟨kd, hkd⟩ : ∃ kd, kd = a.kind := ⟨_, rfl⟩
      rw [← hkd] at c0
      clear hkd
      go_upto_if 38 with fail
      obtain ⟨N, hN⟩ : ∃ N, N = wr.heap.size := ⟨_, rfl⟩
      have hbx := pl1 wr (.cells #[.int .i64 kd, .int .i64 a.c.1.doc, .slice p1 n1 k1, .slice q1 m1 j1, .int .i64 a.c.1.tags, .bool a.c.1.gone, .int .i64 a.at_, .int .i64 a.keep] 39)
      have HBK := Lib.hid (heap_alloc_new wr (.cells #[.int .i64 kd, .int .i64 a.c.1.doc, .slice p1 n1 k1, .slice q1 m1 j1, .int .i64 a.c.1.tags, .bool a.c.1.gone, .int .i64 a.at_, .int .i64 a.keep] 39))
      have HR0 : Hid (CutR w d i s1 u5 (fun b => b = N) (wr.alloc (.cells #[.int .i64 kd, .int .i64 a.c.1.doc, .slice p1 n1 k1, .slice q1 m1 j1, .int .i64 a.c.1.tags, .bool a.c.1.gone, .int .i64 a.at_, .int .i64 a.keep] 39))) := Lib.hid (HR.out.with_ hbx fun b hb => .inr ⟨by omega, by rw [hb, hN]; simp⟩)
      have HR1 : Hid (CutR w d (i + 1) s1 u5 (fun _ => False) (wr.alloc (.cells #[.int .i64 kd, .int .i64 a.c.1.doc, .slice p1 n1 k1, .slice q1 m1 j1, .int .i64 a.c.1.tags, .bool a.c.1.gone, .int .i64 a.at_, .int .i64 a.keep] 39))) := Lib.hid ((HR.out.with_ hbx fun b hb => .inl hb).wide (by omega))
      clear hbx c0 c1 c2 c3 c4 c5 c6 c7 HR
      rw [← hN] at HBK ⊢
      generalize wr.alloc (.cells #[.int .i64 kd, .int .i64 a.c.1.doc, .slice p1 n1 k1, .slice q1 m1 j1, .int .i64 a.c.1.tags, .bool a.c.1.gone, .int .i64 a.at_, .int .i64 a.keep] 39) = wa at HBK HR0 HR1 ⊢
      clear hN
      by_cases hk2 : 2 < kd
      · have hk2b : decide (2 < kd) = true := decide_eq_true hk2
        have hi50 := HI50.out
        clear HR0 HBK
        go_wp2
        go_roundw
        case rel => exact ⟨i + 1, s1, rfl, by go_num, HIM.out, HR1.out⟩
        case measure => simp [intOf]; omega
      have hk2b : decide (2 < kd) = false := decide_eq_false hk2
      have a6 : wa.cell? ⟨N, 6, none⟩ = some (.int .i64 a.at_) := cell_of_cells (i := 6) HBK.out rfl
      have a7 : wa.cell? ⟨N, 7, none⟩ = some (.int .i64 a.keep) := cell_of_cells (i := 7) HBK.out rfl
      have HARM := Lib.hid (HR0.out.arm a.at_ a.keep HATO.out)
      clear HR1
      go_wp2_with fail
      refine HARM.out.mono ?_
      rintro e wb ⟨rfl, hKa, hRb⟩
      have hbx : wb.heap[N]? = _ := (hKa.2 N (.inr rfl)).trans HBK.out
      clear hKa HARM HR0 a6 a7 hk2b hk2
      obtain ⟨p2, F2, k2, g2, P2, L2, S2, xs, base, hH, hd2, rfl, hLS, hl, hD⟩ := hRb
      have hn1 : n1 ≤ 1000000 := by
        obtain ⟨_, _, e, _⟩ := HTV.out.1
        injection e with _ e _
        have := HFWI.out.1
        omega
      have hm1 : m1 ≤ 1000000 := by
        obtain ⟨_, _, e, _⟩ := HTV.out.2
        injection e with _ e _
        have := HFWI.out.2
        omega
      have b0 := cell_of_cells (i := 0) hbx (v := .int .i64 kd) rfl
      have b1 := cell_of_cells (i := 1) hbx (v := .int .i64 a.c.1.doc) rfl
      have b2 := cell_of_cells (i := 2) hbx (v := .slice p1 n1 k1) rfl
      have b3 := cell_of_cells (i := 3) hbx (v := .slice q1 m1 j1) rfl
      have b4 := cell_of_cells (i := 4) hbx (v := .int .i64 a.c.1.tags) rfl
      have b5 := cell_of_cells (i := 5) hbx (v := .bool a.c.1.gone) rfl
      have b6 := cell_of_cells (i := 6) hbx (v := .int .i64 a.at_) rfl
      have b7 := cell_of_cells (i := 7) hbx (v := .int .i64 a.keep) rfl
      have HDO := Lib.hid (does_law hH (by have := HI50.out; omega) kd a.c.1 p1 q1 n1 k1 m1 j1 a.at_ a.keep HTV.out.1 HTV.out.2 hn1 hm1)
      have HXR := Lib.hid (rows_right hH.al.kept.ok hl)
      have HXS : Hid (xs.length ≤ 1000 ∧ RiseC (xs.map (·.1)) ∧ ∀ x ∈ xs, -9223372036854775808 ≤ x.1.doc ∧ x.1.doc ≤ 9223372036854775807) := Lib.hid (by
        have hlv := hH.al.kept.ok.live
        have hfe := hH.al.kept.ok.few.1
        have hpl := hH.few.plen
        have h50 := HI50.out
        refine ⟨?_, by rw [← hl]; exact hlv.1, fun x hx => ?_⟩
        · have h1 : (live g2).length = xs.length := by rw [hl, List.length_map]
          omega
        · have h1 := rgt_of (hlv.2.2 x.1 (by rw [hl]; exact List.mem_map.2 ⟨x, hx, rfl⟩)).1
          have := h1.doc
          omega)
      have HBX := Lib.hid hbx
      have HNM := Lib.hid (And.intro hn1 hm1)
      have HPL := Lib.hid (And.intro hLS (And.intro hl hD))
      have HD2 := Lib.hid hd2
      clear hbx hn1 hm1 hLS hl hD hH hd2 HBK
      go_wp2_with fail
      refine HDO.out.mono ?_
      rintro e wd ⟨r, rfl, hact⟩
      obtain ⟨hK, up, F3, k3, g3, P3, L3, S3, hH3, hLS3, hend⟩ := cuts_case hact HPL.out.1
      have HH3 := Lib.hid hH3
      have HE3 := Lib.hid hend
      have HLS := Lib.hid hLS3
      have HD3 := Lib.hid (HPL.out.2.2.kept hK fun b hb => .inl hb)
      have HBX3 := Lib.hid ((hK.2 N (.inr rfl)).trans HBX.out)
      have HL3 := Lib.hid HPL.out.2.1
      clear hact hK hH3 hLS3 hend HDO HBX HPL b0 b1 b2 b3 b4 b5 b6 b7
      have b0 := cell_of_cells (i := 0) HBX3.out (v := .int .i64 kd) rfl
      go_upto_if 49 with fail
      go_cut [9, 10] (fun nx cd wx => ∃ (base' : Nat) (xs' : List Cx), Stands up w wx (fun b => u5.ownBlock = some b ∨ nx.ownBlock = some b) p2 F3 k3 g3 P3 L3 S3 ∧ Drow w wx base u5 xs ∧ Drow w wx base' nx xs' ∧ cd = .int .i64 (codeA kd (live g2) a.c.1) ∧ xs'.map (·.1) = nextA kd (live g2) a.c.1)
      case first =>
        by_cases hk0 : kd = 0
        · subst hk0
          have b1 := cell_of_cells (i := 1) HBX3.out (v := .int .i64 a.c.1.doc) rfl
          have b2 := cell_of_cells (i := 2) HBX3.out (v := .slice p1 n1 k1) rfl
          have b3 := cell_of_cells (i := 3) HBX3.out (v := .slice q1 m1 j1) rfl
          have b4 := cell_of_cells (i := 4) HBX3.out (v := .int .i64 a.c.1.tags) rfl
          have b5 := cell_of_cells (i := 5) HBX3.out (v := .bool a.c.1.gone) rfl
          have HOF := Lib.hid (of_any a.c.1 (.slice p1 n1 k1) (.slice q1 m1 j1) wd ⟨_, _, _, rfl⟩ ⟨_, _, _, rfl⟩)
          have HPUT := Lib.hid (fun W (hb : Below wd.heap.size wd W) => refput11_any w W base u5 xs a.c.1 p1 q1 n1 k1 m1 j1 (HD3.out.later hb) HXS.out.1 HTV.out.1 HTV.out.2 (HH3.out.bs.beh.trans (hb.mono HH3.out.bs.beh.size)) HNM.out.1 HNM.out.2 HXS.out.2.2)
          unfold chV at HOF HPUT
          go_wp2_with fail
          refine HOF.out.mono ?_
          rintro e we ⟨rfl, hbe⟩
          have HBE := Lib.hid hbe
          have HPU := Lib.hid (HPUT.out we hbe)
          clear hbe HOF HPUT b0 b1 b2 b3 b4 b5
          go_wp2_with fail
          refine HPU.out.mono ?_
          rintro e wf ⟨hbf, hpd⟩
          have HBW := Lib.hid (HBE.out.trans (hbf.mono HBE.out.size))
          rcases hpd with ⟨hp, rfl⟩ | ⟨hp, v', rfl, hrow⟩
          · have HP := Lib.hid hp
            clear hbf hp HPU HBE
            go_wp2
            go_meet
            exact ⟨base, xs, stands_dup (HH3.out.later HBW.out), HD3.out.later HBW.out, HD3.out.later HBW.out, by rw [HL3.out]; rfl, by
              unfold nextA putD
              rw [if_pos rfl, HL3.out, if_neg HP.out]⟩
          · have HP := Lib.hid hp
            have HRW := Lib.hid hrow
            have hlt := World.ownsRow.lt hrow.own
            have HNW : Hid (∀ b, v'.ownBlock = some b → ¬ fullF p2 F3 b ∧ b < wf.heap.size) := Lib.hid (fun b hb => ⟨fun hf => by
              have h1 := HH3.out.lt b hf
              have h2 := (hlt b hb).1
              have h3 := HBE.out.size
              omega, (hlt b hb).2⟩)
            clear hbf hp hrow hlt HPU HBE
            go_wp2
            go_meet
            exact ⟨_, _, stands_two (HH3.out.later HBW.out) HNW.out, HD3.out.later HBW.out, HRW.out, by
              unfold codeA
              rw [if_pos rfl, HL3.out, HP.out], by
              unfold nextA putD
              rw [if_pos rfl, HL3.out, if_pos HP.out]
              exact out_is _ _ HXS.out.2.1⟩
        · have hk0b : (kd == 0) = false := by simpa using hk0
          have HK0 := Lib.hid hk0
          clear hk0
          go_wp2
          go_meet
          exact ⟨base, xs, stands_dup HH3.out, HD3.out, HD3.out, by unfold codeA; rw [if_neg HK0.out], by unfold nextA; rw [if_neg HK0.out, HL3.out]⟩
      case rest =>
        obtain ⟨base4, xs4, hH4, hDu, hDn, rfl, hmap⟩ := hcut
        obtain ⟨cd, hcd⟩ : ∃ cd, cd = codeA kd (live g2) a.c.1 := ⟨_, rfl⟩
        rw [← hcd]
        have HCD := Lib.hid hcd
        have HDN := Lib.hid (Vd.down_any wc F3 p2.d k3 hH4.is.1)
        rw [hH4.is.2, HD2.out] at HDN
        have HDD := Lib.hid (And.intro hDu (And.intro hDn hmap))
        have HST4 := Lib.hid hH4
        have HI50 := Lib.hid HI50.out
        clear hcd hDu hDn hmap HH3 HD3 b0 hH4
        go_wp2_with fail
        refine HDN.out.mono ?_
        rintro e wc2 ⟨rfl, rfl⟩
        clear HDN
        rcases HE3.out with ⟨rfl, hr, hlv⟩ | ⟨rfl, rfl, hc0, hlv⟩
        · have hH5 : Hold w wc (fun b => u5.ownBlock = some b ∨ u9.ownBlock = some b) p2 F3 k3 g3 P3 L3 S3 := by
            rcases HST4.out with ⟨_, h⟩ | ⟨e, _⟩
            · exact h
            · cases e
          have HH5 : Hid (OneR w d u5 u9 g3 P3 L3 S3 base base4 xs xs4 p2.s wc) := Lib.hid ⟨p2, F3, k3, hH5, HD2.out, rfl, HDD.out.1, HDD.out.2.1⟩
          rw [← HCD.out] at hr
          have HLV := Lib.hid hlv
          have HR6 := Lib.hid hr
          clear hlv hr hH5 HE3 HST4
          go_upto_region 20 with fail
          go_cut [67] (fun c wx => c = .bool false ∧ wx = wc)
          case first =>
            rcases HR6.out with rfl | rfl
            · have hrr : (r != r) = false := by simp
              go_wp2
              go_meet
              exact ⟨rfl, rfl⟩
            · by_cases h6 : (6 : Int) = cd
              · have h6b : ((6 : Int) != cd) = false := by rw [h6]; simp
                clear h6
                go_wp2
                go_meet
                exact ⟨rfl, rfl⟩
              · have h6b : ((6 : Int) != cd) = true := by simpa using h6
                clear h6
                go_wp2
                go_meet
                exact ⟨rfl, rfl⟩
          case rest =>
          obtain ⟨rfl, rfl⟩ := hcut
          go_upto_if 69 with fail
          go_cut [5] (fun nx wx => wx = wc ∧ ∃ (base' : Nat) (xs' : List Cx), OneR w d nx nx g3 P3 L3 S3 base' base' xs' xs' p2.s wc ∧ live g3 = xs'.map (·.1))
          case first =>
            by_cases hr0 : r = 0
            · have hr0b : (r == 0) = true := by simpa using hr0
              have HR0 := Lib.hid hr0
              clear hr0
              go_wp2
              go_meet
              exact ⟨rfl, base4, xs4, HH5.out.two, by rw [HLV.out, if_pos HR0.out]; exact HDD.out.2.2.symm⟩
            · have hr0b : (r == 0) = false := by simpa using hr0
              have HR0 := Lib.hid hr0
              clear hr0
              go_wp2
              go_meet
              exact ⟨rfl, base, xs, HH5.out.one, by rw [HLV.out, if_neg HR0.out]; exact HL3.out⟩
          case rest =>
            obtain ⟨rfl, base5, xs5, hO, hl5⟩ := hcut
            have htl := hO.tells (hO.right hl5) (by have := HLS.out; have := HI50.out; omega)
            rw [decide_eq_true hl5] at htl
            have HTL := Lib.hid htl
            have HFIN : Hid (∀ W, Below wc.heap.size wc W → CutR w d (i + 1) p2.s u5 (fun _ => False) W) := Lib.hid (fun W hb => (hO.later hb).cut HLS.out hl5)
            clear htl hO hl5 HH5
            go_wp2_with fail
            refine HTL.out.mono ?_
            rintro e wt ⟨rfl, hbt⟩
            have HR9 := Lib.hid (HFIN.out wt hbt)
            have hi50 := HI50.out
            clear hbt HTL HFIN
            go_wp2
            go_roundw
            case rel => exact ⟨i + 1, p2.s, rfl, by go_num, HIM.out, HR9.out⟩
            case measure => simp [intOf]; omega
        · have hL5 : Lost w wc (fun b => u5.ownBlock = some b ∨ u9.ownBlock = some b) p2 F3 k3 g3 P3 L3 S3 := by
            rcases HST4.out with ⟨e, _⟩ | ⟨_, h⟩
            · cases e
            · exact h
          have hdoc : Calls Tryz.prog 20 #[.pointer (some ⟨p2.s, 0, none⟩)] wc fun e w' => ∃ A cp, e = .returned (.slice A 0 cp) ∧ Below wc.heap.size wc w' := by
            obtain ⟨_, lg, bg, hS⟩ := hL5.dead
            refine (docs_any hS (by decide)).mono ?_
            rintro e w' ⟨A, cp, he, _, hb⟩
            exact ⟨A, cp, he, hb⟩
          have HDOC := Lib.hid hdoc
          have HLO : Hid (∀ W, Below wc.heap.size wc W → LostR w d u5 u9 true g3 P3 L3 S3 base base4 xs xs4 W) := Lib.hid (fun W hb => ⟨F3, k3, by rw [← HD2.out]; exact (hL5.later hb).disc.1, hL5.disc.2, HDD.out.1.later hb, HDD.out.2.1.later hb⟩)
          rw [← HCD.out] at hc0
          have HLV := Lib.hid hlv
          subst hc0
          clear hlv hL5 HE3 HST4 hdoc
          go_wp2_with fail
          refine HDOC.out.mono ?_
          rintro e w5 ⟨A5, cp5, rfl, hb5⟩
          have HSTA := Lib.hid (HLO.out w5 hb5).start
          clear hb5 HLO HDOC
          go_wp2_with fail
          refine HSTA.out.mono ?_
          rintro e w6 ⟨rfl, hL6⟩
          have HAR := Lib.hid hL6.arm
          clear hL6 HSTA
          go_wp2_with fail
          refine HAR.out.mono ?_
          rintro e w7 ⟨rfl, hL7⟩
          have HO1 := Lib.hid (hL7.open_ (by have := HLS.out; have := HI50.out; omega))
          clear hL7 HAR
          go_wp2_with fail
          refine HO1.out.mono ?_
          rintro e w8 ⟨t, rfl, hO8⟩
          have HO2 := Lib.hid (hO8.again (by have := HLS.out; have := HI50.out; omega))
          clear hO8 HO1
          go_wp2_with fail
          refine HO2.out.mono ?_
          rintro e w9 ⟨u, rfl, hOt, hOu⟩
          have HTU := Lib.hid (And.intro hOt hOu)
          have HTL := Lib.hid (hOt.tells HXR.out (by have := HLS.out; have := HI50.out; omega))
          have hlo : live (gOpen g3) = live g3 := rfl
          rw [hlo] at HTL
          have HLO := Lib.hid hlo
          clear hOt hOu HO2 hlo
          obtain ⟨tb, htb⟩ : ∃ tb, tb = decide (live g3 = xs.map (·.1)) := ⟨_, rfl⟩
          rw [← htb] at HTL
          have HTB := Lib.hid htb
          clear htb
          go_wp2_with fail
          refine HTL.out.mono ?_
          rintro e w10 ⟨rfl, hb10⟩
          have HTU10 := Lib.hid (And.intro (HTU.out.1.later hb10) (HTU.out.2.later hb10))
          clear hb10 HTU HTL
          go_upto_if 119 with fail
          go_cut [5] (fun nx wx => wx = w10 ∧ ∃ (base' : Nat) (xs' : List Cx), OneR w d nx nx (gOpen g3) P3 L3 S3 base' base' xs' xs' t w10 ∧ OneR w d nx nx (gOpen (gOpen g3)) P3 L3 S3 base' base' xs' xs' u w10 ∧ live g3 = xs'.map (·.1))
          case first =>
            cases htb : tb with
            | true =>
              have HL9 : Hid (live g3 = xs.map (·.1)) := Lib.hid (of_decide_eq_true (by rw [← HTB.out]; exact htb))
              clear htb
              go_wp2
              go_meet
              exact ⟨rfl, base, xs, HTU10.out.1.one, HTU10.out.2.one, HL9.out⟩
            | false =>
              have hne : ¬ live g3 = xs.map (·.1) := of_decide_eq_false (by rw [← HTB.out]; exact htb)
              have HL9 : Hid (live g3 = xs4.map (·.1)) := Lib.hid (by
                rcases HLV.out with h | h
                · exact absurd (h.trans HL3.out) hne
                · rw [h]; exact HDD.out.2.2.symm)
              clear htb hne
              go_wp2
              go_meet
              exact ⟨rfl, base4, xs4, HTU10.out.1.two, HTU10.out.2.two, HL9.out⟩
          case rest =>
            obtain ⟨rfl, base6, xs6, hOt, hOu, hl6⟩ := hcut
            have hl61 : live (gOpen g3) = xs6.map (·.1) := hl6
            have hl62 : live (gOpen (gOpen g3)) = xs6.map (·.1) := hl6
            have h60 : L3 + S3 ≤ 60 := by have := HLS.out; have := HI50.out; omega
            have htl := hOt.tells (hOt.right hl61) h60
            rw [decide_eq_true hl61] at htl
            have hul := fun W (hb : Below wc.heap.size wc W) => (hOu.later hb).tells (hOu.right hl62) h60
            simp only [decide_eq_true hl62] at hul
            have HTL := Lib.hid htl
            have HUL := Lib.hid hul
            have HFIN : Hid (∀ W, Below wc.heap.size wc W → CutR w d (i + 1) t u5 (fun _ => False) W) := Lib.hid (fun W hb => (hOt.later hb).cut HLS.out hl61)
            clear htl hul hOt hOu hl6 hl61 hl62 h60 HTU10
            go_wp2_with fail
            refine HTL.out.mono ?_
            rintro e w11 ⟨rfl, hb11⟩
            have HU1 := Lib.hid (HUL.out w11 hb11)
            have HB11 := Lib.hid hb11
            clear hb11 HTL HUL
            go_wp2_with fail
            refine HU1.out.mono ?_
            rintro e w12 ⟨rfl, hb12⟩
            have HR9 := Lib.hid (HFIN.out w12 (HB11.out.trans (hb12.mono HB11.out.size)))
            have hi50 := HI50.out
            clear hb12 HU1 HFIN HB11
            go_wp2
            go_roundw
            case rel => exact ⟨i + 1, t, rfl, by go_num, HIM.out, HR9.out⟩
            case measure => simp [intOf]; omega
    · have hmi : ¬ (i : Int) < (n : Int) := by omega
      have HB9 := Lib.hid HR.out.below
      clear hR
      go_wp2
      go_ret
      exact ⟨rfl, HB9.out⟩
end Go.Proofs.YtddnnhfffmhpmaaGreatDoor.St
