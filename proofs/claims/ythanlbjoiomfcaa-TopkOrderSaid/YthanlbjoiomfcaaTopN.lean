/- TopkKeeps: a round. -/
import Derived.Test.YthanlbjoiomfcaaTopM
namespace Go.Proofs.Ythanlbjoiomfcaa
open Go.RowKit

theorem Prd.at_ {w : World} {A : Option Addr} {n cp : Nat} {l : List (Int × Int)} (h : Prd w (.slice A n cp) l) (k : Nat) (hk : k < l.length) : ∃ b o, A = some ⟨b, o, none⟩ ∧ b < w.heap.size ∧ w.cell? ⟨b, o + k * 2, none⟩ = some (.int .i64 l[k].1) ∧ w.cell? ⟨b, o + k * 2 + 1, none⟩ = some (.int .i64 l[k].2) := by
  obtain ⟨A', cp', e, _, _, hP⟩ := h
  injection e with e1 e2 e3
  subst e1
  exact hP.2 k hk
theorem Prd.take {w : World} {A : Option Addr} {n cp : Nat} {l : List (Int × Int)} (h : Prd w (.slice A n cp) l) (k : Nat) (hk : k ≤ l.length) : Prd w (.slice A k cp) (l.take k) := by
  obtain ⟨A', cp', e, hc, hA, hP⟩ := h
  injection e with e1 e2 e3
  subst e1; subst e3
  have hlen : (l.take k).length = k := by rw [List.length_take]; omega
  exact ⟨A, cp, by rw [hlen], by rw [hlen]; omega, hA, by rw [hlen]; exact hP.take k hk⟩
theorem Prd.form {w : World} {v : Value} {l : List (Int × Int)} (h : Prd w v l) : ∃ A cp, v = .slice A l.length cp ∧ l.length ≤ cp := by
  obtain ⟨A, cp, e, hc, _, _⟩ := h
  exact ⟨A, cp, e, hc⟩

/-- what the law wants of Offer is what Offer tells -/
theorem kept_want {k : Nat} {l h : List (Int × Int)} (p : Int × Int) (hb : TopM.Bnd k l h) : 
    (k = 0 → keptB k h p = false) ∧ (0 < k → (TopM.best k l).length < k → keptB k h p = true) ∧ (0 < k → ¬ (TopM.best k l).length < k → ∃ hj : (TopM.best k l).length - 1 < (TopM.best k l).length, keptB k h p = TopM.bet p (TopM.best k l)[(TopM.best k l).length - 1]) := by
  have hle := hb.2.length_eq
  have hbl := TopM.best_len k l
  refine ⟨fun e => ?_, fun h0 h1 => ?_, fun h0 h1 => ⟨by omega, ?_⟩⟩
  · subst e; unfold keptB; simp
  · unfold keptB; simp; omega
  · have hw := TopM.bnd_worst hb (by omega)
    rw [List.getLast?_eq_getElem?, List.getElem?_eq_getElem (by omega)] at hw
    injection hw with hw
    rw [hw]
    unfold keptB
    have e1 : decide (h.length < k) = false := by simp; omega
    have e2 : decide (0 < k) = true := by simp; omega
    rw [e1, e2]
    simp
/-- the worst one, as the law looks at it -/
theorem worst_last {k : Nat} {l h : List (Int × Int)} (hb : TopM.Bnd k l h) (hf : fullB k h = true) : ∃ hj : (TopM.best k l).length - 1 < (TopM.best k l).length, worstV k h = (TopM.best k l)[(TopM.best k l).length - 1] := by
  have hle := hb.2.length_eq
  have hf' := hf
  unfold fullB at hf'
  simp at hf'
  have hw := TopM.bnd_worst hb (by omega)
  refine ⟨by omega, ?_⟩
  rw [List.getLast?_eq_getElem?, List.getElem?_eq_getElem (by omega)] at hw
  injection hw with hw
  rw [hw]
  unfold worstV
  rw [if_pos hf]
theorem full_is {k : Nat} {l h : List (Int × Int)} (hb : TopM.Bnd k l h) : fullB k h = (decide (0 < k) && decide ((TopM.best k l).length = k)) := by
  have hle := hb.2.length_eq
  have hbl := TopM.best_len k l
  unfold fullB
  rw [Bool.eq_iff_iff]
  simp
  omega

theorem Prd.only {S : Nat → Prop} {w w' : World} {v : Value} {l : List (Int × Int)} (h : Prd w v l) (ho : Only S w w') (hS : ∀ b, v.ownBlock = some b → ¬ S b) : Prd w' v l := by
  obtain ⟨A, cp, rfl, hc, hA, hP⟩ := h
  refine ⟨A, cp, rfl, hc, hA, hP.1, fun k hk => ?_⟩
  obtain ⟨b, o, e, hb, c0, c1⟩ := hP.2 k hk
  have hn : ¬ S b := hS b (by rw [e]; rfl)
  exact ⟨b, o, e, Nat.lt_of_lt_of_le hb ho.size, (ho.cell (p := ⟨b, _, none⟩) hb hn).trans c0, (ho.cell (p := ⟨b, _, none⟩) hb hn).trans c1⟩
set_option maxHeartbeats 8000000 in
set_option maxRecDepth 100000 in
theorem topkkeeps_main (k : Int) (A : Option Addr) (n cp : Nat) (l : List (Int × Int)) (w : World) (hk : k ≤ 9223372036854775807) (hn : n ≤ 200) (hln : l.length = n) (hP : Prd w (.slice A n cp) l) :
    Calls Try.prog 11 #[.int .i64 k, .slice A n cp] w fun e w' => e = .returned (.bool true) ∧ Below w.heap.size w w' := by
  have hd200 : decide ((200 : Int) < (n : Int)) = false := decide_eq_false (by omega)
  have hncp : n ≤ cp := by
    obtain ⟨A', cp', e, hc, _⟩ := hP
    injection e with e1 e2 e3
    omega
  have HLN := Lib.hid hln
  have HP := Lib.hid hP
  clear hln hP
  go_enter Try.func11, Try.ntmps11
  go_wp2_with fail
  refine (awake4_any _).mono ?_
  rintro e w1 ⟨rfl, b1⟩
  have hnew := new_any k w1 hk
  obtain ⟨t, ht⟩ : ∃ t, t = w1.heap.size := ⟨_, rfl⟩
  rw [← ht] at hnew
  have hwt : w.heap.size ≤ t := by rw [ht]; exact b1.size
  have HNEW := Lib.hid hnew
  have HT := Lib.hid ht
  clear hnew
  go_wp2_with fail
  refine HNEW.out.mono ?_
  rintro e w2 ⟨rfl, x2, b2⟩
  have bt : Below w.heap.size w w2 := b1.trans (b2.mono hwt)
  clear b1 b2 ht HT HNEW
  obtain ⟨K, hK⟩ : ∃ K, K = k.toNat := ⟨_, rfl⟩
  rw [← hK] at x2
  have HK := Lib.hid hK
  clear hK
  go_wp2
  go_loopw [6] (fun x wr => ∃ (i : Nat) (vr : Value) (hr : List (Int × Int)), x = .int .i64 i ∧ i ≤ n ∧ TopAt wr t t K vr hr ∧ TopM.Bnd K (l.take i) hr ∧ Below w.heap.size w wr) (fun x _ => n - (intOf x).toNat)
  case atStart => exact ⟨0, _, [], by go_num, Nat.zero_le _, x2, TopM.bnd_nil _, bt⟩
  case round =>
    clear x2 bt
    obtain ⟨i, vr, hr, rfl, hi, xr, nr, bw⟩ := hrel
    have hwr := bw.size
    by_cases hlt : i < n
    · have hd : decide ((i : Int) < (n : Int)) = true := decide_eq_true (by omega)
      have hd2 : decide (i < n) = true := decide_eq_true hlt
      have hil : i < l.length := by rw [HLN.out]; exact hlt
      have hi0 : (0 : Int) ≤ (i : Int) := by omega
      have hin : (i : Int) < (n : Int) := by omega
      have hic : (i : Int) ≤ (cp : Int) := by omega
      have hi1 : (0 : Int) ≤ (i : Int) + 1 := by omega
      have hic1 : (i : Int) + 1 ≤ (cp : Int) := by omega
      obtain ⟨ab, ao, rfl, habl, k0, k1⟩ := HP.out.at_ i hil
      have hpw : ∀ W, Below w.heap.size w W → Prd W (.slice (some ⟨ab, ao, none⟩) i cp) (l.take i) ∧ Prd W (.slice (some ⟨ab, ao, none⟩) (i + 1) cp) (l.take (i + 1)) := fun W hW => ⟨(HP.out.later hW).take i (by omega), (HP.out.later hW).take (i + 1) (by omega)⟩
      obtain ⟨⟨p1, p2⟩, hp⟩ : ∃ p, p = l[i] := ⟨_, rfl⟩
      rw [← hp] at k0 k1
      have htk : l.take (i + 1) = l.take i ++ [(p1, p2)] := by rw [hp]; exact take_more l i hil
      have HTK := Lib.hid htk
      have hr1 := refbest_any k _ _ wr (hpw wr bw).1 (by rw [List.length_take]; omega)
      rw [← HK.out] at hr1
      have HPW := Lib.hid hpw
      have HR1 := Lib.hid hr1
      have HK0 := Lib.hid k0
      have HK1 := Lib.hid k1
      have NR := Lib.hid nr
      clear hr1 hpw hp htk k0 k1 nr
      go_wp2_with fail
      refine HR1.out.mono ?_
      rintro e w3 ⟨v1, rfl, hp1, c3, fr1⟩
      have hov : ∀ b, own2 t vr b → b < wr.heap.size := fun b hb => by
        rcases hb with e | e
        · rw [e]; exact xr.lt
        · exact (World.ownsRow.lt xr.row b e).2
      have x3 := xr.later c3
      have b3 := bw.trans (c3.mono hwr)
      clear xr bw c3 HR1
      have a0 := keepB b3 HK0.out habl
      have a1 := keepB b3 HK1.out habl
      have ho := offer_any t t K vr (l.take i) hr (p1, p2) w3 x3 NR.out (by rw [List.length_take]; omega)
      unfold sv at ho
      have HO := Lib.hid ho
      clear ho
      go_wp2_with fail
      refine HO.out.mono ?_
      rintro e w4 ⟨rfl, v4, h4, x4, n4, o4, hv4⟩
      rw [← HTK.out] at n4
      have b4 : Below w.heap.size w w4 := only_below b3 o4 (fun b hb => Nat.le_trans hwt (own_from x3 b hb)) b3.size
      have hp1b := hp1.only o4 (fun b hb hs => by have := fr1 b hb; have := hov b hs; omega)
      have hr2 := refbest_any k _ _ w4 (HPW.out w4 b4).2 (by rw [List.length_take]; omega)
      rw [← HK.out] at hr2
      have HR2 := Lib.hid hr2
      clear hr2 hp1 x3 b3 a0 a1 HO hv4 o4 fr1 hov
      go_wp2_with fail
      refine HR2.out.mono ?_
      rintro e U ⟨v2, rfl, hp2, c5, _⟩
      have x5 := x4.later c5
      have b5 := b4.trans (c5.mono b4.size)
      have hp1c := hp1b.later c5
      clear x4 b4 c5 HR2 hp1b
      have a0 := keepB b5 HK0.out habl
      have a1 := keepB b5 HK1.out habl
      have habU : ab < U.heap.size := Nat.lt_of_lt_of_le habl b5.size
      obtain ⟨A1, co1, rfl, hc1⟩ := hp1c.form
      obtain ⟨A2, co2, rfl, hc2⟩ := hp2.form
      have hwant := kept_want (p1, p2) NR.out
      obtain ⟨B1, hB1⟩ : ∃ B, B = TopM.best K (l.take i) := ⟨_, rfl⟩
      obtain ⟨B2, hB2⟩ : ∃ B, B = TopM.best K (l.take (i + 1)) := ⟨_, rfl⟩
      obtain ⟨r, hr⟩ : ∃ r, r = keptB K hr (p1, p2) := ⟨_, rfl⟩
      rw [← hB1] at hwant hp1c hc1 ⊢
      rw [← hB2] at hp2 hc2 ⊢
      rw [← hr] at hwant ⊢
      have hb1l : B1.length ≤ 200 := by rw [hB1, TopM.best_len, List.length_take]; omega
      obtain ⟨m1, hm1⟩ : ∃ m, m = B1.length := ⟨_, rfl⟩
      obtain ⟨m2, hm2⟩ : ∃ m, m = B2.length := ⟨_, rfl⟩
      rw [← hm1] at hp1c hc1 hb1l ⊢
      rw [← hm2] at hp2 hc2 ⊢
      have HW := Lib.hid hwant
      have HB2 := Lib.hid hB2
      have HM1 := Lib.hid hm1
      have HM2 := Lib.hid hm2
      clear hwant hB1 hB2 hr hm1 hm2
      go_upto_region 12 with fail
      go_cut [10] (fun x wx => x = .bool r ∧ Below U.heap.size U wx)
      case first =>
        go_wp2_with fail
        by_cases hk0 : 0 < k
        · have hdk : decide (0 < k) = true := decide_eq_true hk0
          by_cases hm : (m1 : Int) < k
          · have hdm : decide ((m1 : Int) < k) = true := decide_eq_true hm
            have hrt : r = true := HW.out.2.1 (by have := HK.out; omega) (by have := HK.out; have := HM1.out; omega)
            subst hrt
            go_quiet (fail)
            go_wp2
            go_meet
            exact ⟨rfl, bdrewN (Below.refl _ _) _⟩
          · have hdm : decide ((m1 : Int) < k) = false := decide_eq_false hm
            obtain ⟨hj, hrb⟩ := HW.out.2.2 (by have := HK.out; omega) (by have := HK.out; have := HM1.out; omega)
            obtain ⟨j, hjE⟩ : ∃ j, j = m1 - 1 := ⟨_, rfl⟩
            have hjm : j < m1 := by omega
            have hj1 : j < B1.length := by rw [← HM1.out]; exact hjm
            have hrb2 : r = TopM.bet (p1, p2) B1[j] := by have := HM1.out; rw [hrb]; congr 1; congr 1; omega
            obtain ⟨g, go, rfl, hgl, c0, c1⟩ := hp1c.at_ j hj1
            obtain ⟨⟨y1, y2⟩, hy⟩ : ∃ y, y = B1[j] := ⟨_, rfl⟩
            rw [← hy] at c0 c1 hrb2
            have hbet := fun W => refbetter_any (p1, p2) (y1, y2) W
            rw [← hrb2] at hbet
            unfold sv at hbet
            have HBT := Lib.hid hbet
            have hwr2 : IntKind.i64.wrap ((m1 : Int) - 1) = (j : Int) := (IntWalk.i64_in _ (by omega)).trans (by omega)
            have hj0 : (0 : Int) ≤ (j : Int) := by omega
            have hjm' : (j : Int) < (m1 : Int) := by omega
            clear hbet hy hrb hrb2 hjE
            go_region_held3 (fun w' => w'.cell? ⟨ab, ao + i * 2, none⟩ = some (.int .i64 p1) ∧ w'.cell? ⟨ab, ao + i * 2 + 1, none⟩ = some (.int .i64 p2) ∧ w'.cell? ⟨g, go + j * 2, none⟩ = some (.int .i64 y1) ∧ w'.cell? ⟨g, go + j * 2 + 1, none⟩ = some (.int .i64 y2))
              (first
                | exact ⟨keep2c a0 habU, keep2c a1 habU, keep2c c0 hgl, keep2c c1 hgl⟩
                | go_keep)
              ((first | ((with_reducible refine (HBT.out _).mono ?_); rintro e w6 ⟨rfl, o1, o2, rfl⟩)))
            go_wp2
            go_meet
            exact ⟨rfl, ((Below.refl _ U).alloc (Nat.le_refl _) o1 |>.alloc (by simp) o2).drew⟩
        · have hdk : decide (0 < k) = false := decide_eq_false hk0
          have hrt : r = false := HW.out.1 (by have := HK.out; omega)
          subst hrt
          go_quiet (fail)
          go_wp2
          go_meet
          exact ⟨rfl, bdrewN (Below.refl _ _) _⟩
      case rest =>
        obtain ⟨rfl, c6⟩ := hcut
        rename_i wc
        have x6 := x5.later c6
        have b6 := b5.trans (c6.mono b5.size)
        have hp2b := hp2.later c6
        clear x5 b5 c6 hp2 hp1c a0 a1 habU hc1
        have hwst := worst_any t t K v4 h4 wc x6
        have hwl := fun hf => worst_last n4 hf
        have hfl := full_is n4
        have h4l : h4.length = m2 := by rw [n4.2.length_eq, HM2.out, HB2.out]
        have hsrt : TopM.srt h4 = B2 := by rw [TopM.bnd_srt n4, HB2.out]
        rw [← HB2.out] at hwl hfl
        rw [← HM2.out] at hfl
        obtain ⟨q, hq⟩ : ∃ q, q = worstV K h4 := ⟨_, rfl⟩
        have hq0 : fullB K h4 = false → q = (0, 0) := fun hf => by rw [hq]; unfold worstV; rw [hf]; rfl
        rw [← hq] at hwst hwl
        obtain ⟨q1, q2⟩ := q
        unfold sv at hwst
        obtain ⟨f, hf⟩ : ∃ f, f = fullB K h4 := ⟨_, rfl⟩
        rw [← hf] at hwst hwl hfl hq0
        have HWS := Lib.hid hwst
        have HWL := Lib.hid hwl
        have HFL := Lib.hid hfl
        have HQ0 := Lib.hid hq0
        have H4L := Lib.hid h4l
        have HSRT := Lib.hid hsrt
        have N4 := Lib.hid n4
        have hm2l : m2 ≤ 200 := by rw [HM2.out, HB2.out, TopM.best_len, List.length_take]; omega
        clear hwst hwl hfl hq0 h4l hsrt n4 hq hf
        go_wp2_with fail
        refine HWS.out.mono ?_
        rintro e w7 ⟨rfl, c7⟩
        have x7 := x6.later c7
        have b7 := b6.trans (c7.mono b6.size)
        have hp2c := hp2b.later c7
        clear x6 b6 hp2b c7 HWS
        have d7 : Below w7.heap.size w7 (w7.alloc (.cells #[.int .i64 q1, .int .i64 q2] 100)) := (Below.refl _ w7).alloc (Nat.le_refl _) _
        have y0 : (w7.alloc (.cells #[.int .i64 q1, .int .i64 q2] 100)).cell? ⟨w7.heap.size, 0, none⟩ = some (.int .i64 q1) := by go_simp
        have y1 : (w7.alloc (.cells #[.int .i64 q1, .int .i64 q2] 100)).cell? ⟨w7.heap.size, 1, none⟩ = some (.int .i64 q2) := by go_simp
        have s7 : w7.heap.size < (w7.alloc (.cells #[.int .i64 q1, .int .i64 q2] 100)).heap.size := by simp
        have x8 := x7.later d7
        have b8 := b7.trans (d7.mono b7.size)
        have hp2d := hp2c.later d7
        clear x7 b7 hp2c d7
        obtain ⟨C, hC⟩ : ∃ C, C = w7.heap.size := ⟨_, rfl⟩
        rw [← hC] at y0 y1 s7
        go_upto_region 14 with fail
        rw [← hC]
        clear hC
        generalize w7.alloc (.cells #[.int .i64 q1, .int .i64 q2] 100) = V at x8 b8 hp2d y0 y1 s7 ⊢
        go_cut [119] (fun x wx => x = .bool false ∧ Below V.heap.size V wx)
        case first =>
          go_wp2_with fail
          have hLen : Hid (∀ W, Below V.heap.size V W → Calls Try.prog 72 #[.pointer (some ⟨t, 0, none⟩)] W fun e w' => e = .returned (.int .i64 (m2 : Int)) ∧ W = w') := Lib.hid (fun W hW => by
            have := toplen_any t t K v4 h4 W (x8.later hW)
            rwa [H4L.out] at this)
          have hList : Hid (∀ W, Below V.heap.size V W → Calls Try.prog 74 #[.pointer (some ⟨t, 0, none⟩)] W fun e w' => ∃ v', e = .returned v' ∧ Prd w' v' B2 ∧ Below V.heap.size V w') := Lib.hid (fun W hW => by
            refine (list_any t t K v4 h4 W (x8.later hW) (by rw [H4L.out]; omega)).mono ?_
            rintro e w' ⟨v', rfl, hp, hb⟩
            rw [HSRT.out] at hp
            exact ⟨v', rfl, hp, hW.trans (hb.mono hW.size)⟩)
          have hSame : Hid (∀ W v', Below V.heap.size V W → Prd W v' B2 → Calls Try.prog 73 #[v', .slice A2 m2 co2] W fun e w' => e = .returned (.bool true) ∧ Below V.heap.size V w') := Lib.hid (fun W v' hW hp => by
            refine (same_any v' (.slice A2 m2 co2) B2 B2 W hp (hp2d.later hW) (by rw [← HM2.out]; omega) (by rw [← HM2.out]; omega)).mono ?_
            rintro e w' ⟨rfl, q, rfl⟩
            exact ⟨by rw [decide_eq_true rfl], bdrewN hW _⟩)
          by_cases hk0 : 0 < k
          · have hdk : decide (0 < k) = true := decide_eq_true hk0
            by_cases hmk : (m2 : Int) = k
            · have hft : f = true := by rw [HFL.out]; have := HK.out; simp; omega
              subst hft
              have hde : ((m2 : Int) == k) = true := by simpa using hmk
              obtain ⟨hj, hwq⟩ := HWL.out rfl
              obtain ⟨j, hjE⟩ : ∃ j, j = m2 - 1 := ⟨_, rfl⟩
              have hM2 := HM2.out
              have hjm : j < m2 := by omega
              have hj1 : j < B2.length := by omega
              obtain ⟨g, go, rfl, hgl, e0, e1⟩ := hp2d.at_ j hj1
              have hbj : B2[j] = (q1, q2) := by rw [hwq]; congr 1; omega
              rw [hbj] at e0 e1
              simp only at e0 e1
              have hwr2 : IntKind.i64.wrap ((m2 : Int) - 1) = (j : Int) := (IntWalk.i64_in _ (by omega)).trans (by omega)
              have hj0 : (0 : Int) ≤ (j : Int) := by omega
              have hjm' : (j : Int) < (m2 : Int) := by omega
              have HMK := Lib.hid hmk
              clear hbj hwq hjE hM2 hmk
              refine wp_region_held_drew (S := (fun w' => w'.cell? ⟨C, 0, none⟩ = some (.int .i64 q1) ∧ w'.cell? ⟨C, 1, none⟩ = some (.int .i64 q2) ∧ w'.cell? ⟨g, go + j * 2, none⟩ = some (.int .i64 q1) ∧ w'.cell? ⟨g, go + j * 2 + 1, none⟩ = some (.int .i64 q2) ∧ Below V.heap.size V w')) (by kernel_rfl) ?_ (fun hHeld => ?_)
              · exact ⟨y0, y1, e0, e1, (Below.refl V.heap.size V).drew⟩
              refine wpAnyH_take (i := 0) (oi := ?oi0_a) (v := ?v0_a) ?hi0_a ?h10_a ?h20_a ?h30_a ?hq0_a ?hy0_a ?hs0_a ?hn0_a
              case hi0_a => (simp only [List.getElem?_toArray, List.getElem?_cons_zero]; rfl)
              case h10_a => kernel_rfl
              case h20_a => kernel_rfl
              case h30_a => kernel_rfl
              case hy0_a => (refine Or.inl ⟨by rfl, ?_⟩; intro w0 hSw; (try dsimp only at hSw); go_simp; try (with_reducible rfl))
              case hq0_a => exact fun _ _ _ h => h
              case hs0_a => assumption
              try simp only [Act.put, List.setIfInBounds_toArray, List.set_cons_zero, List.set_cons_succ]
              refine wpAnyH_take (i := 1) (oi := ?oi1_a) (v := ?v1_a) ?hi1_a ?h11_a ?h21_a ?h31_a ?hq1_a ?hy1_a ?hs1_a ?hn1_a
              case hi1_a => (simp only [List.getElem?_toArray, List.getElem?_cons_succ, List.getElem?_cons_zero]; rfl)
              case h11_a => kernel_rfl
              case h21_a => kernel_rfl
              case h31_a => kernel_rfl
              case hy1_a => (refine Or.inl ⟨by rfl, ?_⟩; intro w0 hSw; (try dsimp only at hSw); go_simp; try (with_reducible rfl))
              case hq1_a => exact fun _ _ _ h => h
              case hs1_a => assumption
              try simp only [Act.put, List.setIfInBounds_toArray, List.set_cons_zero, List.set_cons_succ]
              refine wpAnyH_take (i := 2) (oi := ?oi2_a) (v := ?v2_a) ?hi2_a ?h12_a ?h22_a ?h32_a ?hq2_a ?hy2_a ?hs2_a ?hn2_a
              case hi2_a => (simp only [List.getElem?_toArray, List.getElem?_cons_succ, List.getElem?_cons_zero]; rfl)
              case h12_a => kernel_rfl
              case h22_a => kernel_rfl
              case h32_a => kernel_rfl
              case hy2_a => (refine Or.inl ⟨by rfl, ?_⟩; intro w0 hSw; (try dsimp only at hSw); go_simp; try (with_reducible rfl))
              case hq2_a => exact fun _ _ _ h => h
              case hs2_a => assumption
              try simp only [Act.put, List.setIfInBounds_toArray, List.set_cons_zero, List.set_cons_succ]
              refine wpAnyH_take (i := 3) (oi := ?oi3_a) (v := ?v3_a) ?hi3_a ?h13_a ?h23_a ?h33_a ?hq3_a ?hy3_a ?hs3_a ?hn3_a
              case hi3_a => (simp only [List.getElem?_toArray, List.getElem?_cons_succ, List.getElem?_cons_zero]; rfl)
              case h13_a => kernel_rfl
              case h23_a => kernel_rfl
              case h33_a => kernel_rfl
              case hy3_a => (refine Or.inl ⟨by rfl, ?_⟩; intro w0 hSw; (try dsimp only at hSw); go_simp; try (with_reducible rfl))
              case hq3_a => exact fun _ _ _ h => h
              case hs3_a => assumption
              try simp only [Act.put, List.setIfInBounds_toArray, List.set_cons_zero, List.set_cons_succ]
              refine wpAnyH_take (i := 4) (oi := ?oi4_a) (v := ?v4_a) ?hi4_a ?h14_a ?h24_a ?h34_a ?hq4_a ?hy4_a ?hs4_a ?hn4_a
              case hi4_a => (simp only [List.getElem?_toArray, List.getElem?_cons_succ, List.getElem?_cons_zero]; rfl)
              case h14_a => kernel_rfl
              case h24_a => kernel_rfl
              case h34_a => kernel_rfl
              case hy4_a => (refine Or.inl ⟨by rfl, ?_⟩; intro w0 hSw; (try dsimp only at hSw); go_simp; try (with_reducible rfl))
              case hq4_a => exact fun _ _ _ h => h
              case hs4_a => assumption
              try simp only [Act.put, List.setIfInBounds_toArray, List.set_cons_zero, List.set_cons_succ]
              refine wpAnyH_take (i := 6) (oi := ?oi6_a) (v := ?v6_a) ?hi6_a ?h16_a ?h26_a ?h36_a ?hq6_a ?hy6_a ?hs6_a ?hn6_a
              case hi6_a => (simp only [List.getElem?_toArray, List.getElem?_cons_succ, List.getElem?_cons_zero]; rfl)
              case h16_a => kernel_rfl
              case h26_a => kernel_rfl
              case h36_a => kernel_rfl
              case hy6_a => (refine Or.inl ⟨by rfl, ?_⟩; intro w0 hSw; (try dsimp only at hSw); go_simp; try (with_reducible rfl))
              case hq6_a => exact fun _ _ _ h => h
              case hs6_a => assumption
              try simp only [Act.put, List.setIfInBounds_toArray, List.set_cons_zero, List.set_cons_succ]
              refine wpAnyH_take (i := 7) (oi := ?oi7_a) (v := ?v7_a) ?hi7_a ?h17_a ?h27_a ?h37_a ?hq7_a ?hy7_a ?hs7_a ?hn7_a
              case hi7_a => (simp only [List.getElem?_toArray, List.getElem?_cons_succ, List.getElem?_cons_zero]; rfl)
              case h17_a => kernel_rfl
              case h27_a => kernel_rfl
              case h37_a => kernel_rfl
              case hy7_a => (refine Or.inl ⟨by rfl, ?_⟩; intro w0 hSw; (try dsimp only at hSw); go_simp; try (with_reducible rfl))
              case hq7_a => exact fun _ _ _ h => h
              case hs7_a => assumption
              try simp only [Act.put, List.setIfInBounds_toArray, List.set_cons_zero, List.set_cons_succ]
              refine wpAnyH_ready (rs := [5]) (by kernel_rfl) (by simp) ?_
              refine AllReadyH.cons (o := _) rfl (fun K hK => ?_) AllReadyH.nil
              go_simp
              refine (hLen.out _ (Below.refl _ _).drew).mono ?_
              rintro e wl ⟨rfl, rfl⟩
              go_wp2_with fail
              refine hK.out _ _ ?_ (fun hHeld2 => ?_)
              · exact hHeld
              clear hK K
              try simp only [Act.put, List.setIfInBounds_toArray, List.set_cons_zero, List.set_cons_succ]
              clear hHeld2
              refine wpAnyH_take (i := 8) (oi := ?oi8_a) (v := ?v8_a) ?hi8_a ?h18_a ?h28_a ?h38_a ?hq8_a ?hy8_a ?hs8_a ?hn8_a
              case hi8_a => (simp only [List.getElem?_toArray, List.getElem?_cons_succ, List.getElem?_cons_zero]; rfl)
              case h18_a => kernel_rfl
              case h28_a => kernel_rfl
              case h38_a => kernel_rfl
              case hy8_a => (refine Or.inl ⟨by rfl, ?_⟩; intro w0 hSw; (try dsimp only at hSw); go_simp; try (with_reducible rfl))
              case hq8_a => exact fun _ _ _ h => h
              case hs8_a => assumption
              try simp only [Act.put, List.setIfInBounds_toArray, List.set_cons_zero, List.set_cons_succ]
              refine wpAnyH_take (i := 9) (oi := ?oi9_a) (v := ?v9_a) ?hi9_a ?h19_a ?h29_a ?h39_a ?hq9_a ?hy9_a ?hs9_a ?hn9_a
              case hi9_a => (simp only [List.getElem?_toArray, List.getElem?_cons_succ, List.getElem?_cons_zero]; rfl)
              case h19_a => kernel_rfl
              case h29_a => kernel_rfl
              case h39_a => kernel_rfl
              case hy9_a => (refine Or.inl ⟨by rfl, ?_⟩; intro w0 hSw; (try dsimp only at hSw); go_simp; try (with_reducible rfl))
              case hq9_a => exact fun _ _ _ h => h
              case hs9_a => assumption
              try simp only [Act.put, List.setIfInBounds_toArray, List.set_cons_zero, List.set_cons_succ]
              refine wpAnyH_take (i := 10) (oi := ?oi10_a) (v := ?v10_a) ?hi10_a ?h110_a ?h210_a ?h310_a ?hq10_a ?hy10_a ?hs10_a ?hn10_a
              case hi10_a => (simp only [List.getElem?_toArray, List.getElem?_cons_succ, List.getElem?_cons_zero]; rfl)
              case h110_a => kernel_rfl
              case h210_a => kernel_rfl
              case h310_a => kernel_rfl
              case hy10_a => (refine Or.inl ⟨by rfl, ?_⟩; intro w0 hSw; (try dsimp only at hSw); go_simp; try (with_reducible rfl))
              case hq10_a => exact fun _ _ _ h => h
              case hs10_a => assumption
              try simp only [Act.put, List.setIfInBounds_toArray, List.set_cons_zero, List.set_cons_succ]
              refine wpAnyH_take (i := 11) (oi := ?oi11_a) (v := ?v11_a) ?hi11_a ?h111_a ?h211_a ?h311_a ?hq11_a ?hy11_a ?hs11_a ?hn11_a
              case hi11_a => (simp only [List.getElem?_toArray, List.getElem?_cons_succ, List.getElem?_cons_zero]; rfl)
              case h111_a => kernel_rfl
              case h211_a => kernel_rfl
              case h311_a => kernel_rfl
              case hy11_a => (refine Or.inl ⟨by rfl, ?_⟩; intro w0 hSw; (try dsimp only at hSw); go_simp; try (with_reducible rfl))
              case hq11_a => exact fun _ _ _ h => h
              case hs11_a => assumption
              try simp only [Act.put, List.setIfInBounds_toArray, List.set_cons_zero, List.set_cons_succ]
              refine wpAnyH_take (i := 13) (oi := ?oi13_a) (v := ?v13_a) ?hi13_a ?h113_a ?h213_a ?h313_a ?hq13_a ?hy13_a ?hs13_a ?hn13_a
              case hi13_a => (simp only [List.getElem?_toArray, List.getElem?_cons_succ, List.getElem?_cons_zero]; rfl)
              case h113_a => kernel_rfl
              case h213_a => kernel_rfl
              case h313_a => kernel_rfl
              case hy13_a => (refine Or.inl ⟨by rfl, ?_⟩; intro w0 hSw; (try dsimp only at hSw); go_simp; try (with_reducible rfl))
              case hq13_a => exact fun _ _ _ h => h
              case hs13_a => assumption
              try simp only [Act.put, List.setIfInBounds_toArray, List.set_cons_zero, List.set_cons_succ]
              refine wpAnyH_ready (rs := [12]) (by kernel_rfl) (by simp) ?_
              refine AllReadyH.cons (o := _) rfl (fun K hK => ?_) AllReadyH.nil
              go_simp
              refine (hList.out _ (Below.refl _ _).drew).mono ?_
              rintro e wl ⟨vl, rfl, hpl, hbz⟩
              go_wp2_with fail
              refine hK.out _ _ ?_ (fun hHeld2 => ?_)
              · exact ⟨keepB hbz y0 s7, keepB hbz y1 s7, keepB hbz e0 hgl, keepB hbz e1 hgl, hbz⟩
              clear hK K
              try simp only [Act.put, List.setIfInBounds_toArray, List.set_cons_zero, List.set_cons_succ]
              clear hHeld
              have hHeld := hHeld2
              clear hHeld2
              refine wpAnyH_ready (rs := [14]) (by kernel_rfl) (by simp) ?_
              refine AllReadyH.cons (o := _) rfl (fun K hK => ?_) AllReadyH.nil
              go_simp
              refine (hSame.out _ _ hbz hpl).mono ?_
              clear hbz
              rintro e ws ⟨rfl, hbz⟩
              go_wp2_with fail
              refine hK.out _ _ ?_ (fun hHeld2 => ?_)
              · exact ⟨keepB hbz y0 s7, keepB hbz y1 s7, keepB hbz e0 hgl, keepB hbz e1 hgl, hbz⟩
              clear hK K
              try simp only [Act.put, List.setIfInBounds_toArray, List.set_cons_zero, List.set_cons_succ]
              clear hHeld
              have hHeld := hHeld2
              clear hHeld2
              refine wpAnyH_take (i := 15) (oi := ?oi15_a) (v := ?v15_a) ?hi15_a ?h115_a ?h215_a ?h315_a ?hq15_a ?hy15_a ?hs15_a ?hn15_a
              case hi15_a => (simp only [List.getElem?_toArray, List.getElem?_cons_succ, List.getElem?_cons_zero]; rfl)
              case h115_a => kernel_rfl
              case h215_a => kernel_rfl
              case h315_a => kernel_rfl
              case hy15_a => (refine Or.inl ⟨by rfl, ?_⟩; intro w0 hSw; (try dsimp only at hSw); go_simp; try (with_reducible rfl))
              case hq15_a => exact fun _ _ _ h => h
              case hs15_a => assumption
              try simp only [Act.put, List.setIfInBounds_toArray, List.set_cons_zero, List.set_cons_succ]
              refine wpAnyH_take (i := 16) (oi := ?oi16_a) (v := ?v16_a) ?hi16_a ?h116_a ?h216_a ?h316_a ?hq16_a ?hy16_a ?hs16_a ?hn16_a
              case hi16_a => (simp only [List.getElem?_toArray, List.getElem?_cons_succ, List.getElem?_cons_zero]; rfl)
              case h116_a => kernel_rfl
              case h216_a => kernel_rfl
              case h316_a => kernel_rfl
              case hy16_a => (refine Or.inl ⟨by rfl, ?_⟩; intro w0 hSw; (try dsimp only at hSw); go_simp; try (with_reducible rfl))
              case hq16_a => exact fun _ _ _ h => h
              case hs16_a => assumption
              try simp only [Act.put, List.setIfInBounds_toArray, List.set_cons_zero, List.set_cons_succ]
              refine wpAnyH_take (i := 17) (oi := ?oi17_a) (v := ?v17_a) ?hi17_a ?h117_a ?h217_a ?h317_a ?hq17_a ?hy17_a ?hs17_a ?hn17_a
              case hi17_a => (simp only [List.getElem?_toArray, List.getElem?_cons_succ, List.getElem?_cons_zero]; rfl)
              case h117_a => kernel_rfl
              case h217_a => kernel_rfl
              case h317_a => kernel_rfl
              case hy17_a => (refine Or.inl ⟨by rfl, ?_⟩; intro w0 hSw; (try dsimp only at hSw); go_simp; try (with_reducible rfl))
              case hq17_a => exact fun _ _ _ h => h
              case hs17_a => assumption
              try simp only [Act.put, List.setIfInBounds_toArray, List.set_cons_zero, List.set_cons_succ]
              refine wpAnyH_take (i := 18) (oi := ?oi18_a) (v := ?v18_a) ?hi18_a ?h118_a ?h218_a ?h318_a ?hq18_a ?hy18_a ?hs18_a ?hn18_a
              case hi18_a => (simp only [List.getElem?_toArray, List.getElem?_cons_succ, List.getElem?_cons_zero]; rfl)
              case h118_a => kernel_rfl
              case h218_a => kernel_rfl
              case h318_a => kernel_rfl
              case hy18_a => (refine Or.inl ⟨by rfl, ?_⟩; intro w0 hSw; (try dsimp only at hSw); go_simp; try (with_reducible rfl))
              case hq18_a => exact fun _ _ _ h => h
              case hs18_a => assumption
              try simp only [Act.put, List.setIfInBounds_toArray, List.set_cons_zero, List.set_cons_succ]
              refine wpAnyH_take (i := 19) (oi := ?oi19_a) (v := ?v19_a) ?hi19_a ?h119_a ?h219_a ?h319_a ?hq19_a ?hy19_a ?hs19_a ?hn19_a
              case hi19_a => (simp only [List.getElem?_toArray, List.getElem?_cons_succ, List.getElem?_cons_zero]; rfl)
              case h119_a => kernel_rfl
              case h219_a => kernel_rfl
              case h319_a => kernel_rfl
              case hy19_a => (refine Or.inl ⟨by rfl, ?_⟩; intro w0 hSw; (try dsimp only at hSw); go_simp; try (with_reducible rfl))
              case hq19_a => exact fun _ _ _ h => h
              case hs19_a => assumption
              try simp only [Act.put, List.setIfInBounds_toArray, List.set_cons_zero, List.set_cons_succ]
              refine wpAnyH_take (i := 20) (oi := ?oi20_a) (v := ?v20_a) ?hi20_a ?h120_a ?h220_a ?h320_a ?hq20_a ?hy20_a ?hs20_a ?hn20_a
              case hi20_a => (simp only [List.getElem?_toArray, List.getElem?_cons_succ, List.getElem?_cons_zero]; rfl)
              case h120_a => kernel_rfl
              case h220_a => kernel_rfl
              case h320_a => kernel_rfl
              case hy20_a => (refine Or.inl ⟨by rfl, ?_⟩; intro w0 hSw; (try dsimp only at hSw); go_simp; try (with_reducible rfl))
              case hq20_a => exact fun _ _ _ h => h
              case hs20_a => assumption
              try simp only [Act.put, List.setIfInBounds_toArray, List.set_cons_zero, List.set_cons_succ]
              refine wpAnyH_take (i := 21) (oi := ?oi21_a) (v := ?v21_a) ?hi21_a ?h121_a ?h221_a ?h321_a ?hq21_a ?hy21_a ?hs21_a ?hn21_a
              case hi21_a => (simp only [List.getElem?_toArray, List.getElem?_cons_succ, List.getElem?_cons_zero]; rfl)
              case h121_a => kernel_rfl
              case h221_a => kernel_rfl
              case h321_a => kernel_rfl
              case hy21_a => (refine Or.inl ⟨by rfl, ?_⟩; intro w0 hSw; (try dsimp only at hSw); go_simp; try (with_reducible rfl))
              case hq21_a => exact fun _ _ _ h => h
              case hs21_a => assumption
              try simp only [Act.put, List.setIfInBounds_toArray, List.set_cons_zero, List.set_cons_succ]
              refine wpAnyH_take (i := 22) (oi := ?oi22_a) (v := ?v22_a) ?hi22_a ?h122_a ?h222_a ?h322_a ?hq22_a ?hy22_a ?hs22_a ?hn22_a
              case hi22_a => (simp only [List.getElem?_toArray, List.getElem?_cons_succ, List.getElem?_cons_zero]; rfl)
              case h122_a => kernel_rfl
              case h222_a => kernel_rfl
              case h322_a => kernel_rfl
              case hy22_a => (refine Or.inl ⟨by rfl, ?_⟩; intro w0 hSw; (try dsimp only at hSw); go_simp; try (with_reducible rfl))
              case hq22_a => exact fun _ _ _ h => h
              case hs22_a => assumption
              try simp only [Act.put, List.setIfInBounds_toArray, List.set_cons_zero, List.set_cons_succ]
              refine wpAnyH_take (i := 23) (oi := ?oi23_a) (v := ?v23_a) ?hi23_a ?h123_a ?h223_a ?h323_a ?hq23_a ?hy23_a ?hs23_a ?hn23_a
              case hi23_a => (simp only [List.getElem?_toArray, List.getElem?_cons_succ, List.getElem?_cons_zero]; rfl)
              case h123_a => kernel_rfl
              case h223_a => kernel_rfl
              case h323_a => kernel_rfl
              case hy23_a => (refine Or.inl ⟨by rfl, ?_⟩; intro w0 hSw; (try dsimp only at hSw); go_simp; try (with_reducible rfl))
              case hq23_a => exact fun _ _ _ h => h
              case hs23_a => assumption
              try simp only [Act.put, List.setIfInBounds_toArray, List.set_cons_zero, List.set_cons_succ]
              refine wpAnyH_take (i := 24) (oi := ?oi24_a) (v := ?v24_a) ?hi24_a ?h124_a ?h224_a ?h324_a ?hq24_a ?hy24_a ?hs24_a ?hn24_a
              case hi24_a => (simp only [List.getElem?_toArray, List.getElem?_cons_succ, List.getElem?_cons_zero]; rfl)
              case h124_a => kernel_rfl
              case h224_a => kernel_rfl
              case h324_a => kernel_rfl
              case hy24_a => (refine Or.inl ⟨by rfl, ?_⟩; intro w0 hSw; (try dsimp only at hSw); go_simp; try (with_reducible rfl))
              case hq24_a => exact fun _ _ _ h => h
              case hs24_a => assumption
              try simp only [Act.put, List.setIfInBounds_toArray, List.set_cons_zero, List.set_cons_succ]
              refine wpAnyH_take (i := 25) (oi := ?oi25_a) (v := ?v25_a) ?hi25_a ?h125_a ?h225_a ?h325_a ?hq25_a ?hy25_a ?hs25_a ?hn25_a
              case hi25_a => (simp only [List.getElem?_toArray, List.getElem?_cons_succ, List.getElem?_cons_zero]; rfl)
              case h125_a => kernel_rfl
              case h225_a => kernel_rfl
              case h325_a => kernel_rfl
              case hy25_a => (refine Or.inl ⟨by rfl, ?_⟩; intro w0 hSw; (try dsimp only at hSw); go_simp; try (with_reducible rfl))
              case hq25_a => exact fun _ _ _ h => h
              case hs25_a => assumption
              try simp only [Act.put, List.setIfInBounds_toArray, List.set_cons_zero, List.set_cons_succ]
              refine wpAnyH_take (i := 26) (oi := ?oi26_a) (v := ?v26_a) ?hi26_a ?h126_a ?h226_a ?h326_a ?hq26_a ?hy26_a ?hs26_a ?hn26_a
              case hi26_a => (simp only [List.getElem?_toArray, List.getElem?_cons_succ, List.getElem?_cons_zero]; rfl)
              case h126_a => kernel_rfl
              case h226_a => kernel_rfl
              case h326_a => kernel_rfl
              case hy26_a => (refine Or.inl ⟨by rfl, ?_⟩; intro w0 hSw; (try dsimp only at hSw); go_simp; try (with_reducible rfl))
              case hq26_a => exact fun _ _ _ h => h
              case hs26_a => assumption
              try simp only [Act.put, List.setIfInBounds_toArray, List.set_cons_zero, List.set_cons_succ]
              refine wpAnyH_take (i := 27) (oi := ?oi27_a) (v := ?v27_a) ?hi27_a ?h127_a ?h227_a ?h327_a ?hq27_a ?hy27_a ?hs27_a ?hn27_a
              case hi27_a => (simp only [List.getElem?_toArray, List.getElem?_cons_succ, List.getElem?_cons_zero]; rfl)
              case h127_a => kernel_rfl
              case h227_a => kernel_rfl
              case h327_a => kernel_rfl
              case hy27_a => (refine Or.inl ⟨by rfl, ?_⟩; intro w0 hSw; (try dsimp only at hSw); go_simp; try (with_reducible rfl))
              case hq27_a => exact fun _ _ _ h => h
              case hs27_a => assumption
              try simp only [Act.put, List.setIfInBounds_toArray, List.set_cons_zero, List.set_cons_succ]
              refine wpAnyH_take (i := 28) (oi := ?oi28_a) (v := ?v28_a) ?hi28_a ?h128_a ?h228_a ?h328_a ?hq28_a ?hy28_a ?hs28_a ?hn28_a
              case hi28_a => (simp only [List.getElem?_toArray, List.getElem?_cons_succ, List.getElem?_cons_zero]; rfl)
              case h128_a => kernel_rfl
              case h228_a => kernel_rfl
              case h328_a => kernel_rfl
              case hy28_a => (refine Or.inl ⟨by rfl, ?_⟩; intro w0 hSw; (try dsimp only at hSw); go_simp; try (with_reducible rfl))
              case hq28_a => exact fun _ _ _ h => h
              case hs28_a => assumption
              try simp only [Act.put, List.setIfInBounds_toArray, List.set_cons_zero, List.set_cons_succ]
              refine wpAnyH_take (i := 29) (oi := ?oi29_a) (v := ?v29_a) ?hi29_a ?h129_a ?h229_a ?h329_a ?hq29_a ?hy29_a ?hs29_a ?hn29_a
              case hi29_a => (simp only [List.getElem?_toArray, List.getElem?_cons_succ, List.getElem?_cons_zero]; rfl)
              case h129_a => kernel_rfl
              case h229_a => kernel_rfl
              case h329_a => kernel_rfl
              case hy29_a => (refine Or.inl ⟨by rfl, ?_⟩; intro w0 hSw; (try dsimp only at hSw); go_simp; try (with_reducible rfl))
              case hq29_a => exact fun _ _ _ h => h
              case hs29_a => assumption
              try simp only [Act.put, List.setIfInBounds_toArray, List.set_cons_zero, List.set_cons_succ]
              refine wpAnyH_take (i := 30) (oi := ?oi30_a) (v := ?v30_a) ?hi30_a ?h130_a ?h230_a ?h330_a ?hq30_a ?hy30_a ?hs30_a ?hn30_a
              case hi30_a => (simp only [List.getElem?_toArray, List.getElem?_cons_succ, List.getElem?_cons_zero]; rfl)
              case h130_a => kernel_rfl
              case h230_a => kernel_rfl
              case h330_a => kernel_rfl
              case hy30_a => (refine Or.inl ⟨by rfl, ?_⟩; intro w0 hSw; (try dsimp only at hSw); go_simp; try (with_reducible rfl))
              case hq30_a => exact fun _ _ _ h => h
              case hs30_a => assumption
              try simp only [Act.put, List.setIfInBounds_toArray, List.set_cons_zero, List.set_cons_succ]
              refine wpAnyH_take (i := 31) (oi := ?oi31_a) (v := ?v31_a) ?hi31_a ?h131_a ?h231_a ?h331_a ?hq31_a ?hy31_a ?hs31_a ?hn31_a
              case hi31_a => (simp only [List.getElem?_toArray, List.getElem?_cons_succ, List.getElem?_cons_zero]; rfl)
              case h131_a => kernel_rfl
              case h231_a => kernel_rfl
              case h331_a => kernel_rfl
              case hy31_a => (refine Or.inl ⟨by rfl, ?_⟩; intro w0 hSw; (try dsimp only at hSw); go_simp; try (with_reducible rfl))
              case hq31_a => exact fun _ _ _ h => h
              case hs31_a => assumption
              try simp only [Act.put, List.setIfInBounds_toArray, List.set_cons_zero, List.set_cons_succ]
              refine wpAnyH_take (i := 32) (oi := ?oi32_a) (v := ?v32_a) ?hi32_a ?h132_a ?h232_a ?h332_a ?hq32_a ?hy32_a ?hs32_a ?hn32_a
              case hi32_a => (simp only [List.getElem?_toArray, List.getElem?_cons_succ, List.getElem?_cons_zero]; rfl)
              case h132_a => kernel_rfl
              case h232_a => kernel_rfl
              case h332_a => kernel_rfl
              case hy32_a => (refine Or.inl ⟨by rfl, ?_⟩; intro w0 hSw; (try dsimp only at hSw); go_simp; try (with_reducible rfl))
              case hq32_a => exact fun _ _ _ h => h
              case hs32_a => assumption
              try simp only [Act.put, List.setIfInBounds_toArray, List.set_cons_zero, List.set_cons_succ]
              refine wpAnyH_take (i := 33) (oi := ?oi33_a) (v := ?v33_a) ?hi33_a ?h133_a ?h233_a ?h333_a ?hq33_a ?hy33_a ?hs33_a ?hn33_a
              case hi33_a => (simp only [List.getElem?_toArray, List.getElem?_cons_succ, List.getElem?_cons_zero]; rfl)
              case h133_a => kernel_rfl
              case h233_a => kernel_rfl
              case h333_a => kernel_rfl
              case hy33_a => (refine Or.inl ⟨by rfl, ?_⟩; intro w0 hSw; (try dsimp only at hSw); go_simp; try (with_reducible rfl))
              case hq33_a => exact fun _ _ _ h => h
              case hs33_a => assumption
              try simp only [Act.put, List.setIfInBounds_toArray, List.set_cons_zero, List.set_cons_succ]
              refine wpAnyH_take (i := 34) (oi := ?oi34_a) (v := ?v34_a) ?hi34_a ?h134_a ?h234_a ?h334_a ?hq34_a ?hy34_a ?hs34_a ?hn34_a
              case hi34_a => (simp only [List.getElem?_toArray, List.getElem?_cons_succ, List.getElem?_cons_zero]; rfl)
              case h134_a => kernel_rfl
              case h234_a => kernel_rfl
              case h334_a => kernel_rfl
              case hy34_a => (refine Or.inl ⟨by rfl, ?_⟩; intro w0 hSw; (try dsimp only at hSw); go_simp; try (with_reducible rfl))
              case hq34_a => exact fun _ _ _ h => h
              case hs34_a => assumption
              try simp only [Act.put, List.setIfInBounds_toArray, List.set_cons_zero, List.set_cons_succ]
              refine wpAnyH_take (i := 35) (oi := ?oi35_a) (v := ?v35_a) ?hi35_a ?h135_a ?h235_a ?h335_a ?hq35_a ?hy35_a ?hs35_a ?hn35_a
              case hi35_a => (simp only [List.getElem?_toArray, List.getElem?_cons_succ, List.getElem?_cons_zero]; rfl)
              case h135_a => kernel_rfl
              case h235_a => kernel_rfl
              case h335_a => kernel_rfl
              case hy35_a => (refine Or.inl ⟨by rfl, ?_⟩; intro w0 hSw; (try dsimp only at hSw); go_simp; try (with_reducible rfl))
              case hq35_a => exact fun _ _ _ h => h
              case hs35_a => assumption
              try simp only [Act.put, List.setIfInBounds_toArray, List.set_cons_zero, List.set_cons_succ]
              refine wpAnyH_take (i := 36) (oi := ?oi36_a) (v := ?v36_a) ?hi36_a ?h136_a ?h236_a ?h336_a ?hq36_a ?hy36_a ?hs36_a ?hn36_a
              case hi36_a => (simp only [List.getElem?_toArray, List.getElem?_cons_succ, List.getElem?_cons_zero]; rfl)
              case h136_a => kernel_rfl
              case h236_a => kernel_rfl
              case h336_a => kernel_rfl
              case hy36_a => (refine Or.inl ⟨by rfl, ?_⟩; intro w0 hSw; (try dsimp only at hSw); go_simp; try (with_reducible rfl))
              case hq36_a => exact fun _ _ _ h => h
              case hs36_a => assumption
              try simp only [Act.put, List.setIfInBounds_toArray, List.set_cons_zero, List.set_cons_succ]
              refine wpAnyH_take (i := 37) (oi := ?oi37_a) (v := ?v37_a) ?hi37_a ?h137_a ?h237_a ?h337_a ?hq37_a ?hy37_a ?hs37_a ?hn37_a
              case hi37_a => (simp only [List.getElem?_toArray, List.getElem?_cons_succ, List.getElem?_cons_zero]; rfl)
              case h137_a => kernel_rfl
              case h237_a => kernel_rfl
              case h337_a => kernel_rfl
              case hy37_a => (refine Or.inl ⟨by rfl, ?_⟩; intro w0 hSw; (try dsimp only at hSw); go_simp; try (with_reducible rfl))
              case hq37_a => exact fun _ _ _ h => h
              case hs37_a => assumption
              try simp only [Act.put, List.setIfInBounds_toArray, List.set_cons_zero, List.set_cons_succ]
              refine wpAnyH_take (i := 38) (oi := ?oi38_a) (v := ?v38_a) ?hi38_a ?h138_a ?h238_a ?h338_a ?hq38_a ?hy38_a ?hs38_a ?hn38_a
              case hi38_a => (simp only [List.getElem?_toArray, List.getElem?_cons_succ, List.getElem?_cons_zero]; rfl)
              case h138_a => kernel_rfl
              case h238_a => kernel_rfl
              case h338_a => kernel_rfl
              case hy38_a => (refine Or.inl ⟨by rfl, ?_⟩; intro w0 hSw; (try dsimp only at hSw); go_simp; try (with_reducible rfl))
              case hq38_a => exact fun _ _ _ h => h
              case hs38_a => assumption
              try simp only [Act.put, List.setIfInBounds_toArray, List.set_cons_zero, List.set_cons_succ]
              refine wpAnyH_take (i := 39) (oi := ?oi39_a) (v := ?v39_a) ?hi39_a ?h139_a ?h239_a ?h339_a ?hq39_a ?hy39_a ?hs39_a ?hn39_a
              case hi39_a => (simp only [List.getElem?_toArray, List.getElem?_cons_succ, List.getElem?_cons_zero]; rfl)
              case h139_a => kernel_rfl
              case h239_a => kernel_rfl
              case h339_a => kernel_rfl
              case hy39_a => (refine Or.inl ⟨by rfl, ?_⟩; intro w0 hSw; (try dsimp only at hSw); go_simp; try (with_reducible rfl))
              case hq39_a => exact fun _ _ _ h => h
              case hs39_a => assumption
              try simp only [Act.put, List.setIfInBounds_toArray, List.set_cons_zero, List.set_cons_succ]
              refine wpAnyH_take (i := 40) (oi := ?oi40_a) (v := ?v40_a) ?hi40_a ?h140_a ?h240_a ?h340_a ?hq40_a ?hy40_a ?hs40_a ?hn40_a
              case hi40_a => (simp only [List.getElem?_toArray, List.getElem?_cons_succ, List.getElem?_cons_zero]; rfl)
              case h140_a => kernel_rfl
              case h240_a => kernel_rfl
              case h340_a => kernel_rfl
              case hy40_a => (refine Or.inl ⟨by rfl, ?_⟩; intro w0 hSw; (try dsimp only at hSw); go_simp; try (with_reducible rfl))
              case hq40_a => exact fun _ _ _ h => h
              case hs40_a => assumption
              try simp only [Act.put, List.setIfInBounds_toArray, List.set_cons_zero, List.set_cons_succ]
              refine wpAnyH_take (i := 41) (oi := ?oi41_a) (v := ?v41_a) ?hi41_a ?h141_a ?h241_a ?h341_a ?hq41_a ?hy41_a ?hs41_a ?hn41_a
              case hi41_a => (simp only [List.getElem?_toArray, List.getElem?_cons_succ, List.getElem?_cons_zero]; rfl)
              case h141_a => kernel_rfl
              case h241_a => kernel_rfl
              case h341_a => kernel_rfl
              case hy41_a => (refine Or.inl ⟨by rfl, ?_⟩; intro w0 hSw; (try dsimp only at hSw); go_simp; try (with_reducible rfl))
              case hq41_a => exact fun _ _ _ h => h
              case hs41_a => assumption
              try simp only [Act.put, List.setIfInBounds_toArray, List.set_cons_zero, List.set_cons_succ]
              refine wpAnyH_take (i := 42) (oi := ?oi42_a) (v := ?v42_a) ?hi42_a ?h142_a ?h242_a ?h342_a ?hq42_a ?hy42_a ?hs42_a ?hn42_a
              case hi42_a => (simp only [List.getElem?_toArray, List.getElem?_cons_succ, List.getElem?_cons_zero]; rfl)
              case h142_a => kernel_rfl
              case h242_a => kernel_rfl
              case h342_a => kernel_rfl
              case hy42_a => (refine Or.inl ⟨by rfl, ?_⟩; intro w0 hSw; (try dsimp only at hSw); go_simp; try (with_reducible rfl))
              case hq42_a => exact fun _ _ _ h => h
              case hs42_a => assumption
              try simp only [Act.put, List.setIfInBounds_toArray, List.set_cons_zero, List.set_cons_succ]
              refine wpAnyH_take (i := 43) (oi := ?oi43_a) (v := ?v43_a) ?hi43_a ?h143_a ?h243_a ?h343_a ?hq43_a ?hy43_a ?hs43_a ?hn43_a
              case hi43_a => (simp only [List.getElem?_toArray, List.getElem?_cons_succ, List.getElem?_cons_zero]; rfl)
              case h143_a => kernel_rfl
              case h243_a => kernel_rfl
              case h343_a => kernel_rfl
              case hy43_a => (refine Or.inl ⟨by rfl, ?_⟩; intro w0 hSw; (try dsimp only at hSw); go_simp; try (with_reducible rfl))
              case hq43_a => exact fun _ _ _ h => h
              case hs43_a => assumption
              try simp only [Act.put, List.setIfInBounds_toArray, List.set_cons_zero, List.set_cons_succ]
              refine wpAnyH_take (i := 44) (oi := ?oi44_a) (v := ?v44_a) ?hi44_a ?h144_a ?h244_a ?h344_a ?hq44_a ?hy44_a ?hs44_a ?hn44_a
              case hi44_a => (simp only [List.getElem?_toArray, List.getElem?_cons_succ, List.getElem?_cons_zero]; rfl)
              case h144_a => kernel_rfl
              case h244_a => kernel_rfl
              case h344_a => kernel_rfl
              case hy44_a => (refine Or.inl ⟨by rfl, ?_⟩; intro w0 hSw; (try dsimp only at hSw); go_simp; try (with_reducible rfl))
              case hq44_a => exact fun _ _ _ h => h
              case hs44_a => assumption
              try simp only [Act.put, List.setIfInBounds_toArray, List.set_cons_zero, List.set_cons_succ]
              refine wpAnyH_take (i := 45) (oi := ?oi45_a) (v := ?v45_a) ?hi45_a ?h145_a ?h245_a ?h345_a ?hq45_a ?hy45_a ?hs45_a ?hn45_a
              case hi45_a => (simp only [List.getElem?_toArray, List.getElem?_cons_succ, List.getElem?_cons_zero]; rfl)
              case h145_a => kernel_rfl
              case h245_a => kernel_rfl
              case h345_a => kernel_rfl
              case hy45_a => (refine Or.inl ⟨by rfl, ?_⟩; intro w0 hSw; (try dsimp only at hSw); go_simp; try (with_reducible rfl))
              case hq45_a => exact fun _ _ _ h => h
              case hs45_a => assumption
              try simp only [Act.put, List.setIfInBounds_toArray, List.set_cons_zero, List.set_cons_succ]
              refine wpAnyH_take (i := 46) (oi := ?oi46_a) (v := undef) ?hi46_a ?h146_a ?h246_a ?h346_a ?hq46_a ?hy46_a ?hs46_a ?hn46_a
              case hi46_a => (simp only [List.getElem?_toArray, List.getElem?_cons_succ, List.getElem?_cons_zero]; rfl)
              case h146_a => kernel_rfl
              case h246_a => kernel_rfl
              case h346_a => kernel_rfl
              case hq46_a => exact fun _ _ _ h => h
              case hs46_a => assumption
              case hy46_a => exact Or.inr ⟨by rfl, rfl⟩
              try simp only [Act.put, List.setIfInBounds_toArray, List.set_cons_zero, List.set_cons_succ]
              refine wpAnyH_take (i := 47) (oi := ?oi47_a) (v := undef) ?hi47_a ?h147_a ?h247_a ?h347_a ?hq47_a ?hy47_a ?hs47_a ?hn47_a
              case hi47_a => (simp only [List.getElem?_toArray, List.getElem?_cons_succ, List.getElem?_cons_zero]; rfl)
              case h147_a => kernel_rfl
              case h247_a => kernel_rfl
              case h347_a => kernel_rfl
              case hq47_a => exact fun _ _ _ h => h
              case hs47_a => assumption
              case hy47_a => exact Or.inr ⟨by rfl, rfl⟩
              try simp only [Act.put, List.setIfInBounds_toArray, List.set_cons_zero, List.set_cons_succ]
              refine wpAnyH_take (i := 48) (oi := ?oi48_a) (v := undef) ?hi48_a ?h148_a ?h248_a ?h348_a ?hq48_a ?hy48_a ?hs48_a ?hn48_a
              case hi48_a => (simp only [List.getElem?_toArray, List.getElem?_cons_succ, List.getElem?_cons_zero]; rfl)
              case h148_a => kernel_rfl
              case h248_a => kernel_rfl
              case h348_a => kernel_rfl
              case hq48_a => exact fun _ _ _ h => h
              case hs48_a => assumption
              case hy48_a => exact Or.inr ⟨by rfl, rfl⟩
              try simp only [Act.put, List.setIfInBounds_toArray, List.set_cons_zero, List.set_cons_succ]
              refine wpAnyH_take (i := 49) (oi := ?oi49_a) (v := ?v49_a) ?hi49_a ?h149_a ?h249_a ?h349_a ?hq49_a ?hy49_a ?hs49_a ?hn49_a
              case hi49_a => (simp only [List.getElem?_toArray, List.getElem?_cons_succ, List.getElem?_cons_zero]; rfl)
              case h149_a => kernel_rfl
              case h249_a => kernel_rfl
              case h349_a => kernel_rfl
              case hy49_a => (refine Or.inl ⟨by rfl, ?_⟩; intro w0 hSw; (try dsimp only at hSw); go_simp; try (with_reducible rfl))
              case hq49_a => exact fun _ _ _ h => h
              case hs49_a => assumption
              try simp only [Act.put, List.setIfInBounds_toArray, List.set_cons_zero, List.set_cons_succ]
              refine wpAnyH_take (i := 50) (oi := ?oi50_a) (v := ?v50_a) ?hi50_a ?h150_a ?h250_a ?h350_a ?hq50_a ?hy50_a ?hs50_a ?hn50_a
              case hi50_a => (simp only [List.getElem?_toArray, List.getElem?_cons_succ, List.getElem?_cons_zero]; rfl)
              case h150_a => kernel_rfl
              case h250_a => kernel_rfl
              case h350_a => kernel_rfl
              case hy50_a => (refine Or.inl ⟨by rfl, ?_⟩; intro w0 hSw; (try dsimp only at hSw); go_simp; try (with_reducible rfl))
              case hq50_a => exact fun _ _ _ h => h
              case hs50_a => assumption
              try simp only [Act.put, List.setIfInBounds_toArray, List.set_cons_zero, List.set_cons_succ]
              refine wpAnyH_done (by kernel_rfl) ?_ _
              go_wp2
              go_meet
              exact ⟨rfl, hbz⟩

            · have hft : f = false := by rw [HFL.out]; have := HK.out; simp; omega
              subst hft
              have hde : ((m2 : Int) == k) = false := by simpa using hmk
              have hqq := HQ0.out rfl
              injection hqq with g1 g2
              subst g1; subst g2
              refine wp_region_held_drew (S := (fun w' => w'.cell? ⟨C, 0, none⟩ = some (.int .i64 0) ∧ w'.cell? ⟨C, 1, none⟩ = some (.int .i64 0) ∧ Below V.heap.size V w')) (by kernel_rfl) ?_ (fun hHeld => ?_)
              · exact ⟨y0, y1, (Below.refl V.heap.size V).drew⟩
              refine wpAnyH_take (i := 0) (oi := ?oi0_b) (v := ?v0_b) ?hi0_b ?h10_b ?h20_b ?h30_b ?hq0_b ?hy0_b ?hs0_b ?hn0_b
              case hi0_b => (simp only [List.getElem?_toArray, List.getElem?_cons_zero]; rfl)
              case h10_b => kernel_rfl
              case h20_b => kernel_rfl
              case h30_b => kernel_rfl
              case hy0_b => (refine Or.inl ⟨by rfl, ?_⟩; intro w0 hSw; (try dsimp only at hSw); go_simp; try (with_reducible rfl))
              case hq0_b => exact fun _ _ _ h => h
              case hs0_b => assumption
              try simp only [Act.put, List.setIfInBounds_toArray, List.set_cons_zero, List.set_cons_succ]
              refine wpAnyH_take (i := 1) (oi := ?oi1_b) (v := ?v1_b) ?hi1_b ?h11_b ?h21_b ?h31_b ?hq1_b ?hy1_b ?hs1_b ?hn1_b
              case hi1_b => (simp only [List.getElem?_toArray, List.getElem?_cons_succ, List.getElem?_cons_zero]; rfl)
              case h11_b => kernel_rfl
              case h21_b => kernel_rfl
              case h31_b => kernel_rfl
              case hy1_b => (refine Or.inl ⟨by rfl, ?_⟩; intro w0 hSw; (try dsimp only at hSw); go_simp; try (with_reducible rfl))
              case hq1_b => exact fun _ _ _ h => h
              case hs1_b => assumption
              try simp only [Act.put, List.setIfInBounds_toArray, List.set_cons_zero, List.set_cons_succ]
              refine wpAnyH_take (i := 2) (oi := ?oi2_b) (v := ?v2_b) ?hi2_b ?h12_b ?h22_b ?h32_b ?hq2_b ?hy2_b ?hs2_b ?hn2_b
              case hi2_b => (simp only [List.getElem?_toArray, List.getElem?_cons_succ, List.getElem?_cons_zero]; rfl)
              case h12_b => kernel_rfl
              case h22_b => kernel_rfl
              case h32_b => kernel_rfl
              case hy2_b => (refine Or.inl ⟨by rfl, ?_⟩; intro w0 hSw; (try dsimp only at hSw); go_simp; try (with_reducible rfl))
              case hq2_b => exact fun _ _ _ h => h
              case hs2_b => assumption
              try simp only [Act.put, List.setIfInBounds_toArray, List.set_cons_zero, List.set_cons_succ]
              refine wpAnyH_take (i := 3) (oi := ?oi3_b) (v := ?v3_b) ?hi3_b ?h13_b ?h23_b ?h33_b ?hq3_b ?hy3_b ?hs3_b ?hn3_b
              case hi3_b => (simp only [List.getElem?_toArray, List.getElem?_cons_succ, List.getElem?_cons_zero]; rfl)
              case h13_b => kernel_rfl
              case h23_b => kernel_rfl
              case h33_b => kernel_rfl
              case hy3_b => (refine Or.inl ⟨by rfl, ?_⟩; intro w0 hSw; (try dsimp only at hSw); go_simp; try (with_reducible rfl))
              case hq3_b => exact fun _ _ _ h => h
              case hs3_b => assumption
              try simp only [Act.put, List.setIfInBounds_toArray, List.set_cons_zero, List.set_cons_succ]
              refine wpAnyH_take (i := 4) (oi := ?oi4_b) (v := ?v4_b) ?hi4_b ?h14_b ?h24_b ?h34_b ?hq4_b ?hy4_b ?hs4_b ?hn4_b
              case hi4_b => (simp only [List.getElem?_toArray, List.getElem?_cons_succ, List.getElem?_cons_zero]; rfl)
              case h14_b => kernel_rfl
              case h24_b => kernel_rfl
              case h34_b => kernel_rfl
              case hy4_b => (refine Or.inl ⟨by rfl, ?_⟩; intro w0 hSw; (try dsimp only at hSw); go_simp; try (with_reducible rfl))
              case hq4_b => exact fun _ _ _ h => h
              case hs4_b => assumption
              try simp only [Act.put, List.setIfInBounds_toArray, List.set_cons_zero, List.set_cons_succ]
              refine wpAnyH_take (i := 6) (oi := ?oi6_b) (v := ?v6_b) ?hi6_b ?h16_b ?h26_b ?h36_b ?hq6_b ?hy6_b ?hs6_b ?hn6_b
              case hi6_b => (simp only [List.getElem?_toArray, List.getElem?_cons_succ, List.getElem?_cons_zero]; rfl)
              case h16_b => kernel_rfl
              case h26_b => kernel_rfl
              case h36_b => kernel_rfl
              case hy6_b => (refine Or.inl ⟨by rfl, ?_⟩; intro w0 hSw; (try dsimp only at hSw); go_simp; try (with_reducible rfl))
              case hq6_b => exact fun _ _ _ h => h
              case hs6_b => assumption
              try simp only [Act.put, List.setIfInBounds_toArray, List.set_cons_zero, List.set_cons_succ]
              refine wpAnyH_take (i := 7) (oi := ?oi7_b) (v := ?v7_b) ?hi7_b ?h17_b ?h27_b ?h37_b ?hq7_b ?hy7_b ?hs7_b ?hn7_b
              case hi7_b => (simp only [List.getElem?_toArray, List.getElem?_cons_succ, List.getElem?_cons_zero]; rfl)
              case h17_b => kernel_rfl
              case h27_b => kernel_rfl
              case h37_b => kernel_rfl
              case hy7_b => (refine Or.inl ⟨by rfl, ?_⟩; intro w0 hSw; (try dsimp only at hSw); go_simp; try (with_reducible rfl))
              case hq7_b => exact fun _ _ _ h => h
              case hs7_b => assumption
              try simp only [Act.put, List.setIfInBounds_toArray, List.set_cons_zero, List.set_cons_succ]
              refine wpAnyH_ready (rs := [5]) (by kernel_rfl) (by simp) ?_
              refine AllReadyH.cons (o := _) rfl (fun K hK => ?_) AllReadyH.nil
              go_simp
              refine (hLen.out _ (Below.refl _ _).drew).mono ?_
              rintro e wl ⟨rfl, rfl⟩
              go_wp2_with fail
              refine hK.out _ _ ?_ (fun hHeld2 => ?_)
              · exact hHeld
              clear hK K
              try simp only [Act.put, List.setIfInBounds_toArray, List.set_cons_zero, List.set_cons_succ]
              clear hHeld2
              refine wpAnyH_take (i := 8) (oi := ?oi8_b) (v := ?v8_b) ?hi8_b ?h18_b ?h28_b ?h38_b ?hq8_b ?hy8_b ?hs8_b ?hn8_b
              case hi8_b => (simp only [List.getElem?_toArray, List.getElem?_cons_succ, List.getElem?_cons_zero]; rfl)
              case h18_b => kernel_rfl
              case h28_b => kernel_rfl
              case h38_b => kernel_rfl
              case hy8_b => (refine Or.inl ⟨by rfl, ?_⟩; intro w0 hSw; (try dsimp only at hSw); go_simp; try (with_reducible rfl))
              case hq8_b => exact fun _ _ _ h => h
              case hs8_b => assumption
              try simp only [Act.put, List.setIfInBounds_toArray, List.set_cons_zero, List.set_cons_succ]
              refine wpAnyH_take (i := 9) (oi := ?oi9_b) (v := ?v9_b) ?hi9_b ?h19_b ?h29_b ?h39_b ?hq9_b ?hy9_b ?hs9_b ?hn9_b
              case hi9_b => (simp only [List.getElem?_toArray, List.getElem?_cons_succ, List.getElem?_cons_zero]; rfl)
              case h19_b => kernel_rfl
              case h29_b => kernel_rfl
              case h39_b => kernel_rfl
              case hy9_b => (refine Or.inl ⟨by rfl, ?_⟩; intro w0 hSw; (try dsimp only at hSw); go_simp; try (with_reducible rfl))
              case hq9_b => exact fun _ _ _ h => h
              case hs9_b => assumption
              try simp only [Act.put, List.setIfInBounds_toArray, List.set_cons_zero, List.set_cons_succ]
              refine wpAnyH_take (i := 10) (oi := ?oi10_b) (v := ?v10_b) ?hi10_b ?h110_b ?h210_b ?h310_b ?hq10_b ?hy10_b ?hs10_b ?hn10_b
              case hi10_b => (simp only [List.getElem?_toArray, List.getElem?_cons_succ, List.getElem?_cons_zero]; rfl)
              case h110_b => kernel_rfl
              case h210_b => kernel_rfl
              case h310_b => kernel_rfl
              case hy10_b => (refine Or.inl ⟨by rfl, ?_⟩; intro w0 hSw; (try dsimp only at hSw); go_simp; try (with_reducible rfl))
              case hq10_b => exact fun _ _ _ h => h
              case hs10_b => assumption
              try simp only [Act.put, List.setIfInBounds_toArray, List.set_cons_zero, List.set_cons_succ]
              refine wpAnyH_take (i := 11) (oi := ?oi11_b) (v := ?v11_b) ?hi11_b ?h111_b ?h211_b ?h311_b ?hq11_b ?hy11_b ?hs11_b ?hn11_b
              case hi11_b => (simp only [List.getElem?_toArray, List.getElem?_cons_succ, List.getElem?_cons_zero]; rfl)
              case h111_b => kernel_rfl
              case h211_b => kernel_rfl
              case h311_b => kernel_rfl
              case hy11_b => (refine Or.inl ⟨by rfl, ?_⟩; intro w0 hSw; (try dsimp only at hSw); go_simp; try (with_reducible rfl))
              case hq11_b => exact fun _ _ _ h => h
              case hs11_b => assumption
              try simp only [Act.put, List.setIfInBounds_toArray, List.set_cons_zero, List.set_cons_succ]
              refine wpAnyH_take (i := 13) (oi := ?oi13_b) (v := ?v13_b) ?hi13_b ?h113_b ?h213_b ?h313_b ?hq13_b ?hy13_b ?hs13_b ?hn13_b
              case hi13_b => (simp only [List.getElem?_toArray, List.getElem?_cons_succ, List.getElem?_cons_zero]; rfl)
              case h113_b => kernel_rfl
              case h213_b => kernel_rfl
              case h313_b => kernel_rfl
              case hy13_b => (refine Or.inl ⟨by rfl, ?_⟩; intro w0 hSw; (try dsimp only at hSw); go_simp; try (with_reducible rfl))
              case hq13_b => exact fun _ _ _ h => h
              case hs13_b => assumption
              try simp only [Act.put, List.setIfInBounds_toArray, List.set_cons_zero, List.set_cons_succ]
              refine wpAnyH_ready (rs := [12]) (by kernel_rfl) (by simp) ?_
              refine AllReadyH.cons (o := _) rfl (fun K hK => ?_) AllReadyH.nil
              go_simp
              refine (hList.out _ (Below.refl _ _).drew).mono ?_
              rintro e wl ⟨vl, rfl, hpl, hbz⟩
              go_wp2_with fail
              refine hK.out _ _ ?_ (fun hHeld2 => ?_)
              · exact ⟨keepB hbz y0 s7, keepB hbz y1 s7, hbz⟩
              clear hK K
              try simp only [Act.put, List.setIfInBounds_toArray, List.set_cons_zero, List.set_cons_succ]
              clear hHeld
              have hHeld := hHeld2
              clear hHeld2
              refine wpAnyH_ready (rs := [14]) (by kernel_rfl) (by simp) ?_
              refine AllReadyH.cons (o := _) rfl (fun K hK => ?_) AllReadyH.nil
              go_simp
              refine (hSame.out _ _ hbz hpl).mono ?_
              clear hbz
              rintro e ws ⟨rfl, hbz⟩
              go_wp2_with fail
              refine hK.out _ _ ?_ (fun hHeld2 => ?_)
              · exact ⟨keepB hbz y0 s7, keepB hbz y1 s7, hbz⟩
              clear hK K
              try simp only [Act.put, List.setIfInBounds_toArray, List.set_cons_zero, List.set_cons_succ]
              clear hHeld
              have hHeld := hHeld2
              clear hHeld2
              refine wpAnyH_take (i := 15) (oi := ?oi15_b) (v := ?v15_b) ?hi15_b ?h115_b ?h215_b ?h315_b ?hq15_b ?hy15_b ?hs15_b ?hn15_b
              case hi15_b => (simp only [List.getElem?_toArray, List.getElem?_cons_succ, List.getElem?_cons_zero]; rfl)
              case h115_b => kernel_rfl
              case h215_b => kernel_rfl
              case h315_b => kernel_rfl
              case hy15_b => (refine Or.inl ⟨by rfl, ?_⟩; intro w0 hSw; (try dsimp only at hSw); go_simp; try (with_reducible rfl))
              case hq15_b => exact fun _ _ _ h => h
              case hs15_b => assumption
              try simp only [Act.put, List.setIfInBounds_toArray, List.set_cons_zero, List.set_cons_succ]
              refine wpAnyH_take (i := 16) (oi := ?oi16_b) (v := ?v16_b) ?hi16_b ?h116_b ?h216_b ?h316_b ?hq16_b ?hy16_b ?hs16_b ?hn16_b
              case hi16_b => (simp only [List.getElem?_toArray, List.getElem?_cons_succ, List.getElem?_cons_zero]; rfl)
              case h116_b => kernel_rfl
              case h216_b => kernel_rfl
              case h316_b => kernel_rfl
              case hy16_b => (refine Or.inl ⟨by rfl, ?_⟩; intro w0 hSw; (try dsimp only at hSw); go_simp; try (with_reducible rfl))
              case hq16_b => exact fun _ _ _ h => h
              case hs16_b => assumption
              try simp only [Act.put, List.setIfInBounds_toArray, List.set_cons_zero, List.set_cons_succ]
              refine wpAnyH_take (i := 17) (oi := ?oi17_b) (v := ?v17_b) ?hi17_b ?h117_b ?h217_b ?h317_b ?hq17_b ?hy17_b ?hs17_b ?hn17_b
              case hi17_b => (simp only [List.getElem?_toArray, List.getElem?_cons_succ, List.getElem?_cons_zero]; rfl)
              case h117_b => kernel_rfl
              case h217_b => kernel_rfl
              case h317_b => kernel_rfl
              case hy17_b => (refine Or.inl ⟨by rfl, ?_⟩; intro w0 hSw; (try dsimp only at hSw); go_simp; try (with_reducible rfl))
              case hq17_b => exact fun _ _ _ h => h
              case hs17_b => assumption
              try simp only [Act.put, List.setIfInBounds_toArray, List.set_cons_zero, List.set_cons_succ]
              refine wpAnyH_take (i := 18) (oi := ?oi18_b) (v := ?v18_b) ?hi18_b ?h118_b ?h218_b ?h318_b ?hq18_b ?hy18_b ?hs18_b ?hn18_b
              case hi18_b => (simp only [List.getElem?_toArray, List.getElem?_cons_succ, List.getElem?_cons_zero]; rfl)
              case h118_b => kernel_rfl
              case h218_b => kernel_rfl
              case h318_b => kernel_rfl
              case hy18_b => (refine Or.inl ⟨by rfl, ?_⟩; intro w0 hSw; (try dsimp only at hSw); go_simp; try (with_reducible rfl))
              case hq18_b => exact fun _ _ _ h => h
              case hs18_b => assumption
              try simp only [Act.put, List.setIfInBounds_toArray, List.set_cons_zero, List.set_cons_succ]
              refine wpAnyH_take (i := 19) (oi := ?oi19_b) (v := ?v19_b) ?hi19_b ?h119_b ?h219_b ?h319_b ?hq19_b ?hy19_b ?hs19_b ?hn19_b
              case hi19_b => (simp only [List.getElem?_toArray, List.getElem?_cons_succ, List.getElem?_cons_zero]; rfl)
              case h119_b => kernel_rfl
              case h219_b => kernel_rfl
              case h319_b => kernel_rfl
              case hy19_b => (refine Or.inl ⟨by rfl, ?_⟩; intro w0 hSw; (try dsimp only at hSw); go_simp; try (with_reducible rfl))
              case hq19_b => exact fun _ _ _ h => h
              case hs19_b => assumption
              try simp only [Act.put, List.setIfInBounds_toArray, List.set_cons_zero, List.set_cons_succ]
              refine wpAnyH_take (i := 20) (oi := ?oi20_b) (v := ?v20_b) ?hi20_b ?h120_b ?h220_b ?h320_b ?hq20_b ?hy20_b ?hs20_b ?hn20_b
              case hi20_b => (simp only [List.getElem?_toArray, List.getElem?_cons_succ, List.getElem?_cons_zero]; rfl)
              case h120_b => kernel_rfl
              case h220_b => kernel_rfl
              case h320_b => kernel_rfl
              case hy20_b => (refine Or.inl ⟨by rfl, ?_⟩; intro w0 hSw; (try dsimp only at hSw); go_simp; try (with_reducible rfl))
              case hq20_b => exact fun _ _ _ h => h
              case hs20_b => assumption
              try simp only [Act.put, List.setIfInBounds_toArray, List.set_cons_zero, List.set_cons_succ]
              refine wpAnyH_take (i := 21) (oi := ?oi21_b) (v := ?v21_b) ?hi21_b ?h121_b ?h221_b ?h321_b ?hq21_b ?hy21_b ?hs21_b ?hn21_b
              case hi21_b => (simp only [List.getElem?_toArray, List.getElem?_cons_succ, List.getElem?_cons_zero]; rfl)
              case h121_b => kernel_rfl
              case h221_b => kernel_rfl
              case h321_b => kernel_rfl
              case hy21_b => (refine Or.inl ⟨by rfl, ?_⟩; intro w0 hSw; (try dsimp only at hSw); go_simp; try (with_reducible rfl))
              case hq21_b => exact fun _ _ _ h => h
              case hs21_b => assumption
              try simp only [Act.put, List.setIfInBounds_toArray, List.set_cons_zero, List.set_cons_succ]
              refine wpAnyH_take (i := 22) (oi := ?oi22_b) (v := ?v22_b) ?hi22_b ?h122_b ?h222_b ?h322_b ?hq22_b ?hy22_b ?hs22_b ?hn22_b
              case hi22_b => (simp only [List.getElem?_toArray, List.getElem?_cons_succ, List.getElem?_cons_zero]; rfl)
              case h122_b => kernel_rfl
              case h222_b => kernel_rfl
              case h322_b => kernel_rfl
              case hy22_b => (refine Or.inl ⟨by rfl, ?_⟩; intro w0 hSw; (try dsimp only at hSw); go_simp; try (with_reducible rfl))
              case hq22_b => exact fun _ _ _ h => h
              case hs22_b => assumption
              try simp only [Act.put, List.setIfInBounds_toArray, List.set_cons_zero, List.set_cons_succ]
              refine wpAnyH_take (i := 23) (oi := ?oi23_b) (v := ?v23_b) ?hi23_b ?h123_b ?h223_b ?h323_b ?hq23_b ?hy23_b ?hs23_b ?hn23_b
              case hi23_b => (simp only [List.getElem?_toArray, List.getElem?_cons_succ, List.getElem?_cons_zero]; rfl)
              case h123_b => kernel_rfl
              case h223_b => kernel_rfl
              case h323_b => kernel_rfl
              case hy23_b => (refine Or.inl ⟨by rfl, ?_⟩; intro w0 hSw; (try dsimp only at hSw); go_simp; try (with_reducible rfl))
              case hq23_b => exact fun _ _ _ h => h
              case hs23_b => assumption
              try simp only [Act.put, List.setIfInBounds_toArray, List.set_cons_zero, List.set_cons_succ]
              refine wpAnyH_take (i := 24) (oi := ?oi24_b) (v := ?v24_b) ?hi24_b ?h124_b ?h224_b ?h324_b ?hq24_b ?hy24_b ?hs24_b ?hn24_b
              case hi24_b => (simp only [List.getElem?_toArray, List.getElem?_cons_succ, List.getElem?_cons_zero]; rfl)
              case h124_b => kernel_rfl
              case h224_b => kernel_rfl
              case h324_b => kernel_rfl
              case hy24_b => (refine Or.inl ⟨by rfl, ?_⟩; intro w0 hSw; (try dsimp only at hSw); go_simp; try (with_reducible rfl))
              case hq24_b => exact fun _ _ _ h => h
              case hs24_b => assumption
              try simp only [Act.put, List.setIfInBounds_toArray, List.set_cons_zero, List.set_cons_succ]
              refine wpAnyH_take (i := 25) (oi := ?oi25_b) (v := ?v25_b) ?hi25_b ?h125_b ?h225_b ?h325_b ?hq25_b ?hy25_b ?hs25_b ?hn25_b
              case hi25_b => (simp only [List.getElem?_toArray, List.getElem?_cons_succ, List.getElem?_cons_zero]; rfl)
              case h125_b => kernel_rfl
              case h225_b => kernel_rfl
              case h325_b => kernel_rfl
              case hy25_b => (refine Or.inl ⟨by rfl, ?_⟩; intro w0 hSw; (try dsimp only at hSw); go_simp; try (with_reducible rfl))
              case hq25_b => exact fun _ _ _ h => h
              case hs25_b => assumption
              try simp only [Act.put, List.setIfInBounds_toArray, List.set_cons_zero, List.set_cons_succ]
              refine wpAnyH_take (i := 26) (oi := ?oi26_b) (v := ?v26_b) ?hi26_b ?h126_b ?h226_b ?h326_b ?hq26_b ?hy26_b ?hs26_b ?hn26_b
              case hi26_b => (simp only [List.getElem?_toArray, List.getElem?_cons_succ, List.getElem?_cons_zero]; rfl)
              case h126_b => kernel_rfl
              case h226_b => kernel_rfl
              case h326_b => kernel_rfl
              case hy26_b => (refine Or.inl ⟨by rfl, ?_⟩; intro w0 hSw; (try dsimp only at hSw); go_simp; try (with_reducible rfl))
              case hq26_b => exact fun _ _ _ h => h
              case hs26_b => assumption
              try simp only [Act.put, List.setIfInBounds_toArray, List.set_cons_zero, List.set_cons_succ]
              refine wpAnyH_take (i := 27) (oi := ?oi27_b) (v := ?v27_b) ?hi27_b ?h127_b ?h227_b ?h327_b ?hq27_b ?hy27_b ?hs27_b ?hn27_b
              case hi27_b => (simp only [List.getElem?_toArray, List.getElem?_cons_succ, List.getElem?_cons_zero]; rfl)
              case h127_b => kernel_rfl
              case h227_b => kernel_rfl
              case h327_b => kernel_rfl
              case hy27_b => (refine Or.inl ⟨by rfl, ?_⟩; intro w0 hSw; (try dsimp only at hSw); go_simp; try (with_reducible rfl))
              case hq27_b => exact fun _ _ _ h => h
              case hs27_b => assumption
              try simp only [Act.put, List.setIfInBounds_toArray, List.set_cons_zero, List.set_cons_succ]
              refine wpAnyH_take (i := 28) (oi := ?oi28_b) (v := ?v28_b) ?hi28_b ?h128_b ?h228_b ?h328_b ?hq28_b ?hy28_b ?hs28_b ?hn28_b
              case hi28_b => (simp only [List.getElem?_toArray, List.getElem?_cons_succ, List.getElem?_cons_zero]; rfl)
              case h128_b => kernel_rfl
              case h228_b => kernel_rfl
              case h328_b => kernel_rfl
              case hy28_b => (refine Or.inl ⟨by rfl, ?_⟩; intro w0 hSw; (try dsimp only at hSw); go_simp; try (with_reducible rfl))
              case hq28_b => exact fun _ _ _ h => h
              case hs28_b => assumption
              try simp only [Act.put, List.setIfInBounds_toArray, List.set_cons_zero, List.set_cons_succ]
              refine wpAnyH_take (i := 29) (oi := ?oi29_b) (v := ?v29_b) ?hi29_b ?h129_b ?h229_b ?h329_b ?hq29_b ?hy29_b ?hs29_b ?hn29_b
              case hi29_b => (simp only [List.getElem?_toArray, List.getElem?_cons_succ, List.getElem?_cons_zero]; rfl)
              case h129_b => kernel_rfl
              case h229_b => kernel_rfl
              case h329_b => kernel_rfl
              case hy29_b => (refine Or.inl ⟨by rfl, ?_⟩; intro w0 hSw; (try dsimp only at hSw); go_simp; try (with_reducible rfl))
              case hq29_b => exact fun _ _ _ h => h
              case hs29_b => assumption
              try simp only [Act.put, List.setIfInBounds_toArray, List.set_cons_zero, List.set_cons_succ]
              refine wpAnyH_take (i := 30) (oi := ?oi30_b) (v := ?v30_b) ?hi30_b ?h130_b ?h230_b ?h330_b ?hq30_b ?hy30_b ?hs30_b ?hn30_b
              case hi30_b => (simp only [List.getElem?_toArray, List.getElem?_cons_succ, List.getElem?_cons_zero]; rfl)
              case h130_b => kernel_rfl
              case h230_b => kernel_rfl
              case h330_b => kernel_rfl
              case hy30_b => (refine Or.inl ⟨by rfl, ?_⟩; intro w0 hSw; (try dsimp only at hSw); go_simp; try (with_reducible rfl))
              case hq30_b => exact fun _ _ _ h => h
              case hs30_b => assumption
              try simp only [Act.put, List.setIfInBounds_toArray, List.set_cons_zero, List.set_cons_succ]
              refine wpAnyH_take (i := 31) (oi := ?oi31_b) (v := ?v31_b) ?hi31_b ?h131_b ?h231_b ?h331_b ?hq31_b ?hy31_b ?hs31_b ?hn31_b
              case hi31_b => (simp only [List.getElem?_toArray, List.getElem?_cons_succ, List.getElem?_cons_zero]; rfl)
              case h131_b => kernel_rfl
              case h231_b => kernel_rfl
              case h331_b => kernel_rfl
              case hy31_b => (refine Or.inl ⟨by rfl, ?_⟩; intro w0 hSw; (try dsimp only at hSw); go_simp; try (with_reducible rfl))
              case hq31_b => exact fun _ _ _ h => h
              case hs31_b => assumption
              try simp only [Act.put, List.setIfInBounds_toArray, List.set_cons_zero, List.set_cons_succ]
              refine wpAnyH_take (i := 32) (oi := ?oi32_b) (v := undef) ?hi32_b ?h132_b ?h232_b ?h332_b ?hq32_b ?hy32_b ?hs32_b ?hn32_b
              case hi32_b => (simp only [List.getElem?_toArray, List.getElem?_cons_succ, List.getElem?_cons_zero]; rfl)
              case h132_b => kernel_rfl
              case h232_b => kernel_rfl
              case h332_b => kernel_rfl
              case hq32_b => exact fun _ _ _ h => h
              case hs32_b => assumption
              case hy32_b => exact Or.inr ⟨by rfl, rfl⟩
              try simp only [Act.put, List.setIfInBounds_toArray, List.set_cons_zero, List.set_cons_succ]
              refine wpAnyH_take (i := 33) (oi := ?oi33_b) (v := undef) ?hi33_b ?h133_b ?h233_b ?h333_b ?hq33_b ?hy33_b ?hs33_b ?hn33_b
              case hi33_b => (simp only [List.getElem?_toArray, List.getElem?_cons_succ, List.getElem?_cons_zero]; rfl)
              case h133_b => kernel_rfl
              case h233_b => kernel_rfl
              case h333_b => kernel_rfl
              case hq33_b => exact fun _ _ _ h => h
              case hs33_b => assumption
              case hy33_b => exact Or.inr ⟨by rfl, rfl⟩
              try simp only [Act.put, List.setIfInBounds_toArray, List.set_cons_zero, List.set_cons_succ]
              refine wpAnyH_take (i := 34) (oi := ?oi34_b) (v := undef) ?hi34_b ?h134_b ?h234_b ?h334_b ?hq34_b ?hy34_b ?hs34_b ?hn34_b
              case hi34_b => (simp only [List.getElem?_toArray, List.getElem?_cons_succ, List.getElem?_cons_zero]; rfl)
              case h134_b => kernel_rfl
              case h234_b => kernel_rfl
              case h334_b => kernel_rfl
              case hq34_b => exact fun _ _ _ h => h
              case hs34_b => assumption
              case hy34_b => exact Or.inr ⟨by rfl, rfl⟩
              try simp only [Act.put, List.setIfInBounds_toArray, List.set_cons_zero, List.set_cons_succ]
              refine wpAnyH_take (i := 35) (oi := ?oi35_b) (v := undef) ?hi35_b ?h135_b ?h235_b ?h335_b ?hq35_b ?hy35_b ?hs35_b ?hn35_b
              case hi35_b => (simp only [List.getElem?_toArray, List.getElem?_cons_succ, List.getElem?_cons_zero]; rfl)
              case h135_b => kernel_rfl
              case h235_b => kernel_rfl
              case h335_b => kernel_rfl
              case hq35_b => exact fun _ _ _ h => h
              case hs35_b => assumption
              case hy35_b => exact Or.inr ⟨by rfl, rfl⟩
              try simp only [Act.put, List.setIfInBounds_toArray, List.set_cons_zero, List.set_cons_succ]
              refine wpAnyH_take (i := 36) (oi := ?oi36_b) (v := undef) ?hi36_b ?h136_b ?h236_b ?h336_b ?hq36_b ?hy36_b ?hs36_b ?hn36_b
              case hi36_b => (simp only [List.getElem?_toArray, List.getElem?_cons_succ, List.getElem?_cons_zero]; rfl)
              case h136_b => kernel_rfl
              case h236_b => kernel_rfl
              case h336_b => kernel_rfl
              case hq36_b => exact fun _ _ _ h => h
              case hs36_b => assumption
              case hy36_b => exact Or.inr ⟨by rfl, rfl⟩
              try simp only [Act.put, List.setIfInBounds_toArray, List.set_cons_zero, List.set_cons_succ]
              refine wpAnyH_take (i := 37) (oi := ?oi37_b) (v := undef) ?hi37_b ?h137_b ?h237_b ?h337_b ?hq37_b ?hy37_b ?hs37_b ?hn37_b
              case hi37_b => (simp only [List.getElem?_toArray, List.getElem?_cons_succ, List.getElem?_cons_zero]; rfl)
              case h137_b => kernel_rfl
              case h237_b => kernel_rfl
              case h337_b => kernel_rfl
              case hq37_b => exact fun _ _ _ h => h
              case hs37_b => assumption
              case hy37_b => exact Or.inr ⟨by rfl, rfl⟩
              try simp only [Act.put, List.setIfInBounds_toArray, List.set_cons_zero, List.set_cons_succ]
              refine wpAnyH_take (i := 38) (oi := ?oi38_b) (v := undef) ?hi38_b ?h138_b ?h238_b ?h338_b ?hq38_b ?hy38_b ?hs38_b ?hn38_b
              case hi38_b => (simp only [List.getElem?_toArray, List.getElem?_cons_succ, List.getElem?_cons_zero]; rfl)
              case h138_b => kernel_rfl
              case h238_b => kernel_rfl
              case h338_b => kernel_rfl
              case hq38_b => exact fun _ _ _ h => h
              case hs38_b => assumption
              case hy38_b => exact Or.inr ⟨by rfl, rfl⟩
              try simp only [Act.put, List.setIfInBounds_toArray, List.set_cons_zero, List.set_cons_succ]
              refine wpAnyH_take (i := 39) (oi := ?oi39_b) (v := undef) ?hi39_b ?h139_b ?h239_b ?h339_b ?hq39_b ?hy39_b ?hs39_b ?hn39_b
              case hi39_b => (simp only [List.getElem?_toArray, List.getElem?_cons_succ, List.getElem?_cons_zero]; rfl)
              case h139_b => kernel_rfl
              case h239_b => kernel_rfl
              case h339_b => kernel_rfl
              case hq39_b => exact fun _ _ _ h => h
              case hs39_b => assumption
              case hy39_b => exact Or.inr ⟨by rfl, rfl⟩
              try simp only [Act.put, List.setIfInBounds_toArray, List.set_cons_zero, List.set_cons_succ]
              refine wpAnyH_take (i := 40) (oi := ?oi40_b) (v := ?v40_b) ?hi40_b ?h140_b ?h240_b ?h340_b ?hq40_b ?hy40_b ?hs40_b ?hn40_b
              case hi40_b => (simp only [List.getElem?_toArray, List.getElem?_cons_succ, List.getElem?_cons_zero]; rfl)
              case h140_b => kernel_rfl
              case h240_b => kernel_rfl
              case h340_b => kernel_rfl
              case hy40_b => (refine Or.inl ⟨by rfl, ?_⟩; intro w0 hSw; (try dsimp only at hSw); go_simp; try (with_reducible rfl))
              case hq40_b => exact fun _ _ _ h => h
              case hs40_b => assumption
              try simp only [Act.put, List.setIfInBounds_toArray, List.set_cons_zero, List.set_cons_succ]
              refine wpAnyH_take (i := 41) (oi := ?oi41_b) (v := ?v41_b) ?hi41_b ?h141_b ?h241_b ?h341_b ?hq41_b ?hy41_b ?hs41_b ?hn41_b
              case hi41_b => (simp only [List.getElem?_toArray, List.getElem?_cons_succ, List.getElem?_cons_zero]; rfl)
              case h141_b => kernel_rfl
              case h241_b => kernel_rfl
              case h341_b => kernel_rfl
              case hy41_b => (refine Or.inl ⟨by rfl, ?_⟩; intro w0 hSw; (try dsimp only at hSw); go_simp; try (with_reducible rfl))
              case hq41_b => exact fun _ _ _ h => h
              case hs41_b => assumption
              try simp only [Act.put, List.setIfInBounds_toArray, List.set_cons_zero, List.set_cons_succ]
              refine wpAnyH_take (i := 42) (oi := ?oi42_b) (v := ?v42_b) ?hi42_b ?h142_b ?h242_b ?h342_b ?hq42_b ?hy42_b ?hs42_b ?hn42_b
              case hi42_b => (simp only [List.getElem?_toArray, List.getElem?_cons_succ, List.getElem?_cons_zero]; rfl)
              case h142_b => kernel_rfl
              case h242_b => kernel_rfl
              case h342_b => kernel_rfl
              case hy42_b => (refine Or.inl ⟨by rfl, ?_⟩; intro w0 hSw; (try dsimp only at hSw); go_simp; try (with_reducible rfl))
              case hq42_b => exact fun _ _ _ h => h
              case hs42_b => assumption
              try simp only [Act.put, List.setIfInBounds_toArray, List.set_cons_zero, List.set_cons_succ]
              refine wpAnyH_take (i := 43) (oi := ?oi43_b) (v := ?v43_b) ?hi43_b ?h143_b ?h243_b ?h343_b ?hq43_b ?hy43_b ?hs43_b ?hn43_b
              case hi43_b => (simp only [List.getElem?_toArray, List.getElem?_cons_succ, List.getElem?_cons_zero]; rfl)
              case h143_b => kernel_rfl
              case h243_b => kernel_rfl
              case h343_b => kernel_rfl
              case hy43_b => (refine Or.inl ⟨by rfl, ?_⟩; intro w0 hSw; (try dsimp only at hSw); go_simp; try (with_reducible rfl))
              case hq43_b => exact fun _ _ _ h => h
              case hs43_b => assumption
              try simp only [Act.put, List.setIfInBounds_toArray, List.set_cons_zero, List.set_cons_succ]
              refine wpAnyH_take (i := 44) (oi := ?oi44_b) (v := ?v44_b) ?hi44_b ?h144_b ?h244_b ?h344_b ?hq44_b ?hy44_b ?hs44_b ?hn44_b
              case hi44_b => (simp only [List.getElem?_toArray, List.getElem?_cons_succ, List.getElem?_cons_zero]; rfl)
              case h144_b => kernel_rfl
              case h244_b => kernel_rfl
              case h344_b => kernel_rfl
              case hy44_b => (refine Or.inl ⟨by rfl, ?_⟩; intro w0 hSw; (try dsimp only at hSw); go_simp; try (with_reducible rfl))
              case hq44_b => exact fun _ _ _ h => h
              case hs44_b => assumption
              try simp only [Act.put, List.setIfInBounds_toArray, List.set_cons_zero, List.set_cons_succ]
              refine wpAnyH_take (i := 45) (oi := ?oi45_b) (v := ?v45_b) ?hi45_b ?h145_b ?h245_b ?h345_b ?hq45_b ?hy45_b ?hs45_b ?hn45_b
              case hi45_b => (simp only [List.getElem?_toArray, List.getElem?_cons_succ, List.getElem?_cons_zero]; rfl)
              case h145_b => kernel_rfl
              case h245_b => kernel_rfl
              case h345_b => kernel_rfl
              case hy45_b => (refine Or.inl ⟨by rfl, ?_⟩; intro w0 hSw; (try dsimp only at hSw); go_simp; try (with_reducible rfl))
              case hq45_b => exact fun _ _ _ h => h
              case hs45_b => assumption
              try simp only [Act.put, List.setIfInBounds_toArray, List.set_cons_zero, List.set_cons_succ]
              refine wpAnyH_take (i := 46) (oi := ?oi46_b) (v := ?v46_b) ?hi46_b ?h146_b ?h246_b ?h346_b ?hq46_b ?hy46_b ?hs46_b ?hn46_b
              case hi46_b => (simp only [List.getElem?_toArray, List.getElem?_cons_succ, List.getElem?_cons_zero]; rfl)
              case h146_b => kernel_rfl
              case h246_b => kernel_rfl
              case h346_b => kernel_rfl
              case hy46_b => (refine Or.inl ⟨by rfl, ?_⟩; intro w0 hSw; (try dsimp only at hSw); go_simp; try (with_reducible rfl))
              case hq46_b => exact fun _ _ _ h => h
              case hs46_b => assumption
              try simp only [Act.put, List.setIfInBounds_toArray, List.set_cons_zero, List.set_cons_succ]
              refine wpAnyH_take (i := 47) (oi := ?oi47_b) (v := ?v47_b) ?hi47_b ?h147_b ?h247_b ?h347_b ?hq47_b ?hy47_b ?hs47_b ?hn47_b
              case hi47_b => (simp only [List.getElem?_toArray, List.getElem?_cons_succ, List.getElem?_cons_zero]; rfl)
              case h147_b => kernel_rfl
              case h247_b => kernel_rfl
              case h347_b => kernel_rfl
              case hy47_b => (refine Or.inl ⟨by rfl, ?_⟩; intro w0 hSw; (try dsimp only at hSw); go_simp; try (with_reducible rfl))
              case hq47_b => exact fun _ _ _ h => h
              case hs47_b => assumption
              try simp only [Act.put, List.setIfInBounds_toArray, List.set_cons_zero, List.set_cons_succ]
              refine wpAnyH_take (i := 48) (oi := ?oi48_b) (v := ?v48_b) ?hi48_b ?h148_b ?h248_b ?h348_b ?hq48_b ?hy48_b ?hs48_b ?hn48_b
              case hi48_b => (simp only [List.getElem?_toArray, List.getElem?_cons_succ, List.getElem?_cons_zero]; rfl)
              case h148_b => kernel_rfl
              case h248_b => kernel_rfl
              case h348_b => kernel_rfl
              case hy48_b => (refine Or.inl ⟨by rfl, ?_⟩; intro w0 hSw; (try dsimp only at hSw); go_simp; try (with_reducible rfl))
              case hq48_b => exact fun _ _ _ h => h
              case hs48_b => assumption
              try simp only [Act.put, List.setIfInBounds_toArray, List.set_cons_zero, List.set_cons_succ]
              refine wpAnyH_take (i := 49) (oi := ?oi49_b) (v := ?v49_b) ?hi49_b ?h149_b ?h249_b ?h349_b ?hq49_b ?hy49_b ?hs49_b ?hn49_b
              case hi49_b => (simp only [List.getElem?_toArray, List.getElem?_cons_succ, List.getElem?_cons_zero]; rfl)
              case h149_b => kernel_rfl
              case h249_b => kernel_rfl
              case h349_b => kernel_rfl
              case hy49_b => (refine Or.inl ⟨by rfl, ?_⟩; intro w0 hSw; (try dsimp only at hSw); go_simp; try (with_reducible rfl))
              case hq49_b => exact fun _ _ _ h => h
              case hs49_b => assumption
              try simp only [Act.put, List.setIfInBounds_toArray, List.set_cons_zero, List.set_cons_succ]
              refine wpAnyH_take (i := 50) (oi := ?oi50_b) (v := ?v50_b) ?hi50_b ?h150_b ?h250_b ?h350_b ?hq50_b ?hy50_b ?hs50_b ?hn50_b
              case hi50_b => (simp only [List.getElem?_toArray, List.getElem?_cons_succ, List.getElem?_cons_zero]; rfl)
              case h150_b => kernel_rfl
              case h250_b => kernel_rfl
              case h350_b => kernel_rfl
              case hy50_b => (refine Or.inl ⟨by rfl, ?_⟩; intro w0 hSw; (try dsimp only at hSw); go_simp; try (with_reducible rfl))
              case hq50_b => exact fun _ _ _ h => h
              case hs50_b => assumption
              try simp only [Act.put, List.setIfInBounds_toArray, List.set_cons_zero, List.set_cons_succ]
              refine wpAnyH_done (by kernel_rfl) ?_ _
              go_wp2
              go_meet
              exact ⟨rfl, hbz⟩

          · have hdk : decide (0 < k) = false := decide_eq_false hk0
            have hft : f = false := by rw [HFL.out]; have := HK.out; simp; omega
            subst hft
            have hqq := HQ0.out rfl
            injection hqq with g1 g2
            subst g1; subst g2
            refine wp_region_held_drew (S := (fun w' => w'.cell? ⟨C, 0, none⟩ = some (.int .i64 0) ∧ w'.cell? ⟨C, 1, none⟩ = some (.int .i64 0) ∧ Below V.heap.size V w')) (by kernel_rfl) ?_ (fun hHeld => ?_)
            · exact ⟨y0, y1, (Below.refl V.heap.size V).drew⟩
            refine wpAnyH_take (i := 0) (oi := ?oi0_c) (v := ?v0_c) ?hi0_c ?h10_c ?h20_c ?h30_c ?hq0_c ?hy0_c ?hs0_c ?hn0_c
            case hi0_c => (simp only [List.getElem?_toArray, List.getElem?_cons_zero]; rfl)
            case h10_c => kernel_rfl
            case h20_c => kernel_rfl
            case h30_c => kernel_rfl
            case hy0_c => (refine Or.inl ⟨by rfl, ?_⟩; intro w0 hSw; (try dsimp only at hSw); go_simp; try (with_reducible rfl))
            case hq0_c => exact fun _ _ _ h => h
            case hs0_c => assumption
            try simp only [Act.put, List.setIfInBounds_toArray, List.set_cons_zero, List.set_cons_succ]
            refine wpAnyH_take (i := 1) (oi := ?oi1_c) (v := ?v1_c) ?hi1_c ?h11_c ?h21_c ?h31_c ?hq1_c ?hy1_c ?hs1_c ?hn1_c
            case hi1_c => (simp only [List.getElem?_toArray, List.getElem?_cons_succ, List.getElem?_cons_zero]; rfl)
            case h11_c => kernel_rfl
            case h21_c => kernel_rfl
            case h31_c => kernel_rfl
            case hy1_c => (refine Or.inl ⟨by rfl, ?_⟩; intro w0 hSw; (try dsimp only at hSw); go_simp; try (with_reducible rfl))
            case hq1_c => exact fun _ _ _ h => h
            case hs1_c => assumption
            try simp only [Act.put, List.setIfInBounds_toArray, List.set_cons_zero, List.set_cons_succ]
            refine wpAnyH_take (i := 2) (oi := ?oi2_c) (v := ?v2_c) ?hi2_c ?h12_c ?h22_c ?h32_c ?hq2_c ?hy2_c ?hs2_c ?hn2_c
            case hi2_c => (simp only [List.getElem?_toArray, List.getElem?_cons_succ, List.getElem?_cons_zero]; rfl)
            case h12_c => kernel_rfl
            case h22_c => kernel_rfl
            case h32_c => kernel_rfl
            case hy2_c => (refine Or.inl ⟨by rfl, ?_⟩; intro w0 hSw; (try dsimp only at hSw); go_simp; try (with_reducible rfl))
            case hq2_c => exact fun _ _ _ h => h
            case hs2_c => assumption
            try simp only [Act.put, List.setIfInBounds_toArray, List.set_cons_zero, List.set_cons_succ]
            refine wpAnyH_take (i := 3) (oi := ?oi3_c) (v := ?v3_c) ?hi3_c ?h13_c ?h23_c ?h33_c ?hq3_c ?hy3_c ?hs3_c ?hn3_c
            case hi3_c => (simp only [List.getElem?_toArray, List.getElem?_cons_succ, List.getElem?_cons_zero]; rfl)
            case h13_c => kernel_rfl
            case h23_c => kernel_rfl
            case h33_c => kernel_rfl
            case hy3_c => (refine Or.inl ⟨by rfl, ?_⟩; intro w0 hSw; (try dsimp only at hSw); go_simp; try (with_reducible rfl))
            case hq3_c => exact fun _ _ _ h => h
            case hs3_c => assumption
            try simp only [Act.put, List.setIfInBounds_toArray, List.set_cons_zero, List.set_cons_succ]
            refine wpAnyH_take (i := 4) (oi := ?oi4_c) (v := ?v4_c) ?hi4_c ?h14_c ?h24_c ?h34_c ?hq4_c ?hy4_c ?hs4_c ?hn4_c
            case hi4_c => (simp only [List.getElem?_toArray, List.getElem?_cons_succ, List.getElem?_cons_zero]; rfl)
            case h14_c => kernel_rfl
            case h24_c => kernel_rfl
            case h34_c => kernel_rfl
            case hy4_c => (refine Or.inl ⟨by rfl, ?_⟩; intro w0 hSw; (try dsimp only at hSw); go_simp; try (with_reducible rfl))
            case hq4_c => exact fun _ _ _ h => h
            case hs4_c => assumption
            try simp only [Act.put, List.setIfInBounds_toArray, List.set_cons_zero, List.set_cons_succ]
            refine wpAnyH_take (i := 6) (oi := ?oi6_c) (v := ?v6_c) ?hi6_c ?h16_c ?h26_c ?h36_c ?hq6_c ?hy6_c ?hs6_c ?hn6_c
            case hi6_c => (simp only [List.getElem?_toArray, List.getElem?_cons_succ, List.getElem?_cons_zero]; rfl)
            case h16_c => kernel_rfl
            case h26_c => kernel_rfl
            case h36_c => kernel_rfl
            case hy6_c => (refine Or.inl ⟨by rfl, ?_⟩; intro w0 hSw; (try dsimp only at hSw); go_simp; try (with_reducible rfl))
            case hq6_c => exact fun _ _ _ h => h
            case hs6_c => assumption
            try simp only [Act.put, List.setIfInBounds_toArray, List.set_cons_zero, List.set_cons_succ]
            refine wpAnyH_take (i := 7) (oi := ?oi7_c) (v := ?v7_c) ?hi7_c ?h17_c ?h27_c ?h37_c ?hq7_c ?hy7_c ?hs7_c ?hn7_c
            case hi7_c => (simp only [List.getElem?_toArray, List.getElem?_cons_succ, List.getElem?_cons_zero]; rfl)
            case h17_c => kernel_rfl
            case h27_c => kernel_rfl
            case h37_c => kernel_rfl
            case hy7_c => (refine Or.inl ⟨by rfl, ?_⟩; intro w0 hSw; (try dsimp only at hSw); go_simp; try (with_reducible rfl))
            case hq7_c => exact fun _ _ _ h => h
            case hs7_c => assumption
            try simp only [Act.put, List.setIfInBounds_toArray, List.set_cons_zero, List.set_cons_succ]
            refine wpAnyH_ready (rs := [5]) (by kernel_rfl) (by simp) ?_
            refine AllReadyH.cons (o := _) rfl (fun K hK => ?_) AllReadyH.nil
            go_simp
            refine (hLen.out _ (Below.refl _ _).drew).mono ?_
            rintro e wl ⟨rfl, rfl⟩
            go_wp2_with fail
            refine hK.out _ _ ?_ (fun hHeld2 => ?_)
            · exact hHeld
            clear hK K
            try simp only [Act.put, List.setIfInBounds_toArray, List.set_cons_zero, List.set_cons_succ]
            clear hHeld2
            refine wpAnyH_take (i := 8) (oi := ?oi8_c) (v := ?v8_c) ?hi8_c ?h18_c ?h28_c ?h38_c ?hq8_c ?hy8_c ?hs8_c ?hn8_c
            case hi8_c => (simp only [List.getElem?_toArray, List.getElem?_cons_succ, List.getElem?_cons_zero]; rfl)
            case h18_c => kernel_rfl
            case h28_c => kernel_rfl
            case h38_c => kernel_rfl
            case hy8_c => (refine Or.inl ⟨by rfl, ?_⟩; intro w0 hSw; (try dsimp only at hSw); go_simp; try (with_reducible rfl))
            case hq8_c => exact fun _ _ _ h => h
            case hs8_c => assumption
            try simp only [Act.put, List.setIfInBounds_toArray, List.set_cons_zero, List.set_cons_succ]
            refine wpAnyH_take (i := 9) (oi := ?oi9_c) (v := ?v9_c) ?hi9_c ?h19_c ?h29_c ?h39_c ?hq9_c ?hy9_c ?hs9_c ?hn9_c
            case hi9_c => (simp only [List.getElem?_toArray, List.getElem?_cons_succ, List.getElem?_cons_zero]; rfl)
            case h19_c => kernel_rfl
            case h29_c => kernel_rfl
            case h39_c => kernel_rfl
            case hy9_c => (refine Or.inl ⟨by rfl, ?_⟩; intro w0 hSw; (try dsimp only at hSw); go_simp; try (with_reducible rfl))
            case hq9_c => exact fun _ _ _ h => h
            case hs9_c => assumption
            try simp only [Act.put, List.setIfInBounds_toArray, List.set_cons_zero, List.set_cons_succ]
            refine wpAnyH_take (i := 10) (oi := ?oi10_c) (v := ?v10_c) ?hi10_c ?h110_c ?h210_c ?h310_c ?hq10_c ?hy10_c ?hs10_c ?hn10_c
            case hi10_c => (simp only [List.getElem?_toArray, List.getElem?_cons_succ, List.getElem?_cons_zero]; rfl)
            case h110_c => kernel_rfl
            case h210_c => kernel_rfl
            case h310_c => kernel_rfl
            case hy10_c => (refine Or.inl ⟨by rfl, ?_⟩; intro w0 hSw; (try dsimp only at hSw); go_simp; try (with_reducible rfl))
            case hq10_c => exact fun _ _ _ h => h
            case hs10_c => assumption
            try simp only [Act.put, List.setIfInBounds_toArray, List.set_cons_zero, List.set_cons_succ]
            refine wpAnyH_take (i := 11) (oi := ?oi11_c) (v := ?v11_c) ?hi11_c ?h111_c ?h211_c ?h311_c ?hq11_c ?hy11_c ?hs11_c ?hn11_c
            case hi11_c => (simp only [List.getElem?_toArray, List.getElem?_cons_succ, List.getElem?_cons_zero]; rfl)
            case h111_c => kernel_rfl
            case h211_c => kernel_rfl
            case h311_c => kernel_rfl
            case hy11_c => (refine Or.inl ⟨by rfl, ?_⟩; intro w0 hSw; (try dsimp only at hSw); go_simp; try (with_reducible rfl))
            case hq11_c => exact fun _ _ _ h => h
            case hs11_c => assumption
            try simp only [Act.put, List.setIfInBounds_toArray, List.set_cons_zero, List.set_cons_succ]
            refine wpAnyH_take (i := 13) (oi := ?oi13_c) (v := ?v13_c) ?hi13_c ?h113_c ?h213_c ?h313_c ?hq13_c ?hy13_c ?hs13_c ?hn13_c
            case hi13_c => (simp only [List.getElem?_toArray, List.getElem?_cons_succ, List.getElem?_cons_zero]; rfl)
            case h113_c => kernel_rfl
            case h213_c => kernel_rfl
            case h313_c => kernel_rfl
            case hy13_c => (refine Or.inl ⟨by rfl, ?_⟩; intro w0 hSw; (try dsimp only at hSw); go_simp; try (with_reducible rfl))
            case hq13_c => exact fun _ _ _ h => h
            case hs13_c => assumption
            try simp only [Act.put, List.setIfInBounds_toArray, List.set_cons_zero, List.set_cons_succ]
            refine wpAnyH_ready (rs := [12]) (by kernel_rfl) (by simp) ?_
            refine AllReadyH.cons (o := _) rfl (fun K hK => ?_) AllReadyH.nil
            go_simp
            refine (hList.out _ (Below.refl _ _).drew).mono ?_
            rintro e wl ⟨vl, rfl, hpl, hbz⟩
            go_wp2_with fail
            refine hK.out _ _ ?_ (fun hHeld2 => ?_)
            · exact ⟨keepB hbz y0 s7, keepB hbz y1 s7, hbz⟩
            clear hK K
            try simp only [Act.put, List.setIfInBounds_toArray, List.set_cons_zero, List.set_cons_succ]
            clear hHeld
            have hHeld := hHeld2
            clear hHeld2
            refine wpAnyH_ready (rs := [14]) (by kernel_rfl) (by simp) ?_
            refine AllReadyH.cons (o := _) rfl (fun K hK => ?_) AllReadyH.nil
            go_simp
            refine (hSame.out _ _ hbz hpl).mono ?_
            clear hbz
            rintro e ws ⟨rfl, hbz⟩
            go_wp2_with fail
            refine hK.out _ _ ?_ (fun hHeld2 => ?_)
            · exact ⟨keepB hbz y0 s7, keepB hbz y1 s7, hbz⟩
            clear hK K
            try simp only [Act.put, List.setIfInBounds_toArray, List.set_cons_zero, List.set_cons_succ]
            clear hHeld
            have hHeld := hHeld2
            clear hHeld2
            refine wpAnyH_take (i := 15) (oi := ?oi15_c) (v := ?v15_c) ?hi15_c ?h115_c ?h215_c ?h315_c ?hq15_c ?hy15_c ?hs15_c ?hn15_c
            case hi15_c => (simp only [List.getElem?_toArray, List.getElem?_cons_succ, List.getElem?_cons_zero]; rfl)
            case h115_c => kernel_rfl
            case h215_c => kernel_rfl
            case h315_c => kernel_rfl
            case hy15_c => (refine Or.inl ⟨by rfl, ?_⟩; intro w0 hSw; (try dsimp only at hSw); go_simp; try (with_reducible rfl))
            case hq15_c => exact fun _ _ _ h => h
            case hs15_c => assumption
            try simp only [Act.put, List.setIfInBounds_toArray, List.set_cons_zero, List.set_cons_succ]
            refine wpAnyH_take (i := 16) (oi := ?oi16_c) (v := ?v16_c) ?hi16_c ?h116_c ?h216_c ?h316_c ?hq16_c ?hy16_c ?hs16_c ?hn16_c
            case hi16_c => (simp only [List.getElem?_toArray, List.getElem?_cons_succ, List.getElem?_cons_zero]; rfl)
            case h116_c => kernel_rfl
            case h216_c => kernel_rfl
            case h316_c => kernel_rfl
            case hy16_c => (refine Or.inl ⟨by rfl, ?_⟩; intro w0 hSw; (try dsimp only at hSw); go_simp; try (with_reducible rfl))
            case hq16_c => exact fun _ _ _ h => h
            case hs16_c => assumption
            try simp only [Act.put, List.setIfInBounds_toArray, List.set_cons_zero, List.set_cons_succ]
            refine wpAnyH_take (i := 17) (oi := ?oi17_c) (v := ?v17_c) ?hi17_c ?h117_c ?h217_c ?h317_c ?hq17_c ?hy17_c ?hs17_c ?hn17_c
            case hi17_c => (simp only [List.getElem?_toArray, List.getElem?_cons_succ, List.getElem?_cons_zero]; rfl)
            case h117_c => kernel_rfl
            case h217_c => kernel_rfl
            case h317_c => kernel_rfl
            case hy17_c => (refine Or.inl ⟨by rfl, ?_⟩; intro w0 hSw; (try dsimp only at hSw); go_simp; try (with_reducible rfl))
            case hq17_c => exact fun _ _ _ h => h
            case hs17_c => assumption
            try simp only [Act.put, List.setIfInBounds_toArray, List.set_cons_zero, List.set_cons_succ]
            refine wpAnyH_take (i := 18) (oi := ?oi18_c) (v := ?v18_c) ?hi18_c ?h118_c ?h218_c ?h318_c ?hq18_c ?hy18_c ?hs18_c ?hn18_c
            case hi18_c => (simp only [List.getElem?_toArray, List.getElem?_cons_succ, List.getElem?_cons_zero]; rfl)
            case h118_c => kernel_rfl
            case h218_c => kernel_rfl
            case h318_c => kernel_rfl
            case hy18_c => (refine Or.inl ⟨by rfl, ?_⟩; intro w0 hSw; (try dsimp only at hSw); go_simp; try (with_reducible rfl))
            case hq18_c => exact fun _ _ _ h => h
            case hs18_c => assumption
            try simp only [Act.put, List.setIfInBounds_toArray, List.set_cons_zero, List.set_cons_succ]
            refine wpAnyH_take (i := 19) (oi := ?oi19_c) (v := ?v19_c) ?hi19_c ?h119_c ?h219_c ?h319_c ?hq19_c ?hy19_c ?hs19_c ?hn19_c
            case hi19_c => (simp only [List.getElem?_toArray, List.getElem?_cons_succ, List.getElem?_cons_zero]; rfl)
            case h119_c => kernel_rfl
            case h219_c => kernel_rfl
            case h319_c => kernel_rfl
            case hy19_c => (refine Or.inl ⟨by rfl, ?_⟩; intro w0 hSw; (try dsimp only at hSw); go_simp; try (with_reducible rfl))
            case hq19_c => exact fun _ _ _ h => h
            case hs19_c => assumption
            try simp only [Act.put, List.setIfInBounds_toArray, List.set_cons_zero, List.set_cons_succ]
            refine wpAnyH_take (i := 20) (oi := ?oi20_c) (v := ?v20_c) ?hi20_c ?h120_c ?h220_c ?h320_c ?hq20_c ?hy20_c ?hs20_c ?hn20_c
            case hi20_c => (simp only [List.getElem?_toArray, List.getElem?_cons_succ, List.getElem?_cons_zero]; rfl)
            case h120_c => kernel_rfl
            case h220_c => kernel_rfl
            case h320_c => kernel_rfl
            case hy20_c => (refine Or.inl ⟨by rfl, ?_⟩; intro w0 hSw; (try dsimp only at hSw); go_simp; try (with_reducible rfl))
            case hq20_c => exact fun _ _ _ h => h
            case hs20_c => assumption
            try simp only [Act.put, List.setIfInBounds_toArray, List.set_cons_zero, List.set_cons_succ]
            refine wpAnyH_take (i := 21) (oi := ?oi21_c) (v := ?v21_c) ?hi21_c ?h121_c ?h221_c ?h321_c ?hq21_c ?hy21_c ?hs21_c ?hn21_c
            case hi21_c => (simp only [List.getElem?_toArray, List.getElem?_cons_succ, List.getElem?_cons_zero]; rfl)
            case h121_c => kernel_rfl
            case h221_c => kernel_rfl
            case h321_c => kernel_rfl
            case hy21_c => (refine Or.inl ⟨by rfl, ?_⟩; intro w0 hSw; (try dsimp only at hSw); go_simp; try (with_reducible rfl))
            case hq21_c => exact fun _ _ _ h => h
            case hs21_c => assumption
            try simp only [Act.put, List.setIfInBounds_toArray, List.set_cons_zero, List.set_cons_succ]
            refine wpAnyH_take (i := 22) (oi := ?oi22_c) (v := undef) ?hi22_c ?h122_c ?h222_c ?h322_c ?hq22_c ?hy22_c ?hs22_c ?hn22_c
            case hi22_c => (simp only [List.getElem?_toArray, List.getElem?_cons_succ, List.getElem?_cons_zero]; rfl)
            case h122_c => kernel_rfl
            case h222_c => kernel_rfl
            case h322_c => kernel_rfl
            case hq22_c => exact fun _ _ _ h => h
            case hs22_c => assumption
            case hy22_c => exact Or.inr ⟨by rfl, rfl⟩
            try simp only [Act.put, List.setIfInBounds_toArray, List.set_cons_zero, List.set_cons_succ]
            refine wpAnyH_take (i := 23) (oi := ?oi23_c) (v := undef) ?hi23_c ?h123_c ?h223_c ?h323_c ?hq23_c ?hy23_c ?hs23_c ?hn23_c
            case hi23_c => (simp only [List.getElem?_toArray, List.getElem?_cons_succ, List.getElem?_cons_zero]; rfl)
            case h123_c => kernel_rfl
            case h223_c => kernel_rfl
            case h323_c => kernel_rfl
            case hq23_c => exact fun _ _ _ h => h
            case hs23_c => assumption
            case hy23_c => exact Or.inr ⟨by rfl, rfl⟩
            try simp only [Act.put, List.setIfInBounds_toArray, List.set_cons_zero, List.set_cons_succ]
            refine wpAnyH_take (i := 24) (oi := ?oi24_c) (v := undef) ?hi24_c ?h124_c ?h224_c ?h324_c ?hq24_c ?hy24_c ?hs24_c ?hn24_c
            case hi24_c => (simp only [List.getElem?_toArray, List.getElem?_cons_succ, List.getElem?_cons_zero]; rfl)
            case h124_c => kernel_rfl
            case h224_c => kernel_rfl
            case h324_c => kernel_rfl
            case hq24_c => exact fun _ _ _ h => h
            case hs24_c => assumption
            case hy24_c => exact Or.inr ⟨by rfl, rfl⟩
            try simp only [Act.put, List.setIfInBounds_toArray, List.set_cons_zero, List.set_cons_succ]
            refine wpAnyH_take (i := 25) (oi := ?oi25_c) (v := undef) ?hi25_c ?h125_c ?h225_c ?h325_c ?hq25_c ?hy25_c ?hs25_c ?hn25_c
            case hi25_c => (simp only [List.getElem?_toArray, List.getElem?_cons_succ, List.getElem?_cons_zero]; rfl)
            case h125_c => kernel_rfl
            case h225_c => kernel_rfl
            case h325_c => kernel_rfl
            case hq25_c => exact fun _ _ _ h => h
            case hs25_c => assumption
            case hy25_c => exact Or.inr ⟨by rfl, rfl⟩
            try simp only [Act.put, List.setIfInBounds_toArray, List.set_cons_zero, List.set_cons_succ]
            refine wpAnyH_take (i := 26) (oi := ?oi26_c) (v := ?v26_c) ?hi26_c ?h126_c ?h226_c ?h326_c ?hq26_c ?hy26_c ?hs26_c ?hn26_c
            case hi26_c => (simp only [List.getElem?_toArray, List.getElem?_cons_succ, List.getElem?_cons_zero]; rfl)
            case h126_c => kernel_rfl
            case h226_c => kernel_rfl
            case h326_c => kernel_rfl
            case hy26_c => (refine Or.inl ⟨by rfl, ?_⟩; intro w0 hSw; (try dsimp only at hSw); go_simp; try (with_reducible rfl))
            case hq26_c => exact fun _ _ _ h => h
            case hs26_c => assumption
            try simp only [Act.put, List.setIfInBounds_toArray, List.set_cons_zero, List.set_cons_succ]
            refine wpAnyH_take (i := 27) (oi := ?oi27_c) (v := ?v27_c) ?hi27_c ?h127_c ?h227_c ?h327_c ?hq27_c ?hy27_c ?hs27_c ?hn27_c
            case hi27_c => (simp only [List.getElem?_toArray, List.getElem?_cons_succ, List.getElem?_cons_zero]; rfl)
            case h127_c => kernel_rfl
            case h227_c => kernel_rfl
            case h327_c => kernel_rfl
            case hy27_c => (refine Or.inl ⟨by rfl, ?_⟩; intro w0 hSw; (try dsimp only at hSw); go_simp; try (with_reducible rfl))
            case hq27_c => exact fun _ _ _ h => h
            case hs27_c => assumption
            try simp only [Act.put, List.setIfInBounds_toArray, List.set_cons_zero, List.set_cons_succ]
            refine wpAnyH_take (i := 28) (oi := ?oi28_c) (v := ?v28_c) ?hi28_c ?h128_c ?h228_c ?h328_c ?hq28_c ?hy28_c ?hs28_c ?hn28_c
            case hi28_c => (simp only [List.getElem?_toArray, List.getElem?_cons_succ, List.getElem?_cons_zero]; rfl)
            case h128_c => kernel_rfl
            case h228_c => kernel_rfl
            case h328_c => kernel_rfl
            case hy28_c => (refine Or.inl ⟨by rfl, ?_⟩; intro w0 hSw; (try dsimp only at hSw); go_simp; try (with_reducible rfl))
            case hq28_c => exact fun _ _ _ h => h
            case hs28_c => assumption
            try simp only [Act.put, List.setIfInBounds_toArray, List.set_cons_zero, List.set_cons_succ]
            refine wpAnyH_take (i := 29) (oi := ?oi29_c) (v := ?v29_c) ?hi29_c ?h129_c ?h229_c ?h329_c ?hq29_c ?hy29_c ?hs29_c ?hn29_c
            case hi29_c => (simp only [List.getElem?_toArray, List.getElem?_cons_succ, List.getElem?_cons_zero]; rfl)
            case h129_c => kernel_rfl
            case h229_c => kernel_rfl
            case h329_c => kernel_rfl
            case hy29_c => (refine Or.inl ⟨by rfl, ?_⟩; intro w0 hSw; (try dsimp only at hSw); go_simp; try (with_reducible rfl))
            case hq29_c => exact fun _ _ _ h => h
            case hs29_c => assumption
            try simp only [Act.put, List.setIfInBounds_toArray, List.set_cons_zero, List.set_cons_succ]
            refine wpAnyH_take (i := 30) (oi := ?oi30_c) (v := ?v30_c) ?hi30_c ?h130_c ?h230_c ?h330_c ?hq30_c ?hy30_c ?hs30_c ?hn30_c
            case hi30_c => (simp only [List.getElem?_toArray, List.getElem?_cons_succ, List.getElem?_cons_zero]; rfl)
            case h130_c => kernel_rfl
            case h230_c => kernel_rfl
            case h330_c => kernel_rfl
            case hy30_c => (refine Or.inl ⟨by rfl, ?_⟩; intro w0 hSw; (try dsimp only at hSw); go_simp; try (with_reducible rfl))
            case hq30_c => exact fun _ _ _ h => h
            case hs30_c => assumption
            try simp only [Act.put, List.setIfInBounds_toArray, List.set_cons_zero, List.set_cons_succ]
            refine wpAnyH_take (i := 31) (oi := ?oi31_c) (v := ?v31_c) ?hi31_c ?h131_c ?h231_c ?h331_c ?hq31_c ?hy31_c ?hs31_c ?hn31_c
            case hi31_c => (simp only [List.getElem?_toArray, List.getElem?_cons_succ, List.getElem?_cons_zero]; rfl)
            case h131_c => kernel_rfl
            case h231_c => kernel_rfl
            case h331_c => kernel_rfl
            case hy31_c => (refine Or.inl ⟨by rfl, ?_⟩; intro w0 hSw; (try dsimp only at hSw); go_simp; try (with_reducible rfl))
            case hq31_c => exact fun _ _ _ h => h
            case hs31_c => assumption
            try simp only [Act.put, List.setIfInBounds_toArray, List.set_cons_zero, List.set_cons_succ]
            refine wpAnyH_take (i := 32) (oi := ?oi32_c) (v := undef) ?hi32_c ?h132_c ?h232_c ?h332_c ?hq32_c ?hy32_c ?hs32_c ?hn32_c
            case hi32_c => (simp only [List.getElem?_toArray, List.getElem?_cons_succ, List.getElem?_cons_zero]; rfl)
            case h132_c => kernel_rfl
            case h232_c => kernel_rfl
            case h332_c => kernel_rfl
            case hq32_c => exact fun _ _ _ h => h
            case hs32_c => assumption
            case hy32_c => exact Or.inr ⟨by rfl, rfl⟩
            try simp only [Act.put, List.setIfInBounds_toArray, List.set_cons_zero, List.set_cons_succ]
            refine wpAnyH_take (i := 33) (oi := ?oi33_c) (v := undef) ?hi33_c ?h133_c ?h233_c ?h333_c ?hq33_c ?hy33_c ?hs33_c ?hn33_c
            case hi33_c => (simp only [List.getElem?_toArray, List.getElem?_cons_succ, List.getElem?_cons_zero]; rfl)
            case h133_c => kernel_rfl
            case h233_c => kernel_rfl
            case h333_c => kernel_rfl
            case hq33_c => exact fun _ _ _ h => h
            case hs33_c => assumption
            case hy33_c => exact Or.inr ⟨by rfl, rfl⟩
            try simp only [Act.put, List.setIfInBounds_toArray, List.set_cons_zero, List.set_cons_succ]
            refine wpAnyH_take (i := 34) (oi := ?oi34_c) (v := undef) ?hi34_c ?h134_c ?h234_c ?h334_c ?hq34_c ?hy34_c ?hs34_c ?hn34_c
            case hi34_c => (simp only [List.getElem?_toArray, List.getElem?_cons_succ, List.getElem?_cons_zero]; rfl)
            case h134_c => kernel_rfl
            case h234_c => kernel_rfl
            case h334_c => kernel_rfl
            case hq34_c => exact fun _ _ _ h => h
            case hs34_c => assumption
            case hy34_c => exact Or.inr ⟨by rfl, rfl⟩
            try simp only [Act.put, List.setIfInBounds_toArray, List.set_cons_zero, List.set_cons_succ]
            refine wpAnyH_take (i := 35) (oi := ?oi35_c) (v := undef) ?hi35_c ?h135_c ?h235_c ?h335_c ?hq35_c ?hy35_c ?hs35_c ?hn35_c
            case hi35_c => (simp only [List.getElem?_toArray, List.getElem?_cons_succ, List.getElem?_cons_zero]; rfl)
            case h135_c => kernel_rfl
            case h235_c => kernel_rfl
            case h335_c => kernel_rfl
            case hq35_c => exact fun _ _ _ h => h
            case hs35_c => assumption
            case hy35_c => exact Or.inr ⟨by rfl, rfl⟩
            try simp only [Act.put, List.setIfInBounds_toArray, List.set_cons_zero, List.set_cons_succ]
            refine wpAnyH_take (i := 36) (oi := ?oi36_c) (v := undef) ?hi36_c ?h136_c ?h236_c ?h336_c ?hq36_c ?hy36_c ?hs36_c ?hn36_c
            case hi36_c => (simp only [List.getElem?_toArray, List.getElem?_cons_succ, List.getElem?_cons_zero]; rfl)
            case h136_c => kernel_rfl
            case h236_c => kernel_rfl
            case h336_c => kernel_rfl
            case hq36_c => exact fun _ _ _ h => h
            case hs36_c => assumption
            case hy36_c => exact Or.inr ⟨by rfl, rfl⟩
            try simp only [Act.put, List.setIfInBounds_toArray, List.set_cons_zero, List.set_cons_succ]
            refine wpAnyH_take (i := 37) (oi := ?oi37_c) (v := undef) ?hi37_c ?h137_c ?h237_c ?h337_c ?hq37_c ?hy37_c ?hs37_c ?hn37_c
            case hi37_c => (simp only [List.getElem?_toArray, List.getElem?_cons_succ, List.getElem?_cons_zero]; rfl)
            case h137_c => kernel_rfl
            case h237_c => kernel_rfl
            case h337_c => kernel_rfl
            case hq37_c => exact fun _ _ _ h => h
            case hs37_c => assumption
            case hy37_c => exact Or.inr ⟨by rfl, rfl⟩
            try simp only [Act.put, List.setIfInBounds_toArray, List.set_cons_zero, List.set_cons_succ]
            refine wpAnyH_take (i := 38) (oi := ?oi38_c) (v := undef) ?hi38_c ?h138_c ?h238_c ?h338_c ?hq38_c ?hy38_c ?hs38_c ?hn38_c
            case hi38_c => (simp only [List.getElem?_toArray, List.getElem?_cons_succ, List.getElem?_cons_zero]; rfl)
            case h138_c => kernel_rfl
            case h238_c => kernel_rfl
            case h338_c => kernel_rfl
            case hq38_c => exact fun _ _ _ h => h
            case hs38_c => assumption
            case hy38_c => exact Or.inr ⟨by rfl, rfl⟩
            try simp only [Act.put, List.setIfInBounds_toArray, List.set_cons_zero, List.set_cons_succ]
            refine wpAnyH_take (i := 39) (oi := ?oi39_c) (v := undef) ?hi39_c ?h139_c ?h239_c ?h339_c ?hq39_c ?hy39_c ?hs39_c ?hn39_c
            case hi39_c => (simp only [List.getElem?_toArray, List.getElem?_cons_succ, List.getElem?_cons_zero]; rfl)
            case h139_c => kernel_rfl
            case h239_c => kernel_rfl
            case h339_c => kernel_rfl
            case hq39_c => exact fun _ _ _ h => h
            case hs39_c => assumption
            case hy39_c => exact Or.inr ⟨by rfl, rfl⟩
            try simp only [Act.put, List.setIfInBounds_toArray, List.set_cons_zero, List.set_cons_succ]
            refine wpAnyH_take (i := 40) (oi := ?oi40_c) (v := ?v40_c) ?hi40_c ?h140_c ?h240_c ?h340_c ?hq40_c ?hy40_c ?hs40_c ?hn40_c
            case hi40_c => (simp only [List.getElem?_toArray, List.getElem?_cons_succ, List.getElem?_cons_zero]; rfl)
            case h140_c => kernel_rfl
            case h240_c => kernel_rfl
            case h340_c => kernel_rfl
            case hy40_c => (refine Or.inl ⟨by rfl, ?_⟩; intro w0 hSw; (try dsimp only at hSw); go_simp; try (with_reducible rfl))
            case hq40_c => exact fun _ _ _ h => h
            case hs40_c => assumption
            try simp only [Act.put, List.setIfInBounds_toArray, List.set_cons_zero, List.set_cons_succ]
            refine wpAnyH_take (i := 41) (oi := ?oi41_c) (v := ?v41_c) ?hi41_c ?h141_c ?h241_c ?h341_c ?hq41_c ?hy41_c ?hs41_c ?hn41_c
            case hi41_c => (simp only [List.getElem?_toArray, List.getElem?_cons_succ, List.getElem?_cons_zero]; rfl)
            case h141_c => kernel_rfl
            case h241_c => kernel_rfl
            case h341_c => kernel_rfl
            case hy41_c => (refine Or.inl ⟨by rfl, ?_⟩; intro w0 hSw; (try dsimp only at hSw); go_simp; try (with_reducible rfl))
            case hq41_c => exact fun _ _ _ h => h
            case hs41_c => assumption
            try simp only [Act.put, List.setIfInBounds_toArray, List.set_cons_zero, List.set_cons_succ]
            refine wpAnyH_take (i := 42) (oi := ?oi42_c) (v := ?v42_c) ?hi42_c ?h142_c ?h242_c ?h342_c ?hq42_c ?hy42_c ?hs42_c ?hn42_c
            case hi42_c => (simp only [List.getElem?_toArray, List.getElem?_cons_succ, List.getElem?_cons_zero]; rfl)
            case h142_c => kernel_rfl
            case h242_c => kernel_rfl
            case h342_c => kernel_rfl
            case hy42_c => (refine Or.inl ⟨by rfl, ?_⟩; intro w0 hSw; (try dsimp only at hSw); go_simp; try (with_reducible rfl))
            case hq42_c => exact fun _ _ _ h => h
            case hs42_c => assumption
            try simp only [Act.put, List.setIfInBounds_toArray, List.set_cons_zero, List.set_cons_succ]
            refine wpAnyH_take (i := 43) (oi := ?oi43_c) (v := ?v43_c) ?hi43_c ?h143_c ?h243_c ?h343_c ?hq43_c ?hy43_c ?hs43_c ?hn43_c
            case hi43_c => (simp only [List.getElem?_toArray, List.getElem?_cons_succ, List.getElem?_cons_zero]; rfl)
            case h143_c => kernel_rfl
            case h243_c => kernel_rfl
            case h343_c => kernel_rfl
            case hy43_c => (refine Or.inl ⟨by rfl, ?_⟩; intro w0 hSw; (try dsimp only at hSw); go_simp; try (with_reducible rfl))
            case hq43_c => exact fun _ _ _ h => h
            case hs43_c => assumption
            try simp only [Act.put, List.setIfInBounds_toArray, List.set_cons_zero, List.set_cons_succ]
            refine wpAnyH_take (i := 44) (oi := ?oi44_c) (v := ?v44_c) ?hi44_c ?h144_c ?h244_c ?h344_c ?hq44_c ?hy44_c ?hs44_c ?hn44_c
            case hi44_c => (simp only [List.getElem?_toArray, List.getElem?_cons_succ, List.getElem?_cons_zero]; rfl)
            case h144_c => kernel_rfl
            case h244_c => kernel_rfl
            case h344_c => kernel_rfl
            case hy44_c => (refine Or.inl ⟨by rfl, ?_⟩; intro w0 hSw; (try dsimp only at hSw); go_simp; try (with_reducible rfl))
            case hq44_c => exact fun _ _ _ h => h
            case hs44_c => assumption
            try simp only [Act.put, List.setIfInBounds_toArray, List.set_cons_zero, List.set_cons_succ]
            refine wpAnyH_take (i := 45) (oi := ?oi45_c) (v := ?v45_c) ?hi45_c ?h145_c ?h245_c ?h345_c ?hq45_c ?hy45_c ?hs45_c ?hn45_c
            case hi45_c => (simp only [List.getElem?_toArray, List.getElem?_cons_succ, List.getElem?_cons_zero]; rfl)
            case h145_c => kernel_rfl
            case h245_c => kernel_rfl
            case h345_c => kernel_rfl
            case hy45_c => (refine Or.inl ⟨by rfl, ?_⟩; intro w0 hSw; (try dsimp only at hSw); go_simp; try (with_reducible rfl))
            case hq45_c => exact fun _ _ _ h => h
            case hs45_c => assumption
            try simp only [Act.put, List.setIfInBounds_toArray, List.set_cons_zero, List.set_cons_succ]
            refine wpAnyH_take (i := 46) (oi := ?oi46_c) (v := ?v46_c) ?hi46_c ?h146_c ?h246_c ?h346_c ?hq46_c ?hy46_c ?hs46_c ?hn46_c
            case hi46_c => (simp only [List.getElem?_toArray, List.getElem?_cons_succ, List.getElem?_cons_zero]; rfl)
            case h146_c => kernel_rfl
            case h246_c => kernel_rfl
            case h346_c => kernel_rfl
            case hy46_c => (refine Or.inl ⟨by rfl, ?_⟩; intro w0 hSw; (try dsimp only at hSw); go_simp; try (with_reducible rfl))
            case hq46_c => exact fun _ _ _ h => h
            case hs46_c => assumption
            try simp only [Act.put, List.setIfInBounds_toArray, List.set_cons_zero, List.set_cons_succ]
            refine wpAnyH_take (i := 47) (oi := ?oi47_c) (v := ?v47_c) ?hi47_c ?h147_c ?h247_c ?h347_c ?hq47_c ?hy47_c ?hs47_c ?hn47_c
            case hi47_c => (simp only [List.getElem?_toArray, List.getElem?_cons_succ, List.getElem?_cons_zero]; rfl)
            case h147_c => kernel_rfl
            case h247_c => kernel_rfl
            case h347_c => kernel_rfl
            case hy47_c => (refine Or.inl ⟨by rfl, ?_⟩; intro w0 hSw; (try dsimp only at hSw); go_simp; try (with_reducible rfl))
            case hq47_c => exact fun _ _ _ h => h
            case hs47_c => assumption
            try simp only [Act.put, List.setIfInBounds_toArray, List.set_cons_zero, List.set_cons_succ]
            refine wpAnyH_take (i := 48) (oi := ?oi48_c) (v := ?v48_c) ?hi48_c ?h148_c ?h248_c ?h348_c ?hq48_c ?hy48_c ?hs48_c ?hn48_c
            case hi48_c => (simp only [List.getElem?_toArray, List.getElem?_cons_succ, List.getElem?_cons_zero]; rfl)
            case h148_c => kernel_rfl
            case h248_c => kernel_rfl
            case h348_c => kernel_rfl
            case hy48_c => (refine Or.inl ⟨by rfl, ?_⟩; intro w0 hSw; (try dsimp only at hSw); go_simp; try (with_reducible rfl))
            case hq48_c => exact fun _ _ _ h => h
            case hs48_c => assumption
            try simp only [Act.put, List.setIfInBounds_toArray, List.set_cons_zero, List.set_cons_succ]
            refine wpAnyH_take (i := 49) (oi := ?oi49_c) (v := ?v49_c) ?hi49_c ?h149_c ?h249_c ?h349_c ?hq49_c ?hy49_c ?hs49_c ?hn49_c
            case hi49_c => (simp only [List.getElem?_toArray, List.getElem?_cons_succ, List.getElem?_cons_zero]; rfl)
            case h149_c => kernel_rfl
            case h249_c => kernel_rfl
            case h349_c => kernel_rfl
            case hy49_c => (refine Or.inl ⟨by rfl, ?_⟩; intro w0 hSw; (try dsimp only at hSw); go_simp; try (with_reducible rfl))
            case hq49_c => exact fun _ _ _ h => h
            case hs49_c => assumption
            try simp only [Act.put, List.setIfInBounds_toArray, List.set_cons_zero, List.set_cons_succ]
            refine wpAnyH_take (i := 50) (oi := ?oi50_c) (v := ?v50_c) ?hi50_c ?h150_c ?h250_c ?h350_c ?hq50_c ?hy50_c ?hs50_c ?hn50_c
            case hi50_c => (simp only [List.getElem?_toArray, List.getElem?_cons_succ, List.getElem?_cons_zero]; rfl)
            case h150_c => kernel_rfl
            case h250_c => kernel_rfl
            case h350_c => kernel_rfl
            case hy50_c => (refine Or.inl ⟨by rfl, ?_⟩; intro w0 hSw; (try dsimp only at hSw); go_simp; try (with_reducible rfl))
            case hq50_c => exact fun _ _ _ h => h
            case hs50_c => assumption
            try simp only [Act.put, List.setIfInBounds_toArray, List.set_cons_zero, List.set_cons_succ]
            refine wpAnyH_done (by kernel_rfl) ?_ _
            go_wp2
            go_meet
            exact ⟨rfl, hbz⟩
        case rest =>
          obtain ⟨rfl, c9⟩ := hcut
          rename_i wz
          have x9 := x8.later c9
          have b9 := b8.trans (c9.mono b8.size)
          clear x8 b8 c9
          go_wp2
          exact ⟨⟨i + 1, v4, h4, by go_num, by omega, x9, N4.out, b9⟩, by simp [intOf]; omega⟩
    · have hin : i = n := by omega
      have hd : decide ((i : Int) < (n : Int)) = false := decide_eq_false (by omega)
      have hd2 : decide (i < n) = false := decide_eq_false (by omega)
      have hpw := HP.out.later bw
      have hb1 := best_any k _ l wr hk hpw (by rw [HLN.out]; omega)
      have HB1 := Lib.hid hb1
      have HPW := Lib.hid hpw
      clear hb1 hpw xr nr hin
      go_wp2_with fail
      refine HB1.out.mono ?_
      rintro e w3 ⟨v1, rfl, hp1, c3⟩
      have b3 := bw.trans (c3.mono hwr)
      have hr1 := refbest_any k _ l w3 (HPW.out.later c3) (by rw [HLN.out]; omega)
      have HR1 := Lib.hid hr1
      clear hr1 bw c3 HB1
      go_wp2_with fail
      refine HR1.out.mono ?_
      rintro e w4 ⟨v2, rfl, hp2, c4, _⟩
      have b4 := b3.trans (c4.mono b3.size)
      have hl2 : (TopM.best k.toNat l).length ≤ 1000000 := by rw [TopM.best_len, HLN.out]; omega
      have hs := same_any v1 v2 _ _ w4 (hp1.later c4) hp2 hl2 hl2
      rw [decide_eq_true rfl] at hs
      have HS := Lib.hid hs
      clear hs b3 c4 hp1 hp2 HR1 hl2
      go_wp2_with fail
      refine HS.out.mono ?_
      rintro e w5 ⟨rfl, q, rfl⟩
      go_wp2
      go_ret
      exact ⟨rfl, bdrewN b4 _⟩

set_option maxHeartbeats 1000000 in
set_option maxRecDepth 100000 in
theorem topkkeeps_long (k : Int) (A : Option Addr) (n cp : Nat) (w : World) (hn : ¬ n ≤ 200) :
    Calls Try.prog 11 #[.int .i64 k, .slice A n cp] w fun e w' => e = .returned (.bool true) ∧ Below w.heap.size w w' := by
  have hd200 : decide ((200 : Int) < (n : Int)) = true := decide_eq_true (by omega)
  go_enter Try.func11, Try.ntmps11
  go_wp2_with fail
  refine (awake4_any _).mono ?_
  rintro e w1 ⟨rfl, b1⟩
  go_wp2
  go_ret
  exact ⟨rfl, b1⟩
end Go.Proofs.Ythanlbjoiomfcaa
