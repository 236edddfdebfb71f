
/- DenseEarly, walked. -/
import Derived.Test.YtjdlocmchmeipaaDenseO
import Derived.Deep.RegionWith
namespace Go.Proofs.Ytjdlocmchmeipaa
open Go.RowKit

set_option maxHeartbeats 1000000 in
set_option maxRecDepth 100000 in
theorem but_any2 (w0 w : World) (C : Nat) (A : Option Addr) (n cp : Nat) (l : List Int) (h : Ivs w0 A n l) (hb : Below w0.heap.size w0 w) (hC : w0.heap.size ≤ C) (hC2 : C < w.heap.size) (hn : n ≤ 1000000) :
    Calls Try.prog 11 #[.slice A n cp] w fun e w' => ∃ v, e = .returned v ∧ MayC w' C v (butB l) ∧ Below w.heap.size w w' := by
  have hbl := heap_alloc_new w (.cells #[.slice A n cp] 22)
  have hM : MayC (w.alloc (.cells #[.slice A n cp] 22)) C (.func (.func 21) #[] #[.pointer (some ⟨w.heap.size, 0, none⟩)]) (butB l) := by
    refine ⟨_, _, rfl, enters_of Try.func21 (by kernel_rfl) rfl, fun W hW d => ?_⟩
    have hb2 := cell_of_cells (i := 0) ((hW.block w.heap.size (by simp) (by omega)).trans hbl) rfl
    have hbw : Below w0.heap.size w0 W := hW.below (hb.trans ((pl1 _ _).mono hb.size)) (fun k hk => by omega)
    exact (butfun_any w.heap.size A n cp l d W (h.later hbw) hb2 hn).mono (fun e w' ⟨he, hw⟩ => ⟨he, by rw [hw]; exact Below.refl _ _⟩)
  have HM := Lib.hid hM
  clear hM hbl h hb
  go_enter Try.func11, Try.ntmps11
  go_wp2
  go_ret
  exact ⟨_, rfl, HM.out, pl1 _ _⟩
set_option maxHeartbeats 4000000 in
set_option maxRecDepth 100000 in
theorem early7_out (x k : Int) (A1 A3 A4 : Option Addr) (n1 n3 n4 c1 c3 c4 : Nat) (l : List (Int × List Int)) (w : World) (h3 : Rws w A3 n3 l) (h : ¬ (n1 ≤ 20 ∧ fewB l = true ∧ n4 ≤ 40)) :
    Calls Try.prog 4 #[.int .i64 x, .slice A1 n1 c1, .slice A3 n3 c3, .int .i64 k, .slice A4 n4 c4] w fun e w' => e = .returned (.bool true) ∧ Below w.heap.size w w' := by
  have HA := Lib.hid (awake7_any w)
  have HF := Lib.hid (fun W (hW : Below w.heap.size w W) => few_any A3 n3 c3 l W (h3.later hW))
  obtain ⟨fb, hfb⟩ : ∃ b, b = fewB l := ⟨_, rfl⟩
  rw [← hfb] at HF h
  clear h3 hfb
  by_cases g1 : 20 < n1
  · have d1 : decide ((20 : Int) < (n1 : Int)) = true := decide_eq_true (by omega)
    go_enter Try.func4, Try.ntmps4
    go_wp2_with fail
    refine HA.out.mono ?_
    rintro e w1 ⟨rfl, hb⟩
    go_wp2
    go_ret
    exact ⟨rfl, hb⟩
  · have d1 : decide ((20 : Int) < (n1 : Int)) = false := decide_eq_false (by omega)
    cases fb with
    | false =>
      clear h
      go_enter Try.func4, Try.ntmps4
      go_wp2_with fail
      refine HA.out.mono ?_
      rintro e w1 ⟨rfl, hb⟩
      have HB := Lib.hid hb
      clear hb
      go_wp2_with fail
      refine (HF.out _ HB.out).mono ?_
      rintro e w2 ⟨rfl, rfl⟩
      go_wp2
      go_ret
      exact ⟨rfl, HB.out⟩
    | true =>
      have g4 : 40 < n4 := by
        by_cases c : 40 < n4
        · exact c
        · exact absurd ⟨by omega, rfl, by omega⟩ h
      have d4 : decide ((40 : Int) < (n4 : Int)) = true := decide_eq_true (by omega)
      clear h
      go_enter Try.func4, Try.ntmps4
      go_wp2_with fail
      refine HA.out.mono ?_
      rintro e w1 ⟨rfl, hb⟩
      have HB := Lib.hid hb
      clear hb
      go_wp2_with fail
      refine (HF.out _ HB.out).mono ?_
      rintro e w2 ⟨rfl, rfl⟩
      go_wp2
      go_ret
      exact ⟨rfl, HB.out⟩
/-- what is found has its row's score -/
theorem found_score {x k : Int} {q : List Int} {l : List (Int × List Int)} {may : Int → Bool} (h0 : fE x q l k = 0) {p : Int × Int} (hp : p ∈ TopM.best k.toNat (fA x q l k may)) {r : Int × List Int} (hr : r ∈ l) (hd : r.1 = p.1) : scV x q r.2 = p.2 := by
  have hm : ¬ (mOf x = none ∨ k < 1 ∨ 1000 < k) ∧ (DenM.vec q && DenM.rowsB l (-1)) = true := by
    unfold fE at h0
    split at h0
    · simp at h0
    · rename_i h
      split at h0
      · rename_i h2; exact ⟨h, h2⟩
      · simp at h0
  obtain ⟨hm1, hm2⟩ := hm
  rw [Bool.and_eq_true] at hm2
  have hpl : p ∈ fA x q l k may := by
    unfold TopM.best at hp
    exact (TopM.srt_perm _).mem_iff.1 (List.mem_of_mem_take hp)
  unfold fA at hpl
  rw [if_pos h0] at hpl
  unfold DenM.vis at hpl
  obtain ⟨r2, hr2, rfl⟩ := List.mem_map.1 hpl
  have hr3 := (List.mem_filter.1 hr2).1
  have hpw := ((DenM.rowsB_parts l (-1)).1 hm2.2).2
  have : r = r2 := by
    obtain ⟨i, hi, rfl⟩ := List.mem_iff_getElem.1 hr
    obtain ⟨j, hj, rfl⟩ := List.mem_iff_getElem.1 hr3
    have hd' : l[i].1 = l[j].1 := hd
    rcases Nat.lt_trichotomy i j with c | c | c
    · have := List.pairwise_iff_getElem.1 hpw i j hi hj c
      omega
    · subst c; rfl
    · have := List.pairwise_iff_getElem.1 hpw j i hj hi c
      omega
  subst this
  have hv := (((DenM.rowsB_parts l (-1)).1 hm2.2).1 r hr).2.2
  unfold scV scE
  rw [if_neg (fun h => hm1 (.inl h)), hm2.1, hv]
  rfl
set_option maxHeartbeats 8000000 in
set_option maxRecDepth 100000 in
theorem early7_main (x k : Int) (A1 A3 A4 : Option Addr) (n1 n3 n4 c1 c3 c4 : Nat) (q nl : List Int) (l : List (Int × List Int)) (w : World) (h1 : Ivs w A1 n1 q) (h3 : Rws w A3 n3 l) (h4 : Ivs w A4 n4 nl) (g1 : n1 ≤ 20) (g3 : fewB l = true) (g4 : n4 ≤ 40) :
    Calls Try.prog 4 #[.int .i64 x, .slice A1 n1 c1, .slice A3 n3 c3, .int .i64 k, .slice A4 n4 c4] w fun e w' => e = .returned (.bool true) ∧ Below w.heap.size w w' := by
  have hfp := few_parts g3
  have hn3 : n3 ≤ 100 := by rw [← h3.1]; exact hfp.1
  have HA := Lib.hid (awake7_any w)
  have HFW := Lib.hid (fun W (hW : Below w.heap.size w W) => few_any A3 n3 c3 l W (h3.later hW))
  rw [g3] at HFW
  have HBU := Lib.hid (fun W C (hW : Below w.heap.size w W) (hC : w.heap.size ≤ C) (hC2 : C < W.heap.size) => but_any2 w W C A4 n4 c4 nl h4 hW hC hC2 (by omega))
  have BU := Lib.hid (fun W (hW : Below w.heap.size w W) => but_any A4 n4 c4 nl W (h4.later hW) (by omega))
  have HCF := Lib.hid (fun W C mayv (hW : Below w.heap.size w W) (hC : w.heap.size ≤ C) (hm : MayC W C mayv (butB nl)) (hc : W.heap[C]? = some (.cells #[.int .i64 ((0 : Nat) : Int)] 49 (0, 0))) => cfind_any w W C 0 x k A1 A3 n1 n3 c1 c3 q l mayv (butB nl) h1 h3 (by omega) hm hc hC hW (by omega))
  have F1 := Lib.hid (fun W mayv (hW : Below w.heap.size w W) (hm : MayIs W mayv (butB nl)) => dfind_any W x k A1 A3 n1 n3 c1 c3 q l mayv (butB nl) (h1.later hW) (h3.later hW) (by omega) hm)
  have hlen : (fA x q l k (butB nl)).length ≤ 100 := by
    unfold fA
    split
    · have := vis_len ((mOf x).getD false) q (butB nl) l
      have := hfp.1
      omega
    · simp
  have HSC := Lib.hid (fun W (hW : Below w.heap.size w W) A2 n2 c2 v (hv : Ivs W A2 n2 v) => dscore_any x A1 A2 n1 n2 c1 c2 q v W (h1.later hW) hv)
  have HFS := Lib.hid (fun (h0 : fE x q l k = 0) p hp r hr hd => found_score (may := butB nl) h0 (p := p) hp (r := r) hr hd)
  have HAE : Hid (fE x q l k ≠ 0 → fA x q l k (butB nl) = []) := Lib.hid (fun h => by unfold fA; rw [if_neg h])
  have HA0 : Hid (fE x q l k = 0 → (∃ kn : Nat, k = kn ∧ 1 ≤ kn ∧ kn ≤ 1000) ∧ (fA x q l k (butB nl)).length = (l.filter fun r => butB nl r.1).length) := Lib.hid (fun h0 => by
    refine ⟨?_, by unfold fA DenM.vis; rw [if_pos h0, List.length_map]⟩
    unfold fE at h0
    split at h0
    · simp at h0
    · rename_i h
      refine ⟨k.toNat, ?_, ?_, ?_⟩
      · have : ¬ k < 1 := fun c => h (.inr (.inl c))
        omega
      · have : ¬ k < 1 := fun c => h (.inr (.inl c))
        omega
      · have : ¬ 1000 < k := fun c => h (.inr (.inr c))
        omega)
  obtain ⟨fe, hfe⟩ : ∃ s, s = fE x q l k := ⟨_, rfl⟩
  obtain ⟨al, hal⟩ : ∃ s, s = fA x q l k (butB nl) := ⟨_, rfl⟩
  have HBL := Lib.hid (TopM.best_len k.toNat (fA x q l k (butB nl)))
  rw [← hal] at HBL HFS HAE HA0 hlen HCF F1
  rw [← hfe] at HFS HAE HA0 HCF F1
  obtain ⟨fl, hfl⟩ : ∃ s, s = TopM.best k.toNat al := ⟨_, rfl⟩
  rw [← hfl] at HBL HFS F1
  have hfll : fl.length ≤ 100 := by rw [HBL.out]; omega
  have HFL := Lib.hid hfl
  have SM := Lib.hid (fun W v1 v2 (p1 : Prd W v1 fl) (p2 : Prd W v2 fl) => same_any v1 v2 fl fl W p1 p2 (by omega) (by omega))
  rw [decide_eq_true rfl] at SM
  have H3 := Lib.hid h3
  have H3L := Lib.hid h3.1
  have H4 := Lib.hid h4
  have HFP := Lib.hid hfp.2
  have d1 : decide ((20 : Int) < (n1 : Int)) = false := decide_eq_false (by omega)
  have d4 : decide ((40 : Int) < (n4 : Int)) = false := decide_eq_false (by omega)
  clear h1 h3 h4 hfe hal hfl hfp g3
  go_enter Try.func4, Try.ntmps4
  go_wp2_with fail
  refine HA.out.mono ?_
  rintro e w1 ⟨rfl, hb⟩
  have HB := Lib.hid hb
  clear hb
  go_wp2_with fail
  refine (HFW.out _ HB.out).mono ?_
  rintro e w2 ⟨rfl, rfl⟩
  have hco := heap_alloc_new w1 (.cells #[.int .i64 0] 49)
  have HB2 := Lib.hid (HB.out.trans ((pl1 w1 (.cells #[.int .i64 0] 49)).mono HB.out.size))
  have hsz : w1.heap.size < (w1.alloc (.cells #[.int .i64 0] 49)).heap.size := by simp
  have hwC : w.heap.size ≤ w1.heap.size := HB.out.size
  obtain ⟨C, hC⟩ : ∃ C, C = w1.heap.size := ⟨_, rfl⟩
  rw [← hC] at hco hsz hwC
  have HCO := Lib.hid hco
  have HCE := Lib.hid hC
  clear hco hC
  go_wp2_with fail
  rw [← HCE.out]
  generalize w1.alloc (.cells #[.int .i64 0] 49) = U at HB2 hsz HCO ⊢
  refine (HBU.out U C HB2.out hwC hsz).mono ?_
  rintro e w3 ⟨mv1, rfl, hm, hb⟩
  have HB3 := Lib.hid (HB2.out.trans (hb.mono HB2.out.size))
  have HC3 := Lib.hid (blk_stay hb HCO.out)
  have HM := Lib.hid hm
  clear hb hm
  go_wp2_with fail
  refine (HCF.out w3 C mv1 HB3.out hwC HM.out HC3.out).mono ?_
  rintro e w4 ⟨v1, rfl, hf⟩
  obtain ⟨hp1, ⟨cn, hcn, hn0, hn8⟩, hb4⟩ := hf
  have HB4 := Lib.hid hb4
  have HP1 := Lib.hid (show Prd w4 v1 fl by rw [HFL.out]; exact hp1)
  have HC4 := Lib.hid hcn
  rw [Nat.zero_add] at hn0 hn8
  clear hp1 hcn hb4
  go_wp2_with fail
  refine (BU.out _ HB4.out).mono ?_
  rintro e w5 ⟨mv2, rfl, hm, hb⟩
  have HB5 := Lib.hid (HB4.out.trans (hb.mono HB4.out.size))
  have HP5 := Lib.hid (HP1.out.later hb)
  have HC5 := Lib.hid (blk_stay hb HC4.out)
  have HM2 := Lib.hid hm
  clear hb hm
  go_wp2_with fail
  refine (F1.out _ mv2 HB5.out HM2.out).mono ?_
  rintro e w6 ⟨v2, rfl, hp2, hb⟩
  have HB6 := Lib.hid (HB5.out.trans (hb.mono HB5.out.size))
  have HP6 := Lib.hid (HP5.out.later hb)
  have HC6 := Lib.hid (blk_stay hb HC5.out)
  have HP2 := Lib.hid hp2
  clear hb hp2
  go_wp2_with fail
  refine (SM.out _ v1 v2 HP6.out HP2.out).mono ?_
  rintro e w7 ⟨rfl, nd, hnd⟩
  have hb7 : Below w6.heap.size w6 w7 := by rw [hnd]; exact below_drewN_p _ _
  have HB7 := Lib.hid (HB6.out.trans (hb7.mono HB6.out.size))
  have HC7 := Lib.hid (blk_stay hb7 HC6.out)
  obtain ⟨B1, cp1, rfl, hcp1, hB1, hP1⟩ := HP6.out.later hb7
  have HPR : Hid (Prd w7 (.slice B1 fl.length cp1) fl) := Lib.hid ⟨B1, cp1, rfl, hcp1, hB1, hP1⟩
  have kc := cell_of_cells (i := 0) HC7.out rfl
  simp only [List.getElem_toArray, List.getElem_cons_zero] at kc
  have NU := Lib.hid (fun W (hW : Below w7.heap.size w7 W) => numbers_any C (cn : Int) W (cell_of_cells (i := 0) (blk_stay hW HC7.out) rfl))
  obtain ⟨L, hL⟩ : ∃ L, L = fl.length := ⟨_, rfl⟩
  rw [← hL] at hfll HBL ⊢
  have HL := Lib.hid hL
  clear hb7 hnd hcp1 hB1 hP1 hL kc
  by_cases h0 : fe = 0
  · subst h0
    have ha0 := HA0.out rfl
    obtain ⟨⟨kn, rfl, hk1, hk2⟩, hal⟩ := ha0
    have HAL := Lib.hid hal
    clear hal
    go_wp2_with fail
    go_loopw [16, 17] (fun x y wr => ∃ i : Nat, x = .int .i64 (((l.take i).filter fun r => butB nl r.1).length : Int) ∧ y = .int .i64 i ∧ i ≤ n3 ∧ Below w7.heap.size w7 wr) (fun _ y _ => n3 - (intOf y).toNat)
    case atStart => exact ⟨0, rfl, rfl, by omega, Below.refl _ _⟩
    case round =>
      obtain ⟨i, hx, rfl, hi, hbw⟩ := hrel
      obtain ⟨mc, hmc⟩ : ∃ mc, mc = ((l.take i).filter fun r => butB nl r.1).length := ⟨_, rfl⟩
      rw [← hmc] at hx
      have hx2 := hx
      subst hx2
      have HW := Lib.hid hbw
      have HWB := Lib.hid (HB7.out.trans (hbw.mono HB7.out.size))
      by_cases hlt : i < n3
      · have hmi : (i : Int) < (n3 : Int) := by omega
        have hil : i < l.length := by rw [H3L.out]; exact hlt
        obtain ⟨b, o, A2, n2, c2, rfl, hbl, hc0, hc1, hI⟩ := (H3.out.later HWB.out).2 i hil
        have hmcb : mc ≤ i := by
          rw [hmc]
          have := List.length_filter_le (fun r : Int × List Int => butB nl r.1) (l.take i)
          rw [List.length_take] at this
          omega
        have hnx : ((l.take (i + 1)).filter fun r => butB nl r.1).length = if butB nl l[i].1 = true then mc + 1 else mc := by
          rw [List.take_succ_eq_append_getElem hil, List.filter_append, List.length_append, ← hmc, List.filter_cons]
          split <;> simp
        obtain ⟨d, hd⟩ : ∃ d, d = l[i].1 := ⟨_, rfl⟩
        rw [← hd] at hc0 hnx
        obtain ⟨mb, hmb⟩ : ∃ mb, mb = butB nl d := ⟨_, rfl⟩
        rw [← hmb] at hnx
        have HNX := Lib.hid hnx
        have HMB := Lib.hid hmb
        have HBW := Lib.hid (fun W (hW : Below wr.heap.size wr W) => BU.out W (HWB.out.trans (hW.mono HWB.out.size)))
        clear hx hmc hbw hI hc1 hd hnx hmb
        have hsw : w7.heap.size ≤ wr.heap.size := HW.out.size
        go_wp2_with fail
        cases mb with
        | true =>
          go_region_with (first
            | ((with_reducible refine (HBW.out _ (by first | exact Below.refl _ _ | exact (Below.refl _ _).drew)).mono ?_); rintro e w9 ⟨mv, rfl, hm9, hb9⟩; obtain ⟨FF, BB, rfl, eFF, hmy⟩ := hm9; have hb9' : Below wr.heap.size wr w9 := (by first | exact hb9 | exact (Below.refl _ _).drew.trans hb9); have c9 := (hb9'.cell (p := ⟨b, o + i * 2, none⟩) hbl).trans hc0; have HMY := Lib.hid (fun W hW => hmy W hW d); rw [← HMB.out] at HMY; have HB9 := Lib.hid (HW.out.trans (hb9'.mono hsw)); clear hmy hb9 hb9')
            | ((with_reducible refine (HMY.out _ (by first | exact Below.refl _ _ | exact (Below.refl _ _).drew)).mono ?_); rintro e w10 ⟨rfl, hb10⟩; have HB10 := Lib.hid (HB9.out.trans ((show Below w9.heap.size w9 w10 from (by first | exact hb10 | exact (Below.refl _ _).drew.trans hb10)).mono HB9.out.size)); clear hb10))
          all_goals
            go_wp2
            go_roundw
            case rel => exact ⟨i + 1, by rw [HNX.out]; go_num, by go_num, by omega, by first | exact HB10.out | exact HB10.out.drew⟩
            case measure => simp [intOf]; omega
        | false =>
          go_region_with (first
            | ((with_reducible refine (HBW.out _ (by first | exact Below.refl _ _ | exact (Below.refl _ _).drew)).mono ?_); rintro e w9 ⟨mv, rfl, hm9, hb9⟩; obtain ⟨FF, BB, rfl, eFF, hmy⟩ := hm9; have hb9' : Below wr.heap.size wr w9 := (by first | exact hb9 | exact (Below.refl _ _).drew.trans hb9); have c9 := (hb9'.cell (p := ⟨b, o + i * 2, none⟩) hbl).trans hc0; have HMY := Lib.hid (fun W hW => hmy W hW d); rw [← HMB.out] at HMY; have HB9 := Lib.hid (HW.out.trans (hb9'.mono hsw)); clear hmy hb9 hb9')
            | ((with_reducible refine (HMY.out _ (by first | exact Below.refl _ _ | exact (Below.refl _ _).drew)).mono ?_); rintro e w10 ⟨rfl, hb10⟩; have HB10 := Lib.hid (HB9.out.trans ((show Below w9.heap.size w9 w10 from (by first | exact hb10 | exact (Below.refl _ _).drew.trans hb10)).mono HB9.out.size)); clear hb10))
          all_goals
            go_wp2
            go_roundw
            case rel => exact ⟨i + 1, by rw [HNX.out]; rfl, by go_num, by omega, by first | exact HB10.out | exact HB10.out.drew⟩
            case measure => simp [intOf]; omega
      · have hmi : ¬ (i : Int) < (n3 : Int) := by omega
        have hin : n3 = i := by omega
        subst hin
        rw [List.take_of_length_le (by rw [H3L.out]; exact Nat.le_refl _), ← HAL.out] at hmc
        have hlk : L = min kn mc := by rw [HBL.out, Int.toNat_natCast, hmc]
        rw [← hmc] at hn0 hn8
        have hmc100 : mc ≤ 100 := by rw [hmc]; exact hlen
        have e1 : decide ((8 : Int) * (mc : Int) < (cn : Int)) = false := decide_eq_false (by omega)
        have e2 : decide (8 * mc < cn) = false := decide_eq_false (by omega)
        have e3 : decide ((cn : Int) < (mc : Int)) = false := decide_eq_false (by omega)
        have e4 : decide (cn < mc) = false := decide_eq_false (by omega)
        have HNU := Lib.hid (NU.out wr hbw)
        have HLK := Lib.hid hlk
        have HW := Lib.hid hbw
        clear hx hmc hbw hlk
        by_cases hkm : kn ≤ mc
        · obtain rfl : L = kn := by rw [HLK.out]; omega
          have m1 : decide ((mc : Int) < (L : Int)) = false := decide_eq_false (by omega)
          have m2 : decide (mc < L) = false := decide_eq_false (by omega)
          have m3 : decide ((L : Int) ≤ (mc : Int)) = true := decide_eq_true (by omega)
          have m4 : ((L : Int) != min (L : Int) (mc : Int)) = false := by rw [Int.min_eq_left (by omega)]; simp
          have HWB := Lib.hid (HB7.out.trans (HW.out.mono HB7.out.size))
          go_wp2_with fail
          refine HNU.out.mono ?_
          rintro e w8 ⟨rfl, hw⟩
          have hw2 := hw.symm
          subst hw2
          clear hw
          go_wp2_with fail
          refine HNU.out.mono ?_
          rintro e w8 ⟨rfl, hw⟩
          have hw2 := hw.symm
          subst hw2
          clear hw
          go_wp2_with fail
          clear e1 e2 e3 e4 hn0 hn8 hmc100
          go_loopw [18] (fun y W2 => ∃ i : Nat, y = .int .i64 i ∧ i ≤ L ∧ Below w7.heap.size w7 W2) (fun y _ => L - (intOf y).toNat)
          case atStart => exact ⟨0, rfl, by omega, HW.out⟩
          case round =>
            obtain ⟨i, rfl, hi, hbo⟩ := hrel
            have HO := Lib.hid hbo
            clear hbo
            by_cases hli : i < L
            · have hmi2 : (i : Int) < (L : Int) := by omega
              have hif : i < fl.length := by rw [← HL.out]; exact hli
              obtain ⟨p, hp⟩ : ∃ p, p = fl[i] := ⟨_, rfl⟩
              have HP := Lib.hid hp
              clear hp
              go_wp2_with fail
              go_loopw [19] (fun y W3 => ∃ j : Nat, y = .int .i64 j ∧ j ≤ n3 ∧ Below w7.heap.size w7 W3) (fun y _ => n3 - (intOf y).toNat)
              case atStart => exact ⟨0, rfl, by omega, HO.out⟩
              case round =>
                obtain ⟨j, rfl, hj, hbi⟩ := hrel
                have HI := Lib.hid hbi
                have HIB := Lib.hid (HB7.out.trans (hbi.mono HB7.out.size))
                by_cases hlj : j < n3
                · have hmj : (j : Int) < (n3 : Int) := by omega
                  have hjl : j < l.length := by rw [H3L.out]; exact hlj
                  obtain ⟨b, o, A2, n2, c2, rfl, hbl, hc0, hc1, hIv⟩ := (H3.out.later HIB.out).2 j hjl
                  obtain ⟨b5, o5, rfl, hb5, f0, f1⟩ := (HPR.out.later hbi).at_ i hif
                  have HS := Lib.hid (HSC.out wr HIB.out A2 n2 c2 _ hIv)
                  have hfs := fun (hd : (l[j]'hjl).1 = (fl[i]'hif).1) => HFS.out (by first | rfl | trivial) (fl[i]'hif) (List.getElem_mem hif) (l[j]'hjl) (List.getElem_mem hjl) hd
                  obtain ⟨d, hd⟩ : ∃ d, d = l[j].1 := ⟨_, rfl⟩
                  obtain ⟨sc, hsc⟩ : ∃ d, d = scV x q l[j].2 := ⟨_, rfl⟩
                  obtain ⟨se, hse⟩ : ∃ d, d = scE x q l[j].2 := ⟨_, rfl⟩
                  rw [← hd] at hc0 hfs
                  rw [← hsc] at hfs HS
                  rw [← hse] at HS
                  rw [← HP.out] at f0 f1 hfs
                  obtain ⟨p1, p2⟩ := p
                  simp only at f0 f1 hfs
                  have HFQ := Lib.hid hfs
                  have HBL2 := Lib.hid (And.intro hbl hb5)
                  clear hd hsc hse hfs hIv hbi
                  go_wp2_with fail
                  refine HS.out.mono ?_
                  rintro e w9 ⟨rfl, hb9⟩
                  have k0 := (hb9.cell (p := ⟨b, o + j * 2, none⟩) HBL2.out.1).trans hc0
                  have k1 := (hb9.cell (p := ⟨b5, o5 + i * 2, none⟩) HBL2.out.2).trans f0
                  have k2 := (hb9.cell (p := ⟨b5, o5 + i * 2 + 1, none⟩) HBL2.out.2).trans f1
                  have HI9 := Lib.hid (HI.out.trans (hb9.mono HI.out.size))
                  clear hb9 hc0 hc1 f0 f1 hbl hb5
                  by_cases hde : d = p1
                  · have hsp := HFQ.out hde
                    subst hsp
                    have q1 : (d == p1) = true := by simpa using hde
                    have q2 : decide (d = p1) = true := decide_eq_true hde
                    have q3 : (sc != sc) = false := by simp
                    clear hde
                    go_wp2_with fail
                    go_quiet (fail)
                    have HIQ : Hid (Below w7.heap.size w7 (w9.drewN nq)) := Lib.hid (HI9.out.trans ((below_drewN_p w9 nq).mono HI9.out.size))
                    generalize w9.drewN nq = w10 at HIQ ⊢
                    go_wp2
                    go_roundw
                    case rel => exact ⟨j + 1, by go_num, by omega, HIQ.out⟩
                    case measure => simp [intOf]; omega
                  · have q1 : (d == p1) = false := by simpa using hde
                    have q2 : decide (d = p1) = false := decide_eq_false hde
                    clear hde
                    go_wp2_with fail
                    go_quiet (fail)
                    have HIQ : Hid (Below w7.heap.size w7 (w9.drewN nq)) := Lib.hid (HI9.out.trans ((below_drewN_p w9 nq).mono HI9.out.size))
                    generalize w9.drewN nq = w10 at HIQ ⊢
                    go_wp2
                    go_roundw
                    case rel => exact ⟨j + 1, by go_num, by omega, HIQ.out⟩
                    case measure => simp [intOf]; omega
                · have hmj : ¬ (j : Int) < (n3 : Int) := by omega
                  clear hbi
                  go_wp2
                  go_roundw
                  case rel => exact ⟨i + 1, by go_num, by omega, HI.out⟩
                  case measure => simp [intOf]; omega
            · have hmi2 : ¬ (i : Int) < (L : Int) := by omega
              go_wp2
              go_ret
              exact ⟨rfl, HB7.out.trans (HO.out.mono HB7.out.size)⟩
        · obtain rfl : L = mc := by rw [HLK.out]; omega
          have m1 : decide ((L : Int) < (kn : Int)) = true := decide_eq_true (by omega)
          have m2 : decide (L < kn) = true := decide_eq_true (by omega)
          have m4 : ((L : Int) != min (kn : Int) (L : Int)) = false := by rw [Int.min_eq_right (by omega)]; simp
          have HWB := Lib.hid (HB7.out.trans (HW.out.mono HB7.out.size))
          go_wp2_with fail
          refine HNU.out.mono ?_
          rintro e w8 ⟨rfl, hw⟩
          have hw2 := hw.symm
          subst hw2
          clear hw
          go_wp2_with fail
          refine HNU.out.mono ?_
          rintro e w8 ⟨rfl, hw⟩
          have hw2 := hw.symm
          subst hw2
          clear hw
          go_wp2_with fail
          clear e1 e2 e3 e4 hn0 hn8 hmc100
          go_loopw [18] (fun y W2 => ∃ i : Nat, y = .int .i64 i ∧ i ≤ L ∧ Below w7.heap.size w7 W2) (fun y _ => L - (intOf y).toNat)
          case atStart => exact ⟨0, rfl, by omega, HW.out⟩
          case round =>
            obtain ⟨i, rfl, hi, hbo⟩ := hrel
            have HO := Lib.hid hbo
            clear hbo
            by_cases hli : i < L
            · have hmi2 : (i : Int) < (L : Int) := by omega
              have hif : i < fl.length := by rw [← HL.out]; exact hli
              obtain ⟨p, hp⟩ : ∃ p, p = fl[i] := ⟨_, rfl⟩
              have HP := Lib.hid hp
              clear hp
              go_wp2_with fail
              go_loopw [19] (fun y W3 => ∃ j : Nat, y = .int .i64 j ∧ j ≤ n3 ∧ Below w7.heap.size w7 W3) (fun y _ => n3 - (intOf y).toNat)
              case atStart => exact ⟨0, rfl, by omega, HO.out⟩
              case round =>
                obtain ⟨j, rfl, hj, hbi⟩ := hrel
                have HI := Lib.hid hbi
                have HIB := Lib.hid (HB7.out.trans (hbi.mono HB7.out.size))
                by_cases hlj : j < n3
                · have hmj : (j : Int) < (n3 : Int) := by omega
                  have hjl : j < l.length := by rw [H3L.out]; exact hlj
                  obtain ⟨b, o, A2, n2, c2, rfl, hbl, hc0, hc1, hIv⟩ := (H3.out.later HIB.out).2 j hjl
                  obtain ⟨b5, o5, rfl, hb5, f0, f1⟩ := (HPR.out.later hbi).at_ i hif
                  have HS := Lib.hid (HSC.out wr HIB.out A2 n2 c2 _ hIv)
                  have hfs := fun (hd : (l[j]'hjl).1 = (fl[i]'hif).1) => HFS.out (by first | rfl | trivial) (fl[i]'hif) (List.getElem_mem hif) (l[j]'hjl) (List.getElem_mem hjl) hd
                  obtain ⟨d, hd⟩ : ∃ d, d = l[j].1 := ⟨_, rfl⟩
                  obtain ⟨sc, hsc⟩ : ∃ d, d = scV x q l[j].2 := ⟨_, rfl⟩
                  obtain ⟨se, hse⟩ : ∃ d, d = scE x q l[j].2 := ⟨_, rfl⟩
                  rw [← hd] at hc0 hfs
                  rw [← hsc] at hfs HS
                  rw [← hse] at HS
                  rw [← HP.out] at f0 f1 hfs
                  obtain ⟨p1, p2⟩ := p
                  simp only at f0 f1 hfs
                  have HFQ := Lib.hid hfs
                  have HBL2 := Lib.hid (And.intro hbl hb5)
                  clear hd hsc hse hfs hIv hbi
                  go_wp2_with fail
                  refine HS.out.mono ?_
                  rintro e w9 ⟨rfl, hb9⟩
                  have k0 := (hb9.cell (p := ⟨b, o + j * 2, none⟩) HBL2.out.1).trans hc0
                  have k1 := (hb9.cell (p := ⟨b5, o5 + i * 2, none⟩) HBL2.out.2).trans f0
                  have k2 := (hb9.cell (p := ⟨b5, o5 + i * 2 + 1, none⟩) HBL2.out.2).trans f1
                  have HI9 := Lib.hid (HI.out.trans (hb9.mono HI.out.size))
                  clear hb9 hc0 hc1 f0 f1 hbl hb5
                  by_cases hde : d = p1
                  · have hsp := HFQ.out hde
                    subst hsp
                    have q1 : (d == p1) = true := by simpa using hde
                    have q2 : decide (d = p1) = true := decide_eq_true hde
                    have q3 : (sc != sc) = false := by simp
                    clear hde
                    go_wp2_with fail
                    go_quiet (fail)
                    have HIQ : Hid (Below w7.heap.size w7 (w9.drewN nq)) := Lib.hid (HI9.out.trans ((below_drewN_p w9 nq).mono HI9.out.size))
                    generalize w9.drewN nq = w10 at HIQ ⊢
                    go_wp2
                    go_roundw
                    case rel => exact ⟨j + 1, by go_num, by omega, HIQ.out⟩
                    case measure => simp [intOf]; omega
                  · have q1 : (d == p1) = false := by simpa using hde
                    have q2 : decide (d = p1) = false := decide_eq_false hde
                    clear hde
                    go_wp2_with fail
                    go_quiet (fail)
                    have HIQ : Hid (Below w7.heap.size w7 (w9.drewN nq)) := Lib.hid (HI9.out.trans ((below_drewN_p w9 nq).mono HI9.out.size))
                    generalize w9.drewN nq = w10 at HIQ ⊢
                    go_wp2
                    go_roundw
                    case rel => exact ⟨j + 1, by go_num, by omega, HIQ.out⟩
                    case measure => simp [intOf]; omega
                · have hmj : ¬ (j : Int) < (n3 : Int) := by omega
                  clear hbi
                  go_wp2
                  go_roundw
                  case rel => exact ⟨i + 1, by go_num, by omega, HI.out⟩
                  case measure => simp [intOf]; omega
            · have hmi2 : ¬ (i : Int) < (L : Int) := by omega
              go_wp2
              go_ret
              exact ⟨rfl, HB7.out.trans (HO.out.mono HB7.out.size)⟩
  · have ha := HAE.out h0
    have hL0 : L = 0 := by rw [HBL.out, ha]; simp
    have hc0 : cn = 0 := by rw [ha] at hn8; simp at hn8; omega
    subst hL0
    subst hc0
    have e1 : (fe != 0) = true := by simpa using h0
    have e2 : (fe == 0) = false := by simpa using h0
    have HNU := Lib.hid (NU.out w7 (Below.refl _ _))
    clear h0 ha hn0 hn8
    go_wp2_with fail
    refine HNU.out.mono ?_
    rintro e w8 ⟨rfl, hw⟩
    have hw2 := hw.symm
    subst hw2
    go_wp2
    go_ret
    exact ⟨rfl, HB7.out⟩
end Go.Proofs.Ytjdlocmchmeipaa
