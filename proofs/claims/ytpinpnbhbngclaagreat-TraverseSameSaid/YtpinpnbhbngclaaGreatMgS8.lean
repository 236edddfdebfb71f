/- TraverseSame: called with any slice of parts, number and slice of ints it returns true, and the arguments read behind the call as they read before. No condition. -/
import Derived.Deep.RegionHeld3
import Derived.Test.YtpinpnbhbngclaaGreatMgS7

/- TraverseSame, walked. -/
namespace Go.Proofs.YtpinpnbhbngclaaGreat
open Go.RowKit

/-- but's closure, as it is made -/
def butV (g : Nat) : Value := .func (.func 29) #[] #[.pointer (some ⟨g, 0, none⟩)]
set_option maxHeartbeats 1000000 in
set_option maxRecDepth 100000 in
theorem but6_val (A : Option Addr) (n cp : Nat) (w : World) :
    Calls Tryz.prog 11 #[.slice A n cp] w fun e w' => e = .returned (butV w.heap.size) ∧ w' = w.alloc (.cells #[.slice A n cp] 23) := by
  go_enter Tryz.func11, Tryz.ntmps11
  go_wp2
  go_ret
  exact ⟨rfl, rfl⟩
theorem but6_mayc (w0 w : World) (C : Nat) (A : Option Addr) (n cp : Nat) (l : List Int) (h : Ivs w0 A n l) (hb : Below w0.heap.size w0 w) (hC : w0.heap.size ≤ C) (hC2 : C < w.heap.size) (hn : n ≤ 1000000) :
    MayC (w.alloc (.cells #[.slice A n cp] 23)) C (butV w.heap.size) (but6 l) := by
  have hbl := heap_alloc_new w (.cells #[.slice A n cp] 23)
  refine ⟨_, _, rfl, enters_of Tryz.func29 (by kernel_rfl) rfl, fun W hW d => ?_⟩
  have hb2 := cell_of_cells (i := 0) ((hW.block w.heap.size (by simp) (by omega)).trans hbl) rfl
  have hbw : Below w0.heap.size w0 W := hW.below (hb.trans ((pl1 _ _).mono hb.size)) (fun k hk => by omega)
  exact (but6fun_any w.heap.size A n cp l d W (h.later hbw) hb2 hn).mono (fun e w' ⟨he, hw⟩ => ⟨he, by rw [hw]; exact Below.refl _ _⟩)
/-- so many may be -/
def mayN (rs : List (List (Int × Int) × Int)) (may : Int → Bool) (i : Nat) : Nat := (((docsR rs).take i).filter may).length
theorem mayN_next {rs : List (List (Int × Int) × Int)} {may : Int → Bool} {i : Nat} (h : i < (docsR rs).length) : mayN rs may (i + 1) = mayN rs may i + if may (docsR rs)[i] = true then 1 else 0 := by
  unfold mayN
  rw [List.take_succ_eq_append_getElem h, List.filter_append, List.length_append]
  congr 1
  cases c : may (docsR rs)[i] with
  | true => rw [List.filter_cons_of_pos c]; rfl
  | false => rw [List.filter_cons_of_neg (by simp [c])]; rfl
theorem mayN_le (rs : List (List (Int × Int) × Int)) (may : Int → Bool) (i : Nat) : mayN rs may i ≤ i := by
  unfold mayN
  exact Nat.le_trans (List.length_filter_le _ _) (by rw [List.length_take]; omega)
set_option maxHeartbeats 4000000 in
set_option maxRecDepth 100000 in
theorem tsame_out (A A4 : Option Addr) (n cp n4 c4 : Nat) (k : Int) (rs : List (List (Int × Int) × Int)) (w : World) (h : RP w A n rs) (hsh : ∀ x ∈ rs, x.1.length ≤ 9000000000000000000) (hno : ¬ (few6 rs = true ∧ n4 ≤ 40)) :
    Calls Tryz.prog 4 #[.slice A n cp, .int .i64 k, .slice A4 n4 c4] w fun e w' => e = .returned (.bool true) ∧ Below w.heap.size w w' := by
  have HA := Lib.hid (awake6_any w)
  have HF := Lib.hid (fun W (hW : Below w.heap.size w W) => few6_any A n cp rs W (h.later hW) hsh)
  obtain ⟨fb, hfb⟩ : ∃ b, b = few6 rs := ⟨_, rfl⟩
  rw [← hfb] at HF hno
  clear h hfb hsh
  cases fb with
  | false =>
    clear hno
    go_enter Tryz.func4, Tryz.ntmps4
    go_wp2_with fail
    refine HA.out.mono ?_
    rintro e w1 ⟨rfl, hb⟩
    have HB := Lib.hid hb
    clear hb
    go_wp2_with fail
    refine (HF.out _ HB.out).mono ?_
    rintro e w2 ⟨rfl, rfl⟩
    go_wp2
    go_ret
    exact ⟨rfl, HB.out⟩
  | true =>
    have g4 : 40 < n4 := by
      by_cases c : 40 < n4
      · exact c
      · exact absurd ⟨rfl, by omega⟩ hno
    have d4 : decide ((40 : Int) < (n4 : Int)) = true := decide_eq_true (by omega)
    clear hno
    go_enter Tryz.func4, Tryz.ntmps4
    go_wp2_with fail
    refine HA.out.mono ?_
    rintro e w1 ⟨rfl, hb⟩
    have HB := Lib.hid hb
    clear hb
    go_wp2_with fail
    refine (HF.out _ HB.out).mono ?_
    rintro e w2 ⟨rfl, rfl⟩
    go_wp2
    go_ret
    exact ⟨rfl, HB.out⟩
theorem sm_sb {U w : World} {b o : Nat} {x1 x2 : Int} (c0 : U.cell? ⟨b, o, none⟩ = some (.int .i64 x1)) (c1 : U.cell? ⟨b, o + 1, none⟩ = some (.int .i64 x2)) (hb : b < U.heap.size) (h : Below U.heap.size U w) :
    w.cell? ⟨b, o, none⟩ = some (.int .i64 x1) ∧ w.cell? ⟨b, o + 1, none⟩ = some (.int .i64 x2) ∧ Below U.heap.size U w := ⟨keepB h c0 hb, keepB h c1 hb, h⟩
theorem sm_one {U w : World} {b o : Nat} {x1 : Int} (c0 : U.cell? ⟨b, o, none⟩ = some (.int .i64 x1)) (hb : b < U.heap.size) (h : Below U.heap.size U w) :
    w.cell? ⟨b, o, none⟩ = some (.int .i64 x1) ∧ Below U.heap.size U w := ⟨keepB h c0 hb, h⟩
set_option maxHeartbeats 16000000 in
set_option maxRecDepth 100000 in
theorem tsame_main (A A4 : Option Addr) (n cp n4 c4 : Nat) (k : Int) (nl : List Int) (rs : List (List (Int × Int) × Int)) (w : World) (h : RP w A n rs) (hk1 : -9223372036854775808 ≤ k) (hk2 : k ≤ 9223372036854775807) (h4 : Ivs w A4 n4 nl) (hfew : few6 rs = true) (hn4 : n4 ≤ 40) :
    Calls Tryz.prog 4 #[.slice A n cp, .int .i64 k, .slice A4 n4 c4] w fun e w' => e = .returned (.bool true) ∧ Below w.heap.size w w' := by
  obtain ⟨hl, hs⟩ := few6_parts hfew
  have hn : n ≤ 70 := by rw [← h.1]; exact hl
  have HA := Lib.hid (awake6_any w)
  have hff := fun W (hW : Below w.heap.size w W) => few6_any A n cp rs W (h.later hW) (fun x hx => by have := hs x hx; omega)
  rw [hfew] at hff
  have HF := Lib.hid hff
  have HM := Lib.hid (fun W (hW : Below w.heap.size w W) => made6_any A n cp rs W (h.later hW) hs hn)
  have H4 := Lib.hid h4
  have HS := Lib.hid hs
  have d4 : decide ((40 : Int) < (n4 : Int)) = false := decide_eq_false (by omega)
  clear h hfew hff h4 hl hs
  go_enter Tryz.func4, Tryz.ntmps4
  go_wp2_with fail
  refine HA.out.mono ?_
  rintro e w1 ⟨rfl, hb⟩
  have HB := Lib.hid hb
  clear hb
  go_wp2_with fail
  refine (HF.out _ HB.out).mono ?_
  rintro e w2 ⟨rfl, rfl⟩
  go_wp2_with fail
  refine (HM.out _ HB.out).mono ?_
  rintro e w3 ⟨hb3, hcase⟩
  have HB3 := Lib.hid (HB.out.trans (hb3.mono HB.out.size))
  clear hb3
  rcases hcase with ⟨_, rfl⟩ | ⟨hra, A1, c1, A2, c2, qs, rfl, hQ, hR, hqs, _⟩
  · go_wp2
    go_ret
    exact ⟨rfl, HB3.out⟩
  · have hrb := right_both n k hqs
    have hTR := tright_any A1 n c1 k _ w3 hQ.qn hk1 hk2 (by omega)
    rw [hrb] at hTR
    cases hr : rrightB n k rs with
    | false =>
      rw [hr] at hTR
      have HTR := Lib.hid hTR
      clear hQ hR hqs hrb hr hTR hra
      go_wp2_with fail
      refine HTR.out.mono ?_
      rintro e w4 ⟨rfl, hb4⟩
      go_wp2
      go_ret
      exact ⟨rfl, HB3.out.trans (hb4.mono HB3.out.size)⟩
    | true =>
      rw [hr] at hTR
      have HTR := Lib.hid hTR
      have hgq := goodQ_all (n := n) (k := k) hqs hr hra HS.out
      have hRA : ∀ x ∈ rs, PostM.rightL x.1 = true := fun x hx => List.all_eq_true.1 hra x hx
      have hgp := goodP_all hr hRA HS.out
      obtain ⟨hn64, hk0, hk3, _⟩ := rright_parts hr
      obtain ⟨kn, rfl⟩ : ∃ kn : Nat, k = kn := ⟨k.toNat, by omega⟩
      have HFA := Lib.hid (fun (W : World) (sc : Nat) (mayv : Value) (hW : Below w3.heap.size w3 W) (hc : W.heap[sc]? = some (.cells #[.int .i64 ((0 : Nat) : Int)] 49 (0, 0))) (hsc : w3.heap.size ≤ sc) (hm : MayC W sc mayv (but6 nl)) => cfind6_all (cp := c1) (k := kn) (c0 := 0) w3 W hQ hW hgq hn64 (by omega) (by omega) hc hsc (by omega) hm)
      have HFW := Lib.hid (fun (wi : Int) (hwi : wi = 0 ∨ wi = 1 ∨ wi = 2 ∨ wi = 3) (W : World) (sc : Nat) (mayv : Value) (hW : Below w3.heap.size w3 W) (hc : W.heap[sc]? = some (.cells #[.int .i64 ((0 : Nat) : Int)] 49 (0, 0))) (hsc : w3.heap.size ≤ sc) (hm : MayC W sc mayv (but6 nl)) => cfind6_ok (cp := c1) (k := kn) (c0 := 0) (wi := wi) w3 W hQ hW hgq hn64 (by omega) (by omega) hc hsc (by omega) hm hwi)
      rw [hqs] at HFA HFW
      have HDC := Lib.hid (fun W (hW : Below w3.heap.size w3 W) => refdocs6_any (cp := c2) W (hR.later hW) HS.out hn64)
      have HSC := Lib.hid (fun d W (hW : Below w3.heap.size w3 W) => score6_any (cp := c1) (d := d) w3 W hQ hW hgq hn64)
      rw [hqs] at HSC
      have hvl : (vl (docsR rs) (but6 nl) (scoreR rs) 2147483648).length = mayN rs (but6 nl) (docsR rs).length := by
        rw [vl_all hgp, List.length_map]
        unfold mayN
        rw [List.take_of_length_le (Nat.le_refl _)]
      rw [hvl] at HFA HFW
      have HMEM := Lib.hid (fun p (hp : p ∈ foundR kn rs (but6 nl)) => found_mem hp)
      have HPOS := Lib.hid (fun d (hd : d ∈ docsR rs) => scoreR_pos hgp hd)
      have hdl := docsR_len HS.out
      have hrl := hR.1
      have HFL := Lib.hid (found_len kn rs (but6 nl))
      have HI4 := Lib.hid (H4.out.later HB3.out)
      obtain ⟨nd, hnd⟩ : ∃ x, x = (docsR rs).length := ⟨_, rfl⟩
      obtain ⟨M, hM⟩ : ∃ x, x = mayN rs (but6 nl) nd := ⟨_, rfl⟩
      rw [← hnd] at HFA HFW hdl
      rw [← hM] at HFA HFW
      simp only [Nat.zero_add] at HFA HFW
      have hMn := mayN_le rs (but6 nl) nd
      rw [← hM] at hMn
      have hnd2 : nd ≤ 25600 := by omega
      have HND := Lib.hid hnd
      have HMM := Lib.hid hM
      obtain ⟨L, hL⟩ : ∃ L, L = foundR kn rs (but6 nl) := ⟨_, rfl⟩
      rw [← hL] at HFA HFW HMEM HFL
      have HLN : Hid (L.length ≤ 1000) := Lib.hid (by have := HFL.out; omega)
      have hkn : kn ≤ 1000 := by omega
      clear hQ hR hqs hrb hr hTR hra hgq hRA hgp hvl hdl hrl hnd hM hL hMn
      go_wp2_with fail
      refine HTR.out.mono ?_
      rintro e w4 ⟨rfl, hb4⟩
      have HB4 := Lib.hid hb4
      clear hb4
      go_wp2_with fail
      obtain ⟨C, hC⟩ : ∃ x, x = w4.heap.size := ⟨_, rfl⟩
      obtain ⟨w5, hw5⟩ : ∃ x, x = w4.alloc (.cells #[.int .i64 0] 49) := ⟨_, rfl⟩
      have hc5 : w5.heap[C]? = some (.cells #[.int .i64 ((0 : Nat) : Int)] 49 (0, 0)) := by rw [hw5, hC]; exact heap_alloc_new _ _
      have HB5 : Hid (Below w3.heap.size w3 w5) := Lib.hid (by rw [hw5]; exact HB4.out.trans ((pl1 _ _).mono HB4.out.size))
      have hCs : C < w5.heap.size := by rw [hw5, hC]; simp
      have hCw : w3.heap.size ≤ C := by rw [hC]; exact HB4.out.size
      rw [← hw5, ← hC]
      clear hw5 hC
      refine (but6_val A4 n4 c4 w5).mono ?_
      rintro e w6 ⟨rfl, rfl⟩
      have hm6 := but6_mayc w3 w5 C A4 n4 c4 nl HI4.out HB5.out hCw hCs (by omega)
      have hf6 := HFA.out _ C _ (HB5.out.trans ((pl1 w5 _).mono HB5.out.size)) (blk_stay (pl1 w5 _) hc5) hCw hm6
      have HF6 := Lib.hid hf6
      clear hm6 hf6
      unfold butV at HF6 ⊢
      go_wp2_with fail
      refine HF6.out.mono ?_
      rintro e w7 ⟨v7, rfl, hp7, hc7, ht7⟩
      have HB7 : Hid (Below w3.heap.size w3 w7) := Lib.hid (ht7.below (HB5.out.trans ((pl1 w5 _).mono HB5.out.size)) (fun q hq => by omega))
      have HP7 := Lib.hid hp7
      have HC7 := Lib.hid hc7
      clear hp7 hc7 ht7 hc5
      go_wp2_with fail
      refine (HDC.out _ HB7.out).mono ?_
      rintro e w8 ⟨vd, rfl, hrow, hb8⟩
      have HB8 := Lib.hid (HB7.out.trans (hb8.mono HB7.out.size))
      have HP8 := Lib.hid (HP7.out.later hb8)
      have HC8 := Lib.hid (blk_stay hb8 HC7.out)
      obtain ⟨Ad, cd, rfl, hcd, hAd, hI⟩ := hrow.ivs
      have HI := Lib.hid hI
      rw [← HND.out] at hcd ⊢
      clear hrow hb8 hI
      go_wp2
      go_loopw [13, 15] (fun x y wr => ∃ (i m : Nat), x = .int .i64 m ∧ y = .int .i64 i ∧ i ≤ nd ∧ m = mayN rs (but6 nl) i ∧ Below w8.heap.size w8 wr) (fun _ y _ => nd - (intOf y).toNat)
      case atStart => exact ⟨0, 0, rfl, rfl, by omega, rfl, Below.refl _ _⟩
      case round =>
        obtain ⟨i, m, rfl, rfl, hi, hm, hb⟩ := hrel
        have HBR := Lib.hid hb
        have HB3R := Lib.hid (HB8.out.trans (hb.mono HB8.out.size))
        by_cases hlt : i < nd
        · have hmi : (i : Int) < (nd : Int) := by omega
          have hil : i < (docsR rs).length := by rw [← HND.out]; exact hlt
          have hnx := mayN_next (may := but6 nl) hil
          have hle := mayN_le rs (but6 nl) i
          rw [← hm] at hnx hle
          obtain ⟨bd, od, rfl, hbd, q0⟩ := HI.out.2 i hil
          have q1 := (hb.cell (p := ⟨bd, od + i, none⟩) hbd).trans q0
          have hbd2 : bd < wr.heap.size := Nat.lt_of_lt_of_le hbd hb.size
          obtain ⟨d, hd⟩ : ∃ x, x = (docsR rs)[i] := ⟨_, rfl⟩
          rw [← hd] at q1 hnx
          have HQ1 := Lib.hid q1
          obtain ⟨bb, hbb⟩ : ∃ x, x = but6 nl d := ⟨_, rfl⟩
          rw [← hbb] at hnx
          have HI4R := Lib.hid (fun W (hW : Below wr.heap.size wr W) => (HI4.out.later HB3R.out).later hW)
          have HBF := Lib.hid (fun (g : Nat) W (hW : Below wr.heap.size wr W) (hg : W.cell? ⟨g, 0, none⟩ = some (.slice A4 n4 c4)) => (but6fun_any g A4 n4 c4 nl d W (HI4R.out W hW) hg (by omega)))
          rw [← hbb] at HBF
          have HNX := Lib.hid hnx
          have HV := Lib.hid (fun W (hW : Below wr.heap.size wr W) => (but6_val A4 n4 c4 W).mono (fun e w' (hh : e = .returned (butV W.heap.size) ∧ w' = W.alloc (.cells #[.slice A4 n4 c4] 23)) => (⟨_, hh.1, by rw [hh.2]; exact cell_of_cells (i := 0) (heap_alloc_new W _) rfl, by rw [hh.2]; exact bel_a hW _⟩ : ∃ g, e = .returned (butV g) ∧ w'.cell? ⟨g, 0, none⟩ = some (.slice A4 n4 c4) ∧ Below wr.heap.size wr w')))
          clear hm hnx hd hbb q0 q1 hb
          unfold butV at HV
          go_wp2
          go_region_held3 (fun w' => w'.cell? ⟨bd, od + i, none⟩ = some (.int .i64 d) ∧ Below wr.heap.size wr w')
            ((go_split_ands; refine sm_one HQ1.out hbd2 ?_; first | assumption | exact (Below.refl _ _).drew | exact Below.refl _ _ | exact bel_a (by assumption) _))
            ((first
              | (with_reducible refine (HV.out _ (by first | assumption | exact (Below.refl _ _).drew | exact Below.refl _ _)).mono ?_; rintro e w9 ⟨g, rfl, hg9, hb9⟩)
              | (with_reducible refine (HBF.out _ _ (by assumption) (by assumption)).mono ?_; rintro e w10 ⟨rfl, rfl⟩)))
          all_goals
            have HB9 := Lib.hid (HBR.out.trans (hb9.mono HBR.out.size))
            clear hb9 hg9
            cases bb with
            | false =>
              have HN2 : Hid (m = mayN rs (but6 nl) (i + 1)) := Lib.hid (by rw [HNX.out]; rfl)
              go_wp2
              go_roundw
              case rel => exact ⟨i + 1, m, rfl, by go_num, by omega, HN2.out, HB9.out⟩
              case measure => simp [intOf]; omega
            | true =>
              have HN2 : Hid (m + 1 = mayN rs (but6 nl) (i + 1)) := Lib.hid (by rw [HNX.out]; rfl)
              go_wp2
              go_roundw
              case rel => exact ⟨i + 1, m + 1, by go_num, by go_num, by omega, HN2.out, HB9.out⟩
              case measure => simp [intOf]; omega
        · have hmi : ¬ (i : Int) < (nd : Int) := by omega
          obtain rfl : i = nd := by omega
          rw [← HMM.out] at hm
          subst hm
          have HSD := Lib.hid (scored6_any C m wr (cell_of_cells (i := 0) (blk_stay hb HC8.out) rfl))
          have HP9 := Lib.hid (HP8.out.later hb)
          clear hb
          go_wp2_with fail
          refine HSD.out.mono ?_
          rintro e wx ⟨rfl, hwx⟩
          have hwx2 := hwx.symm
          subst hwx2

          obtain ⟨w10, hw10⟩ : ∃ x, x = wr := ⟨_, rfl⟩
          rw [← hw10] at HP9 HB3R ⊢
          clear hw10
          go_wp2
          go_loopw [16] (fun x wr => ∃ i : Nat, x = .int .i64 i ∧ 1 ≤ i ∧ i ≤ 4 ∧ Below w10.heap.size w10 wr) (fun x _ => 4 - (intOf x).toNat)
          case atStart => exact ⟨1, rfl, by omega, by omega, Below.refl _ _⟩
          case round =>
            obtain ⟨j, rfl, hj1, hj2, hb⟩ := hrel
            have HBR := Lib.hid hb
            have HB3S := Lib.hid (HB3R.out.trans (hb.mono HB3R.out.size))
            by_cases hlt : j ≤ 3
            · have hmi : (j : Int) ≤ 3 := by omega
              clear hb
              go_wp2_with fail
              obtain ⟨D, hD⟩ : ∃ x, x = wr.heap.size := ⟨_, rfl⟩
              obtain ⟨w11, hw11⟩ : ∃ x, x = wr.alloc (.cells #[.int .i64 0] 49) := ⟨_, rfl⟩
              have hc11 : w11.heap[D]? = some (.cells #[.int .i64 ((0 : Nat) : Int)] 49 (0, 0)) := by rw [hw11, hD]; exact heap_alloc_new _ _
              have HB11 : Hid (Below w3.heap.size w3 w11) := Lib.hid (by rw [hw11]; exact HB3S.out.trans ((pl1 _ _).mono HB3S.out.size))
              have HX11 : Hid (Below w10.heap.size w10 w11) := Lib.hid (by rw [hw11]; exact HBR.out.trans ((pl1 _ _).mono HBR.out.size))
              have hDs : D < w11.heap.size := by rw [hw11, hD]; simp
              have hDw : w3.heap.size ≤ D := by rw [hD]; exact HB3S.out.size
              have hDx : w10.heap.size ≤ D := by rw [hD]; exact HBR.out.size
              rw [← hw11, ← hD]
              clear hw11 hD
              refine (but6_val A4 n4 c4 w11).mono ?_
              rintro e w12 ⟨rfl, rfl⟩
              have hm12 := but6_mayc w3 w11 D A4 n4 c4 nl HI4.out HB11.out hDw hDs (by omega)
              have hf12 := HFW.out j (by omega) _ D _ (HB11.out.trans ((pl1 w11 _).mono HB11.out.size)) (blk_stay (pl1 w11 _) hc11) hDw hm12
              have HF12 := Lib.hid hf12
              clear hm12 hf12
              unfold butV at HF12 ⊢
              go_wp2_with fail
              refine HF12.out.mono ?_
              rintro e w13 ⟨v13, rfl, hp13, cn, hc13, _, hcn, ht13⟩
              have HB13 : Hid (Below w10.heap.size w10 w13) := Lib.hid (ht13.below (HX11.out.trans ((pl1 w11 _).mono HX11.out.size)) (fun q hq => by omega))
              have hsm := same_any v7 v13 L L w13 (HP9.out.later HB13.out) hp13 (by have := HLN.out; omega) (by have := HLN.out; omega)
              rw [decide_eq_true rfl] at hsm
              have HSM := Lib.hid hsm
              have HC13 := Lib.hid hc13
              have hgt : decide ((m : Int) < (cn : Int)) = false := decide_eq_false (by omega)
              have hgt2 : decide (m < cn) = false := decide_eq_false (by omega)
              clear hp13 hc13 ht13 hsm hc11
              go_wp2_with fail
              refine HSM.out.mono ?_
              rintro e w14 ⟨rfl, x, hw14⟩
              have HB14 : Hid (Below w13.heap.size w13 w14) := Lib.hid (by rw [hw14]; exact below_drewN_p _ _)
              have HSD2 := Lib.hid (scored6_any D cn w14 (cell_of_cells (i := 0) (blk_stay HB14.out HC13.out) rfl))
              clear hw14
              go_wp2_with fail
              refine HSD2.out.mono ?_
              rintro e w15 ⟨rfl, rfl⟩
              go_wp2
              go_roundw
              case rel => exact ⟨j + 1, by go_num, by omega, by omega, HB13.out.trans (HB14.out.mono HB13.out.size)⟩
              case measure => simp [intOf]; omega
            · have hmi : ¬ (j : Int) ≤ 3 := by omega
              obtain ⟨Aa, ca, rfl, hca, _, hPa⟩ := HP9.out.later hb
              obtain ⟨w16, hw16⟩ : ∃ x, x = wr := ⟨_, rfl⟩
              rw [← hw16] at HB3S hPa ⊢
              obtain ⟨ll, hll⟩ : ∃ x, x = L.length := ⟨_, rfl⟩
              have HLL := Lib.hid hll
              rw [← hll] at hca hPa ⊢
              have HPA := Lib.hid hPa
              have hll3 : ll ≤ 1000 := by have := HLN.out; omega
              clear hb hw16 hll hPa HP9
              go_wp2
              go_loopw [20] (fun x wr => ∃ i : Nat, x = .int .i64 i ∧ i ≤ ll ∧ Below w16.heap.size w16 wr) (fun x _ => ll - (intOf x).toNat)
              case atStart => exact ⟨0, rfl, by omega, Below.refl _ _⟩
              case round =>
                obtain ⟨i, rfl, hi, hb⟩ := hrel
                have HBR := Lib.hid hb
                have HB3T := Lib.hid (HB3S.out.trans (hb.mono HB3S.out.size))
                by_cases hlt : i < ll
                · have hmi2 : (i : Int) < (ll : Int) := by omega
                  have hil : i < L.length := by rw [← HLL.out]; exact hlt
                  obtain ⟨ba, oa, rfl, hba, q0, q1⟩ := HPA.out.2 i hil
                  obtain ⟨hmem, hsc⟩ := HMEM.out _ (List.getElem_mem hil)
                  have hpos := HPOS.out _ hmem
                  rw [← hsc] at hpos
                  obtain ⟨⟨d, sc⟩, hds⟩ : ∃ x, x = L[i] := ⟨_, rfl⟩
                  rw [← hds] at q0 q1 hsc hpos hmem
                  simp only at q0 q1 hsc hpos hmem
                  have p0 := (hb.cell (p := ⟨ba, oa + i * 2, none⟩) hba).trans q0
                  have p1 := (hb.cell (p := ⟨ba, oa + i * 2 + 1, none⟩) hba).trans q1
                  have hba2 : ba < wr.heap.size := Nat.lt_of_lt_of_le hba hb.size
                  have HP0 := Lib.hid p0
                  have HP1 := Lib.hid p1
                  have HCS := Lib.hid (fun W (hW : Below wr.heap.size wr W) => (HSC.out d W (HB3T.out.trans (hW.mono HB3T.out.size))).mono (fun e w' (hh : _ ∧ Below W.heap.size W w') => (⟨hh.1, bel_c hW hh.2⟩ : _ ∧ Below wr.heap.size wr w')))
                  rw [← hsc] at HCS
                  have hne : (sc != sc) = false := by simp
                  have hlow : decide (sc < 1) = false := decide_eq_false (by omega)
                  clear hb hmem hsc hds q0 q1 p0 p1 hpos
                  go_wp2
                  go_region_held3 (fun w' => w'.cell? ⟨ba, oa + i * 2, none⟩ = some (.int .i64 d) ∧ w'.cell? ⟨ba, oa + i * 2 + 1, none⟩ = some (.int .i64 sc) ∧ Below wr.heap.size wr w')
                    ((go_split_ands; refine sm_sb HP0.out HP1.out hba2 ?_; first | assumption | exact (Below.refl _ _).drew | exact Below.refl _ _))
                    ((first
                      | (with_reducible refine (HCS.out _ (by first | assumption | exact (Below.refl _ _).drew | exact Below.refl _ _)).mono ?_; rintro e w17 ⟨rfl, hb17⟩)))
                  all_goals
                    have HB17 := Lib.hid (HBR.out.trans (hb17.mono HBR.out.size))
                    clear hb17
                    go_wp2
                    go_roundw
                    case rel => exact ⟨i + 1, by go_num, by omega, HB17.out⟩
                    case measure => simp [intOf]; omega
                · have hmi2 : ¬ (i : Int) < (ll : Int) := by omega
                  clear hb
                  go_wp2
                  go_ret
                  exact ⟨rfl, HB3.out.trans (HB3T.out.mono HB3.out.size)⟩
end Go.Proofs.YtpinpnbhbngclaaGreat

namespace Go.Proofs.YtpinpnbhbngclaaGreat
open Go.ChangeShapes Go.WideShapes Go.ChangeAt Go.RowKit

set_option maxRecDepth 100000 in
theorem traversesame_lifted (os : Os) (started : os.Started) (H : Type) (enc : TypeId × Value → H) :
    ReturnsInHanded {} Tryz.checked os 4 .any (Rows.traverseSameSpec.pre6 enc Tryz.prog Tryz.f4 Rows.traverseSameRow.domain false) (Rows.traverseSameSpec.post enc Tryz.prog Tryz.f4 false true false false) := by
  refine returnsInHanded_of_change_sized (C := Tryz.checked) knob started (by kernel_rfl) Tryz.func4
    (ChangeSpec.witness6 (enc := enc) (C := Tryz.checked) false ⟨#[], #[.slice none 0 0, .int .i64 0, .slice none 0 0], []⟩ 8 (by kernel_rfl) (by kernel_rfl) (by kernel_rfl) (by kernel_rfl)) ?_
  intro W base args ds gs before hval0 hW hcnd hsz0 _
  have hval : ∀ (j : Nat) t v, Tryz.f4.params[j]? = some t → args[j]? = some v → Value.okWide Tryz.prog W .any base t v := hval0
  have hsz : (DataW.weightsEach Tryz.prog (Tryz.f4.params.toList ++ Rows.traverseSameSpec.plain.varTypes Tryz.prog) (ds ++ gs)).all (· ≤ reachBytes) = true := hsz0
  have hW' := hW
  obtain ⟨p, q, hA0, hV, rfl, hfz, hnd⟩ := hW
  have hA : DataW.TrodAll enc Tryz.prog W 0 (fun _ => true) true Tryz.f4.params.toList args.toList ds p := hA0
  rw [Tryz.params4] at hA hval hsz
  obtain ⟨v0, vs0, d0, ds0, p0, q0, hargs, rfl, rfl, h0, r0⟩ := trodAll_cons hA
  obtain ⟨v1, vs1, d1, ds1, p1, q1, rfl, rfl, rfl, h1, r1⟩ := trodAll_cons r0
  obtain ⟨v2, vs2, d2, ds2, p2, q2, rfl, rfl, rfl, h2, r2⟩ := trodAll_cons r1
  obtain ⟨rfl, rfl, rfl⟩ := trodAll_nil r2
  obtain rfl : args = #[v0, v1, v2] := by cases args; simp_all
  obtain ⟨rfl, rfl⟩ := trodVars_none hV
  obtain ⟨A, n, cp, rs, rfl, hR, hz⟩ := parts_of_trod (hval 0 22 v0 rfl rfl) h0
  obtain ⟨k, rfl, rfl, rfl, wk⟩ := open_int Tryz.underlying3 (hval 1 3 v1 rfl rfl) h1
  obtain ⟨A4, n4, c4, nl, rfl, hI4⟩ := ivs_of_trod (hval 2 23 v2 rfl rfl) h2
  have hsh := parts_short hsz (j := 0) rfl rfl hz
  have hk := bounds_i64 wk
  have walk : Calls Tryz.prog 4 #[.slice A n cp, .int .i64 k, .slice A4 n4 c4] W fun e w' => e = .returned (.bool true) ∧ Below W.heap.size W w' := by
    by_cases hc : few6 rs = true ∧ n4 ≤ 40
    · exact tsame_main A A4 n cp n4 c4 k nl rs W hR (by omega) (by omega) hI4 hc.1 hc.2
    · exact tsame_out A A4 n cp n4 c4 k rs W hR hsh hc
  refine walk.mono fun e W' ⟨he, hg⟩ => ?_
  subst he
  exact ⟨_, rfl, law_post (s := Rows.traverseSameSpec) hW' rfl rfl rfl rfl (by kernel_rfl) (by kernel_rfl) hg⟩

theorem traversesame_holds : Rows.TraverseSameSaid :=
  OpenClaim.holds_of_wide 4 Tryz.f4 rfl rfl rfl rfl rfl rfl rfl ⟨rfl, rfl, rfl, rfl, rfl⟩ rfl rfl rfl rfl rfl (by kernel_rfl) Tryz.func4 (by kernel_rfl)
    (of_decide_eq_true (by kernel_rfl)) (by unfold Func.isWrapper; first | (rw [if_pos (by decide +kernel)]; kernel_rfl) | (rw [if_neg (by decide +kernel)]; exact ⟨rfl, rfl⟩))
    (fun os started H enc _ => traversesame_lifted os started H enc)
end Go.Proofs.YtpinpnbhbngclaaGreat
