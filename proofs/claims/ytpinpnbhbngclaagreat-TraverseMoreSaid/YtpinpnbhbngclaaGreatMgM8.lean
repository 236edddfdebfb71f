/- TraverseMore: called with any slice of parts and any three numbers it returns true, and the arguments read behind the call as they read before. No condition. -/
import Derived.Deep.RegionHeld3
import Derived.BigQuiet
import Derived.Test.YtpinpnbhbngclaaGreatMgM7

/- TraverseSame, walked. -/
namespace Go.Proofs.YtpinpnbhbngclaaGreat
open Go.RowKit

/-- but's closure, as it is made -/
def butV (g : Nat) : Value := .func (.func 29) #[] #[.pointer (some ⟨g, 0, none⟩)]
set_option maxHeartbeats 1000000 in
set_option maxRecDepth 100000 in
theorem but6_val (A : Option Addr) (n cp : Nat) (w : World) :
    Calls Tryz.prog 11 #[.slice A n cp] w fun e w' => e = .returned (butV w.heap.size) ∧ w' = w.alloc (.cells #[.slice A n cp] 23) := by
  go_enter Tryz.func11, Tryz.ntmps11
  go_wp2
  go_ret
  exact ⟨rfl, rfl⟩
theorem but6_mayc (w0 w : World) (C : Nat) (A : Option Addr) (n cp : Nat) (l : List Int) (h : Ivs w0 A n l) (hb : Below w0.heap.size w0 w) (hC : w0.heap.size ≤ C) (hC2 : C < w.heap.size) (hn : n ≤ 1000000) :
    MayC (w.alloc (.cells #[.slice A n cp] 23)) C (butV w.heap.size) (but6 l) := by
  have hbl := heap_alloc_new w (.cells #[.slice A n cp] 23)
  refine ⟨_, _, rfl, enters_of Tryz.func29 (by kernel_rfl) rfl, fun W hW d => ?_⟩
  have hb2 := cell_of_cells (i := 0) ((hW.block w.heap.size (by simp) (by omega)).trans hbl) rfl
  have hbw : Below w0.heap.size w0 W := hW.below (hb.trans ((pl1 _ _).mono hb.size)) (fun k hk => by omega)
  exact (but6fun_any w.heap.size A n cp l d W (h.later hbw) hb2 hn).mono (fun e w' ⟨he, hw⟩ => ⟨he, by rw [hw]; exact Below.refl _ _⟩)
/-- so many may be -/
def mayN (rs : List (List (Int × Int) × Int)) (may : Int → Bool) (i : Nat) : Nat := (((docsR rs).take i).filter may).length
theorem mayN_next {rs : List (List (Int × Int) × Int)} {may : Int → Bool} {i : Nat} (h : i < (docsR rs).length) : mayN rs may (i + 1) = mayN rs may i + if may (docsR rs)[i] = true then 1 else 0 := by
  unfold mayN
  rw [List.take_succ_eq_append_getElem h, List.filter_append, List.length_append]
  congr 1
  cases c : may (docsR rs)[i] with
  | true => rw [List.filter_cons_of_pos c]; rfl
  | false => rw [List.filter_cons_of_neg (by simp [c])]; rfl
theorem mayN_le (rs : List (List (Int × Int) × Int)) (may : Int → Bool) (i : Nat) : mayN rs may i ≤ i := by
  unfold mayN
  exact Nat.le_trans (List.length_filter_le _ _) (by rw [List.length_take]; omega)
set_option maxHeartbeats 4000000 in
set_option maxRecDepth 100000 in
theorem tsame_out (A A4 : Option Addr) (n cp n4 c4 : Nat) (k : Int) (rs : List (List (Int × Int) × Int)) (w : World) (h : RP w A n rs) (hsh : ∀ x ∈ rs, x.1.length ≤ 9000000000000000000) (hno : ¬ (few6 rs = true ∧ n4 ≤ 40)) :
    Calls Tryz.prog 4 #[.slice A n cp, .int .i64 k, .slice A4 n4 c4] w fun e w' => e = .returned (.bool true) ∧ Below w.heap.size w w' := by
  have HA := Lib.hid (awake6_any w)
  have HF := Lib.hid (fun W (hW : Below w.heap.size w W) => few6_any A n cp rs W (h.later hW) hsh)
  obtain ⟨fb, hfb⟩ : ∃ b, b = few6 rs := ⟨_, rfl⟩
  rw [← hfb] at HF hno
  clear h hfb hsh
  cases fb with
  | false =>
    clear hno
    go_enter Tryz.func4, Tryz.ntmps4
    go_wp2_with fail
    refine HA.out.mono ?_
    rintro e w1 ⟨rfl, hb⟩
    have HB := Lib.hid hb
    clear hb
    go_wp2_with fail
    refine (HF.out _ HB.out).mono ?_
    rintro e w2 ⟨rfl, rfl⟩
    go_wp2
    go_ret
    exact ⟨rfl, HB.out⟩
  | true =>
    have g4 : 40 < n4 := by
      by_cases c : 40 < n4
      · exact c
      · exact absurd ⟨rfl, by omega⟩ hno
    have d4 : decide ((40 : Int) < (n4 : Int)) = true := decide_eq_true (by omega)
    clear hno
    go_enter Tryz.func4, Tryz.ntmps4
    go_wp2_with fail
    refine HA.out.mono ?_
    rintro e w1 ⟨rfl, hb⟩
    have HB := Lib.hid hb
    clear hb
    go_wp2_with fail
    refine (HF.out _ HB.out).mono ?_
    rintro e w2 ⟨rfl, rfl⟩
    go_wp2
    go_ret
    exact ⟨rfl, HB.out⟩
theorem sm_sb {U w : World} {b o : Nat} {x1 x2 : Int} (c0 : U.cell? ⟨b, o, none⟩ = some (.int .i64 x1)) (c1 : U.cell? ⟨b, o + 1, none⟩ = some (.int .i64 x2)) (hb : b < U.heap.size) (h : Below U.heap.size U w) :
    w.cell? ⟨b, o, none⟩ = some (.int .i64 x1) ∧ w.cell? ⟨b, o + 1, none⟩ = some (.int .i64 x2) ∧ Below U.heap.size U w := ⟨keepB h c0 hb, keepB h c1 hb, h⟩
theorem sm_one {U w : World} {b o : Nat} {x1 : Int} (c0 : U.cell? ⟨b, o, none⟩ = some (.int .i64 x1)) (hb : b < U.heap.size) (h : Below U.heap.size U w) :
    w.cell? ⟨b, o, none⟩ = some (.int .i64 x1) ∧ Below U.heap.size U w := ⟨keepB h c0 hb, h⟩
set_option maxHeartbeats 16000000 in
set_option maxRecDepth 100000 in
theorem tsame_main (A A4 : Option Addr) (n cp n4 c4 : Nat) (k : Int) (nl : List Int) (rs : List (List (Int × Int) × Int)) (w : World) (h : RP w A n rs) (hk1 : -9223372036854775808 ≤ k) (hk2 : k ≤ 9223372036854775807) (h4 : Ivs w A4 n4 nl) (hfew : few6 rs = true) (hn4 : n4 ≤ 40) :
    Calls Tryz.prog 4 #[.slice A n cp, .int .i64 k, .slice A4 n4 c4] w fun e w' => e = .returned (.bool true) ∧ Below w.heap.size w w' := by
  obtain ⟨hl, hs⟩ := few6_parts hfew
  have hn : n ≤ 70 := by rw [← h.1]; exact hl
  have HA := Lib.hid (awake6_any w)
  have hff := fun W (hW : Below w.heap.size w W) => few6_any A n cp rs W (h.later hW) (fun x hx => by have := hs x hx; omega)
  rw [hfew] at hff
  have HF := Lib.hid hff
  have HM := Lib.hid (fun W (hW : Below w.heap.size w W) => made6_any A n cp rs W (h.later hW) hs hn)
  have H4 := Lib.hid h4
  have HS := Lib.hid hs
  have d4 : decide ((40 : Int) < (n4 : Int)) = false := decide_eq_false (by omega)
  clear h hfew hff h4 hl hs
  go_enter Tryz.func4, Tryz.ntmps4
  go_wp2_with fail
  refine HA.out.mono ?_
  rintro e w1 ⟨rfl, hb⟩
  have HB := Lib.hid hb
  clear hb
  go_wp2_with fail
  refine (HF.out _ HB.out).mono ?_
  rintro e w2 ⟨rfl, rfl⟩
  go_wp2_with fail
  refine (HM.out _ HB.out).mono ?_
  rintro e w3 ⟨hb3, hcase⟩
  have HB3 := Lib.hid (HB.out.trans (hb3.mono HB.out.size))
  clear hb3
  rcases hcase with ⟨_, rfl⟩ | ⟨hra, A1, c1, A2, c2, qs, rfl, hQ, hR, hqs, _⟩
  · go_wp2
    go_ret
    exact ⟨rfl, HB3.out⟩
  · have hrb := right_both n k hqs
    have hTR := tright_any A1 n c1 k _ w3 hQ.qn hk1 hk2 (by omega)
    rw [hrb] at hTR
    cases hr : rrightB n k rs with
    | false =>
      rw [hr] at hTR
      have HTR := Lib.hid hTR
      clear hQ hR hqs hrb hr hTR hra
      go_wp2_with fail
      refine HTR.out.mono ?_
      rintro e w4 ⟨rfl, hb4⟩
      go_wp2
      go_ret
      exact ⟨rfl, HB3.out.trans (hb4.mono HB3.out.size)⟩
    | true =>
      rw [hr] at hTR
      have HTR := Lib.hid hTR
      have hgq := goodQ_all (n := n) (k := k) hqs hr hra HS.out
      have hRA : ∀ x ∈ rs, PostM.rightL x.1 = true := fun x hx => List.all_eq_true.1 hra x hx
      have hgp := goodP_all hr hRA HS.out
      obtain ⟨hn64, hk0, hk3, _⟩ := rright_parts hr
      obtain ⟨kn, rfl⟩ : ∃ kn : Nat, k = kn := ⟨k.toNat, by omega⟩
      have HFA := Lib.hid (fun (W : World) (sc : Nat) (mayv : Value) (hW : Below w3.heap.size w3 W) (hc : W.heap[sc]? = some (.cells #[.int .i64 ((0 : Nat) : Int)] 49 (0, 0))) (hsc : w3.heap.size ≤ sc) (hm : MayC W sc mayv (but6 nl)) => cfind6_all (cp := c1) (k := kn) (c0 := 0) w3 W hQ hW hgq hn64 (by omega) (by omega) hc hsc (by omega) hm)
      have HFW := Lib.hid (fun (wi : Int) (hwi : wi = 0 ∨ wi = 1 ∨ wi = 2 ∨ wi = 3) (W : World) (sc : Nat) (mayv : Value) (hW : Below w3.heap.size w3 W) (hc : W.heap[sc]? = some (.cells #[.int .i64 ((0 : Nat) : Int)] 49 (0, 0))) (hsc : w3.heap.size ≤ sc) (hm : MayC W sc mayv (but6 nl)) => cfind6_ok (cp := c1) (k := kn) (c0 := 0) (wi := wi) w3 W hQ hW hgq hn64 (by omega) (by omega) hc hsc (by omega) hm hwi)
      rw [hqs] at HFA HFW
      have HDC := Lib.hid (fun W (hW : Below w3.heap.size w3 W) => refdocs6_any (cp := c2) W (hR.later hW) HS.out hn64)
      have HSC := Lib.hid (fun d W (hW : Below w3.heap.size w3 W) => score6_any (cp := c1) (d := d) w3 W hQ hW hgq hn64)
      rw [hqs] at HSC
      have hvl : (vl (docsR rs) (but6 nl) (scoreR rs) 2147483648).length = mayN rs (but6 nl) (docsR rs).length := by
        rw [vl_all hgp, List.length_map]
        unfold mayN
        rw [List.take_of_length_le (Nat.le_refl _)]
      rw [hvl] at HFA HFW
      have HMEM := Lib.hid (fun p (hp : p ∈ foundR kn rs (but6 nl)) => found_mem hp)
      have HPOS := Lib.hid (fun d (hd : d ∈ docsR rs) => scoreR_pos hgp hd)
      have hdl := docsR_len HS.out
      have hrl := hR.1
      have HFL := Lib.hid (found_len kn rs (but6 nl))
      have HI4 := Lib.hid (H4.out.later HB3.out)
      obtain ⟨nd, hnd⟩ : ∃ x, x = (docsR rs).length := ⟨_, rfl⟩
      obtain ⟨M, hM⟩ : ∃ x, x = mayN rs (but6 nl) nd := ⟨_, rfl⟩
      rw [← hnd] at HFA HFW hdl
      rw [← hM] at HFA HFW
      simp only [Nat.zero_add] at HFA HFW
      have hMn := mayN_le rs (but6 nl) nd
      rw [← hM] at hMn
      have hnd2 : nd ≤ 25600 := by omega
      have HND := Lib.hid hnd
      have HMM := Lib.hid hM
      obtain ⟨L, hL⟩ : ∃ L, L = foundR kn rs (but6 nl) := ⟨_, rfl⟩
      rw [← hL] at HFA HFW HMEM HFL
      have HLN : Hid (L.length ≤ 1000) := Lib.hid (by have := HFL.out; omega)
      have hkn : kn ≤ 1000 := by omega
      clear hQ hR hqs hrb hr hTR hra hgq hRA hgp hvl hdl hrl hnd hM hL hMn
      go_wp2_with fail
      refine HTR.out.mono ?_
      rintro e w4 ⟨rfl, hb4⟩
      have HB4 := Lib.hid hb4
      clear hb4
      go_wp2_with fail
      obtain ⟨C, hC⟩ : ∃ x, x = w4.heap.size := ⟨_, rfl⟩
      obtain ⟨w5, hw5⟩ : ∃ x, x = w4.alloc (.cells #[.int .i64 0] 49) := ⟨_, rfl⟩
      have hc5 : w5.heap[C]? = some (.cells #[.int .i64 ((0 : Nat) : Int)] 49 (0, 0)) := by rw [hw5, hC]; exact heap_alloc_new _ _
      have HB5 : Hid (Below w3.heap.size w3 w5) := Lib.hid (by rw [hw5]; exact HB4.out.trans ((pl1 _ _).mono HB4.out.size))
      have hCs : C < w5.heap.size := by rw [hw5, hC]; simp
      have hCw : w3.heap.size ≤ C := by rw [hC]; exact HB4.out.size
      rw [← hw5, ← hC]
      clear hw5 hC
      refine (but6_val A4 n4 c4 w5).mono ?_
      rintro e w6 ⟨rfl, rfl⟩
      have hm6 := but6_mayc w3 w5 C A4 n4 c4 nl HI4.out HB5.out hCw hCs (by omega)
      have hf6 := HFA.out _ C _ (HB5.out.trans ((pl1 w5 _).mono HB5.out.size)) (blk_stay (pl1 w5 _) hc5) hCw hm6
      have HF6 := Lib.hid hf6
      clear hm6 hf6
      unfold butV at HF6 ⊢
      go_wp2_with fail
      refine HF6.out.mono ?_
      rintro e w7 ⟨v7, rfl, hp7, hc7, ht7⟩
      have HB7 : Hid (Below w3.heap.size w3 w7) := Lib.hid (ht7.below (HB5.out.trans ((pl1 w5 _).mono HB5.out.size)) (fun q hq => by omega))
      have HP7 := Lib.hid hp7
      have HC7 := Lib.hid hc7
      clear hp7 hc7 ht7 hc5
      go_wp2_with fail
      refine (HDC.out _ HB7.out).mono ?_
      rintro e w8 ⟨vd, rfl, hrow, hb8⟩
      have HB8 := Lib.hid (HB7.out.trans (hb8.mono HB7.out.size))
      have HP8 := Lib.hid (HP7.out.later hb8)
      have HC8 := Lib.hid (blk_stay hb8 HC7.out)
      obtain ⟨Ad, cd, rfl, hcd, hAd, hI⟩ := hrow.ivs
      have HI := Lib.hid hI
      rw [← HND.out] at hcd ⊢
      clear hrow hb8 hI
      go_wp2
      go_loopw [13, 15] (fun x y wr => ∃ (i m : Nat), x = .int .i64 m ∧ y = .int .i64 i ∧ i ≤ nd ∧ m = mayN rs (but6 nl) i ∧ Below w8.heap.size w8 wr) (fun _ y _ => nd - (intOf y).toNat)
      case atStart => exact ⟨0, 0, rfl, rfl, by omega, rfl, Below.refl _ _⟩
      case round =>
        obtain ⟨i, m, rfl, rfl, hi, hm, hb⟩ := hrel
        have HBR := Lib.hid hb
        have HB3R := Lib.hid (HB8.out.trans (hb.mono HB8.out.size))
        by_cases hlt : i < nd
        · have hmi : (i : Int) < (nd : Int) := by omega
          have hil : i < (docsR rs).length := by rw [← HND.out]; exact hlt
          have hnx := mayN_next (may := but6 nl) hil
          have hle := mayN_le rs (but6 nl) i
          rw [← hm] at hnx hle
          obtain ⟨bd, od, rfl, hbd, q0⟩ := HI.out.2 i hil
          have q1 := (hb.cell (p := ⟨bd, od + i, none⟩) hbd).trans q0
          have hbd2 : bd < wr.heap.size := Nat.lt_of_lt_of_le hbd hb.size
          obtain ⟨d, hd⟩ : ∃ x, x = (docsR rs)[i] := ⟨_, rfl⟩
          rw [← hd] at q1 hnx
          have HQ1 := Lib.hid q1
          obtain ⟨bb, hbb⟩ : ∃ x, x = but6 nl d := ⟨_, rfl⟩
          rw [← hbb] at hnx
          have HI4R := Lib.hid (fun W (hW : Below wr.heap.size wr W) => (HI4.out.later HB3R.out).later hW)
          have HBF := Lib.hid (fun (g : Nat) W (hW : Below wr.heap.size wr W) (hg : W.cell? ⟨g, 0, none⟩ = some (.slice A4 n4 c4)) => (but6fun_any g A4 n4 c4 nl d W (HI4R.out W hW) hg (by omega)))
          rw [← hbb] at HBF
          have HNX := Lib.hid hnx
          have HV := Lib.hid (fun W (hW : Below wr.heap.size wr W) => (but6_val A4 n4 c4 W).mono (fun e w' (hh : e = .returned (butV W.heap.size) ∧ w' = W.alloc (.cells #[.slice A4 n4 c4] 23)) => (⟨_, hh.1, by rw [hh.2]; exact cell_of_cells (i := 0) (heap_alloc_new W _) rfl, by rw [hh.2]; exact bel_a hW _⟩ : ∃ g, e = .returned (butV g) ∧ w'.cell? ⟨g, 0, none⟩ = some (.slice A4 n4 c4) ∧ Below wr.heap.size wr w')))
          clear hm hnx hd hbb q0 q1 hb
          unfold butV at HV
          go_wp2
          go_region_held3 (fun w' => w'.cell? ⟨bd, od + i, none⟩ = some (.int .i64 d) ∧ Below wr.heap.size wr w')
            ((go_split_ands; refine sm_one HQ1.out hbd2 ?_; first | assumption | exact (Below.refl _ _).drew | exact Below.refl _ _ | exact bel_a (by assumption) _))
            ((first
              | (with_reducible refine (HV.out _ (by first | assumption | exact (Below.refl _ _).drew | exact Below.refl _ _)).mono ?_; rintro e w9 ⟨g, rfl, hg9, hb9⟩)
              | (with_reducible refine (HBF.out _ _ (by assumption) (by assumption)).mono ?_; rintro e w10 ⟨rfl, rfl⟩)))
          all_goals
            have HB9 := Lib.hid (HBR.out.trans (hb9.mono HBR.out.size))
            clear hb9 hg9
            cases bb with
            | false =>
              have HN2 : Hid (m = mayN rs (but6 nl) (i + 1)) := Lib.hid (by rw [HNX.out]; rfl)
              go_wp2
              go_roundw
              case rel => exact ⟨i + 1, m, rfl, by go_num, by omega, HN2.out, HB9.out⟩
              case measure => simp [intOf]; omega
            | true =>
              have HN2 : Hid (m + 1 = mayN rs (but6 nl) (i + 1)) := Lib.hid (by rw [HNX.out]; rfl)
              go_wp2
              go_roundw
              case rel => exact ⟨i + 1, m + 1, by go_num, by go_num, by omega, HN2.out, HB9.out⟩
              case measure => simp [intOf]; omega
        · have hmi : ¬ (i : Int) < (nd : Int) := by omega
          obtain rfl : i = nd := by omega
          rw [← HMM.out] at hm
          subst hm
          have HSD := Lib.hid (scored6_any C m wr (cell_of_cells (i := 0) (blk_stay hb HC8.out) rfl))
          have HP9 := Lib.hid (HP8.out.later hb)
          clear hb
          go_wp2_with fail
          refine HSD.out.mono ?_
          rintro e wx ⟨rfl, hwx⟩
          have hwx2 := hwx.symm
          subst hwx2

          obtain ⟨w10, hw10⟩ : ∃ x, x = wr := ⟨_, rfl⟩
          rw [← hw10] at HP9 HB3R ⊢
          clear hw10
          go_wp2
          go_loopw [16] (fun x wr => ∃ i : Nat, x = .int .i64 i ∧ 1 ≤ i ∧ i ≤ 4 ∧ Below w10.heap.size w10 wr) (fun x _ => 4 - (intOf x).toNat)
          case atStart => exact ⟨1, rfl, by omega, by omega, Below.refl _ _⟩
          case round =>
            obtain ⟨j, rfl, hj1, hj2, hb⟩ := hrel
            have HBR := Lib.hid hb
            have HB3S := Lib.hid (HB3R.out.trans (hb.mono HB3R.out.size))
            by_cases hlt : j ≤ 3
            · have hmi : (j : Int) ≤ 3 := by omega
              clear hb
              go_wp2_with fail
              obtain ⟨D, hD⟩ : ∃ x, x = wr.heap.size := ⟨_, rfl⟩
              obtain ⟨w11, hw11⟩ : ∃ x, x = wr.alloc (.cells #[.int .i64 0] 49) := ⟨_, rfl⟩
              have hc11 : w11.heap[D]? = some (.cells #[.int .i64 ((0 : Nat) : Int)] 49 (0, 0)) := by rw [hw11, hD]; exact heap_alloc_new _ _
              have HB11 : Hid (Below w3.heap.size w3 w11) := Lib.hid (by rw [hw11]; exact HB3S.out.trans ((pl1 _ _).mono HB3S.out.size))
              have HX11 : Hid (Below w10.heap.size w10 w11) := Lib.hid (by rw [hw11]; exact HBR.out.trans ((pl1 _ _).mono HBR.out.size))
              have hDs : D < w11.heap.size := by rw [hw11, hD]; simp
              have hDw : w3.heap.size ≤ D := by rw [hD]; exact HB3S.out.size
              have hDx : w10.heap.size ≤ D := by rw [hD]; exact HBR.out.size
              rw [← hw11, ← hD]
              clear hw11 hD
              refine (but6_val A4 n4 c4 w11).mono ?_
              rintro e w12 ⟨rfl, rfl⟩
              have hm12 := but6_mayc w3 w11 D A4 n4 c4 nl HI4.out HB11.out hDw hDs (by omega)
              have hf12 := HFW.out j (by omega) _ D _ (HB11.out.trans ((pl1 w11 _).mono HB11.out.size)) (blk_stay (pl1 w11 _) hc11) hDw hm12
              have HF12 := Lib.hid hf12
              clear hm12 hf12
              unfold butV at HF12 ⊢
              go_wp2_with fail
              refine HF12.out.mono ?_
              rintro e w13 ⟨v13, rfl, hp13, cn, hc13, _, hcn, ht13⟩
              have HB13 : Hid (Below w10.heap.size w10 w13) := Lib.hid (ht13.below (HX11.out.trans ((pl1 w11 _).mono HX11.out.size)) (fun q hq => by omega))
              have hsm := same_any v7 v13 L L w13 (HP9.out.later HB13.out) hp13 (by have := HLN.out; omega) (by have := HLN.out; omega)
              rw [decide_eq_true rfl] at hsm
              have HSM := Lib.hid hsm
              have HC13 := Lib.hid hc13
              have hgt : decide ((m : Int) < (cn : Int)) = false := decide_eq_false (by omega)
              have hgt2 : decide (m < cn) = false := decide_eq_false (by omega)
              clear hp13 hc13 ht13 hsm hc11
              go_wp2_with fail
              refine HSM.out.mono ?_
              rintro e w14 ⟨rfl, x, hw14⟩
              have HB14 : Hid (Below w13.heap.size w13 w14) := Lib.hid (by rw [hw14]; exact below_drewN_p _ _)
              have HSD2 := Lib.hid (scored6_any D cn w14 (cell_of_cells (i := 0) (blk_stay HB14.out HC13.out) rfl))
              clear hw14
              go_wp2_with fail
              refine HSD2.out.mono ?_
              rintro e w15 ⟨rfl, rfl⟩
              go_wp2
              go_roundw
              case rel => exact ⟨j + 1, by go_num, by omega, by omega, HB13.out.trans (HB14.out.mono HB13.out.size)⟩
              case measure => simp [intOf]; omega
            · have hmi : ¬ (j : Int) ≤ 3 := by omega
              obtain ⟨Aa, ca, rfl, hca, _, hPa⟩ := HP9.out.later hb
              obtain ⟨w16, hw16⟩ : ∃ x, x = wr := ⟨_, rfl⟩
              rw [← hw16] at HB3S hPa ⊢
              obtain ⟨ll, hll⟩ : ∃ x, x = L.length := ⟨_, rfl⟩
              have HLL := Lib.hid hll
              rw [← hll] at hca hPa ⊢
              have HPA := Lib.hid hPa
              have hll3 : ll ≤ 1000 := by have := HLN.out; omega
              clear hb hw16 hll hPa HP9
              go_wp2
              go_loopw [20] (fun x wr => ∃ i : Nat, x = .int .i64 i ∧ i ≤ ll ∧ Below w16.heap.size w16 wr) (fun x _ => ll - (intOf x).toNat)
              case atStart => exact ⟨0, rfl, by omega, Below.refl _ _⟩
              case round =>
                obtain ⟨i, rfl, hi, hb⟩ := hrel
                have HBR := Lib.hid hb
                have HB3T := Lib.hid (HB3S.out.trans (hb.mono HB3S.out.size))
                by_cases hlt : i < ll
                · have hmi2 : (i : Int) < (ll : Int) := by omega
                  have hil : i < L.length := by rw [← HLL.out]; exact hlt
                  obtain ⟨ba, oa, rfl, hba, q0, q1⟩ := HPA.out.2 i hil
                  obtain ⟨hmem, hsc⟩ := HMEM.out _ (List.getElem_mem hil)
                  have hpos := HPOS.out _ hmem
                  rw [← hsc] at hpos
                  obtain ⟨⟨d, sc⟩, hds⟩ : ∃ x, x = L[i] := ⟨_, rfl⟩
                  rw [← hds] at q0 q1 hsc hpos hmem
                  simp only at q0 q1 hsc hpos hmem
                  have p0 := (hb.cell (p := ⟨ba, oa + i * 2, none⟩) hba).trans q0
                  have p1 := (hb.cell (p := ⟨ba, oa + i * 2 + 1, none⟩) hba).trans q1
                  have hba2 : ba < wr.heap.size := Nat.lt_of_lt_of_le hba hb.size
                  have HP0 := Lib.hid p0
                  have HP1 := Lib.hid p1
                  have HCS := Lib.hid (fun W (hW : Below wr.heap.size wr W) => (HSC.out d W (HB3T.out.trans (hW.mono HB3T.out.size))).mono (fun e w' (hh : _ ∧ Below W.heap.size W w') => (⟨hh.1, bel_c hW hh.2⟩ : _ ∧ Below wr.heap.size wr w')))
                  rw [← hsc] at HCS
                  have hne : (sc != sc) = false := by simp
                  have hlow : decide (sc < 1) = false := decide_eq_false (by omega)
                  clear hb hmem hsc hds q0 q1 p0 p1 hpos
                  go_wp2
                  go_region_held3 (fun w' => w'.cell? ⟨ba, oa + i * 2, none⟩ = some (.int .i64 d) ∧ w'.cell? ⟨ba, oa + i * 2 + 1, none⟩ = some (.int .i64 sc) ∧ Below wr.heap.size wr w')
                    ((go_split_ands; refine sm_sb HP0.out HP1.out hba2 ?_; first | assumption | exact (Below.refl _ _).drew | exact Below.refl _ _))
                    ((first
                      | (with_reducible refine (HCS.out _ (by first | assumption | exact (Below.refl _ _).drew | exact Below.refl _ _)).mono ?_; rintro e w17 ⟨rfl, hb17⟩)))
                  all_goals
                    have HB17 := Lib.hid (HBR.out.trans (hb17.mono HBR.out.size))
                    clear hb17
                    go_wp2
                    go_roundw
                    case rel => exact ⟨i + 1, by go_num, by omega, HB17.out⟩
                    case measure => simp [intOf]; omega
                · have hmi2 : ¬ (i : Int) < (ll : Int) := by omega
                  clear hb
                  go_wp2
                  go_ret
                  exact ⟨rfl, HB3.out.trans (HB3T.out.mono HB3.out.size)⟩
end Go.Proofs.YtpinpnbhbngclaaGreat

/- TraverseMore: its functions; where it asks nothing. -/
namespace Go.Proofs.YtpinpnbhbngclaaGreat
open Go.RowKit

theorem sumL_most {B : Int} (hB : 0 ≤ B) : ∀ l : List Int, (∀ x ∈ l, 0 ≤ x ∧ x ≤ B) → 0 ≤ sumL l ∧ sumL l ≤ B * l.length
  | [], _ => by simp [sumL]
  | a :: t, h => by
    have ih := sumL_most hB t (fun x hx => h x (by simp [hx]))
    have ha := h a (by simp)
    have e1 := sumL_append [a] t
    rw [List.singleton_append] at e1
    have e3 : sumL [a] = a := by simp [sumL]
    rw [e1, e3, List.length_cons]
    have e4 : B * ((t.length + 1 : Nat) : Int) = B * (t.length : Int) + B := by
      rw [Int.natCast_add, Int.mul_add]
      simp
    omega
theorem scoreR_most {rs : List (List (Int × Int) × Int)} (hg : ∀ x ∈ rs, GoodP (prt x)) (hn : rs.length ≤ 64) (d : Int) : 0 ≤ scoreR rs d ∧ scoreR rs d ≤ 274869518400 := by
  rw [scoreR_is]
  have h := sumL_most (B := 4294836225) (by omega) (rs.map fun x => con (prt x) d) (fun y hy => by
    obtain ⟨x, hx, rfl⟩ := List.mem_map.1 hy
    obtain ⟨a, ha⟩ := exists_at (prt x) d
    rw [con_split (hg x hx) (fun j hj _ => ha.2.1 j hj) ha.2.2]
    exact conAt_le (hg x hx) a d)
  rw [List.length_map] at h
  omega
theorem yes6m_any (d : Int) (w : World) : Calls Tryz.prog 19 #[.int .i64 d] w fun e w' => e = .returned (.bool true) ∧ w = w' := by
  go_enter Tryz.func19, Tryz.ntmps19
  go_wp2
  go_ret
  exact ⟨rfl, rfl⟩
theorem yes6m_may (w : World) : MayIs w (.func (.func 19) #[] #[]) (fun _ => true) :=
  ⟨_, _, rfl, enters_of Tryz.func19 (by kernel_rfl) rfl, fun W _ d => (yes6m_any d W).mono (fun _ _ ⟨he, hw⟩ => ⟨he, by rw [← hw]; exact Below.refl _ _⟩)⟩
theorem not6m_any (B : Nat) (x d : Int) (w : World) (hB : w.cell? ⟨B, 0, none⟩ = some (.int .i64 x)) : Calls Tryz.prog 20 #[.int .i64 d, .pointer (some ⟨B, 0, none⟩)] w fun e w' => e = .returned (.bool (notB x d)) ∧ w = w' := by
  by_cases h : d = x
  · have e : (d != x) = false := by simpa using h
    have e2 : notB x d = false := by unfold notB; simp [h]
    rw [e2]
    clear h e2
    go_enter Tryz.func20, Tryz.ntmps20
    go_wp2
    go_ret
    exact ⟨rfl, rfl⟩
  · have e : (d != x) = true := by simpa using h
    have e2 : notB x d = true := by unfold notB; simp [h]
    rw [e2]
    clear h e2
    go_enter Tryz.func20, Tryz.ntmps20
    go_wp2
    go_ret
    exact ⟨rfl, rfl⟩
theorem not6m_may (w : World) (B : Nat) (x : Int) (hB : w.cell? ⟨B, 0, none⟩ = some (.int .i64 x)) : MayIs w (.func (.func 20) #[] #[.pointer (some ⟨B, 0, none⟩)]) (notB x) :=
  ⟨_, _, rfl, enters_of Tryz.func20 (by kernel_rfl) rfl, fun W hW d => (not6m_any B x d W ((hW.cell (p := ⟨B, 0, none⟩) (World.block_lt_of_cell? w _ hB)).trans hB)).mono (fun _ _ ⟨he, hw⟩ => ⟨he, by rw [← hw]; exact Below.refl _ _⟩)⟩
set_option maxHeartbeats 4000000 in
set_option maxRecDepth 100000 in
theorem tmore_out (A : Option Addr) (n cp : Nat) (k x wi : Int) (rs : List (List (Int × Int) × Int)) (w : World) (h : RP w A n rs) (hsh : ∀ x ∈ rs, x.1.length ≤ 9000000000000000000) (hno : ¬ (few6 rs = true ∧ 1 ≤ k ∧ k < 1000 ∧ 0 ≤ wi ∧ wi ≤ 3)) :
    Calls Tryz.prog 5 #[.slice A n cp, .int .i64 k, .int .i64 x, .int .i64 wi] w fun e w' => e = .returned (.bool true) ∧ Below w.heap.size w w' := by
  have HA := Lib.hid (fun W => awake6_any W)
  have HF := Lib.hid (fun W (hW : Below w.heap.size w W) => few6_any A n cp rs W (h.later hW) hsh)
  obtain ⟨fb, hfb⟩ : ∃ b, b = few6 rs := ⟨_, rfl⟩
  rw [← hfb] at HF hno
  clear h hfb hsh
  cases fb with
  | false =>
    clear hno
    go_enter Tryz.func5, Tryz.ntmps5
    go_wp2_with fail
    refine (HA.out _).mono ?_
    rintro e w1 ⟨rfl, hb⟩
    have HB := Lib.hid ((pl1 w _).trans (hb.mono (pl1 w _).size))
    clear hb
    go_wp2_with fail
    refine (HF.out _ HB.out).mono ?_
    rintro e w2 ⟨rfl, rfl⟩
    go_wp2
    go_ret
    exact ⟨rfl, HB.out⟩
  | true =>
    by_cases h1 : k < 1
    · have d1 : decide (k < (1 : Int)) = true := decide_eq_true h1
      clear hno
      go_enter Tryz.func5, Tryz.ntmps5
      go_wp2_with fail
      refine (HA.out _).mono ?_
      rintro e w1 ⟨rfl, hb⟩
      have HB := Lib.hid ((pl1 w _).trans (hb.mono (pl1 w _).size))
      clear hb
      go_wp2_with fail
      refine (HF.out _ HB.out).mono ?_
      rintro e w2 ⟨rfl, rfl⟩
      go_wp2
      go_ret
      exact ⟨rfl, HB.out⟩
    have d1 : decide (k < (1 : Int)) = false := decide_eq_false h1
    by_cases h2 : 1000 ≤ k
    · have d2 : decide ((1000 : Int) ≤ k) = true := decide_eq_true h2
      clear hno
      go_enter Tryz.func5, Tryz.ntmps5
      go_wp2_with fail
      refine (HA.out _).mono ?_
      rintro e w1 ⟨rfl, hb⟩
      have HB := Lib.hid ((pl1 w _).trans (hb.mono (pl1 w _).size))
      clear hb
      go_wp2_with fail
      refine (HF.out _ HB.out).mono ?_
      rintro e w2 ⟨rfl, rfl⟩
      go_wp2
      go_ret
      exact ⟨rfl, HB.out⟩
    have d2 : decide ((1000 : Int) ≤ k) = false := decide_eq_false h2
    by_cases h3 : wi < 0
    · have d3 : decide (wi < (0 : Int)) = true := decide_eq_true h3
      clear hno
      go_enter Tryz.func5, Tryz.ntmps5
      go_wp2_with fail
      refine (HA.out _).mono ?_
      rintro e w1 ⟨rfl, hb⟩
      have HB := Lib.hid ((pl1 w _).trans (hb.mono (pl1 w _).size))
      clear hb
      go_wp2_with fail
      refine (HF.out _ HB.out).mono ?_
      rintro e w2 ⟨rfl, rfl⟩
      go_wp2
      go_ret
      exact ⟨rfl, HB.out⟩
    have d3 : decide (wi < (0 : Int)) = false := decide_eq_false h3
    have h4 : 3 < wi := by
      by_cases c : 3 < wi
      · exact c
      · exact absurd ⟨rfl, by omega, by omega, by omega, by omega⟩ hno
    have d4 : decide ((3 : Int) < wi) = true := decide_eq_true h4
    clear hno
    go_enter Tryz.func5, Tryz.ntmps5
    go_wp2_with fail
    refine (HA.out _).mono ?_
    rintro e w1 ⟨rfl, hb⟩
    have HB := Lib.hid ((pl1 w _).trans (hb.mono (pl1 w _).size))
    clear hb
    go_wp2_with fail
    refine (HF.out _ HB.out).mono ?_
    rintro e w2 ⟨rfl, rfl⟩
    go_wp2
    go_ret
    exact ⟨rfl, HB.out⟩
end Go.Proofs.YtpinpnbhbngclaaGreat

/- TraverseMore, walked. -/
namespace Go.Proofs.YtpinpnbhbngclaaGreat
open Go.RowKit

/-- a part, twice its weight -/
def dblQ (x : Nat × List (Int × Int) × Int) : Nat × List (Int × Int) × Int := (x.1, x.2.1, 2 * x.2.2)
def pV (x : Nat × List (Int × Int) × Int) : Value := .pointer (some ⟨x.1, 0, none⟩)
def wV (x : Nat × List (Int × Int) × Int) : Value := .int .i64 x.2.2
/-- so far -/
def twQ (qs : List (Nat × List (Int × Int) × Int)) (i : Nat) : List (Nat × List (Int × Int) × Int) := (qs.take i).map dblQ ++ qs.drop i
theorem twQ_len (qs : List (Nat × List (Int × Int) × Int)) (i : Nat) : (twQ qs i).length = qs.length := by
  unfold twQ
  rw [List.length_append, List.length_map, List.length_take, List.length_drop]
  omega
theorem twQ_at {qs : List (Nat × List (Int × Int) × Int)} {i : Nat} (h : i < qs.length) : (twQ qs i)[i]'(by rw [twQ_len]; exact h) = qs[i] := by
  unfold twQ
  rw [List.getElem_append_right (by rw [List.length_map, List.length_take]; omega)]
  simp only [List.length_map, List.length_take, List.getElem_drop]
  congr 1
  omega
theorem twQ_next {qs : List (Nat × List (Int × Int) × Int)} {i : Nat} (h : i < qs.length) : (twQ qs i).set i (dblQ qs[i]) = twQ qs (i + 1) := by
  unfold twQ
  rw [List.set_append_right _ _ (by rw [List.length_map, List.length_take]; omega)]
  rw [List.length_map, List.length_take, show i - min i qs.length = 0 by omega, List.drop_eq_getElem_cons h, List.set_cons_zero, List.take_succ_eq_append_getElem h, List.map_append]
  simp
theorem twQ_all (qs : List (Nat × List (Int × Int) × Int)) (i : Nat) (h : qs.length ≤ i) : twQ qs i = qs.map dblQ := by
  unfold twQ
  rw [List.take_of_length_le h, List.drop_of_length_le h, List.append_nil]
theorem twQ_zero (qs : List (Nat × List (Int × Int) × Int)) : twQ qs 0 = qs := rfl
theorem dblQ_map (qs : List (Nat × List (Int × Int) × Int)) : (qs.map dblQ).map (·.2) = twR (qs.map (·.2)) := by
  unfold twR
  rw [List.map_map, List.map_map]
  rfl
theorem fil_next {l : List (Int × Int)} {x : Int} {i : Nat} (h : i < l.length) : (l.take (i + 1)).filter (fun p => notB x p.1) = (l.take i).filter (fun p => notB x p.1) ++ if notB x l[i].1 = true then [l[i]] else [] := by
  rw [List.take_succ_eq_append_getElem h, List.filter_append]
  congr 1
  cases c : notB x l[i].1 with
  | true => simp [c]
  | false => simp [c]
theorem mm_sb {U w : World} {b o B : Nat} {x1 x2 : Int} (c0 : U.cell? ⟨b, o, none⟩ = some (.int .i64 x1)) (c1 : U.cell? ⟨B, 0, none⟩ = some (.int .i64 x2)) (hb : b < U.heap.size) (hB : B < U.heap.size) (h : Below U.heap.size U w) :
    w.cell? ⟨b, o, none⟩ = some (.int .i64 x1) ∧ w.cell? ⟨B, 0, none⟩ = some (.int .i64 x2) ∧ Below U.heap.size U w := ⟨keepB h c0 hb, keepB h c1 hB, h⟩
set_option maxHeartbeats 16000000 in
set_option maxRecDepth 100000 in
theorem tmore_main (A : Option Addr) (n cp : Nat) (kn : Nat) (x wi : Int) (rs : List (List (Int × Int) × Int)) (w : World) (h : RP w A n rs) (hk1 : 1 ≤ kn) (hk2 : kn < 1000) (hwi : wi = 0 ∨ wi = 1 ∨ wi = 2 ∨ wi = 3) (hfew : few6 rs = true) :
    Calls Tryz.prog 5 #[.slice A n cp, .int .i64 (kn : Int), .int .i64 x, .int .i64 wi] w fun e w' => e = .returned (.bool true) ∧ Below w.heap.size w w' := by
  obtain ⟨i0, hinf, hz0, hz1, hz2⟩ := info_parts tpart_info
  obtain ⟨hl, hs⟩ := few6_parts hfew
  have hn : n ≤ 70 := by rw [← h.1]; exact hl
  have hff := fun W (hW : Below w.heap.size w W) => few6_any A n cp rs W (h.later hW) (fun x hx => by have := hs x hx; omega)
  rw [hfew] at hff
  have HF := Lib.hid hff
  have HM := Lib.hid (fun W (hW : Below w.heap.size w W) => made6_any A n cp rs W (h.later hW) hs hn)
  have HS := Lib.hid hs
  have HW := Lib.hid hwi
  have d1 : decide ((kn : Int) < 1) = false := decide_eq_false (by omega)
  have d2 : decide ((1000 : Int) ≤ (kn : Int)) = false := decide_eq_false (by omega)
  have d3 : decide (wi < 0) = false := decide_eq_false (by omega)
  have d4 : decide (3 < wi) = false := decide_eq_false (by omega)
  clear h hfew hff hl hs hwi
  go_enter Tryz.func5, Tryz.ntmps5
  go_wp2_with fail
  obtain ⟨B, hB⟩ : ∃ b, b = w.heap.size := ⟨_, rfl⟩
  obtain ⟨w0, hw0⟩ : ∃ b, b = w.alloc (.cells #[.int .i64 x] 3) := ⟨_, rfl⟩
  have hc0 : w0.cell? ⟨B, 0, none⟩ = some (.int .i64 x) := by rw [hw0, hB]; exact cell_of_cells (i := 0) (heap_alloc_new _ _) rfl
  have HB0 : Hid (Below w.heap.size w w0) := Lib.hid (by rw [hw0]; exact pl1 _ _)
  have hBs : B < w0.heap.size := by rw [hw0, hB]; simp
  rw [← hw0, ← hB]
  clear hw0 hB
  refine (awake6_any w0).mono ?_
  rintro e w1 ⟨rfl, hb⟩
  have HB1 := Lib.hid (HB0.out.trans (hb.mono HB0.out.size))
  have HC1 := Lib.hid ((hb.cell (p := ⟨B, 0, none⟩) hBs).trans hc0)
  have hBs1 : B < w1.heap.size := Nat.lt_of_lt_of_le hBs hb.size
  clear hb hc0 hBs
  go_wp2_with fail
  refine (HF.out _ HB1.out).mono ?_
  rintro e w2 ⟨rfl, hw2⟩
  have hw2' := hw2.symm
  subst hw2'
  clear hw2
  go_wp2_with fail
  refine (HM.out _ HB1.out).mono ?_
  rintro e w3 ⟨hb3, hcase⟩
  have HB3 := Lib.hid (HB1.out.trans (hb3.mono HB1.out.size))
  have HC3 := Lib.hid ((hb3.cell (p := ⟨B, 0, none⟩) hBs1).trans HC1.out)
  have hBs3 : B < w3.heap.size := Nat.lt_of_lt_of_le hBs1 hb3.size
  clear hb3 hBs1
  rcases hcase with ⟨_, rfl⟩ | ⟨hra, A1, c1, A2, c2, qs, rfl, hQ, hR, hqs, hnil⟩
  · go_wp2
    go_ret
    exact ⟨rfl, HB3.out⟩
  · have hrb := right_both n (kn : Int) hqs
    have hTR := tright_any A1 n c1 (kn : Int) _ w3 hQ.qn (by omega) (by omega) (by omega)
    rw [hrb] at hTR
    cases hr : rrightB n (kn : Int) rs with
    | false =>
      rw [hr] at hTR
      have HTR := Lib.hid hTR
      clear hQ hR hqs hrb hr hTR hra hnil
      go_wp2_with fail
      refine HTR.out.mono ?_
      rintro e w4 ⟨rfl, hb4⟩
      go_wp2
      go_ret
      exact ⟨rfl, HB3.out.trans (hb4.mono HB3.out.size)⟩
    | true =>
      rw [hr] at hTR
      have HTR := Lib.hid hTR
      have hgq := goodQ_all (n := n) (k := kn) hqs hr hra HS.out
      have hRA : ∀ x ∈ rs, PostM.rightL x.1 = true := fun x hx => List.all_eq_true.1 hra x hx
      have hgp := goodP_all hr hRA HS.out
      obtain ⟨hn64, _, _, _⟩ := rright_parts hr
      have HFA := Lib.hid (fun (k : Nat) (hk1 : 1 ≤ k) (hk2 : k ≤ 1000) (W : World) (mayv : Value) (may : Int → Bool) (hW : Below w3.heap.size w3 W) (hm : MayIs W mayv may) => find6_ok (cp := c1) (k := k) (wi := wi) W W (hQ.later hW) (Below.refl _ _) hgq hn64 hk1 hk2 hm HW.out)
      rw [hqs] at HFA
      have HFO := Lib.hid (found_out kn rs x)
      have HFD := Lib.hid (found_dbl kn rs (fun _ => true))
      have hbt : (foundR (kn + 1) rs (fun _ => true)).take (foundR kn rs (fun _ => true)).length = foundR kn rs (fun _ => true) := by
        unfold foundR
        rw [TopM.best_len]
        exact best_take _ (by omega)
      have hrsl : rs.length ≤ 64 := by rw [hR.1]; exact hn64
      have HSB := Lib.hid (fun d => scoreR_most hgp hrsl d)
      have HMEM := Lib.hid (fun p (hp : p ∈ foundR kn rs (fun _ => true)) => found_mem hp)
      have hla := found_len kn rs (fun _ => true)
      have hlb := found_len (kn + 1) rs (fun _ => true)
      have hlc := found_len kn rs (notB x)
      have HQ := Lib.hid hQ
      have HG := Lib.hid hgq
      have HQS := Lib.hid hqs
      have HNIL := Lib.hid hnil
      obtain ⟨La, hLa⟩ : ∃ L, L = foundR kn rs (fun _ => true) := ⟨_, rfl⟩
      obtain ⟨Lb, hLb⟩ : ∃ L, L = foundR (kn + 1) rs (fun _ => true) := ⟨_, rfl⟩
      obtain ⟨Lc, hLc⟩ : ∃ L, L = foundR kn rs (notB x) := ⟨_, rfl⟩
      rw [← hLa, ← hLb] at hbt
      rw [← hLa] at hla HMEM HFD
      rw [← hLb] at hlb HFO
      rw [← hLc] at hlc HFO
      have HBT := Lib.hid hbt
      have F1 := Lib.hid (fun W mayv hW (hm : MayIs W mayv (fun _ => true)) => HFA.out kn hk1 (by omega) W mayv (fun _ => true) hW hm)
      have F2 := Lib.hid (fun W mayv hW (hm : MayIs W mayv (fun _ => true)) => HFA.out (kn + 1) (by omega) (by omega) W mayv (fun _ => true) hW hm)
      have F3 := Lib.hid (fun W mayv hW (hm : MayIs W mayv (notB x)) => HFA.out kn hk1 (by omega) W mayv (notB x) hW hm)
      rw [← hLa] at F1
      rw [← hLb] at F2
      rw [← hLc] at F3
      have hcast : (((kn + 1 : Nat) : Int)) = (kn : Int) + 1 := by omega
      rw [hcast] at F2
      clear hQ hR hqs hrb hr hTR hra hgq hRA hgp hbt hLa hLb hLc hnil hcast HFA hrsl
      go_wp2_with fail
      refine HTR.out.mono ?_
      rintro e w4 ⟨rfl, hb4⟩
      have HB4 := Lib.hid hb4
      clear hb4
      go_wp2_with fail
      refine (F1.out w4 _ HB4.out (yes6m_may w4)).mono ?_
      rintro e w5 ⟨va, rfl, hpa, hb5⟩
      have HB5 := Lib.hid (HB4.out.trans (hb5.mono HB4.out.size))
      have HPA5 := Lib.hid hpa
      clear hpa hb5
      go_wp2_with fail
      refine (F2.out w5 _ HB5.out (yes6m_may w5)).mono ?_
      rintro e w6 ⟨vb, rfl, hpb, hb6⟩
      have HB6 := Lib.hid (HB5.out.trans (hb6.mono HB5.out.size))
      have HPA6 := Lib.hid (HPA5.out.later hb6)
      have HPB6 := Lib.hid hpb
      have HC6 := Lib.hid ((HB6.out.cell (p := ⟨B, 0, none⟩) hBs3).trans HC3.out)
      clear hpb hb6
      go_wp2_with fail
      refine (F3.out w6 _ HB6.out (not6m_may w6 B x HC6.out)).mono ?_
      rintro e w7 ⟨vc, rfl, hpc, hb7⟩
      have HB7 := Lib.hid (HB6.out.trans (hb7.mono HB6.out.size))
      have HPA7 := Lib.hid (HPA6.out.later hb7)
      have HPC7 := Lib.hid hpc
      have hpb7 := HPB6.out.later hb7
      have HC7 := Lib.hid ((HB7.out.cell (p := ⟨B, 0, none⟩) hBs3).trans HC3.out)
      have hBs7 : B < w7.heap.size := Nat.lt_of_lt_of_le hBs3 HB7.out.size
      have HPAD := HPA7.out
      obtain ⟨Aa, ca, rfl, hca, _, hPa⟩ := HPAD
      have hpb8 := hpb7
      obtain ⟨Ab, cb, rfl, hcb, _, hPb⟩ := hpb7
      have htk := hpb8.take La.length (by rw [← HBT.out, List.length_take]; omega)
      have hsm := same_any _ _ La (Lb.take La.length) w7 HPA7.out htk (by omega) (by rw [List.length_take]; omega)
      rw [HBT.out, decide_eq_true rfl] at hsm
      have hlab : La.length ≤ Lb.length := by rw [← HBT.out, List.length_take]; omega
      have HSM := Lib.hid hsm
      have HPB7 := Lib.hid hPb
      obtain ⟨la, hlaE⟩ : ∃ a, a = La.length := ⟨_, rfl⟩
      obtain ⟨lb, hlbE⟩ : ∃ a, a = Lb.length := ⟨_, rfl⟩
      have HLA := Lib.hid hlaE
      have HLB := Lib.hid hlbE
      rw [← hlaE] at HSM hca hla hlab ⊢
      rw [← hlbE] at hcb hlb hlab ⊢
      have hf1 : decide ((lb : Int) < (la : Int)) = false := decide_eq_false (by omega)
      have hf2 : decide (lb < la) = false := decide_eq_false (by omega)
      have hf3 : (la : Int) ≤ (cb : Int) := by omega
      have hf4 : (0 : Int) ≤ (la : Int) := by omega
      clear hpc hb7 hPb hpb8 htk hsm hlaE hlbE hPa
      go_wp2_with fail
      refine HSM.out.mono ?_
      rintro e w8 ⟨rfl, m8, hw8⟩
      have HB78 : Hid (Below w7.heap.size w7 w8) := Lib.hid (by rw [hw8]; exact below_drewN_p _ _)
      clear hw8
      go_wp2
      go_loopw [20, 21] (fun y z wr => ∃ (i : Nat) (vr : Value), y = vr ∧ z = .int .i64 i ∧ i ≤ lb ∧ PairRow wr w7.heap.size vr ((Lb.take i).filter (fun p => notB x p.1)) ∧ Below w7.heap.size w7 wr) (fun _ z _ => lb - (intOf z).toNat)
      case atStart => exact ⟨0, _, rfl, rfl, by omega, PairRow.nil_ _ _, HB78.out⟩
      case round =>
        obtain ⟨i, vr, hvr, rfl, hi, row, hb⟩ := hrel
        have hvr2 := hvr.symm
        subst hvr2
        by_cases hlt : i < lb
        · have hmi : (i : Int) < (lb : Int) := by omega
          have hil : i < Lb.length := by rw [← HLB.out]; exact hlt
          obtain ⟨bb, ob, rfl, hbb, q0, q1⟩ := HPB7.out.2 i hil
          have hfn := fil_next (x := x) hil
          obtain ⟨⟨d, sc⟩, hds⟩ : ∃ y, y = Lb[i] := ⟨_, rfl⟩
          rw [← hds] at q0 q1 hfn
          simp only at q0 q1 hfn
          have p0 := (hb.cell (p := ⟨bb, ob + i * 2, none⟩) hbb).trans q0
          have p1 := (hb.cell (p := ⟨bb, ob + i * 2 + 1, none⟩) hbb).trans q1
          have hx1 := (hb.cell (p := ⟨B, 0, none⟩) hBs7).trans HC7.out
          have HB := Lib.hid hb
          have hfl : ((Lb.take i).filter (fun p => notB x p.1)).length ≤ 1000 := by
            have := List.length_filter_le (fun p : Int × Int => notB x p.1) (Lb.take i)
            rw [List.length_take] at this
            omega
          obtain ⟨R, hR⟩ : ∃ R, R = (Lb.take i).filter (fun p => notB x p.1) := ⟨_, rfl⟩
          rw [← hR] at row hfn hfl
          have HROW := Lib.hid row
          have HFN := Lib.hid hfn
          have hw7r : w7.heap.size ≤ wr.heap.size := hb.size
          by_cases hdx : d = x
          · have hne : (d != x) = false := by simpa using hdx
            have HR2 : Hid (PairRow (wr.drewN 1) w7.heap.size vr ((Lb.take (i + 1)).filter (fun p => notB x p.1))) := Lib.hid (by
              rw [HFN.out, if_neg (by unfold notB; simp [hdx]), List.append_nil]
              exact HROW.out.later (below_drewN_p _ _))
            clear row hfn hb hds q0 q1 hR hdx
            go_wp2
            go_quiet (fail)
            go_wp2
            go_roundw
            case rel => exact ⟨i + 1, vr, rfl, by go_num, by omega, by first | exact HR2.out | exact HR2.out.later (below_drewN_p _ _), HB.out.trans ((below_drewN_p _ _).mono HB.out.size)⟩
            case measure => simp [intOf]; omega
          · have hne : (d != x) = true := by simpa using hdx
            have HF2 : Hid ((Lb.take (i + 1)).filter (fun p => notB x p.1) = R ++ [(d, sc)]) := Lib.hid (by
              rw [HFN.out, if_pos (by unfold notB; simp [hdx])])
            clear row hfn hb hds q0 q1 hR hdx
            go_wp2
            go_quiet (fail)
            obtain ⟨w9, hw9⟩ : ∃ y, y = wr.drewN nq := ⟨_, rfl⟩
            have HB9 : Hid (Below wr.heap.size wr w9) := Lib.hid (by rw [hw9]; exact below_drewN_p _ _)
            have t0 := (HB9.out.cell (p := ⟨bb, ob + i * 2, none⟩) (Nat.lt_of_lt_of_le hbb hw7r)).trans p0
            have t1 := (HB9.out.cell (p := ⟨bb, ob + i * 2 + 1, none⟩) (Nat.lt_of_lt_of_le hbb hw7r)).trans p1
            rw [← hw9]
            have hbk := heap_alloc_new w9 (.cells #[.int .i64 d, .int .i64 sc] 54)
            have e0 := Lib.hid (cell_of_cells (i := 0) hbk rfl)
            have e1 := Lib.hid (cell_of_cells (i := 1) hbk rfl)
            have HRW := Lib.hid ((HROW.out.later HB9.out).later (pl1 w9 (.cells #[.int .i64 d, .int .i64 sc] 54)))
            have HBA : Hid (Below w7.heap.size w7 (w9.alloc (.cells #[.int .i64 d, .int .i64 sc] 54))) := Lib.hid ((HB.out.trans (HB9.out.mono HB.out.size)).trans ((pl1 w9 _).mono (Nat.le_trans HB.out.size HB9.out.size)))
            have hsz9 : w7.heap.size ≤ (w9.alloc (.cells #[.int .i64 d, .int .i64 sc] 54)).heap.size := HBA.out.size
            clear hbk hw9 p0 p1 hx1
            go_wp2_with (at_builtin; refine wpList_append_pair rfl _ _ rfl w7.heap.size _ _ rfl HRW.out w9.heap.size 1 (d, sc) rfl e0.out e1.out hsz9 (by omega) ?_; intro v' wA hown' hgA)
            have HF : Hid (PairRow wA w7.heap.size v' ((Lb.take (i + 1)).filter (fun p => notB x p.1)) ∧ Below w7.heap.size w7 wA) := Lib.hid (by
              refine ⟨by rw [HF2.out]; exact hown', ?_⟩
              exact HBA.out.grown hgA HBA.out.size (fun q hq => (World.ownsRow.lt HRW.out q hq).1))
            clear hown' hgA
            go_roundw
            case rel => exact ⟨i + 1, v', rfl, by go_num, by omega, HF.out.1, HF.out.2⟩
            case measure => simp [intOf]; omega
        · have hmi : ¬ (i : Int) < (lb : Int) := by omega
          have hfull : Lb.take i = Lb := List.take_of_length_le (by rw [← HLB.out]; omega)
          rw [hfull] at row
          obtain ⟨R, hR⟩ : ∃ R, R = Lb.filter (fun p => notB x p.1) := ⟨_, rfl⟩
          have hRl : R.length ≤ 1000 := by
            have := List.length_filter_le (fun p : Int × Int => notB x p.1) Lb
            rw [← hR] at this
            have h2 := HLB.out
            omega
          rw [← hR] at row
          have hprd := row.prd
          have hprd2 := hprd
          obtain ⟨Ar, cr, rfl, hcr⟩ := hprd.form
          obtain ⟨M, hM⟩ : ∃ M, M = min R.length kn := ⟨_, rfl⟩
          have htk := hprd2.take M (by omega)
          have hLc : R.take M = Lc := by
            have h1 := HFO.out
            rw [← hR] at h1
            rw [h1, hM]
            by_cases c : R.length ≤ kn
            · rw [Nat.min_eq_left c, List.take_of_length_le (Nat.le_refl _), List.take_of_length_le c]
            · rw [Nat.min_eq_right (by omega)]
          rw [hLc] at htk
          have hsm := same_any vc _ Lc Lc wr (HPC7.out.later hb) htk (by omega) (by omega)
          rw [decide_eq_true rfl] at hsm
          have HSM2 := Lib.hid hsm
          have HBR := Lib.hid hb
          obtain ⟨r, hr⟩ : ∃ r, r = R.length := ⟨_, rfl⟩
          rw [← hr] at hcr hM hRl ⊢
          have hm1 : (if (kn : Int) < (r : Int) then (kn : Int) else (r : Int)) = (M : Int) := by
            by_cases c : (kn : Int) < (r : Int)
            · rw [if_pos c]; omega
            · rw [if_neg c]; omega
          have hm2 : (0 : Int) ≤ (M : Int) := by omega
          have hm3 : (M : Int) ≤ (cr : Int) := by omega
          have hm4 : min (r : Int) (kn : Int) = (M : Int) := by omega
          clear row hfull hprd hprd2 htk hLc hsm hb hR hr hM
          go_wp2_with fail
          refine HSM2.out.mono ?_
          rintro e wS ⟨rfl, mS, hwS⟩
          have HBS : Hid (Below w7.heap.size w7 wS) := Lib.hid (by rw [hwS]; exact HBR.out.trans ((below_drewN_p _ _).mono HBR.out.size))
          have HS3 := Lib.hid (HB7.out.trans (HBS.out.mono HB7.out.size))
          clear hwS
          have hown0 : (wS.alloc (.cells #[] 57)).ownsRow wS.heap.size 57 2 (.slice (some ⟨wS.heap.size, 0, none⟩) 0 0) ([] : List (Nat × List (Int × Int) × Int)).length (([] : List (Nat × List (Int × Int) × Int)).flatMap fun x => [pV x, wV x]) :=
            ⟨rfl, .inr ⟨wS.heap.size, 0, #[], rfl, Nat.le_refl _, heap_alloc_new wS _, Nat.le_refl _, by simp [maxLen], rfl, rfl⟩⟩
          have HOWN0 := Lib.hid hown0
          have hsrc : ∀ k (hk : k < qs.length), ∃ b o, A1 = some ⟨b, o, none⟩ ∧ (wS.alloc (.cells #[] 57)).cell? ⟨b, o + k * 2, none⟩ = some (pV qs[k]) ∧ (wS.alloc (.cells #[] 57)).cell? ⟨b, o + k * 2 + 1, none⟩ = some (wV qs[k]) := fun k hk => by
            obtain ⟨b, o, e, _, h0, h1, _⟩ := (HQ.out.later (HS3.out.trans ((pl1 wS (.cells #[] 57)).mono HS3.out.size))).2 k hk
            exact ⟨b, o, e, h0, h1⟩
          have HSRC := Lib.hid hsrc
          have hbs : wS.heap.size ≤ (wS.alloc (.cells #[] 57)).heap.size := (pl1 _ _).size
          have hql := HQ.out.1
          clear hown0 hsrc
          go_wp2_with (at_builtin; refine wpList_append_src2 pV wV rfl _ _ 26 57 rfl Tryz.underlying26 i0 _ 16 hinf hz0 hz1 hz2 rfl (by omega) wS.heap.size _ [] rfl HOWN0.out hbs A1 n c1 qs rfl hql HNIL.out (by simp; omega) HSRC.out (fun y _ => ⟨rfl, rfl⟩) ?_; intro vt wT hownT hgT hnT)
          have hownT2 : wT.ownsRow wS.heap.size 57 2 vt n ((twQ qs 0).flatMap fun x => [pV x, wV x]) := by
            rw [twQ_zero]
            simpa using hownT
          have HBT : Hid (Below wS.heap.size wS wT) := Lib.hid ((pl1 wS _).grown hgT hbs (fun q hq => by
            have e : wS.heap.size = q := Option.some.inj hq
            omega))
          obtain ⟨g, ct, hvt, hct⟩ : ∃ g ct, vt = .slice (some ⟨g, 0, none⟩) n ct ∧ wS.heap.size ≤ g := by
            rcases hownT2.2 with ⟨e, _⟩ | ⟨g, cap, cur, e, hbg, _⟩
            · have := hnT e
              cases this
            · exact ⟨g, cap, e, hbg⟩
          subst hvt
          have HOT := Lib.hid hownT2
          clear hownT hgT hnT hownT2
          go_wp2
          go_loopw [23] (fun y wr => ∃ i : Nat, y = .int .i64 i ∧ i ≤ n ∧ wr.ownsRow wS.heap.size 57 2 (.slice (some ⟨g, 0, none⟩) n ct) n ((twQ qs i).flatMap fun x => [pV x, wV x]) ∧ (∀ y ∈ qs.take i, y.2.2 ≤ 30000) ∧ Below wS.heap.size wS wr) (fun y _ => n - (intOf y).toNat)
          case atStart => exact ⟨0, rfl, by omega, HOT.out, fun y hy => by simp at hy, HBT.out⟩
          case round =>
            obtain ⟨i, rfl, hi, hown, hlow, hb⟩ := hrel
            have HOWN := Lib.hid hown
            have HB := Lib.hid hb
            have HLOW := Lib.hid hlow
            by_cases hlt : i < n
            · have hmi : (i : Int) < (n : Int) := by omega
              have hil : i < qs.length := by rw [hql]; exact hlt
              obtain ⟨A', cap', e', _, _, hcells⟩ := owns2_cells pV wV hown (by rw [twQ_len]; exact hql)
              injection e' with e1 e2 e3
              subst e1
              obtain ⟨b', e'', _, _, _, hc1⟩ := hcells i (by rw [twQ_len]; exact hil)
              injection e'' with e''
              injection e'' with e4 _ _
              subst e4
              rw [twQ_at hil] at hc1
              have hfz : wr.frozen? ⟨g, i * 2 + 1, none⟩ = false := by
                rcases hown.2 with ⟨e, _⟩ | ⟨g', cap, cur, e, _, hgg, _⟩
                · cases e
                · injection e with e
                  injection e with e
                  injection e with e
                  subst e
                  exact frozen_of_cells hgg
              have hgw := HG.out _ (List.getElem_mem hil)
              have hw1 := hgw.w1
              have hw2 := hgw.w2
              have hset := owns2_set pV wV hown i (dblQ qs[i]) (by rw [twQ_len]; exact hil) (by rw [twQ_at hil]; rfl)
              rw [twQ_next hil] at hset
              have hws : wS.heap.size ≤ wr.heap.size := hb.size
              have hlow2 : qs[i].2.2 ≤ 30000 → ∀ y ∈ qs.take (i + 1), y.2.2 ≤ 30000 := fun hh y hy => by
                rw [List.take_succ_eq_append_getElem hil] at hy
                rcases List.mem_append.1 hy with hy | hy
                · exact hlow y hy
                · obtain rfl : y = qs[i] := by simpa using hy
                  exact hh
              unfold wV dblQ at hset
              unfold wV at hc1
              obtain ⟨wt, hwt⟩ : ∃ t, t = qs[i].2.2 := ⟨_, rfl⟩
              rw [← hwt] at hc1 hw1 hw2 hlow2
              simp only at hset
              rw [← hwt] at hset
              obtain ⟨N, hN⟩ : ∃ t, t = 2 * wt := ⟨_, rfl⟩
              rw [← hN] at hset
              have HSET := Lib.hid hset
              have HL2 := Lib.hid hlow2
              have hN1 : 2 * wt = N := hN.symm
              have hN2 : N ≤ 131070 := by omega
              have hN3 : 2 ≤ N := by omega
              have HBS2 : Hid (Below wS.heap.size wS (wr.setCell ⟨g, i * 2 + 1, none⟩ (.int .i64 N))) := Lib.hid (hb.grown (only_set (World.grownBy.refl wr (some g)) _ _) hws (fun q hq => by
                have e : g = q := Option.some.inj hq
                omega))
              clear hown hlow hcells hgw hset hlow2 hwt hN hb
              by_cases h3 : 30000 < wt
              · have dd : decide ((30000 : Int) < wt) = true := decide_eq_true h3
                go_wp2
                go_ret
                exact ⟨rfl, HB3.out.trans ((HS3.out.trans (HB.out.mono HS3.out.size)).mono HB3.out.size)⟩
              · have dd : decide ((30000 : Int) < wt) = false := decide_eq_false h3
                go_wp2
                go_roundw
                case rel => exact ⟨i + 1, by go_num, by omega, HSET.out, HL2.out (by omega), HBS2.out⟩
                case measure => simp [intOf]; omega
            · have hmi : ¬ (i : Int) < (n : Int) := by omega
              obtain rfl : i = n := by omega
              have hQ2 : QAt wr (some ⟨g, 0, none⟩) i (qs.map dblQ) := by
                refine ⟨by rw [List.length_map]; exact hql, fun k hk => ?_⟩
                have hk2 : k < qs.length := by rw [List.length_map] at hk; exact hk
                rw [twQ_all qs i (by omega)] at hown
                obtain ⟨A', cap', e', _, _, hcells⟩ := owns2_cells pV wV hown (by rw [List.length_map]; exact hql)
                injection e' with e1 e2 e3
                subst e1
                obtain ⟨b', e'', _, hbl, hc0, hc1⟩ := hcells k hk
                refine ⟨b', 0, e'', hbl, by rw [Nat.zero_add]; exact hc0, by rw [Nat.zero_add]; exact hc1, ?_⟩
                obtain ⟨_, _, _, _, _, _, hpl⟩ := (HQ.out.later (HS3.out.trans (hb.mono HS3.out.size))).2 k hk2
                rw [List.getElem_map]
                exact hpl
              have hG2 : ∀ y ∈ qs.map dblQ, GoodQ y := fun y hy => by
                obtain ⟨z, hz, rfl⟩ := List.mem_map.1 hy
                have g := HG.out z hz
                have := hlow z (by rw [List.take_of_length_le (by omega)]; exact hz)
                exact ⟨g.right, g.len, by have := g.w1; show 1 ≤ 2 * z.2.2; omega, by show 2 * z.2.2 ≤ 65535; omega⟩
              have hF := find6_ok (cp := ct) (k := kn) (wi := wi) (may := fun _ => true) (mayv := .func (.func 19) #[] #[]) wr wr hQ2 (Below.refl _ _) hG2 hn64 hk1 (by omega) (yes6m_may wr) HW.out
              rw [dblQ_map, HQS.out, HFD.out] at hF
              have HFF := Lib.hid hF
              have HBR2 := Lib.hid (HS3.out.trans (hb.mono HS3.out.size))
              have HPAR := Lib.hid (HPA7.out.later (HBS.out.trans (hb.mono HBS.out.size)))
              clear hown hlow hb hQ2 hG2 hF
              go_wp2_with fail
              refine HFF.out.mono ?_
              rintro e wD ⟨vd, rfl, hpd, hbd⟩
              have HBD := Lib.hid (HBR2.out.trans (hbd.mono HBR2.out.size))
              have hpa := HPAR.out.later hbd
              obtain ⟨Ad, cd, rfl, hcd, _, hPd⟩ := hpd
              obtain ⟨A'', ca'', e5, _, _, hPa⟩ := hpa
              injection e5 with e6 e7 e8
              subst e6
              rw [List.length_map] at hcd hPd ⊢
              rw [← HLA.out] at hcd hPd ⊢
              rw [← HLA.out] at hPa
              have HPD := Lib.hid hPd
              have HPA := Lib.hid hPa
              clear hbd hPd hPa e7 e8
              go_wp2
              go_loopw [26] (fun y wr => ∃ i : Nat, y = .int .i64 i ∧ i ≤ la ∧ Below wD.heap.size wD wr) (fun y _ => la - (intOf y).toNat)
              case atStart => exact ⟨0, rfl, by omega, Below.refl _ _⟩
              case round =>
                obtain ⟨i, rfl, hi, hb⟩ := hrel
                have HB := Lib.hid hb
                by_cases hlt : i < la
                · have hmi2 : (i : Int) < (la : Int) := by omega
                  have hil : i < La.length := by rw [← HLA.out]; exact hlt
                  obtain ⟨ba, oa, rfl, hba, q0, q1⟩ := HPA.out.2 i hil
                  obtain ⟨bd, od, rfl, hbd, r0, r1⟩ := HPD.out.2 i (by rw [List.length_map]; exact hil)
                  rw [List.getElem_map] at r0 r1
                  obtain ⟨_, hsc⟩ := HMEM.out _ (List.getElem_mem hil)
                  have hbnd := HSB.out La[i].1
                  rw [← hsc] at hbnd
                  unfold dbl at r0 r1
                  obtain ⟨⟨d, sc⟩, hds⟩ : ∃ y, y = La[i] := ⟨_, rfl⟩
                  rw [← hds] at q0 q1 r0 r1 hbnd
                  simp only at q0 q1 r0 r1 hbnd
                  obtain ⟨N, hN⟩ : ∃ y, y = 2 * sc := ⟨_, rfl⟩
                  rw [← hN] at r1
                  have hN1 : 2 * sc = N := hN.symm
                  have hN2 : 0 ≤ N := by omega
                  have hN3 : N ≤ 549739036800 := by omega
                  have p0 := (hb.cell (p := ⟨ba, oa + i * 2, none⟩) hba).trans q0
                  have p1 := (hb.cell (p := ⟨ba, oa + i * 2 + 1, none⟩) hba).trans q1
                  have s0 := (hb.cell (p := ⟨bd, od + i * 2, none⟩) hbd).trans r0
                  have s1 := (hb.cell (p := ⟨bd, od + i * 2 + 1, none⟩) hbd).trans r1
                  have hne : (d != d) = false := by simp
                  have hne2 : (N != N) = false := by simp
                  have hwr : IntKind.i64.wrap N = N := by rw [IntKind.wrap_i64]; omega
                  clear hb hsc hbnd hds hN q0 q1 r0 r1
                  go_wp2
                  go_quiet (fail)
                  go_wp2
                  go_roundw
                  case rel => exact ⟨i + 1, by go_num, by omega, HB.out.trans ((below_drewN_p _ _).mono HB.out.size)⟩
                  case measure => simp [intOf]; omega
                · have hmi2 : ¬ (i : Int) < (la : Int) := by omega
                  have HBZ := Lib.hid (HBD.out.trans (hb.mono HBD.out.size))
                  clear hb
                  go_wp2
                  go_ret
                  exact ⟨rfl, HB3.out.trans (HBZ.out.mono HB3.out.size)⟩
end Go.Proofs.YtpinpnbhbngclaaGreat

namespace Go.Proofs.YtpinpnbhbngclaaGreat
open Go.ChangeShapes Go.WideShapes Go.ChangeAt Go.RowKit

set_option maxRecDepth 100000 in
theorem traversemore_lifted (os : Os) (started : os.Started) (H : Type) (enc : TypeId × Value → H) :
    ReturnsInHanded {} Tryz.checked os 5 .any (Rows.traverseMoreSpec.pre6 enc Tryz.prog Tryz.f5 Rows.traverseMoreRow.domain false) (Rows.traverseMoreSpec.post enc Tryz.prog Tryz.f5 false true false false) := by
  refine returnsInHanded_of_change_sized (C := Tryz.checked) knob started (by kernel_rfl) Tryz.func5
    (ChangeSpec.witness6 (enc := enc) (C := Tryz.checked) false ⟨#[], #[.slice none 0 0, .int .i64 0, .int .i64 0, .int .i64 0], []⟩ 8 (by kernel_rfl) (by kernel_rfl) (by kernel_rfl) (by kernel_rfl)) ?_
  intro W base args ds gs before hval0 hW hcnd hsz0 _
  have hval : ∀ (j : Nat) t v, Tryz.f5.params[j]? = some t → args[j]? = some v → Value.okWide Tryz.prog W .any base t v := hval0
  have hsz : (DataW.weightsEach Tryz.prog (Tryz.f5.params.toList ++ Rows.traverseMoreSpec.plain.varTypes Tryz.prog) (ds ++ gs)).all (· ≤ reachBytes) = true := hsz0
  have hW' := hW
  obtain ⟨p, q, hA0, hV, rfl, hfz, hnd⟩ := hW
  have hA : DataW.TrodAll enc Tryz.prog W 0 (fun _ => true) true Tryz.f5.params.toList args.toList ds p := hA0
  rw [Tryz.params5] at hA hval hsz
  obtain ⟨v0, vs0, d0, ds0, p0, q0, hargs, rfl, rfl, h0, r0⟩ := trodAll_cons hA
  obtain ⟨v1, vs1, d1, ds1, p1, q1, rfl, rfl, rfl, h1, r1⟩ := trodAll_cons r0
  obtain ⟨v2, vs2, d2, ds2, p2, q2, rfl, rfl, rfl, h2, r2⟩ := trodAll_cons r1
  obtain ⟨v3, vs3, d3, ds3, p3, q3, rfl, rfl, rfl, h3, r3⟩ := trodAll_cons r2
  obtain ⟨rfl, rfl, rfl⟩ := trodAll_nil r3
  obtain rfl : args = #[v0, v1, v2, v3] := by cases args; simp_all
  obtain ⟨rfl, rfl⟩ := trodVars_none hV
  obtain ⟨A, n, cp, rs, rfl, hR, hz⟩ := parts_of_trod (hval 0 22 v0 rfl rfl) h0
  obtain ⟨k, rfl, rfl, rfl, wk⟩ := open_int Tryz.underlying3 (hval 1 3 v1 rfl rfl) h1
  obtain ⟨x, rfl, rfl, rfl, wx⟩ := open_int Tryz.underlying3 (hval 2 3 v2 rfl rfl) h2
  obtain ⟨wi, rfl, rfl, rfl, ww⟩ := open_int Tryz.underlying3 (hval 3 3 v3 rfl rfl) h3
  have hsh := parts_short hsz (j := 0) rfl rfl hz
  have walk : Calls Tryz.prog 5 #[.slice A n cp, .int .i64 k, .int .i64 x, .int .i64 wi] W fun e w' => e = .returned (.bool true) ∧ Below W.heap.size W w' := by
    by_cases hc : few6 rs = true ∧ 1 ≤ k ∧ k < 1000 ∧ 0 ≤ wi ∧ wi ≤ 3
    · obtain ⟨kn, rfl⟩ : ∃ kn : Nat, k = kn := ⟨k.toNat, by omega⟩
      exact tmore_main A n cp kn x wi rs W hR (by omega) (by omega) (by omega) hc.1
    · exact tmore_out A n cp k x wi rs W hR hsh hc
  refine walk.mono fun e W' ⟨he, hg⟩ => ?_
  subst he
  exact ⟨_, rfl, law_post (s := Rows.traverseMoreSpec) hW' rfl rfl rfl rfl (by kernel_rfl) (by kernel_rfl) hg⟩

theorem traversemore_holds : Rows.TraverseMoreSaid :=
  OpenClaim.holds_of_wide 5 Tryz.f5 rfl rfl rfl rfl rfl rfl rfl ⟨rfl, rfl, rfl, rfl, rfl⟩ rfl rfl rfl rfl rfl (by kernel_rfl) Tryz.func5 (by kernel_rfl)
    (of_decide_eq_true (by kernel_rfl)) (by unfold Func.isWrapper; first | (rw [if_pos (by decide +kernel)]; kernel_rfl) | (rw [if_neg (by decide +kernel)]; exact ⟨rfl, rfl⟩))
    (fun os started H enc _ => traversemore_lifted os started H enc)
end Go.Proofs.YtpinpnbhbngclaaGreat
