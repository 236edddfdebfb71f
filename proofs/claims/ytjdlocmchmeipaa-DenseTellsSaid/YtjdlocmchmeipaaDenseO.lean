
/- DenseTells, walked. -/
import Derived.Test.YtjdlocmchmeipaaDenseM
namespace Go.Proofs.Ytjdlocmchmeipaa
open Go.RowKit

set_option maxHeartbeats 4000000 in
set_option maxRecDepth 100000 in
theorem tells7_out (x k : Int) (A1 A2 A3 A4 : Option Addr) (n1 n2 n3 n4 c1 c2 c3 c4 : Nat) (l : List (Int × List Int)) (w : World) (h3 : Rws w A3 n3 l) (h : ¬ (n1 ≤ 20 ∧ n2 ≤ 20 ∧ fewB l = true ∧ n4 ≤ 40)) :
    Calls Try.prog 3 #[.int .i64 x, .slice A1 n1 c1, .slice A2 n2 c2, .slice A3 n3 c3, .int .i64 k, .slice A4 n4 c4] w fun e w' => e = .returned (.bool true) ∧ Below w.heap.size w w' := by
  have HA := Lib.hid (awake7_any w)
  have HF := Lib.hid (fun W (hW : Below w.heap.size w W) => few_any A3 n3 c3 l W (h3.later hW))
  obtain ⟨fb, hfb⟩ : ∃ b, b = fewB l := ⟨_, rfl⟩
  rw [← hfb] at HF h
  clear h3 hfb
  by_cases g1 : 20 < n1
  · have d1 : decide ((20 : Int) < (n1 : Int)) = true := decide_eq_true (by omega)
    go_enter Try.func3, Try.ntmps3
    go_wp2_with fail
    refine HA.out.mono ?_
    rintro e w1 ⟨rfl, hb⟩
    go_wp2
    go_ret
    exact ⟨rfl, hb⟩
  · have d1 : decide ((20 : Int) < (n1 : Int)) = false := decide_eq_false (by omega)
    by_cases g2 : 20 < n2
    · have d2 : decide ((20 : Int) < (n2 : Int)) = true := decide_eq_true (by omega)
      go_enter Try.func3, Try.ntmps3
      go_wp2_with fail
      refine HA.out.mono ?_
      rintro e w1 ⟨rfl, hb⟩
      go_wp2
      go_ret
      exact ⟨rfl, hb⟩
    · have d2 : decide ((20 : Int) < (n2 : Int)) = false := decide_eq_false (by omega)
      cases fb with
      | false =>
        clear h
        go_enter Try.func3, Try.ntmps3
        go_wp2_with fail
        refine HA.out.mono ?_
        rintro e w1 ⟨rfl, hb⟩
        have HB := Lib.hid hb
        clear hb
        go_wp2_with fail
        refine (HF.out _ HB.out).mono ?_
        rintro e w2 ⟨rfl, rfl⟩
        go_wp2
        go_ret
        exact ⟨rfl, HB.out⟩
      | true =>
        have g4 : 40 < n4 := by
          by_cases c : 40 < n4
          · exact c
          · exact absurd ⟨by omega, by omega, rfl, by omega⟩ h
        have d4 : decide ((40 : Int) < (n4 : Int)) = true := decide_eq_true (by omega)
        clear h
        go_enter Try.func3, Try.ntmps3
        go_wp2_with fail
        refine HA.out.mono ?_
        rintro e w1 ⟨rfl, hb⟩
        have HB := Lib.hid hb
        clear hb
        go_wp2_with fail
        refine (HF.out _ HB.out).mono ?_
        rintro e w2 ⟨rfl, rfl⟩
        go_wp2
        go_ret
        exact ⟨rfl, HB.out⟩
theorem few_parts {l : List (Int × List Int)} (h : fewB l = true) : l.length ≤ 100 ∧ ∀ r ∈ l, r.2.length ≤ 20 := by
  unfold fewB at h
  rw [Bool.and_eq_true, decide_eq_true_eq, List.all_eq_true] at h
  exact ⟨h.1, fun r hr => by simpa using h.2 r hr⟩
set_option maxHeartbeats 4000000 in
set_option maxRecDepth 100000 in
theorem tells7_main (x k : Int) (A1 A2 A3 A4 : Option Addr) (n1 n2 n3 n4 c1 c2 c3 c4 : Nat) (q v nl : List Int) (l : List (Int × List Int)) (w : World) (h1 : Ivs w A1 n1 q) (h2 : Ivs w A2 n2 v) (h3 : Rws w A3 n3 l) (h4 : Ivs w A4 n4 nl) (g1 : n1 ≤ 20) (g2 : n2 ≤ 20) (g3 : fewB l = true) (g4 : n4 ≤ 40) :
    Calls Try.prog 3 #[.int .i64 x, .slice A1 n1 c1, .slice A2 n2 c2, .slice A3 n3 c3, .int .i64 k, .slice A4 n4 c4] w fun e w' => e = .returned (.bool true) ∧ Below w.heap.size w w' := by
  have hfp := few_parts g3
  have hn3 : n3 ≤ 100 := by rw [← h3.1]; exact hfp.1
  have HA := Lib.hid (awake7_any w)
  have HFW := Lib.hid (fun W (hW : Below w.heap.size w W) => few_any A3 n3 c3 l W (h3.later hW))
  rw [g3] at HFW
  have S1 := Lib.hid (fun W (hW : Below w.heap.size w W) => dscore_any x A1 A2 n1 n2 c1 c2 q v W (h1.later hW) (h2.later hW))
  have S2 := Lib.hid (fun W (hW : Below w.heap.size w W) => refscore7_any x A1 A2 n1 n2 c1 c2 q v W (h1.later hW) (h2.later hW) (by omega) (by omega))
  have BU := Lib.hid (fun W (hW : Below w.heap.size w W) => but_any A4 n4 c4 nl W (h4.later hW) (by omega))
  have F1 := Lib.hid (fun W mayv (hW : Below w.heap.size w W) (hm : MayIs W mayv (butB nl)) => dfind_any W x k A1 A3 n1 n3 c1 c3 q l mayv (butB nl) (h1.later hW) (h3.later hW) (by omega) hm)
  have OF := Lib.hid (fun W (hW : Below w.heap.size w W) => of_any A3 n3 c3 l W (h3.later hW) (by omega))
  have F2 := Lib.hid (fun W A5 c5 (hW : Below w.heap.size w W) (hr : Rws W A5 n3 l) => reffind7_any x k A1 A5 A4 n1 n3 n4 c1 c5 c4 q nl l W (h1.later hW) hr (h4.later hW) (by omega) (by omega) (by omega) (fun r hr => by have := hfp.2 r hr; omega))
  have R1 := Lib.hid (fun W (hW : Below w.heap.size w W) => dright_any A2 n2 c2 v W (h2.later hW))
  have R2 := Lib.hid (fun W (hW : Below w.heap.size w W) => refright7_any A2 n2 c2 v W (h2.later hW) (by omega))
  have hlen : (TopM.best k.toNat (fA x q l k (butB nl))).length ≤ 100 := by
    rw [TopM.best_len]
    unfold fA
    split
    · have := vis_len ((mOf x).getD false) q (butB nl) l
      have := hfp.1
      omega
    · simp
  obtain ⟨sv1, hsv1⟩ : ∃ s, s = scV x q v := ⟨_, rfl⟩
  obtain ⟨se1, hse1⟩ : ∃ s, s = scE x q v := ⟨_, rfl⟩
  obtain ⟨fe, hfe⟩ : ∃ s, s = fE x q l k := ⟨_, rfl⟩
  obtain ⟨fl, hfl⟩ : ∃ s, s = TopM.best k.toNat (fA x q l k (butB nl)) := ⟨_, rfl⟩
  obtain ⟨vv, hvv⟩ : ∃ s, s = DenM.vec v := ⟨_, rfl⟩
  rw [← hsv1, ← hse1] at S1 S2
  rw [← hfe, ← hfl] at F1 F2
  rw [← hvv] at R1 R2
  rw [← hfl] at hlen
  have SM := Lib.hid (fun W v1 v2 (p1 : Prd W v1 fl) (p2 : Prd W v2 fl) => same_any v1 v2 fl fl W p1 p2 (by omega) (by omega))
  rw [decide_eq_true rfl] at SM
  have d1 : decide ((20 : Int) < (n1 : Int)) = false := decide_eq_false (by omega)
  have d2 : decide ((20 : Int) < (n2 : Int)) = false := decide_eq_false (by omega)
  have d4 : decide ((40 : Int) < (n4 : Int)) = false := decide_eq_false (by omega)
  clear h1 h2 h3 h4 hsv1 hse1 hfe hfl hvv hfp hlen g3
  go_enter Try.func3, Try.ntmps3
  go_wp2_with fail
  refine HA.out.mono ?_
  rintro e w1 ⟨rfl, hb⟩
  have HB := Lib.hid hb
  clear hb
  go_wp2_with fail
  refine (HFW.out _ HB.out).mono ?_
  rintro e w2 ⟨rfl, rfl⟩
  go_wp2_with fail
  refine (S1.out _ HB.out).mono ?_
  rintro e w3 ⟨rfl, hb⟩
  have HB3 := Lib.hid (HB.out.trans (hb.mono HB.out.size))
  clear hb
  go_wp2_with fail
  refine (S2.out _ HB3.out).mono ?_
  rintro e w4 ⟨rfl, hb⟩
  have HB4 := Lib.hid (HB3.out.trans (hb.mono HB3.out.size))
  clear hb
  go_wp2_with fail
  refine (BU.out _ HB4.out).mono ?_
  rintro e w5 ⟨mayv, rfl, hm, hb⟩
  have HB5 := Lib.hid (HB4.out.trans (hb.mono HB4.out.size))
  have HM := Lib.hid hm
  clear hb hm
  go_wp2_with fail
  refine (F1.out _ mayv HB5.out HM.out).mono ?_
  rintro e w6 ⟨v1, rfl, hp1, hb⟩
  have HB6 := Lib.hid (HB5.out.trans (hb.mono HB5.out.size))
  have HP1 := Lib.hid hp1
  clear hb hp1
  go_wp2_with fail
  refine (OF.out _ HB6.out).mono ?_
  rintro e w7 ⟨A5, c5, rfl, hr5, hb⟩
  have HB7 := Lib.hid (HB6.out.trans (hb.mono HB6.out.size))
  have HP2 := Lib.hid (HP1.out.later hb)
  have HR5 := Lib.hid hr5
  clear hb hr5
  go_wp2_with fail
  refine (F2.out _ A5 c5 HB7.out HR5.out).mono ?_
  rintro e w8 ⟨v2, rfl, hp3, hb⟩
  have HB8 := Lib.hid (HB7.out.trans (hb.mono HB7.out.size))
  have HP3 := Lib.hid (HP2.out.later hb)
  have HP4 := Lib.hid hp3
  clear hb hp3
  go_wp2_with fail
  refine (SM.out _ v1 v2 HP3.out HP4.out).mono ?_
  rintro e w9 ⟨rfl, nd, hnd⟩
  have HB9 : Hid (Below w.heap.size w w9) := Lib.hid (by rw [hnd]; exact HB8.out.trans ((below_drewN_p _ _).mono HB8.out.size))
  clear hnd
  go_wp2_with fail
  refine (R1.out _ HB9.out).mono ?_
  rintro e w10 ⟨rfl, rfl⟩
  go_wp2_with fail
  refine (R2.out _ HB9.out).mono ?_
  rintro e w10 ⟨rfl, hw⟩
  have hw2 := hw.symm
  subst hw2
  cases vv with
  | false =>
    go_wp2
    go_ret
    exact ⟨rfl, HB9.out⟩
  | true =>
    go_wp2
    go_ret
    exact ⟨rfl, HB9.out⟩
end Go.Proofs.Ytjdlocmchmeipaa
