
/- exact: Sum of right rationals. -/
import Derived.Test.YthkcpaanegjodaaExactJ
import Derived.Deep.DeepCutAuto
namespace Go.Proofs.Ythkcpaanegjodaa
open Go.RowKit

theorem hid_size {U X : World} (h : Hid (Below U.heap.size U X)) : U.heap.size ≤ X.heap.size := h.out.size
set_option maxHeartbeats 4000000 in
set_option maxRecDepth 100000 in
theorem sum_walk (n1 n2 : Int) (D1 D2 N1 N2 g e1 e2 t1 t0 r s f : Nat) (s1 s2 S fb1 fb2 : Bool) (px py po pd : Value) (fv1 fv2 : Int) (w : World)
    (l1 : D1 ≤ 9223372036854775807) (l2 : D2 ≤ 9223372036854775807) (g0 : 0 < g) (gl : g ≤ 9223372036854775807) (s0 : 0 < s) (q1 : (D1 : Int) / (g : Int) = (e1 : Int)) (q2 : (D2 : Int) / (g : Int) = (e2 : Int)) (q3 : (D2 : Int) / (s : Int) = (f : Int))
    (be1 : e1 ≤ 9223372036854775807) (be2 : e2 ≤ 9223372036854775807) (bf : f ≤ 9223372036854775807)
    (d1 : decide (n1 < 0) = s1) (d2 : decide (n2 < 0) = s2)
    (hR1 : ∀ w, Calls Try.prog 22 #[.agg #[.int .i64 n1, .int .i64 (D1 : Int)]] w fun e w' => e = .returned (.bool true) ∧ Below w.heap.size w w')
    (hR2 : ∀ w, Calls Try.prog 22 #[.agg #[.int .i64 n2, .int .i64 (D2 : Int)]] w fun e w' => e = .returned (.bool true) ∧ Below w.heap.size w w')
    (hG : ∀ w, Calls Try.prog 56 #[.int .u64 (D1 : Int), .int .u64 (D2 : Int)] w fun e w' => e = .returned (.int .u64 (g : Int)) ∧ w = w')
    (hS1 : ∀ w, Calls Try.prog 53 #[.int .i64 n1] w fun e w' => e = .returned (.int .u64 (N1 : Int)) ∧ w = w')
    (hS2 : ∀ w, Calls Try.prog 53 #[.int .i64 n2] w fun e w' => e = .returned (.int .u64 (N2 : Int)) ∧ w = w')
    (hP1 : ∀ w, Calls Try.prog 52 #[.int .u64 (N1 : Int), .int .u64 (e2 : Int)] w fun e w' => e = .returned px ∧ Below w.heap.size w w')
    (hP2 : ∀ w, Calls Try.prog 52 #[.int .u64 (N2 : Int), .int .u64 (e1 : Int)] w fun e w' => e = .returned py ∧ Below w.heap.size w w')
    (hT : ∀ w, Calls Try.prog 58 #[.agg #[.bool s1, .bool s2], px, py] w fun e w' => e = .returned (.tuple #[.bool S, .agg #[.int .u64 (t1 : Int), .int .u64 (t0 : Int)]]) ∧ Below w.heap.size w w')
    (hRe : ∀ w, Calls Try.prog 59 #[.agg #[.int .u64 (t1 : Int), .int .u64 (t0 : Int)], .int .u64 (g : Int)] w fun e w' => e = .returned (.int .u64 (r : Int)) ∧ Below w.heap.size w w')
    (hG2 : ∀ w, Calls Try.prog 56 #[.int .u64 (r : Int), .int .u64 (g : Int)] w fun e w' => e = .returned (.int .u64 (s : Int)) ∧ w = w')
    (hO : ∀ w, Calls Try.prog 60 #[.agg #[.int .u64 (t1 : Int), .int .u64 (t0 : Int)], .int .u64 (s : Int)] w fun e w' => e = .returned po ∧ Below w.heap.size w w')
    (hN1 : ∀ w, Calls Try.prog 51 #[.bool S, po] w fun e w' => e = .returned (.tuple #[.int .i64 fv1, .bool fb1]) ∧ Below w.heap.size w w')
    (hP3 : ∀ w, Calls Try.prog 52 #[.int .u64 (e1 : Int), .int .u64 (f : Int)] w fun e w' => e = .returned pd ∧ Below w.heap.size w w')
    (hN2 : ∀ w, Calls Try.prog 51 #[.bool false, pd] w fun e w' => e = .returned (.tuple #[.int .i64 fv2, .bool fb2]) ∧ Below w.heap.size w w')
    (v : Value) (c : Int) (hv1 : (fb1 && fb2) = true → v = .agg #[.int .i64 fv1, .int .i64 fv2] ∧ c = 0) (hv2 : (fb1 && fb2) = false → v = .agg #[.int .i64 0, .int .i64 0] ∧ c = 1) :
    Calls Try.prog 18 #[.agg #[.int .i64 n1, .int .i64 (D1 : Int)], .agg #[.int .i64 n2, .int .i64 (D2 : Int)]] w fun e w' => e = .returned (.tuple #[v, .int .i64 c]) ∧ Below w.heap.size w w' := by
  obtain ⟨V, hV, hB⟩ := bks3 w (.cells #[.int .i64 n1, .int .i64 (D1 : Int)] 37) (.cells #[.int .i64 n2, .int .i64 (D2 : Int)] 37) (.cells #[.int .i64 0, .int .i64 0] 37)
  have HV := Lib.hid hV
  have HV1 := Lib.hid hv1
  have HV2 := Lib.hid hv2
  clear hV hv1 hv2
  have gz : ¬ g = 0 := by omega
  have sz : ¬ s = 0 := by omega
  have gd : ((g : Int) == 0) = false := by simp; omega
  have sd : ((s : Int) == 0) = false := by simp; omega
  go_enter Try.func18, Try.ntmps18
  go_wp2_with fail
  rw [← HV.out]
  refine (hR1 _).mono ?_
  rintro e V1 ⟨rfl, hb1⟩
  have hB1 := hB.later hb1
  obtain ⟨⟨c0, c1⟩, _, _⟩ := hB1.pair 1 rfl
  have HB1 := Lib.hid hB1
  clear hB hb1 hB1
  go_wp2_with fail
  refine (hR2 _).mono ?_
  rintro e V2 ⟨rfl, hb2⟩
  clear c0 c1
  have hB2 := HB1.out.later hb2
  obtain ⟨⟨c0, c1⟩, _, _⟩ := hB2.pair 0 rfl
  rw [Nat.add_zero] at c0 c1
  obtain ⟨⟨c2, c3⟩, _, _⟩ := hB2.pair 1 rfl
  have HB2 := Lib.hid hB2
  clear HB1 hb2 hB2
  go_wp2_with fail
  go_region
  go_wp2_with fail
  refine (hG _).mono ?_
  rintro e V3 ⟨rfl, rfl⟩
  go_upto_region 5 with fail
  obtain ⟨U, hU⟩ : ∃ U, U = V2.drew := ⟨_, rfl⟩
  have hBU := HB2.out.drew
  rw [← hU] at hBU ⊢
  clear hU c0 c1 c2 c3 HB2
  obtain ⟨⟨c0, c1⟩, _, _⟩ := hBU.pair 0 rfl
  rw [Nat.add_zero] at c0 c1
  obtain ⟨⟨c2, c3⟩, _, _⟩ := hBU.pair 1 rfl
  have HBU := Lib.hid hBU
  clear hBU
  have we1 := wrapNN e1 (by omega)
  have we2 := wrapNN e2 (by omega)
  have wf := wrapNN f (by omega)
  go_cut [9, 10] (fun x y wx => ∃ k : Nat, x = .bool S ∧ y = .pointer (some ⟨k, 0, none⟩) ∧ Below U.heap.size U wx ∧ wx.heap[k]? = some (.cells #[.int .u64 (t1 : Int), .int .u64 (t0 : Int)] 88 (0, 0)))
  case first =>
    go_region_held3 (fun w' => w'.cell? ⟨w.heap.size, 0, none⟩ = some (.int .i64 n1) ∧ w'.cell? ⟨w.heap.size + 1, 0, none⟩ = some (.int .i64 n2) ∧ Below U.heap.size U w') ((first | (exact keepC hb (by assumption)) | (exact keepA (by assumption)) | (exact keepA hk.out) | (exact keepSt hk.out.2.2 kz.1 c0 c2) | (exact keepD (by assumption) (by assumption)) | go_keep))
      (first
        | (go_at_call 53; first | ((with_reducible refine (hS1 _).mono ?_); rintro e w' ⟨rfl, rfl⟩) | ((with_reducible refine (hS2 _).mono ?_); rintro e w' ⟨rfl, rfl⟩))
        | (go_at_call 52; first | ((with_reducible refine (hP1 _).mono ?_); rintro e w1 ⟨rfl, hb⟩; have hs : Hid (Below U.heap.size U w1) := Lib.hid ((keepC hb (by assumption)).2.2); try (have kz : Blk U w1 88 (.int .u64 0) (.int .u64 0) _ := blk_kept hb (by first | assumption | (exact blk_new (by first | (exact hid_size (by assumption)) | (exact Nat.le_refl _)))))) | ((with_reducible refine (hP2 _).mono ?_); rintro e w1 ⟨rfl, hb⟩; have hs : Hid (Below U.heap.size U w1) := Lib.hid ((keepC hb (by assumption)).2.2); try (have kz : Blk U w1 88 (.int .u64 0) (.int .u64 0) _ := blk_kept hb (by first | assumption | (exact blk_new (by first | (exact hid_size (by assumption)) | (exact Nat.le_refl _)))))))
        | (go_at_call 58; ((with_reducible refine (hT _).mono ?_); rintro e U1 ⟨rfl, hb⟩; have hk : Hid (U1.cell? ⟨w.heap.size, 0, none⟩ = some (.int .i64 n1) ∧ U1.cell? ⟨w.heap.size + 1, 0, none⟩ = some (.int .i64 n2) ∧ Below U.heap.size U U1) := Lib.hid (keepC hb (by assumption)); have hs : Hid (Below U.heap.size U U1) := Lib.hid ((keepC hb (by assumption)).2.2); try (have kz : Blk U U1 88 (.int .u64 0) (.int .u64 0) _ := blk_kept hb (by first | assumption | (exact blk_new (by first | (exact hid_size (by assumption)) | (exact Nat.le_refl _))))); try (obtain ⟨⟨z1, z2⟩, z3, z4⟩ := kz.cells))))
    all_goals
      go_wp2_with fail
      go_meet
      first
        | (exact ⟨_, rfl, rfl, (kz.done hk.out.2.2 _ _).1, (kz.done hk.out.2.2 _ _).2⟩)
        | (exact ⟨_, rfl, rfl, hk.out.2.2.alloc (hk.out.2.2.size) _, heap_alloc_new _ _⟩)
  case rest =>
    obtain ⟨k, rfl, rfl, hbU, hk⟩ := hcut
    have hB3 := HBU.out.later hbU
    have HB3 := Lib.hid hB3
    have HK := Lib.hid hk
    obtain ⟨y0, y1⟩ := cell_pair hk
    clear hk hbU hB3 HBU c0 c1 c2 c3
    go_wp2_with fail
    refine (hRe _).mono ?_
    rintro e W1 ⟨rfl, hb1⟩
    have hk1 := (hb1.block k (Array.getElem?_eq_some_iff.1 HK.out).1).trans HK.out
    have hB4 := HB3.out.later hb1
    clear y0 y1
    obtain ⟨y0, y1⟩ := cell_pair hk1
    have HK1 := Lib.hid hk1
    have HB4 := Lib.hid hB4
    clear hk1 hb1 hB4 HB3 HK
    go_wp2_with fail
    refine (hG2 _).mono ?_
    rintro e W1' ⟨rfl, rfl⟩
    go_wp2_with fail
    refine (hO _).mono ?_
    rintro e W2 ⟨rfl, hb1⟩
    have hB5 := HB4.out.later hb1
    have HB5 := Lib.hid hB5
    clear hb1 hB5 HB4 y0 y1 HK1
    go_wp2_with fail
    refine (hN1 _).mono ?_
    rintro e W3 ⟨rfl, hb1⟩
    have hB6 := HB5.out.later hb1
    have HB6 := Lib.hid hB6
    clear hb1 hB6 HB5
    go_wp2_with fail
    go_region_with (first | (go_at_call 52; refine (hP3 _).mono ?_; rintro e W4 ⟨rfl, hb4⟩) | (go_at_call 51; refine (hN2 _).mono ?_; rintro e W5 ⟨rfl, hb5⟩))
    all_goals
      have hB7 := (HB6.out.drew.later hb4).later hb5
      obtain ⟨⟨k1, k2⟩, ⟨k3, k4⟩, k5⟩ := hB7.pair 2 rfl
      have HB7 := Lib.hid hB7
      clear hb4 hb5 hB7 HB6
      cases fb1 with
      | false =>
        obtain ⟨rfl, rfl⟩ := HV2.out rfl
        go_wp2_with fail
        exact bodyPost_ret (v := .tuple #[.agg #[.int .i64 0, .int .i64 0], .int .i64 1]) (by simp [results, Try.results18, go_sem, k1, k2]) rfl ⟨rfl, (HB7.out.1.setCell (by simp; omega) _).setCell (by simp; omega) _⟩
      | true =>
        cases fb2 with
        | false =>
          obtain ⟨rfl, rfl⟩ := HV2.out rfl
          go_wp2_with fail
          exact bodyPost_ret (v := .tuple #[.agg #[.int .i64 0, .int .i64 0], .int .i64 1]) (by simp [results, Try.results18, go_sem, k1, k2]) rfl ⟨rfl, (HB7.out.1.setCell (by simp; omega) _).setCell (by simp; omega) _⟩
        | true =>
          obtain ⟨rfl, rfl⟩ := HV1.out rfl
          go_wp2_with fail
          exact bodyPost_ret (v := .tuple #[.agg #[.int .i64 fv1, .int .i64 fv2], .int .i64 0]) (by simp [results, Try.results18, go_sem, k1, k2]) rfl ⟨rfl, (HB7.out.1.setCell (by simp; omega) _).setCell (by simp; omega) _⟩
end Go.Proofs.Ythkcpaanegjodaa
