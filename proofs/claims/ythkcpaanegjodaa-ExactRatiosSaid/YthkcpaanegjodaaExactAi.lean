
/- The document's Sum. -/
import Derived.Test.YthkcpaanegjodaaExactAh
namespace Go.Proofs.Ythkcpaanegjodaa
open Go.RowKit

theorem rtim_any (p : Int × Int) (m : Int) (w : World) (h : R64 p) (hm : I64n m) :
    Calls Try.prog 21 #[rv p, .int .i64 m] w fun e w' => e = .returned (.tuple #[rv (timV p m), .int .i64 (timC p m)]) ∧ Below w.heap.size w w' := by
  unfold timV timC
  cases hr : rtB p with
  | true =>
    obtain ⟨n, d⟩ := p
    have hd0 : 0 < d := ((rtB_iff (n, d)).1 hr).1
    obtain ⟨D, hDd⟩ : ∃ D : Nat, d = (D : Int) := ⟨d.toNat, by omega⟩
    subst hDd
    exact rtim_yes n m D w h.1 hm h.2 (by omega) hr _ _ _ rfl rfl rfl
  | false => exact rtim_not p m w h hr

set_option maxHeartbeats 1000000 in
set_option maxRecDepth 100000 in
theorem rsum_not (p q : Int × Int) (w : World) (hp : R64 p) (hq : R64 q) (hr : (rtB p && rtB q) = false) :
    Calls Try.prog 19 #[rv p, rv q] w fun e w' => e = .returned (.tuple #[rv (0, 0), .int .i64 2]) ∧ Below w.heap.size w w' := by
  obtain ⟨n, d⟩ := p
  obtain ⟨m, f⟩ := q
  have hR1 := fun w => rright_any (n, d) w hp
  have hR2 := fun w => rright_any (m, f) w hq
  unfold rv at hR1 hR2 ⊢
  simp only at hR1 hR2 ⊢
  obtain ⟨V, hV, hB⟩ := bks3 w (.cells #[.int .i64 n, .int .i64 d] 37) (.cells #[.int .i64 m, .int .i64 f] 37) (.cells #[.int .i64 0, .int .i64 0] 37)
  have HV := Lib.hid hV
  clear hV
  cases h1 : rtB (n, d) with
  | false =>
    rw [h1] at hR1
    clear hr h1 hR2
    go_enter Try.func19, Try.ntmps19
    go_wp2_with fail
    rw [← HV.out]
    refine (hR1 _).mono ?_
    rintro e V1 ⟨rfl, hb1⟩
    have hB1 := hB.later hb1
    obtain ⟨⟨k1, k2⟩, ⟨k3, k4⟩, k5⟩ := hB1.pair 2 rfl
    have HB := Lib.hid hB1
    clear hB hb1 hB1
    go_wp2
    exact bodyPost_ret (v := .tuple #[.agg #[.int .i64 0, .int .i64 0], .int .i64 2]) (by simp [results, Try.results19, go_sem, k1, k2]) rfl ⟨rfl, (HB.out.1.setCell (by simp; omega) _).setCell (by simp; omega) _⟩
  | true =>
    rw [h1, Bool.true_and] at hr
    rw [h1] at hR1
    rw [hr] at hR2
    clear hr h1
    go_enter Try.func19, Try.ntmps19
    go_wp2_with fail
    rw [← HV.out]
    refine (hR1 _).mono ?_
    rintro e V1 ⟨rfl, hb1⟩
    have hB1 := hB.later hb1
    obtain ⟨⟨c0, c1⟩, _, _⟩ := hB1.pair 1 rfl
    have HB := Lib.hid hB1
    clear hB hb1 hB1
    go_wp2_with fail
    refine (hR2 _).mono ?_
    rintro e V2 ⟨rfl, hb2⟩
    have hB2 := HB.out.later hb2
    obtain ⟨⟨k1, k2⟩, ⟨k3, k4⟩, k5⟩ := hB2.pair 2 rfl
    have HB2 := Lib.hid hB2
    clear hB2 hb2 HB
    go_wp2
    exact bodyPost_ret (v := .tuple #[.agg #[.int .i64 0, .int .i64 0], .int .i64 2]) (by simp [results, Try.results19, go_sem, k1, k2]) rfl ⟨rfl, (HB2.out.1.setCell (by simp; omega) _).setCell (by simp; omega) _⟩

theorem keep4S {X : World} {b b' q : Nat} {v1 v2 v3 v4 x y : Value} (h : X.cell? ⟨b, 0, none⟩ = some v1 ∧ X.cell? ⟨b, 1, none⟩ = some v2 ∧ X.cell? ⟨b', 0, none⟩ = some v3 ∧ X.cell? ⟨b', 1, none⟩ = some v4) (hq : q ≠ b) (hq' : q ≠ b') :
    ((X.setCell ⟨q, 0, none⟩ x).setCell ⟨q, 1, none⟩ y).cell? ⟨b, 0, none⟩ = some v1 ∧ ((X.setCell ⟨q, 0, none⟩ x).setCell ⟨q, 1, none⟩ y).cell? ⟨b, 1, none⟩ = some v2 ∧ ((X.setCell ⟨q, 0, none⟩ x).setCell ⟨q, 1, none⟩ y).cell? ⟨b', 0, none⟩ = some v3 ∧ ((X.setCell ⟨q, 0, none⟩ x).setCell ⟨q, 1, none⟩ y).cell? ⟨b', 1, none⟩ = some v4 :=
  ⟨far2 h.1 hq, far2 h.2.1 hq, far2 h.2.2.1 hq', far2 h.2.2.2 hq'⟩
theorem big_i64 {n : Int} (h : I64n n) : (ExactM.ofN n.natAbs).length ≤ 200 := big_len (by
  have b63 : (9223372036854775809 : Nat) ≤ 2 ^ 200 := by decide
  unfold I64n at h; omega)
theorem prod_lt {a b : Int} (ha : I64n a) (hb : I64n b) : (a * b).natAbs < 340282366920938463463374607431768211456 := by
  rw [Int.natAbs_mul]
  exact mul_small a.natAbs b.natAbs (abs_lt a ha) (abs_lt b hb)
theorem big_prod {a b : Int} (ha : I64n a) (hb : I64n b) : (ExactM.ofN (a * b).natAbs).length ≤ 200 := big_len (Nat.lt_of_lt_of_le (prod_lt ha hb) (by decide))

set_option maxHeartbeats 4000000 in
set_option maxRecDepth 100000 in
theorem rsum_yes (n1 n2 : Int) (D1 D2 : Nat) (w : World) (h1 : I64n n1) (h2 : I64n n2) (hD1 : I64n (D1 : Int)) (hD2 : I64n (D2 : Int)) (p1 : 0 < D1) (p2 : 0 < D2) (hr1 : rtB (n1, (D1 : Int)) = true) (hr2 : rtB (n2, (D2 : Int)) = true)
    (r1 r2 c : Int) (hv1 : r1 = (ansV (n1 * D2 + n2 * D1) ((D1 * D2 : Nat) : Int)).1) (hv2 : r2 = (ansV (n1 * D2 + n2 * D1) ((D1 * D2 : Nat) : Int)).2) (hc : c = ansC (n1 * D2 + n2 * D1) ((D1 * D2 : Nat) : Int)) :
    Calls Try.prog 19 #[.agg #[.int .i64 n1, .int .i64 (D1 : Int)], .agg #[.int .i64 n2, .int .i64 (D2 : Int)]] w fun e w' => e = .returned (.tuple #[.agg #[.int .i64 r1, .int .i64 r2], .int .i64 c]) ∧ Below w.heap.size w w' := by
  have hR1 := fun w => rright_any (n1, (D1 : Int)) w ⟨h1, hD1⟩
  have hR2 := fun w => rright_any (n2, (D2 : Int)) w ⟨h2, hD2⟩
  rw [hr1] at hR1
  rw [hr2] at hR2
  unfold rv at hR1 hR2
  simp only at hR1 hR2
  have H1 := Lib.hid h1
  have H2 := Lib.hid h2
  have HD1 := Lib.hid hD1
  have HD2 := Lib.hid hD2
  have B1 := Lib.hid (big_i64 h1)
  have B2 := Lib.hid (big_i64 h2)
  have BD1 := Lib.hid (big_i64 hD1)
  have BD2 := Lib.hid (big_i64 hD2)
  have BP1 := Lib.hid (big_prod h1 hD2)
  have BP2 := Lib.hid (big_prod h2 hD1)
  have lt1 := prod_lt h1 hD2
  have lt2 := prod_lt h2 hD1
  have lt3 := prod_lt hD1 hD2
  have hT := fun v1 v2 W (a1 : Rd W v1 (ExactM.ofN D1)) (a2 : Rd W v2 (ExactM.ofN D2)) => rtimes_any v1 v2 _ _ W (big_i64 hD1) (big_i64 hD2) a1 a2
  simp only [Int.natAbs_natCast, ExactM.val_ofN] at hT
  have hL := fun V u W a1 a2 => rlow_any V u (n1 * D2 + n2 * D1) (D1 * D2) W (by
    have e : (340282366920938463463374607431768211456 : Nat) + 340282366920938463463374607431768211456 ≤ 2 ^ 200 := by decide
    omega) (Nat.mul_pos p1 p2) (by
    have e : (340282366920938463463374607431768211456 : Nat) ≤ 2 ^ 200 := by decide
    rw [← Int.natCast_mul, Int.natAbs_natCast] at lt3
    omega) a1 a2
  unfold rv at hL
  rw [← hv1, ← hv2, ← hc] at hL
  have HL := Lib.hid hL
  have HT := Lib.hid hT
  have HR1 := Lib.hid hR1
  have HR2 := Lib.hid hR2
  obtain ⟨V, hV, hB⟩ := bks3 w (.cells #[.int .i64 n1, .int .i64 (D1 : Int)] 37) (.cells #[.int .i64 n2, .int .i64 (D2 : Int)] 37) (.cells #[.int .i64 0, .int .i64 0] 37)
  have HV := Lib.hid hV
  clear hV h1 h2 hD1 hD2 p1 p2 hr1 hr2 hv1 hv2 hc lt1 lt2 lt3 hT hL hR1 hR2
  go_enter Try.func19, Try.ntmps19
  go_wp2_with fail
  rw [← HV.out]
  refine (HR1.out _).mono ?_
  rintro e V1 ⟨rfl, hb1⟩
  have hB1 := hB.later hb1
  obtain ⟨⟨c0, c1⟩, _, _⟩ := hB1.pair 1 rfl
  have HB1 := Lib.hid hB1
  clear hB hb1 hB1 HR1 HV
  go_wp2_with fail
  refine (HR2.out _).mono ?_
  rintro e V2 ⟨rfl, hb2⟩
  clear c0 c1 HR2
  have hB2 := HB1.out.later hb2
  clear HB1 hb2
  go_upto_region 3 with fail
  obtain ⟨⟨c0, c1⟩, _, hq0⟩ := hB2.pair 0 rfl
  rw [Nat.add_zero] at c0 c1 hq0
  obtain ⟨⟨c2, c3⟩, _, hq1⟩ := hB2.pair 1 rfl
  have HB := Lib.hid hB2.drew
  clear hB2
  go_region_held3 (fun w' => w'.cell? ⟨w.heap.size, 0, none⟩ = some (.int .i64 n1) ∧ w'.cell? ⟨w.heap.size, 1, none⟩ = some (.int .i64 (D1 : Int)) ∧ w'.cell? ⟨w.heap.size + 1, 0, none⟩ = some (.int .i64 n2) ∧ w'.cell? ⟨w.heap.size + 1, 1, none⟩ = some (.int .i64 (D2 : Int)))
    ((first | exact keep4 hb (by assumption) | exact keep4S (by assumption) (by omega) (by omega) | exact ⟨c0, c1, c2, c3⟩ | go_keep))
    (first
      | (go_at_call 12; first
          | ((with_reducible refine (rof_any n1 _ H1.out).mono ?_); rintro e wa ⟨V1, rfl, g1, hb⟩; have HB := Lib.hid (HB.out.later hb))
          | ((with_reducible refine (rof_any n2 _ H2.out).mono ?_); rintro e wd ⟨V4, rfl, g4, hb⟩; have HB := Lib.hid (HB.out.later hb); have g3 := g3.below hb)
          | ((with_reducible refine (rof_any (D2 : Int) _ HD2.out).mono ?_); rintro e wi ⟨V9, rfl, g9, hb⟩; have HB := Lib.hid (HB.out.later hb); have g7 := g7.below hb; have r8 := r8.below hb; obtain ⟨v9, rfl, r9⟩ := g9; rw [Int.natAbs_natCast] at r9; obtain ⟨A9, cp9, rfl⟩ := r9.len; have hbr9 := fun W => big_row A9 (ExactM.ofN D2).length cp9 (decide ((D2 : Int) < 0)) W)
          | ((with_reducible refine (rof_any (D2 : Int) _ HD2.out).mono ?_); rintro e wb ⟨V2, rfl, g2, hb⟩; have HB := Lib.hid (HB.out.later hb); have g1 := g1.below hb)
          | ((with_reducible refine (rof_any (D1 : Int) _ HD1.out).mono ?_); rintro e wh ⟨V8, rfl, g8, hb⟩; have HB := Lib.hid (HB.out.later hb); have g7 := g7.below hb; obtain ⟨v8, rfl, r8⟩ := g8; rw [Int.natAbs_natCast] at r8; obtain ⟨A8, cp8, rfl⟩ := r8.len; have hbr8 := fun W => big_row A8 (ExactM.ofN D1).length cp8 (decide ((D1 : Int) < 0)) W)
          | ((with_reducible refine (rof_any (D1 : Int) _ HD1.out).mono ?_); rintro e we ⟨V5, rfl, g5, hb⟩; have HB := Lib.hid (HB.out.later hb); have g3 := g3.below hb; have g4 := g4.below hb))
      | (go_at_call 14; first
          | ((with_reducible refine (rmul_any _ _ n2 (D1 : Int) _ B2.out BD1.out g4 g5).mono ?_); rintro e wf ⟨V6, rfl, g6, hb⟩; have HB := Lib.hid (HB.out.later hb); have g3 := g3.below hb)
          | ((with_reducible refine (rmul_any _ _ n1 (D2 : Int) _ B1.out BD2.out g1 g2).mono ?_); rintro e wc ⟨V3, rfl, g3, hb⟩; have HB := Lib.hid (HB.out.later hb)))
      | (go_at_call 11; (with_reducible refine (radd_any _ _ (n1 * D2) (n2 * D1) _ BP1.out BP2.out g3 g6).mono ?_); rintro e wg ⟨V7, rfl, g7, hb⟩; have HB := Lib.hid (HB.out.later hb))
      | (go_at_call 54; (with_reducible refine (HT.out _ _ _ r8 r9).mono ?_); rintro e wj ⟨V10, rfl, r10, hb, _⟩; have HB := Lib.hid (HB.out.later hb); have g7 := g7.below hb)
      | (go_at_call 57; (with_reducible refine (HL.out _ _ _ g7 r10).mono ?_); rintro e wk ⟨rfl, hb⟩; have HB := Lib.hid (HB.out.later hb); obtain ⟨⟨k0, k1⟩, ⟨f0, f1⟩, hq2⟩ := HB.out.pair 2 rfl))
  go_wp2
  exact bodyPost_ret (v := .tuple #[.agg #[.int .i64 r1, .int .i64 r2], .int .i64 c]) (by simp [results, Try.results19, go_sem, k0, k1]) rfl ⟨rfl, (HB.out.1.setCell (by simp; omega) _).setCell (by simp; omega) _⟩
theorem rsum_any (p q : Int × Int) (w : World) (hp : R64 p) (hq : R64 q) :
    Calls Try.prog 19 #[rv p, rv q] w fun e w' => e = .returned (.tuple #[rv (sumV p q), .int .i64 (sumC p q)]) ∧ Below w.heap.size w w' := by
  unfold sumV sumC
  cases h : (rtB p && rtB q) with
  | true =>
    rw [Bool.and_eq_true] at h
    obtain ⟨n1, d1⟩ := p
    obtain ⟨n2, d2⟩ := q
    have hd1 : 0 < d1 := ((rtB_iff (n1, d1)).1 h.1).1
    have hd2 : 0 < d2 := ((rtB_iff (n2, d2)).1 h.2).1
    obtain ⟨D1, hDd⟩ : ∃ D : Nat, d1 = (D : Int) := ⟨d1.toNat, by omega⟩
    subst hDd
    obtain ⟨D2, hDd⟩ : ∃ D : Nat, d2 = (D : Int) := ⟨d2.toNat, by omega⟩
    subst hDd
    have e : (D1 : Int) * (D2 : Int) = ((D1 * D2 : Nat) : Int) := (Int.natCast_mul _ _).symm
    show Calls _ _ _ _ _
    simp only
    rw [e]
    exact rsum_yes n1 n2 D1 D2 w hp.1 hq.1 hp.2 hq.2 (by omega) (by omega) h.1 h.2 _ _ _ rfl rfl rfl
  | false => exact rsum_not p q w hp hq h
end Go.Proofs.Ythkcpaanegjodaa
