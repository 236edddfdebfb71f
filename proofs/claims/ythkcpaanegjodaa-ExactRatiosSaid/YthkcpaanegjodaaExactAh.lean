
/- The document's Times. -/
import Derived.Test.YthkcpaanegjodaaExactAg
namespace Go.Proofs.Ythkcpaanegjodaa
open Go.RowKit

theorem keep2S {X : World} {b q : Nat} {v1 v2 x y : Value} (h : X.cell? ⟨b, 0, none⟩ = some v1 ∧ X.cell? ⟨b, 1, none⟩ = some v2) (hq : q ≠ b) :
    ((X.setCell ⟨q, 0, none⟩ x).setCell ⟨q, 1, none⟩ y).cell? ⟨b, 0, none⟩ = some v1 ∧ ((X.setCell ⟨q, 0, none⟩ x).setCell ⟨q, 1, none⟩ y).cell? ⟨b, 1, none⟩ = some v2 := ⟨far2 h.1 hq, far2 h.2 hq⟩

set_option maxHeartbeats 1000000 in
set_option maxRecDepth 100000 in
theorem rtim_not (p : Int × Int) (m : Int) (w : World) (h : R64 p) (hr : rtB p = false) :
    Calls Try.prog 21 #[rv p, .int .i64 m] w fun e w' => e = .returned (.tuple #[rv (0, 0), .int .i64 2]) ∧ Below w.heap.size w w' := by
  obtain ⟨n, d⟩ := p
  have hR := fun w => rright_any (n, d) w h
  rw [hr] at hR
  unfold rv at hR ⊢
  simp only at hR ⊢
  clear hr
  go_enter Try.func21, Try.ntmps21
  go_wp2_with fail
  obtain ⟨V, hV, hB⟩ := bks2 w (.cells #[.int .i64 n, .int .i64 d] 37) (.cells #[.int .i64 0, .int .i64 0] 37)
  rw [← hV]
  clear hV
  refine (hR _).mono ?_
  rintro e V1 ⟨rfl, hb1⟩
  have hB1 := hB.later hb1
  obtain ⟨⟨k1, k2⟩, ⟨k3, k4⟩, k5⟩ := hB1.pair 1 rfl
  have HB := Lib.hid hB1
  clear hB hb1 hB1
  go_wp2
  exact bodyPost_ret (v := .tuple #[.agg #[.int .i64 0, .int .i64 0], .int .i64 2]) (by simp [results, Try.results21, go_sem, k1, k2]) rfl ⟨rfl, (HB.out.1.setCell (by simp) _).setCell (by simp) _⟩

set_option maxHeartbeats 1000000 in
set_option maxRecDepth 100000 in
theorem rtim_yes (n m : Int) (D : Nat) (w : World) (hn : I64n n) (hm : I64n m) (hd : I64n (D : Int)) (h0 : 0 < D) (hr : rtB (n, (D : Int)) = true) (r1 r2 c : Int) (hr1 : r1 = (ansV (n * m) (D : Int)).1) (hr2 : r2 = (ansV (n * m) (D : Int)).2) (hc : c = ansC (n * m) (D : Int)) :
    Calls Try.prog 21 #[.agg #[.int .i64 n, .int .i64 (D : Int)], .int .i64 m] w fun e w' => e = .returned (.tuple #[.agg #[.int .i64 r1, .int .i64 r2], .int .i64 c]) ∧ Below w.heap.size w w' := by
  have hR := fun w => rright_any (n, (D : Int)) w ⟨hn, hd⟩
  rw [hr] at hR
  unfold rv at hR
  simp only at hR
  have HN := Lib.hid hn
  have HM := Lib.hid hm
  have HD := Lib.hid hd
  have b63 : (9223372036854775809 : Nat) ≤ 2 ^ 200 := by decide
  have BN : Hid ((ExactM.ofN n.natAbs).length ≤ 200) := Lib.hid (big_len (by unfold I64n at hn; omega))
  have BM : Hid ((ExactM.ofN m.natAbs).length ≤ 200) := Lib.hid (big_len (by unfold I64n at hm; omega))
  have hL := fun V u W h1 h2 => rlow_any V u (n * m) D W (by
    rw [Int.natAbs_mul]
    have := mul_small n.natAbs m.natAbs (abs_lt n hn) (abs_lt m hm)
    exact Nat.lt_of_lt_of_le this (by decide)) h0 (by unfold I64n at hd; omega) h1 h2
  unfold rv at hL
  rw [← hr1, ← hr2, ← hc] at hL
  have HL := Lib.hid hL
  have HRR := Lib.hid hR
  clear hn hm hd h0 hr hR b63 hr1 hr2 hc hL
  go_enter Try.func21, Try.ntmps21
  go_wp2_with fail
  obtain ⟨V, hV, hB⟩ := bks2 w (.cells #[.int .i64 n, .int .i64 (D : Int)] 37) (.cells #[.int .i64 0, .int .i64 0] 37)
  rw [← hV]
  clear hV
  refine (HRR.out _).mono ?_
  rintro e V1 ⟨rfl, hb1⟩
  have hB1 := (hB.later hb1)
  clear hB hb1 HRR
  go_upto_region 3 with fail
  obtain ⟨⟨c0, c1⟩, _, hq⟩ := hB1.pair 0 rfl
  rw [Nat.add_zero] at c0 c1 hq
  have HB := Lib.hid hB1.drew
  clear hB1
  go_region_held3 (fun w' => w'.cell? ⟨w.heap.size, 0, none⟩ = some (.int .i64 n) ∧ w'.cell? ⟨w.heap.size, 1, none⟩ = some (.int .i64 (D : Int)))
    ((first | exact keep2 hb (by assumption) | exact keep2S (by assumption) (by omega) | exact ⟨c0, c1⟩ | go_keep))
    (first
      | (go_at_call 12; first
          | ((with_reducible refine (rof_any n _ HN.out).mono ?_); rintro e w4 ⟨V1, rfl, g1, hb⟩; have HB := Lib.hid (HB.out.later hb))
          | ((with_reducible refine (rof_any m _ HM.out).mono ?_); rintro e w5 ⟨V2, rfl, g2, hb⟩; have HB := Lib.hid (HB.out.later hb); have g1 := g1.below hb)
          | ((with_reducible refine (rof_any (D : Int) _ HD.out).mono ?_); rintro e w7 ⟨V4, rfl, g4, hb⟩; have HB := Lib.hid (HB.out.later hb); have g3 := g3.below hb; obtain ⟨v4, rfl, r4⟩ := g4; rw [Int.natAbs_natCast] at r4; obtain ⟨A4, cp4, rfl⟩ := r4.len; have hbr := fun W => big_row A4 (ExactM.ofN D).length cp4 (decide ((D : Int) < 0)) W))
      | (go_at_call 14; (with_reducible refine (rmul_any _ _ n m _ BN.out BM.out g1 g2).mono ?_); rintro e w6 ⟨V3, rfl, g3, hb⟩; have HB := Lib.hid (HB.out.later hb))
      | (go_at_call 57; (with_reducible refine (HL.out _ _ _ g3 r4).mono ?_); rintro e w8 ⟨rfl, hb⟩; have HB := Lib.hid (HB.out.later hb); obtain ⟨⟨k0, k1⟩, ⟨f0, f1⟩, hq2⟩ := HB.out.pair 1 rfl))
  go_wp2
  exact bodyPost_ret (v := .tuple #[.agg #[.int .i64 r1, .int .i64 r2], .int .i64 c]) (by simp [results, Try.results21, go_sem, k0, k1]) rfl ⟨rfl, (HB.out.1.setCell (by simp) _).setCell (by simp) _⟩
end Go.Proofs.Ythkcpaanegjodaa
