
/- ExactNumbers. -/
import Derived.Test.YthkcpaanegjodaaExactAg
import Derived.Test.YthkcpaanegjodaaExactQ
import Derived.Lib.Mul64
namespace Go.Proofs.Ythkcpaanegjodaa
open Go.RowKit

set_option maxHeartbeats 4000000 in
set_option maxRecDepth 100000 in
theorem numbers_main (a b : Int) (x y : Nat) (w : World) (ha : I64n a) (hb : I64n b) (hx : x < 18446744073709551616) (hy : y < 18446744073709551616) :
    Calls Try.prog 3 #[.int .i64 a, .int .i64 b, .int .u64 (x : Int), .int .u64 (y : Int)] w fun e w' => e = .returned (.bool true) ∧ Below w.heap.size w w' := by
  have hA := fun W => add_any a b W ha hb
  have hM := fun W => mul_any a b W ha hb
  have hW := fun W => wide_any x y W hx hy
  have LA := Lib.hid (big_len (z := a) (by have := abs_lt a ha; have e : (9223372036854775809 : Nat) ≤ 2 ^ 200 := by decide
                                           omega))
  have LB := Lib.hid (big_len (z := b) (by have := abs_lt b hb; have e : (9223372036854775809 : Nat) ≤ 2 ^ 200 := by decide
                                           omega))
  have LS := Lib.hid (big_len (z := a + b) (by have h1 := abs_lt a ha; have h2 := abs_lt b hb; have e : (18446744073709551618 : Nat) ≤ 2 ^ 200 := by decide
                                               omega))
  have LP := Lib.hid (big_len (z := a * b) (by
    rw [Int.natAbs_mul]
    exact Nat.lt_of_lt_of_le (mul_small a.natAbs b.natAbs (abs_lt a ha) (abs_lt b hb)) (by decide)))
  have h64 := Lib.mul64_hi x y hx hy
  obtain ⟨hi, hhi⟩ : ∃ n, n = x * y / 18446744073709551616 := ⟨_, rfl⟩
  obtain ⟨lo, hlo⟩ : ∃ n, n = x * y % 18446744073709551616 := ⟨_, rfl⟩
  rw [← hhi, ← hlo] at hW
  rw [← hhi] at h64
  have bx1 : x / 4294967296 ≤ 4294967295 := by omega
  have by1 : y / 4294967296 ≤ 4294967295 := by omega
  have bx0 : x % 4294967296 ≤ 4294967295 := by omega
  have by0 : y % 4294967296 ≤ 4294967295 := by omega
  obtain ⟨x1, ex1⟩ : ∃ n, n = x / 4294967296 := ⟨_, rfl⟩
  obtain ⟨y1, ey1⟩ : ∃ n, n = y / 4294967296 := ⟨_, rfl⟩
  obtain ⟨x0, ex0⟩ : ∃ n, n = x % 4294967296 := ⟨_, rfl⟩
  obtain ⟨y0, ey0⟩ : ∃ n, n = y % 4294967296 := ⟨_, rfl⟩
  rw [← ex1, ← ey1, ← ex0, ← ey0] at h64
  rw [← ex1] at bx1
  rw [← ey1] at by1
  rw [← ex0] at bx0
  rw [← ey0] at by0
  have l11 := Lib.half_mul_le bx1 by1
  have l10 := Lib.half_mul_le bx1 by0
  have l01 := Lib.half_mul_le bx0 by1
  have l00 := Lib.half_mul_le bx0 by0
  obtain ⟨p11, h11⟩ : ∃ n, n = x1 * y1 := ⟨_, rfl⟩
  obtain ⟨p10, h10⟩ : ∃ n, n = x1 * y0 := ⟨_, rfl⟩
  obtain ⟨p01, h01⟩ : ∃ n, n = x0 * y1 := ⟨_, rfl⟩
  obtain ⟨p00, h00⟩ : ∃ n, n = x0 * y0 := ⟨_, rfl⟩
  obtain ⟨P, hP⟩ : ∃ n, n = x * y := ⟨_, rfl⟩
  rw [← h11] at h64 l11
  rw [← h10] at h64 l10
  rw [← h01] at h64 l01
  rw [← h00] at h64 l00
  rw [← hP] at hhi hlo
  have c11 : (x1 : Int) * (y1 : Int) = (p11 : Int) := by rw [h11]; simp
  have c10 : (x1 : Int) * (y0 : Int) = (p10 : Int) := by rw [h10]; simp
  have c01 : (x0 : Int) * (y1 : Int) = (p01 : Int) := by rw [h01]; simp
  have c00 : (x0 : Int) * (y0 : Int) = (p00 : Int) := by rw [h00]; simp
  have cP : (x : Int) * (y : Int) = (P : Int) := by rw [hP]; simp
  have d1 : (x : Int) / 4294967296 = (x1 : Int) := by omega
  have d2 : (y : Int) / 4294967296 = (y1 : Int) := by omega
  have d3 : (x : Int) % 4294967296 = (x0 : Int) := by omega
  have d4 : (y : Int) % 4294967296 = (y0 : Int) := by omega
  have dP : IntKind.u64.wrap (P : Int) = (lo : Int) := by rw [IntKind.wrap_u64]; omega
  obtain ⟨_, g1, g2, g3⟩ := h64
  obtain ⟨q, hq⟩ : ∃ n, n = p00 / 4294967296 := ⟨_, rfl⟩
  rw [← hq] at g1 g2 g3
  have d5 : (p00 : Int) / 4294967296 = (q : Int) := by omega
  obtain ⟨mid, hmid⟩ : ∃ n, n = p10 + q := ⟨_, rfl⟩
  rw [← hmid] at g1 g2 g3
  have d6 : (p10 : Int) + (q : Int) = (mid : Int) := by omega
  obtain ⟨m1, hm1⟩ : ∃ n, n = mid / 4294967296 := ⟨_, rfl⟩
  obtain ⟨m0, hm0⟩ : ∃ n, n = mid % 4294967296 := ⟨_, rfl⟩
  rw [← hm0] at g2 g3
  rw [← hm1] at g3
  have d7 : (mid : Int) / 4294967296 = (m1 : Int) := by omega
  have d8 : (mid : Int) % 4294967296 = (m0 : Int) := by omega
  obtain ⟨r, hr⟩ : ∃ n, n = (m0 + p01) / 4294967296 := ⟨_, rfl⟩
  rw [← hr] at g3
  have d9 : ((p01 : Int) + (m0 : Int)) / 4294967296 = (r : Int) := by omega
  have d10 : (p11 : Int) + (m1 : Int) + (r : Int) = (hi : Int) := by omega
  have u1 : p11 + m1 < 18446744073709551616 := by omega
  have u2 : p01 + m0 < 18446744073709551616 := by omega
  have u3 : hi < 18446744073709551616 := by
    have := Nat.mul_lt_mul'' hx hy
    omega
  have u4 : lo < 18446744073709551616 := by omega
  obtain ⟨sv, hsv⟩ : ∃ v, v = fitV (a + b) := ⟨_, rfl⟩
  obtain ⟨sb, hsb⟩ : ∃ v, v = fitB (a + b) := ⟨_, rfl⟩
  obtain ⟨pv, hpv⟩ : ∃ v, v = fitV (a * b) := ⟨_, rfl⟩
  obtain ⟨pb, hpb⟩ : ∃ v, v = fitB (a * b) := ⟨_, rfl⟩
  have hBS := fun V W h => rback_any V (a + b) W LS.out h
  have hBP := fun V W h => rback_any V (a * b) W LP.out h
  rw [← hsv, ← hsb] at hA hBS
  rw [← hpv, ← hpb] at hM hBP
  have HA := Lib.hid hA
  have HM := Lib.hid hM
  have HW := Lib.hid hW
  have HBS := Lib.hid hBS
  have HBP := Lib.hid hBP
  have IA := Lib.hid ha
  have IB := Lib.hid hb
  have C11 := Lib.hid c11
  have C10 := Lib.hid c10
  have C01 := Lib.hid c01
  have C00 := Lib.hid c00
  have CP := Lib.hid cP
  have D1 := Lib.hid d1
  have D2 := Lib.hid d2
  have D3 := Lib.hid d3
  have D4 := Lib.hid d4
  have DP := Lib.hid dP
  have D5 := Lib.hid d5
  have D6 := Lib.hid d6
  have D7 := Lib.hid d7
  have D8 := Lib.hid d8
  have D9 := Lib.hid d9
  have D10 := Lib.hid d10
  clear hA hM hW hBS hBP ha hb c11 c10 c01 c00 cP d1 d2 d3 d4 dP d5 d6 d7 d8 d9 d10 hsv hsb hpv hpb ex1 ex0 ey1 ey0 hhi hlo h11 h10 h01 h00 hP hq hmid hm1 hm0 hr g3
  go_enter Try.func3, Try.ntmps3
  go_wp2_with fail
  refine (awake3_any _).mono ?_
  rintro e W0 ⟨rfl, B0⟩
  go_wp2_with fail
  refine (HA.out _).mono ?_
  rintro e W0' ⟨rfl, rfl⟩
  go_wp2_with fail
  refine (rof_any a _ IA.out).mono ?_
  rintro e W1 ⟨V1, rfl, g1, b1⟩
  have B1 := below_on B0 b1
  clear B0 b1
  go_wp2_with fail
  refine (rof_any b _ IB.out).mono ?_
  rintro e W2 ⟨V2, rfl, g2, b2⟩
  have g1 := g1.below b2
  have B2 := below_on B1 b2
  clear B1 b2
  go_wp2_with fail
  refine (radd_any _ _ a b _ LA.out LB.out g1 g2).mono ?_
  rintro e W3 ⟨V3, rfl, g3, b3⟩
  have B3 := below_on B2 b3
  clear B2 b3 g1 g2
  go_wp2_with fail
  refine (HBS.out _ _ g3).mono ?_
  rintro e W4 ⟨rfl, b4⟩
  have B4 := below_on B3 b4
  clear B3 b4 g3
  go_wp2_with fail
  refine (HM.out _).mono ?_
  rintro e W5 ⟨rfl, b5⟩
  have B5 := below_on B4 b5
  clear B4 b5
  go_wp2_with fail
  refine (rof_any a _ IA.out).mono ?_
  rintro e W6 ⟨V4, rfl, g1, b6⟩
  have B6 := below_on B5 b6
  clear B5 b6
  go_wp2_with fail
  refine (rof_any b _ IB.out).mono ?_
  rintro e W7 ⟨V5, rfl, g2, b7⟩
  have g1 := g1.below b7
  have B7 := below_on B6 b7
  clear B6 b7
  go_wp2_with fail
  refine (rmul_any _ _ a b _ LA.out LB.out g1 g2).mono ?_
  rintro e W8 ⟨V6, rfl, g3, b8⟩
  have B8 := below_on B7 b8
  clear B7 b8 g1 g2
  go_wp2_with fail
  refine (HBP.out _ _ g3).mono ?_
  rintro e W9 ⟨rfl, b9⟩
  have B9 := below_on B8 b9
  clear B8 b9 g3
  go_wp2_with fail
  refine (HW.out _).mono ?_
  rintro e W10 ⟨rfl, rfl⟩
  have BZ := Lib.hid B9
  clear B9 HA HM HW HBS HBP LA LB LS LP IA IB
  have c11 := C11.out
  have c10 := C10.out
  have c01 := C01.out
  have c00 := C00.out
  have cP := CP.out
  have d1 := D1.out
  have d2 := D2.out
  have d3 := D3.out
  have d4 := D4.out
  have dP := DP.out
  have d5 := D5.out
  have d6 := D6.out
  have d7 := D7.out
  have d8 := D8.out
  have d9 := D9.out
  have d10 := D10.out
  clear C11 C10 C01 C00 CP D1 D2 D3 D4 DP D5 D6 D7 D8 D9 D10
  go_wp2
  go_ret
  exact ⟨rfl, BZ.out⟩
end Go.Proofs.Ythkcpaanegjodaa
