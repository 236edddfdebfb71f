
/- Zigzag, written: the program's and the document's. -/
import Derived.Test.YtdjbdhfellofoaaPackB
namespace Go.Proofs.Ytdjbdhfellofoaa
open Go.RowKit

theorem xor_ones64 {c : Nat} (h : c < 18446744073709551616) : 18446744073709551615 - c = 18446744073709551615 ^^^ c := by
  have e := Nat.testBit_two_pow_sub_succ (n := 64) (x := c) h
  apply Nat.eq_of_testBit_eq
  intro i
  have h1 : 18446744073709551615 - c = 2 ^ 64 - (c + 1) := by omega
  have h2 : (18446744073709551615 : Nat) = 2 ^ 64 - 1 := by decide
  rw [h1, e, Nat.testBit_xor, h2, Nat.testBit_two_pow_sub_one]
  by_cases hi : i < 64
  · simp [hi]
  · have : c.testBit i = false := Nat.testBit_lt_two_pow (Nat.lt_of_lt_of_le h (by
      calc 18446744073709551616 = 2 ^ 64 := by decide
        _ ≤ 2 ^ i := Nat.pow_le_pow_right (by decide) (by omega)))
    simp [hi, this]
theorem zz_low (v : Int) (h1 : -9223372036854775808 ≤ v) (hv : v < 0) : bits .xor .u64 IntKind.u64.max (IntKind.u64.wrap (IntKind.u64.wrap v * 2)) = ((PackM.zz v : Nat) : Int) := by
  have hz : PackM.zz v = (-(2 * v) - 1).toNat := by unfold PackM.zz; rw [if_neg (by omega)]
  have e : IntKind.u64.wrap (IntKind.u64.wrap v * 2) = ((18446744073709551616 + 2 * v).toNat : Int) := by
    rw [IntKind.wrap_u64, IntKind.wrap_u64]; omega
  obtain ⟨y, hy⟩ : ∃ y : Nat, y = (18446744073709551616 + 2 * v).toNat := ⟨_, rfl⟩
  have hy1 : y < 18446744073709551616 := by omega
  rw [e, ← hy]
  have hx := u64_xor_nat 18446744073709551615 y (by decide) hy1
  rw [← xor_ones64 hy1] at hx
  have hm : IntKind.u64.max = ((18446744073709551615 : Nat) : Int) := rfl
  rw [hm, hx, hz]
  omega
theorem zz_high (v : Int) (hv : ¬ v < 0) : v * 2 = ((PackM.zz v : Nat) : Int) := by
  unfold PackM.zz; rw [if_pos (by omega)]; omega
theorem zz_low' (v : Int) (hv : v < 0) : -(v + 1) * 2 + 1 = ((PackM.zz v : Nat) : Int) := by
  unfold PackM.zz; rw [if_neg (by omega)]; omega

end Go.Proofs.Ytdjbdhfellofoaa
