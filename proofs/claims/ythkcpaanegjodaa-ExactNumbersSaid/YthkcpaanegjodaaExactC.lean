
/- Two words by one: math/bits.Len64, LeadingZeros64, Div64, Rem64. -/
import Derived.Test.YthkcpaanegjodaaExactB
import Derived.Test.YthkcpaanegjodaaExactDiv
import Derived.Lib.Strings
import Derived.Lib.Slices
import Derived.Lib.Small
import Derived.Lib.Walk
import Derived.Lib.BitFns
namespace Go.Proofs.Ythkcpaanegjodaa
open Go.RowKit

theorem len_spec : ∀ x : Nat, 0 < x → x < 18446744073709551616 → 1 ≤ Lib.bitLen x ∧ Lib.bitLen x ≤ 64 ∧ 2 ^ (Lib.bitLen x - 1) ≤ x ∧ x < 2 ^ Lib.bitLen x := by
  intro x h0 hx
  have main : ∀ k x : Nat, 0 < x → x < 2 ^ k → k ≤ 64 → 1 ≤ Lib.bitLen x ∧ Lib.bitLen x ≤ k ∧ 2 ^ (Lib.bitLen x - 1) ≤ x ∧ x < 2 ^ Lib.bitLen x := by
    intro k
    induction k with
    | zero => intro x h0 h1; simp at h1; omega
    | succ k ih =>
      intro x h0 h1 hk
      have h64 : x < 2 ^ 64 := Nat.lt_of_lt_of_le h1 (Nat.pow_le_pow_right (by decide) hk)
      have hh := Lib.bitLen_half x (by omega) h64
      by_cases h2 : x / 2 = 0
      · rw [h2, show Lib.bitLen 0 = 0 from rfl] at hh
        rw [hh]
        exact ⟨by omega, by omega, by simp; omega, by simp; omega⟩
      · obtain ⟨a, b, c, d⟩ := ih (x / 2) (by omega) (by rw [Nat.pow_succ] at h1; omega) (by omega)
        rw [hh]
        generalize Lib.bitLen (x / 2) = n at *
        obtain ⟨m, rfl⟩ : ∃ m, n = m + 1 := ⟨n - 1, by omega⟩
        rw [show 1 + (m + 1) - 1 = m + 1 by omega, show 1 + (m + 1) = (m + 1) + 1 by omega, Nat.pow_succ, Nat.pow_succ]
        rw [show m + 1 - 1 = m by omega] at c
        rw [Nat.pow_succ] at d
        exact ⟨by omega, by omega, by omega, by omega⟩
  exact main 64 x h0 hx (by omega)
theorem len_part (x k d : Nat) (e : Int) (hd : d = 2 ^ k) (hx : x < 18446744073709551616) (h : d ≤ x ∨ k = 0) (h8 : x / d < 256) (he : e = ((x / d : Nat) : Int)) : Lib.len8 e = (Lib.bitLen x : Int) - (k : Int) ∧ 0 ≤ Lib.len8 e ∧ Lib.len8 e ≤ 8 := by
  have h1 := Lib.len8_of e (by rw [he]; exact Int.natCast_nonneg _) (by rw [he]; generalize x / d = t at *; omega)
  have h2 := Lib.bitLen_le8' e (by rw [he]; exact Int.natCast_nonneg _) (by rw [he]; generalize x / d = t at *; omega)
  rw [he] at h1 h2 ⊢
  rw [Int.toNat_natCast] at h1 h2
  rw [h1]
  refine ⟨?_, by omega, by omega⟩
  rcases h with h | h
  · have := Lib.bitLen_shift k x (by omega) hx
    rw [← hd] at this
    omega
  · subst h
    simp at hd
    subst hd
    simp
set_option maxHeartbeats 4000000 in
set_option maxRecDepth 100000 in
theorem len64_int (z : Int) (w : World) (h0 : 0 ≤ z) (h1 : z ≤ 18446744073709551615) :
    Calls Try.prog 120 #[.int .u64 z] w fun e w' => e = .returned (.int .i64 (Lib.bitLen z.toNat)) ∧ w = w' := by
  obtain ⟨x, hz⟩ : ∃ x : Nat, x = z.toNat := ⟨_, rfl⟩
  have HZ := Lib.hid hz
  have hx : x < 18446744073709551616 := by omega
  rw [← hz]
  clear hz
  by_cases c32 : 4294967296 ≤ z
  · by_cases c16 : 65536 ≤ z / 4294967296
    · by_cases c8 : 256 ≤ z / 4294967296 / 65536
      · have k0 : 0 ≤ z / 4294967296 / 65536 / 256 := by omega
        have k1 : z / 4294967296 / 65536 / 256 ≤ 255 := by omega
        have hz := HZ.out
        obtain ⟨p, q, r⟩ := len_part x 56 72057594037927936 (z / 4294967296 / 65536 / 256) (by decide) hx (by omega) (by omega) (by omega)
        clear hz
        have HP := Lib.hid p
        clear p
        go_enter Try.func120, Try.ntmps120
        go_wp2
        go_ret
        exact ⟨ret_int (by have := HP.out; omega), rfl⟩
      · have k0 : 0 ≤ z / 4294967296 / 65536 := by omega
        have k1 : z / 4294967296 / 65536 ≤ 255 := by omega
        have hz := HZ.out
        obtain ⟨p, q, r⟩ := len_part x 48 281474976710656 (z / 4294967296 / 65536) (by decide) hx (by omega) (by omega) (by omega)
        clear hz
        have HP := Lib.hid p
        clear p
        go_enter Try.func120, Try.ntmps120
        go_wp2
        go_ret
        exact ⟨ret_int (by have := HP.out; omega), rfl⟩
    · by_cases c8 : 256 ≤ z / 4294967296
      · have k0 : 0 ≤ z / 4294967296 / 256 := by omega
        have k1 : z / 4294967296 / 256 ≤ 255 := by omega
        have hz := HZ.out
        obtain ⟨p, q, r⟩ := len_part x 40 1099511627776 (z / 4294967296 / 256) (by decide) hx (by omega) (by omega) (by omega)
        clear hz
        have HP := Lib.hid p
        clear p
        go_enter Try.func120, Try.ntmps120
        go_wp2
        go_ret
        exact ⟨ret_int (by have := HP.out; omega), rfl⟩
      · have k0 : 0 ≤ z / 4294967296 := by omega
        have k1 : z / 4294967296 ≤ 255 := by omega
        have hz := HZ.out
        obtain ⟨p, q, r⟩ := len_part x 32 4294967296 (z / 4294967296) (by decide) hx (by omega) (by omega) (by omega)
        clear hz
        have HP := Lib.hid p
        clear p
        go_enter Try.func120, Try.ntmps120
        go_wp2
        go_ret
        exact ⟨ret_int (by have := HP.out; omega), rfl⟩
  · by_cases c16 : 65536 ≤ z
    · by_cases c8 : 256 ≤ z / 65536
      · have k0 : 0 ≤ z / 65536 / 256 := by omega
        have k1 : z / 65536 / 256 ≤ 255 := by omega
        have hz := HZ.out
        obtain ⟨p, q, r⟩ := len_part x 24 16777216 (z / 65536 / 256) (by decide) hx (by omega) (by omega) (by omega)
        clear hz
        have HP := Lib.hid p
        clear p
        go_enter Try.func120, Try.ntmps120
        go_wp2
        go_ret
        exact ⟨ret_int (by have := HP.out; omega), rfl⟩
      · have k0 : 0 ≤ z / 65536 := by omega
        have k1 : z / 65536 ≤ 255 := by omega
        have hz := HZ.out
        obtain ⟨p, q, r⟩ := len_part x 16 65536 (z / 65536) (by decide) hx (by omega) (by omega) (by omega)
        clear hz
        have HP := Lib.hid p
        clear p
        go_enter Try.func120, Try.ntmps120
        go_wp2
        go_ret
        exact ⟨ret_int (by have := HP.out; omega), rfl⟩
    · by_cases c8 : 256 ≤ z
      · have k0 : 0 ≤ z / 256 := by omega
        have k1 : z / 256 ≤ 255 := by omega
        have hz := HZ.out
        obtain ⟨p, q, r⟩ := len_part x 8 256 (z / 256) (by decide) hx (by omega) (by omega) (by omega)
        clear hz
        have HP := Lib.hid p
        clear p
        go_enter Try.func120, Try.ntmps120
        go_wp2
        go_ret
        exact ⟨ret_int (by have := HP.out; omega), rfl⟩
      · have k0 : 0 ≤ z := by omega
        have k1 : z ≤ 255 := by omega
        have hz := HZ.out
        obtain ⟨p, q, r⟩ := len_part x 0 1 (z) (by decide) hx (by omega) (by omega) (by omega)
        clear hz
        have HP := Lib.hid p
        clear p
        go_enter Try.func120, Try.ntmps120
        go_wp2
        go_ret
        exact ⟨ret_int (by have := HP.out; omega), rfl⟩
theorem len64_any (x : Nat) (w : World) (hx : x < 18446744073709551616) :
    Calls Try.prog 120 #[.int .u64 x] w fun e w' => e = .returned (.int .i64 (Lib.bitLen x)) ∧ w = w' := len64_int (x : Int) w (by omega) (by omega)
set_option maxRecDepth 100000 in
theorem lead64_any (x : Nat) (w : World) (h0 : 0 < x) (hx : x < 18446744073709551616) :
    Calls Try.prog 107 #[.int .u64 x] w fun e w' => e = .returned (.int .i64 ((64 - Lib.bitLen x : Nat) : Int)) ∧ w = w' := by
  obtain ⟨h1, h2, _, _⟩ := len_spec x h0 hx
  have hl := len64_any x w hx
  generalize Lib.bitLen x = n at *
  go_enter Try.func107, Try.ntmps107
  go_wp2_with fail
  refine hl.mono ?_
  rintro e w' ⟨rfl, rfl⟩
  go_wp2
  go_ret
  exact ⟨ret_int (by omega), rfl⟩
end Go.Proofs.Ythkcpaanegjodaa
