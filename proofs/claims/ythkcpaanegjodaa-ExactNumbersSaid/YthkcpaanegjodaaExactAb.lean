
/- The document's Back: a number of 64 bits with a sign. -/
import Derived.Test.YthkcpaanegjodaaExactAa
import Derived.Test.YthkcpaanegjodaaExactE
namespace Go.Proofs.Ythkcpaanegjodaa
open Go.RowKit

theorem long_big (n : Nat) (h : ¬ (ExactM.ofN n).length ≤ 64) : 18446744073709551616 ≤ n := by
  rcases Nat.lt_or_ge n 18446744073709551616 with hlt | hge
  · exact absurd (ExactM.len_ofN n 64 hlt) h
  · exact hge
set_option maxHeartbeats 2000000 in
set_option maxRecDepth 100000 in
theorem rback_any (A : Value) (z : Int) (w : World) (ha : (ExactM.ofN z.natAbs).length ≤ 200) (hA : Bg w A z) :
    Calls Try.prog 10 #[A] w fun e w' => e = .returned (.tuple #[.int .i64 (fitV z), .bool (fitB z)]) ∧ Below w.heap.size w w' := by
  obtain ⟨va, rfl, ra⟩ := hA
  obtain ⟨Aa, ca, rfl⟩ := ra.len
  have hv := rvalue_any _ _ _ (by omega) (ra.below (bl1 w (.cells #[.slice Aa (ExactM.ofN z.natAbs).length ca, .bool (decide (z < 0))] 29)))
  have hlong := long_big z.natAbs
  obtain ⟨n, hn⟩ : ∃ n, n = z.natAbs := ⟨_, rfl⟩
  rw [← hn] at hv hlong ra ha ⊢
  have hvl := ExactM.val_lt (ExactM.ofN n)
  rw [ExactM.val_ofN] at hvl
  obtain ⟨la, hla⟩ : ∃ m, m = (ExactM.ofN n).length := ⟨_, rfl⟩
  have hvv : valV (ExactM.ofN n) = if la ≤ 64 then n else 0 := by unfold valV; rw [ExactM.val_ofN, hla]
  rw [hvv] at hv
  rw [← hla] at hv hlong hvl ⊢
  obtain ⟨s, hs⟩ : ∃ s, s = decide (z < 0) := ⟨_, rfl⟩
  rw [← hs] at hv ⊢
  have bz := bl1 w (.cells #[.slice Aa la ca, .bool s] 29)
  have HS := Lib.hid hs
  clear ra ha hla hvv hs
  by_cases hl : la ≤ 64
  · rw [if_pos hl, decide_eq_true hl] at hv
    have HV := Lib.hid hv
    have hn64 : n ≤ 18446744073709551615 := by
      have h2 : 2 ^ la ≤ 2 ^ 64 := Nat.pow_le_pow_right (by decide) hl
      have h3 : (2 : Nat) ^ 64 = 18446744073709551616 := rfl
      omega
    clear hv hlong hvl
    have hsz := HS.out
    by_cases hbig : 9223372036854775808 < n
    · have hf : ¬ I64n z := by unfold I64n; omega
      rw [fitV_false hf, fitB_false hf]
      have hd1 : decide ((9223372036854775808 : Int) < (n : Int)) = true := decide_eq_true (by omega)
      clear hf hsz hn hl
      go_enter Try.func10, Try.ntmps10
      go_wp2_with fail
      refine HV.out.mono ?_
      rintro e w2 ⟨rfl, rfl⟩
      go_wp2
      go_ret2
      exact ⟨rfl, bz⟩
    · have hd1 : decide ((9223372036854775808 : Int) < (n : Int)) = false := decide_eq_false (by omega)
      cases s with
      | false =>
        have hz0 : 0 ≤ z := by
          have : ¬ z < 0 := of_decide_eq_false hsz.symm
          omega
        by_cases heq : n = 9223372036854775808
        · have hf : ¬ I64n z := by unfold I64n; omega
          rw [fitV_false hf, fitB_false hf]
          have hd2 : ((n : Int) == 9223372036854775808) = true := by rw [heq]; rfl
          clear hf hsz hn hl heq hz0
          go_enter Try.func10, Try.ntmps10
          go_wp2_with fail
          refine HV.out.mono ?_
          rintro e w2 ⟨rfl, rfl⟩
          go_wp2
          go_ret2
          exact ⟨rfl, bz⟩
        · have hf : I64n z := by unfold I64n; omega
          rw [fitV_true hf, fitB_true hf]
          have hd2 : ((n : Int) == 9223372036854775808) = false := by simp; omega
          obtain rfl : z = (n : Int) := by omega
          have hn63 : (n : Int) ≤ 9223372036854775807 := by omega
          clear hf hsz hn hl heq
          go_enter Try.func10, Try.ntmps10
          go_wp2_with fail
          refine HV.out.mono ?_
          rintro e w2 ⟨rfl, rfl⟩
          go_wp2
          go_ret2
          exact ⟨rfl, bz⟩
      | true =>
        have hz0 : z < 0 := of_decide_eq_true hsz.symm
        have hf : I64n z := by unfold I64n; omega
        rw [fitV_true hf, fitB_true hf]
        have hd3 : ((n : Int) == 0) = false := by simp; omega
        obtain ⟨p, hp⟩ : ∃ p : Nat, (n : Int) - 1 = (p : Int) := ⟨n - 1, by omega⟩
        have hpz : -(p : Int) - 1 = z := by omega
        have hp63 : (p : Int) ≤ 9223372036854775807 := by omega
        have hn1 : (1 : Int) ≤ (n : Int) := by omega
        clear hf hsz hn hl
        by_cases heq : n = 9223372036854775808
        · have hd2 : ((n : Int) == 9223372036854775808) = true := by rw [heq]; rfl
          clear heq
          go_enter Try.func10, Try.ntmps10
          go_wp2_with fail
          refine HV.out.mono ?_
          rintro e w2 ⟨rfl, rfl⟩
          go_wp2
          go_ret2
          exact ⟨rfl, bz⟩
        · have hd2 : ((n : Int) == 9223372036854775808) = false := by simp; omega
          clear heq
          go_enter Try.func10, Try.ntmps10
          go_wp2_with fail
          refine HV.out.mono ?_
          rintro e w2 ⟨rfl, rfl⟩
          go_wp2
          go_ret2
          exact ⟨rfl, bz⟩
  · rw [if_neg hl, decide_eq_false hl] at hv
    have hf : ¬ I64n z := by have := hlong hl; unfold I64n; omega
    rw [fitV_false hf, fitB_false hf]
    have HV := Lib.hid hv
    clear hv hlong hf hl hn
    go_enter Try.func10, Try.ntmps10
    go_wp2_with fail
    refine HV.out.mono ?_
    rintro e w2 ⟨rfl, rfl⟩
    go_wp2
    go_ret2
    exact ⟨rfl, bz⟩
end Go.Proofs.Ythkcpaanegjodaa
