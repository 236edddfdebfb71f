
/- The document's Value: a row of bits as a word. -/
import Derived.Test.YthkcpaanegjodaaExactX
namespace Go.Proofs.Ythkcpaanegjodaa
open Go.RowKit

def valV (l : List Bool) : Nat := if l.length ≤ 64 then ExactM.val l else 0
set_option maxHeartbeats 1000000 in
set_option maxRecDepth 100000 in
theorem rvalue_any (va : Value) (l : List Bool) (w : World) (hl : l.length ≤ 1000) (hA : Rd w va l) :
    Calls Try.prog 46 #[va] w fun e w' => e = .returned (.tuple #[.int .u64 (valV l : Int), .bool (decide (l.length ≤ 64))]) ∧ w = w' := by
  obtain ⟨A, ca, ea⟩ := hA.len
  unfold valV
  obtain ⟨n, hn⟩ : ∃ m, m = l.length := ⟨_, rfl⟩
  rw [← hn] at ea hl ⊢
  have HN := Lib.hid hn
  subst ea
  clear hn
  by_cases h64 : n ≤ 64
  · rw [if_pos h64]
    have hd : decide ((64 : Int) < (n : Int)) = false := decide_eq_false (by omega)
    have hdd : decide (n ≤ 64) = true := decide_eq_true h64
    rw [hdd]
    have hvl : ExactM.val l < 18446744073709551616 := by
      have h1 := ExactM.val_lt l
      have h2 : 2 ^ l.length ≤ 2 ^ 64 := Nat.pow_le_pow_right (by decide) (by rw [← HN.out]; exact h64)
      exact Nat.lt_of_lt_of_le h1 h2
    go_enter Try.func46, Try.ntmps46
    go_wp2
    go_loop [4, 5] (fun x i => ∃ k : Nat, i = .int .i64 ((k : Int) - 1) ∧ x = .int .u64 (ExactM.val (l.drop k) : Int) ∧ k ≤ n) (fun _ i => (intOf i + 1).toNat)
    case atStart => exact ⟨n, rfl, by rw [List.drop_of_length_le (by rw [← HN.out]; exact Nat.le_refl _)]; rfl, Nat.le_refl _⟩
    case round =>
      obtain ⟨k, rfl, rfl, hk⟩ := hrel
      by_cases h0 : k = 0
      · subst h0
        rw [List.drop_zero]
        obtain ⟨u, hu⟩ : ∃ u, u = ExactM.val l := ⟨_, rfl⟩
        rw [← hu] at hvl ⊢
        have HU := Lib.hid hu
        clear hu
        go_wp2
        go_ret2
        exact ⟨by rw [← HU.out]; rfl, rfl⟩
      · obtain ⟨j, rfl⟩ : ∃ j, k = j + 1 := ⟨k - 1, by omega⟩
        have jl : j < l.length := by rw [← HN.out]; omega
        have hv := ExactM.val_drop l j jl
        have hbt := bit_any (.slice A n ca) l j w hA
        have hbe : ExactM.bitN l j = (l[j]).toNat := by unfold ExactM.bitN; rw [List.getD_eq_getElem?_getD, List.getElem?_eq_getElem jl]; rfl
        rw [← hbe] at hv
        have hle := ExactM.bitN_le l j
        have hvj : ExactM.val (l.drop j) ≤ ExactM.val l := by
          have h1 := ExactM.val_append (l.take j) (l.drop j)
          rw [List.take_append_drop] at h1
          have h2 : 1 * ExactM.val (l.drop j) ≤ 2 ^ (l.take j).length * ExactM.val (l.drop j) := Nat.mul_le_mul_right _ (Nat.two_pow_pos _)
          omega
        obtain ⟨x, hx⟩ : ∃ x, x = ExactM.bitN l j := ⟨_, rfl⟩
        obtain ⟨u, hu⟩ : ∃ u, u = ExactM.val (l.drop (j + 1)) := ⟨_, rfl⟩
        rw [← hx] at hv hbt hle
        rw [← hu] at hv ⊢
        have hul : 2 * u + x < 18446744073709551616 := by omega
        have HV := Lib.hid hv
        rw [show ((j + 1 : Nat) : Int) - 1 = (j : Int) by omega]
        clear hx hu hv hbe jl h0 hvj
        go_wp2_with fail
        refine hbt.mono ?_
        rintro e w' ⟨rfl, rfl⟩
        go_wp2
        go_round
        case rel => exact ⟨j, rfl, by rw [HV.out]; go_num, by omega⟩
        case measure => simp [intOf]
  · rw [if_neg h64]
    have hd : decide ((64 : Int) < (n : Int)) = true := decide_eq_true (by omega)
    have hdd : decide (n ≤ 64) = false := decide_eq_false h64
    rw [hdd]
    go_enter Try.func46, Try.ntmps46
    go_wp2
    go_ret2
    exact ⟨rfl, rfl⟩
end Go.Proofs.Ythkcpaanegjodaa
