
/- exact's wide numbers: divided, what is left; a sum with signs; back to a number; Add, Mul. -/
import Derived.Test.YthkcpaanegjodaaExactD
import Derived.Deep.RegionHeld3
namespace Go.Proofs.Ythkcpaanegjodaa
open Go.RowKit

/-- two words by one, word by word -/
theorem over_words (n d : Nat) (hd : 0 < d) : (n / 18446744073709551616 % d * 18446744073709551616 + n % 18446744073709551616) / d = n / d % 18446744073709551616 ∧ n / 18446744073709551616 / d = n / d / 18446744073709551616 ∧ n / 18446744073709551616 % d < d := by
  have hl := Nat.mod_lt (n / 18446744073709551616) hd
  refine ⟨?_, by rw [Nat.div_div_eq_div_mul, Nat.div_div_eq_div_mul, Nat.mul_comm], hl⟩
  have h1 := Nat.div_add_mod n 18446744073709551616
  have h2 := Nat.div_add_mod (n / 18446744073709551616) d
  have hll := Nat.mod_lt n (show 0 < 18446744073709551616 by decide)
  obtain ⟨h, eh⟩ : ∃ h, h = n / 18446744073709551616 := ⟨_, rfl⟩
  obtain ⟨l, el⟩ : ∃ l, l = n % 18446744073709551616 := ⟨_, rfl⟩
  rw [← eh] at hl h2
  rw [← eh, ← el] at h1 ⊢
  rw [← el] at hll
  obtain ⟨q, eq⟩ : ∃ q, q = h / d := ⟨_, rfl⟩
  obtain ⟨r, er⟩ : ∃ r, r = h % d := ⟨_, rfl⟩
  rw [← er] at hl ⊢
  rw [← er, ← eq] at h2
  have e : n = (r * 18446744073709551616 + l) + d * (q * 18446744073709551616) := by rw [← h1, ← h2]; grind
  rw [e, Nat.add_mul_div_left _ _ hd, Nat.add_mul_mod_self_right]
  symm
  apply Nat.mod_eq_of_lt
  apply Nat.div_lt_of_lt_mul
  have : (r + 1) * 18446744073709551616 ≤ d * 18446744073709551616 := Nat.mul_le_mul_right _ (by omega)
  omega
set_option maxHeartbeats 1000000 in
set_option maxRecDepth 100000 in
theorem wover_any (n d : Nat) (w : World) (hd : 0 < d) (hd6 : d < 18446744073709551616) (hn : n < 340282366920938463463374607431768211456) :
    Calls Try.prog 60 #[wv n, .int .u64 d] w fun e w' => e = .returned (wv (n / d)) ∧ Below w.heap.size w w' := by
  obtain ⟨o1, o2, o3⟩ := over_words n d hd
  unfold wv
  rw [← o1, ← o2]
  obtain ⟨h, eh⟩ : ∃ h, h = n / 18446744073709551616 := ⟨_, rfl⟩
  obtain ⟨l, el⟩ : ∃ l, l = n % 18446744073709551616 := ⟨_, rfl⟩
  have hh : h < 18446744073709551616 := by omega
  have hl : l < 18446744073709551616 := by omega
  rw [← eh] at o3
  rw [← eh, ← el]
  obtain ⟨m, em⟩ : ∃ m, m = h % d := ⟨_, rfl⟩
  obtain ⟨t, et⟩ : ∃ t, t = h / d := ⟨_, rfl⟩
  have htl : t ≤ h := by rw [et]; exact Nat.div_le_self _ _
  rw [← em] at o3
  rw [← em, ← et]
  obtain ⟨q, hq⟩ : ∃ q, q = (m * 18446744073709551616 + l) / d := ⟨_, rfl⟩
  obtain ⟨r, hr⟩ : ∃ r, r = (m * 18446744073709551616 + l) % d := ⟨_, rfl⟩
  have hD := fun w => div64_any m l d w o3 hd6 hl
  rw [← hq, ← hr] at hD
  rw [← hq]
  have e1 : (h : Int) % (d : Int) = (m : Int) := by rw [em]; simp
  have e2 : (h : Int) / (d : Int) = (t : Int) := by rw [et]; simp
  have d0 : ¬ d = 0 := by omega
  have d1 : ((d : Int) == 0) = false := by simp; omega
  clear o1 o2 eh el em et hq hr hn
  go_enter Try.func60, Try.ntmps60
  go_wp2
  go_quiet ((go_at_call 85; exact Calls.quiet_of (hD _)))
  go_wp2
  exact bodyPost_ret (v := .agg #[.int .u64 (t : Int), .int .u64 (q : Int)]) (by simp [results, Try.results60, go_sem]) rfl ⟨rfl, ((((bl2 _ _ _).trans ((drewN_below _ _).mono (by simp; omega))).setCell (by simp) _).setCell (by simp) _)⟩
set_option maxHeartbeats 1000000 in
set_option maxRecDepth 100000 in
theorem wrest_any (n d : Nat) (w : World) (hd : 0 < d) (hd6 : d < 18446744073709551616) (hn : n < 340282366920938463463374607431768211456) :
    Calls Try.prog 59 #[wv n, .int .u64 d] w fun e w' => e = .returned (.int .u64 ((n % d : Nat) : Int)) ∧ Below w.heap.size w w' := by
  have h1 := Nat.div_add_mod' n 18446744073709551616
  have hD := fun w => rem64_any (n / 18446744073709551616) (n % 18446744073709551616) d w hd hd6 (by omega) (by omega)
  rw [h1] at hD
  unfold wv
  obtain ⟨h, eh⟩ : ∃ h, h = n / 18446744073709551616 := ⟨_, rfl⟩
  obtain ⟨l, el⟩ : ∃ l, l = n % 18446744073709551616 := ⟨_, rfl⟩
  obtain ⟨r, er⟩ : ∃ r, r = n % d := ⟨_, rfl⟩
  rw [← eh, ← el, ← er] at hD
  rw [← eh, ← el, ← er]
  clear h1 eh el er hn
  go_enter Try.func59, Try.ntmps59
  go_wp2_with fail
  refine (hD _).mono ?_
  rintro e w' ⟨rfl, k, rfl⟩
  go_wp2
  go_ret
  exact ⟨rfl, (bl1 _ _).trans ((drewN_below _ _).mono (by simp))⟩

/-- a number of 64 bits with a sign, of a sign and a size -/
def numV (m : Bool) (n : Nat) : Int := if m then -(n : Int) else (n : Int)
def fitB (v : Int) : Bool := decide (-9223372036854775808 ≤ v) && decide (v ≤ 9223372036854775807)
def fitV (v : Int) : Int := if fitB v then v else 0
theorem fitB_true {v : Int} (h : I64n v) : fitB v = true := by unfold fitB; unfold I64n at h; simp; omega
theorem fitB_false {v : Int} (h : ¬ I64n v) : fitB v = false := by unfold fitB; unfold I64n at h; simp; omega
theorem fitV_true {v : Int} (h : I64n v) : fitV v = v := by unfold fitV; rw [fitB_true h]; rfl
theorem fitV_false {v : Int} (h : ¬ I64n v) : fitV v = 0 := by unfold fitV; rw [fitB_false h]; rfl
set_option maxHeartbeats 1000000 in
set_option maxRecDepth 100000 in
theorem number_neg (n : Nat) (w : World) (hn : n < 340282366920938463463374607431768211456) :
    Calls Try.prog 51 #[.bool true, wv n] w fun e w' => e = .returned (.tuple #[.int .i64 (fitV (-(n : Int))), .bool (fitB (-(n : Int)))]) ∧ Below w.heap.size w w' := by
  have hO := fun w => order_any n 9223372036854775808 w
  have hwM : wv 9223372036854775808 = .agg #[.int .u64 0, .int .u64 9223372036854775808] := rfl
  rw [hwM] at hO
  obtain ⟨c, ec⟩ : ∃ c, c = cmpI n (9223372036854775808 : Nat) := ⟨_, rfl⟩
  rw [← ec] at hO
  unfold wv at hO ⊢
  obtain ⟨h, eh⟩ : ∃ h, h = n / 18446744073709551616 := ⟨_, rfl⟩
  obtain ⟨l, el⟩ : ∃ l, l = n % 18446744073709551616 := ⟨_, rfl⟩
  rw [← eh, ← el] at hO ⊢
  have hl : l < 18446744073709551616 := by omega
  by_cases hc : n ≤ 9223372036854775808
  · have hd : decide ((0 : Int) < c) = false := by rw [ec]; unfold cmpI; (repeat' split) <;> first | rfl | (exfalso; omega)
    have hfit : I64n (-(n : Int)) := by unfold I64n; omega
    have hln : l = n := by omega
    rw [fitV_true hfit, fitB_true hfit]
    subst hln
    have e64 : wrap64 (IntKind.u64.wrap (-(l : Int))) = -(l : Int) := by rw [IntKind.wrap_u64]; unfold wrap64; omega
    clear ec eh el hfit hn hwM
    go_enter Try.func51, Try.ntmps51
    go_wp2_with fail
    refine (hO _).mono ?_
    rintro e w1 ⟨rfl, hb⟩
    have c1 : w1.cell? ⟨w.heap.size, 1, none⟩ = some (.int .u64 (l : Int)) := by rw [hb.cell (p := ⟨w.heap.size, 1, none⟩) (by simp)]; simp [go_sem]
    go_wp2
    go_ret2
    exact ⟨by show Ending.returned (.tuple #[.int .i64 (wrap64 (IntKind.u64.wrap (-(l : Int)))), .bool true]) = _; rw [e64], (bl1 _ _).trans (hb.mono (by simp))⟩
  · have hd : decide ((0 : Int) < c) = true := by rw [ec]; unfold cmpI; (repeat' split) <;> first | rfl | (exfalso; omega)
    have hfit : ¬ I64n (-(n : Int)) := by unfold I64n; omega
    rw [fitV_false hfit, fitB_false hfit]
    clear ec eh el hfit hn hwM
    go_enter Try.func51, Try.ntmps51
    go_wp2_with fail
    refine (hO _).mono ?_
    rintro e w1 ⟨rfl, hb⟩
    go_wp2
    go_ret2
    exact ⟨rfl, (bl1 _ _).trans (hb.mono (by simp))⟩
set_option maxHeartbeats 1000000 in
set_option maxRecDepth 100000 in
theorem number_pos (n : Nat) (w : World) (hn : n < 340282366920938463463374607431768211456) :
    Calls Try.prog 51 #[.bool false, wv n] w fun e w' => e = .returned (.tuple #[.int .i64 (fitV ((n : Int))), .bool (fitB ((n : Int)))]) ∧ Below w.heap.size w w' := by
  have hO := fun w => order_any n 9223372036854775807 w
  have hwM : wv 9223372036854775807 = .agg #[.int .u64 0, .int .u64 9223372036854775807] := rfl
  rw [hwM] at hO
  obtain ⟨c, ec⟩ : ∃ c, c = cmpI n (9223372036854775807 : Nat) := ⟨_, rfl⟩
  rw [← ec] at hO
  unfold wv at hO ⊢
  obtain ⟨h, eh⟩ : ∃ h, h = n / 18446744073709551616 := ⟨_, rfl⟩
  obtain ⟨l, el⟩ : ∃ l, l = n % 18446744073709551616 := ⟨_, rfl⟩
  rw [← eh, ← el] at hO ⊢
  have hl : l < 18446744073709551616 := by omega
  by_cases hc : n ≤ 9223372036854775807
  · have hd : decide ((0 : Int) < c) = false := by rw [ec]; unfold cmpI; (repeat' split) <;> first | rfl | (exfalso; omega)
    have hfit : I64n ((n : Int)) := by unfold I64n; omega
    have hln : l = n := by omega
    rw [fitV_true hfit, fitB_true hfit]
    subst hln
    clear ec eh el hfit hn hwM
    go_enter Try.func51, Try.ntmps51
    go_wp2_with fail
    refine (hO _).mono ?_
    rintro e w1 ⟨rfl, hb⟩
    have c1 : w1.cell? ⟨w.heap.size, 1, none⟩ = some (.int .u64 (l : Int)) := by rw [hb.cell (p := ⟨w.heap.size, 1, none⟩) (by simp)]; simp [go_sem]
    go_wp2
    go_ret2
    exact ⟨rfl, (bl1 _ _).trans (hb.mono (by simp))⟩
  · have hd : decide ((0 : Int) < c) = true := by rw [ec]; unfold cmpI; (repeat' split) <;> first | rfl | (exfalso; omega)
    have hfit : ¬ I64n ((n : Int)) := by unfold I64n; omega
    rw [fitV_false hfit, fitB_false hfit]
    clear ec eh el hfit hn hwM
    go_enter Try.func51, Try.ntmps51
    go_wp2_with fail
    refine (hO _).mono ?_
    rintro e w1 ⟨rfl, hb⟩
    go_wp2
    go_ret2
    exact ⟨rfl, (bl1 _ _).trans (hb.mono (by simp))⟩
theorem number_any (m : Bool) (n : Nat) (w : World) (hn : n < 340282366920938463463374607431768211456) :
    Calls Try.prog 51 #[.bool m, wv n] w fun e w' => e = .returned (.tuple #[.int .i64 (fitV (numV m n)), .bool (fitB (numV m n))]) ∧ Below w.heap.size w w' := by
  cases m with
  | true => exact number_neg n w hn
  | false => exact number_pos n w hn
end Go.Proofs.Ythkcpaanegjodaa
