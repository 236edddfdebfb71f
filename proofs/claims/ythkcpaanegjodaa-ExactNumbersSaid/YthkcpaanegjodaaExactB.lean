
/- exact's numbers of two words: products, comparing, sums, differences. -/
import Derived.Test.YthkcpaanegjodaaExactA
import Derived.Laws.StructEq
import Derived.Shelf.Spec.BitsCarry
namespace Go.Proofs.Ythkcpaanegjodaa
open Go.RowKit

theorem maskN32 (a : Nat) (ha : a < 18446744073709551616) : bits .and .u64 (a : Int) 4294967295 = ((a % 4294967296 : Nat) : Int) := by
  have h := bits_and_u64_nat a 4294967295 ha (by omega)
  have e : a &&& 4294967295 = a % 4294967296 := Nat.and_two_pow_sub_one_eq_mod a 32
  rw [e] at h
  exact h
theorem div32N (a : Nat) : (a : Int) / 4294967296 = ((a / 4294967296 : Nat) : Int) := by omega
theorem mulNN (a b : Nat) : (a : Int) * (b : Int) = ((a * b : Nat) : Int) := (Int.natCast_mul a b).symm
theorem addNN (a b : Nat) : (a : Int) + (b : Int) = ((a + b : Nat) : Int) := (Int.natCast_add a b).symm
theorem wrapNN (a : Nat) (ha : a < 18446744073709551616) : IntKind.u64.wrap (a : Int) = (a : Int) := by rw [IntKind.wrap_u64]; omega
theorem wrapMM (a : Nat) : IntKind.u64.wrap (a : Int) = ((a % 18446744073709551616 : Nat) : Int) := by rw [IntKind.wrap_u64]; omega

set_option maxHeartbeats 1000000 in
set_option maxRecDepth 100000 in
theorem mul64_any (x y : Nat) (w : World) (hx : x < 18446744073709551616) (hy : y < 18446744073709551616) :
    Calls Try.prog 55 #[.int .u64 x, .int .u64 y] w fun e w' => e = .returned (.tuple #[.int .u64 ((x * y / 18446744073709551616 : Nat) : Int), .int .u64 ((x * y % 18446744073709551616 : Nat) : Int)]) ∧ w = w' := by
  obtain ⟨bd, bt, bw, hhi⟩ := Lib.mul64_hi x y hx hy
  have ba := Lib.half_mul_le (a := x / 4294967296) (b := y / 4294967296) (by omega) (by omega)
  have bb := Lib.half_mul_le (a := x / 4294967296) (b := y % 4294967296) (by omega) (by omega)
  have bc := Lib.half_mul_le (a := x % 4294967296) (b := y / 4294967296) (by omega) (by omega)
  have ba' : x / 4294967296 * (y / 4294967296) < 18446744073709551616 := by omega
  have bb' : x / 4294967296 * (y % 4294967296) < 18446744073709551616 := by omega
  have bc' : x % 4294967296 * (y / 4294967296) < 18446744073709551616 := by omega
  have bh1 : x / 4294967296 * (y / 4294967296) + (x / 4294967296 * (y % 4294967296) + x % 4294967296 * (y % 4294967296) / 4294967296) / 4294967296 < 18446744073709551616 := by omega
  have bh : x / 4294967296 * (y / 4294967296) + (x / 4294967296 * (y % 4294967296) + x % 4294967296 * (y % 4294967296) / 4294967296) / 4294967296 + ((x / 4294967296 * (y % 4294967296) + x % 4294967296 * (y % 4294967296) / 4294967296) % 4294967296 + x % 4294967296 * (y / 4294967296)) / 4294967296 < 18446744073709551616 := by omega
  go_enter Try.func55, Try.ntmps55
  go_wp2
  simp only [maskN32 x hx, maskN32 y hy, div32N, mulNN, addNN, wrapNN _ bd, wrapNN _ bb', wrapNN _ bt, maskN32 _ bt, wrapNN _ bc', wrapNN _ bw, wrapNN _ ba', wrapNN _ bh1, wrapNN _ bh, wrapMM (x * y)]
  rw [hhi]
  go_ret2
  exact ⟨rfl, rfl⟩
set_option maxRecDepth 100000 in
theorem wide_any (x y : Nat) (w : World) (hx : x < 18446744073709551616) (hy : y < 18446744073709551616) :
    Calls Try.prog 15 #[.int .u64 x, .int .u64 y] w fun e w' => e = .returned (.tuple #[.int .u64 ((x * y / 18446744073709551616 : Nat) : Int), .int .u64 ((x * y % 18446744073709551616 : Nat) : Int)]) ∧ w = w' := by
  go_enter Try.func15, Try.ntmps15
  go_wp2_with fail
  refine (mul64_any x y _ hx hy).mono ?_
  rintro e w' ⟨rfl, rfl⟩
  obtain ⟨p, hp⟩ : ∃ p, p = x * y / 18446744073709551616 := ⟨_, rfl⟩
  obtain ⟨q, hq⟩ : ∃ q, q = x * y % 18446744073709551616 := ⟨_, rfl⟩
  rw [← hp, ← hq]
  go_wp2
  go_ret2
  exact ⟨rfl, rfl⟩
/-- a number of two words -/
def wv (n : Nat) : Value := .agg #[.int .u64 ((n / 18446744073709551616 : Nat) : Int), .int .u64 ((n % 18446744073709551616 : Nat) : Int)]
set_option maxHeartbeats 400000 in
set_option maxRecDepth 100000 in
theorem product_any (x y : Nat) (w : World) (hx : x < 18446744073709551616) (hy : y < 18446744073709551616) :
    Calls Try.prog 52 #[.int .u64 x, .int .u64 y] w fun e w' => e = .returned (wv (x * y)) ∧ Below w.heap.size w w' := by
  unfold wv
  have hw := wide_any x y (w.alloc (.cells #[.int .u64 0, .int .u64 0] 88)) hx hy
  generalize x * y / 18446744073709551616 = p at hw ⊢
  generalize x * y % 18446744073709551616 = q at hw ⊢
  go_enter Try.func52, Try.ntmps52
  go_wp2_with fail
  refine hw.mono ?_
  rintro e w' ⟨rfl, rfl⟩
  go_wp2
  exact bodyPost_ret (v := .agg #[.int .u64 (p : Int), .int .u64 (q : Int)]) (by simp [results, Try.results52, go_sem]) rfl ⟨rfl, bl1 _ _⟩
/-- comparing two words by two words -/
theorem cmp_words (m n : Nat) : cmpI m n = if m / 18446744073709551616 = n / 18446744073709551616 then cmpI ((m % 18446744073709551616 : Nat) : Int) ((n % 18446744073709551616 : Nat) : Int) else cmpI ((m / 18446744073709551616 : Nat) : Int) ((n / 18446744073709551616 : Nat) : Int) := by
  unfold cmpI
  (repeat' split) <;> omega
set_option maxHeartbeats 1000000 in
set_option maxRecDepth 100000 in
theorem order_any (m n : Nat) (w : World) :
    Calls Try.prog 62 #[wv m, wv n] w fun e w' => e = .returned (.int .i64 (cmpI m n)) ∧ Below w.heap.size w w' := by
  have hc := cmp_words m n
  unfold wv
  obtain ⟨a, ha⟩ : ∃ p, p = m / 18446744073709551616 := ⟨_, rfl⟩
  obtain ⟨b, hb⟩ : ∃ p, p = m % 18446744073709551616 := ⟨_, rfl⟩
  obtain ⟨c, hc'⟩ : ∃ p, p = n / 18446744073709551616 := ⟨_, rfl⟩
  obtain ⟨d, hd⟩ : ∃ p, p = n % 18446744073709551616 := ⟨_, rfl⟩
  rw [← ha, ← hb, ← hc', ← hd] at hc ⊢
  rw [hc]
  clear ha hb hc' hd hc
  by_cases h1 : a = c
  · subst h1
    rw [if_pos rfl]
    by_cases h2 : b = d
    · subst h2
      rw [show cmpI b b = 0 by unfold cmpI; (repeat' split) <;> omega]
      go_enter Try.func62, Try.ntmps62
      go_wp2
      go_ret
      exact ⟨rfl, bl2 _ _ _⟩
    · have hbd : ((b : Int) == (d : Int)) = false := by simpa using (fun e => h2 (by omega))
      go_enter Try.func62, Try.ntmps62
      go_wp2_with (go_at_call 87; refine (cmpu64_any _ _ _).mono ?_; rintro e w' ⟨rfl, rfl⟩)
      go_ret
      exact ⟨rfl, bl2 _ _ _⟩
  · rw [if_neg h1]
    have hac : ((a : Int) == (c : Int)) = false := by simpa using (fun e => h1 (by omega))
    go_enter Try.func62, Try.ntmps62
    go_wp2_with (go_at_call 87; refine (cmpu64_any _ _ _).mono ?_; rintro e w' ⟨rfl, rfl⟩)
    go_ret
    exact ⟨rfl, bl2 _ _ _⟩

theorem add64_run (x y c : Nat) (hc : c ≤ 1) (w : World) : (callFunc 105 #[.int .u64 x, .int .u64 y, .int .u64 c]).run Try.prog w =
    .ok (.value (.tuple #[.int .u64 (((x + y + c) % 18446744073709551616 : Nat) : Int), .int .u64 (((x + y + c) / 18446744073709551616 : Nat) : Int)])) w := by
  rw [run_callFunc_extern Try.func105 (by kernel_rfl) (by kernel_rfl) (by kernel_rfl) (e := add64Entry) (by kernel_rfl), run_add64 x y c (by omega) (by omega) (by omega) (by omega)]
  simp only [Result.andThen]
  congr 5 <;> omega
theorem sub64_run (x y b : Nat) (hb : b ≤ 1) (w : World) : (callFunc 106 #[.int .u64 x, .int .u64 y, .int .u64 b]).run Try.prog w =
    .ok (.value (.tuple #[.int .u64 (((x + 18446744073709551616 - y - b) % 18446744073709551616 : Nat) : Int), .int .u64 ((if x < y + b then 1 else 0 : Nat) : Int)])) w := by
  rw [run_callFunc_extern Try.func106 (by kernel_rfl) (by kernel_rfl) (by kernel_rfl) (e := sub64Entry) (by kernel_rfl), run_sub64 x y b hb]
  rfl

set_option maxHeartbeats 1000000 in
set_option maxRecDepth 100000 in
theorem wplus_any (m n : Nat) (w : World) (h : m + n < 340282366920938463463374607431768211456) :
    Calls Try.prog 82 #[wv m, wv n] w fun e w' => e = .returned (wv (m + n)) ∧ Below w.heap.size w w' := by
  unfold wv
  obtain ⟨l, hl⟩ : ∃ l, l = (m % 18446744073709551616 + n % 18446744073709551616 + 0) % 18446744073709551616 := ⟨_, rfl⟩
  obtain ⟨c, hc⟩ : ∃ c, c = (m % 18446744073709551616 + n % 18446744073709551616 + 0) / 18446744073709551616 := ⟨_, rfl⟩
  obtain ⟨u, hu⟩ : ∃ u, u = (m / 18446744073709551616 + n / 18446744073709551616 + c) % 18446744073709551616 := ⟨_, rfl⟩
  obtain ⟨k, hk⟩ : ∃ k, k = (m / 18446744073709551616 + n / 18446744073709551616 + c) / 18446744073709551616 := ⟨_, rfl⟩
  have e1 : (m + n) / 18446744073709551616 = u := by omega
  have e2 : (m + n) % 18446744073709551616 = l := by omega
  rw [e1, e2]
  have r1 := fun w => add64_run (m % 18446744073709551616) (n % 18446744073709551616) 0 (by omega) w
  have r2 := fun w => add64_run (m / 18446744073709551616) (n / 18446744073709551616) c (by omega) w
  rw [← hl, ← hc] at r1
  rw [← hu, ← hk] at r2
  clear e1 e2 hl hc hu hk h
  generalize m % 18446744073709551616 = a at *
  generalize n % 18446744073709551616 = b at *
  generalize m / 18446744073709551616 = d at *
  generalize n / 18446744073709551616 = f at *
  have r1' : ∀ w, (callFunc 105 #[.int .u64 a, .int .u64 b, .int .u64 0]).run Try.prog w = .ok (.value (.tuple #[.int .u64 (l : Int), .int .u64 (c : Int)])) w := r1
  clear r1
  go_enter Try.func82, Try.ntmps82
  go_wp2_with (first | simp only [r1'] | simp only [r2])
  exact bodyPost_ret (v := .agg #[.int .u64 (u : Int), .int .u64 (l : Int)]) (by simp [results, Try.results82, go_sem]) rfl ⟨rfl, bl3 _ _ _ _⟩
set_option maxHeartbeats 1000000 in
set_option maxRecDepth 100000 in
theorem wminus_any (m n : Nat) (w : World) (hle : n ≤ m) (h : m < 340282366920938463463374607431768211456) :
    Calls Try.prog 83 #[wv m, wv n] w fun e w' => e = .returned (wv (m - n)) ∧ Below w.heap.size w w' := by
  unfold wv
  obtain ⟨l, hl⟩ : ∃ l, l = (m % 18446744073709551616 + 18446744073709551616 - n % 18446744073709551616 - 0) % 18446744073709551616 := ⟨_, rfl⟩
  obtain ⟨c, hc⟩ : ∃ c : Nat, c = if m % 18446744073709551616 < n % 18446744073709551616 + 0 then 1 else 0 := ⟨_, rfl⟩
  have hc1 : c ≤ 1 := by rw [hc]; split <;> omega
  obtain ⟨u, hu⟩ : ∃ u, u = (m / 18446744073709551616 + 18446744073709551616 - n / 18446744073709551616 - c) % 18446744073709551616 := ⟨_, rfl⟩
  obtain ⟨k, hk⟩ : ∃ k : Nat, k = if m / 18446744073709551616 < n / 18446744073709551616 + c then 1 else 0 := ⟨_, rfl⟩
  have e1 : (m - n) / 18446744073709551616 = u := by split at hc <;> omega
  have e2 : (m - n) % 18446744073709551616 = l := by omega
  rw [e1, e2]
  have r1 := fun w => sub64_run (m % 18446744073709551616) (n % 18446744073709551616) 0 (by omega) w
  have r2 := fun w => sub64_run (m / 18446744073709551616) (n / 18446744073709551616) c (by omega) w
  rw [← hl, ← hc] at r1
  rw [← hu, ← hk] at r2
  clear e1 e2 hl hc hu hk h hle hc1
  generalize m % 18446744073709551616 = a at *
  generalize n % 18446744073709551616 = b at *
  generalize m / 18446744073709551616 = d at *
  generalize n / 18446744073709551616 = f at *
  have r1' : ∀ w, (callFunc 106 #[.int .u64 a, .int .u64 b, .int .u64 0]).run Try.prog w = .ok (.value (.tuple #[.int .u64 (l : Int), .int .u64 (c : Int)])) w := r1
  clear r1
  go_enter Try.func83, Try.ntmps83
  go_wp2_with (first | simp only [r1'] | simp only [r2])
  exact bodyPost_ret (v := .agg #[.int .u64 (u : Int), .int .u64 (l : Int)]) (by simp [results, Try.results83, go_sem]) rfl ⟨rfl, bl3 _ _ _ _⟩
end Go.Proofs.Ythkcpaanegjodaa
