
/- exact: Add, Mul, Right, Ratio. -/
import Derived.Test.YthkcpaanegjodaaExactG
import Derived.Test.YthkcpaanegjodaaExactSum
namespace Go.Proofs.Ythkcpaanegjodaa
open Go.RowKit

set_option maxHeartbeats 400000 in
set_option maxRecDepth 100000 in
theorem add_fit (a b s : Int) (w : World) (b1 : -9223372036854775808 ≤ b) (b2 : b ≤ 9223372036854775807) (hs : s = wrap64 (a + b)) (hw : s = a + b) :
    Calls Try.prog 9 #[.int .i64 a, .int .i64 b] w fun e w' => e = .returned (.tuple #[.int .i64 s, .bool true]) ∧ w = w' := by
  by_cases h : b < 0
  · have d1 : decide (s < a) = true := by simp; omega
    have d2 : decide (b < 0) = true := by simp; omega
    have hsi : wrap64 (a + b) = s := by rw [hs]
    have hsw : IntKind.i64.wrap (a + b) = s := by rw [IntKind.wrap_i64]; unfold wrap64 at hs; omega
    clear hs hw
    go_enter Try.func9, Try.ntmps9
    go_wp2
    go_ret2
    exact ⟨rfl, rfl⟩
  · have d1 : decide (s < a) = false := by simp; omega
    have d2 : decide (b < 0) = false := by simp; omega
    have hsi : wrap64 (a + b) = s := by rw [hs]
    have hsw : IntKind.i64.wrap (a + b) = s := by rw [IntKind.wrap_i64]; unfold wrap64 at hs; omega
    clear hs hw
    go_enter Try.func9, Try.ntmps9
    go_wp2
    go_ret2
    exact ⟨rfl, rfl⟩
set_option maxHeartbeats 400000 in
set_option maxRecDepth 100000 in
theorem add_not (a b s : Int) (w : World) (a1 : -9223372036854775808 ≤ a) (a2 : a ≤ 9223372036854775807) (b1 : -9223372036854775808 ≤ b) (b2 : b ≤ 9223372036854775807) (hs : s = wrap64 (a + b)) (hw : ¬ s = a + b) :
    Calls Try.prog 9 #[.int .i64 a, .int .i64 b] w fun e w' => e = .returned (.tuple #[.int .i64 0, .bool false]) ∧ w = w' := by
  have hu := hs
  unfold wrap64 at hu
  by_cases h : b < 0
  · have d1 : decide (s < a) = false := by simp; omega
    have d2 : decide (b < 0) = true := by simp; omega
    have hsi : wrap64 (a + b) = s := by rw [hs]
    have hsw : IntKind.i64.wrap (a + b) = s := by rw [IntKind.wrap_i64]; unfold wrap64 at hs; omega
    clear hs hw hu
    go_enter Try.func9, Try.ntmps9
    go_wp2
    go_ret2
    exact ⟨rfl, rfl⟩
  · have d1 : decide (s < a) = true := by simp; omega
    have d2 : decide (b < 0) = false := by simp; omega
    have hsi : wrap64 (a + b) = s := by rw [hs]
    have hsw : IntKind.i64.wrap (a + b) = s := by rw [IntKind.wrap_i64]; unfold wrap64 at hs; omega
    clear hs hw hu
    go_enter Try.func9, Try.ntmps9
    go_wp2
    go_ret2
    exact ⟨rfl, rfl⟩
theorem add_any (a b : Int) (w : World) (ha : I64n a) (hb : I64n b) :
    Calls Try.prog 9 #[.int .i64 a, .int .i64 b] w fun e w' => e = .returned (.tuple #[.int .i64 (fitV (a + b)), .bool (fitB (a + b))]) ∧ w = w' := by
  obtain ⟨a1, a2⟩ := ha
  obtain ⟨b1, b2⟩ := hb
  by_cases hf : I64n (a + b)
  · rw [fitV_true hf, fitB_true hf]
    have hw : a + b = wrap64 (a + b) := by unfold wrap64; unfold I64n at hf; omega
    exact add_fit a b _ w b1 b2 hw rfl
  · rw [fitV_false hf, fitB_false hf]
    refine add_not a b _ w a1 a2 b1 b2 rfl (fun e => hf ?_)
    unfold wrap64 at e
    unfold I64n
    omega
theorem abs_lt (a : Int) (h : I64n a) : a.natAbs ≤ 9223372036854775808 := by unfold I64n at h; omega
theorem mul_small (x y : Nat) (hx : x ≤ 9223372036854775808) (hy : y ≤ 9223372036854775808) : x * y < 340282366920938463463374607431768211456 :=
  Nat.lt_of_le_of_lt (Nat.mul_le_mul hx hy) (by decide)
theorem mul_sign (a b : Int) : numV (decide (a < 0) != decide (b < 0)) (a.natAbs * b.natAbs) = a * b := by
  unfold numV
  rw [Int.natCast_mul]
  by_cases h1 : a < 0 <;> by_cases h2 : b < 0
  · rw [show (a.natAbs : Int) = -a by omega, show (b.natAbs : Int) = -b by omega]; simp [h1, h2, Int.neg_mul, Int.mul_neg]
  · rw [show (a.natAbs : Int) = -a by omega, show (b.natAbs : Int) = b by omega]; simp [h1, h2, Int.neg_mul]
  · rw [show (a.natAbs : Int) = a by omega, show (b.natAbs : Int) = -b by omega]; simp [h1, h2, Int.mul_neg]
  · rw [show (a.natAbs : Int) = a by omega, show (b.natAbs : Int) = b by omega]; simp [h1, h2]
set_option maxHeartbeats 400000 in
set_option maxRecDepth 100000 in
theorem mul_any (a b : Int) (w : World) (ha : I64n a) (hb : I64n b) :
    Calls Try.prog 13 #[.int .i64 a, .int .i64 b] w fun e w' => e = .returned (.tuple #[.int .i64 (fitV (a * b)), .bool (fitB (a * b))]) ∧ Below w.heap.size w w' := by
  have la := abs_lt a ha
  have lb := abs_lt b hb
  have hl := mul_small _ _ la lb
  have hSa := fun w => size_any a w ha
  have hSb := fun w => size_any b w hb
  rw [← mul_sign a b]
  obtain ⟨A, hA⟩ : ∃ A : Nat, A = a.natAbs := ⟨_, rfl⟩
  obtain ⟨B, hB⟩ : ∃ B : Nat, B = b.natAbs := ⟨_, rfl⟩
  rw [← hA] at hSa la
  rw [← hB] at hSb lb
  rw [← hA, ← hB] at hl ⊢
  obtain ⟨m, hm⟩ : ∃ m, m = (decide (a < 0) != decide (b < 0)) := ⟨_, rfl⟩
  rw [← hm]
  have hN := fun w => number_any m (A * B) w hl
  have hP := fun w => product_any A B w (by omega) (by omega)
  obtain ⟨p, hp⟩ : ∃ p, p = wv (A * B) := ⟨_, rfl⟩
  rw [← hp] at hN hP
  obtain ⟨x, hx⟩ : ∃ x, x = numV m (A * B) := ⟨_, rfl⟩
  rw [← hx] at hN ⊢
  obtain ⟨fv, hfv⟩ : ∃ y, y = fitV x := ⟨_, rfl⟩
  obtain ⟨fb, hfb⟩ : ∃ y, y = fitB x := ⟨_, rfl⟩
  rw [← hfv, ← hfb] at hN ⊢
  obtain ⟨da, hda⟩ : ∃ y, y = decide (a < 0) := ⟨_, rfl⟩
  obtain ⟨db, hdb⟩ : ∃ y, y = decide (b < 0) := ⟨_, rfl⟩
  rw [← hda, ← hdb] at hm
  have hda' : decide (a < 0) = da := hda.symm
  have hdb' : decide (b < 0) = db := hdb.symm
  have HM := Lib.hid hm
  clear hm hx hp hl la lb hfv hfb hA hB hda hdb
  go_enter Try.func13, Try.ntmps13
  go_wp2_with fail
  refine (hSa _).mono ?_
  rintro e w' ⟨rfl, rfl⟩
  go_wp2_with fail
  refine (hSb _).mono ?_
  rintro e w' ⟨rfl, rfl⟩
  go_wp2_with fail
  refine (hP _).mono ?_
  rintro e w1 ⟨rfl, hb1⟩
  go_wp2_with fail
  have hmm : (!(da == db)) = m := HM.out.symm
  rw [hmm]
  clear hmm
  refine (hN _).mono ?_
  rintro e w2 ⟨rfl, hb2⟩
  go_wp2
  go_ret2
  exact ⟨rfl, hb1.trans (hb2.mono hb1.size)⟩

/-- a rational, as the program holds it -/
def rv (p : Int × Int) : Value := .agg #[.int .i64 p.1, .int .i64 p.2]
def rtB (p : Int × Int) : Bool := decide (0 < p.2) && (Nat.gcd p.1.natAbs p.2.natAbs == 1)
def R64 (p : Int × Int) : Prop := I64n p.1 ∧ I64n p.2
theorem rtB_iff (p : Int × Int) : rtB p = true ↔ ExactM.Rt p := by
  unfold rtB ExactM.Rt
  rw [ExactM.natAbs_gcd]
  simp
set_option maxHeartbeats 1000000 in
set_option maxRecDepth 100000 in
theorem right_any (p : Int × Int) (w : World) (h : R64 p) :
    Calls Try.prog 22 #[rv p] w fun e w' => e = .returned (.bool (rtB p)) ∧ Below w.heap.size w w' := by
  obtain ⟨n, d⟩ := p
  obtain ⟨h1, h2⟩ := h
  simp only at h1 h2
  have hrt : rtB (n, d) = (decide (0 < d) && (Nat.gcd n.natAbs d.natAbs == 1)) := rfl
  rw [hrt]
  clear hrt
  unfold rv
  simp only
  have l1 := abs_lt n h1
  by_cases h0 : 0 < d
  · have hd : decide ((0 : Int) < d) = true := decide_eq_true h0
    rw [hd]
    obtain ⟨D, hD⟩ : ∃ D : Nat, D = d.natAbs := ⟨_, rfl⟩
    have hDd : d = (D : Int) := by omega
    rw [← hD]
    clear hD
    subst hDd
    have hdN : decide (0 < D) = true := by simpa using h0
    have hD2 : D ≤ 9223372036854775807 := by unfold I64n at h2; omega
    have hS := fun w => (size_any n w h1).mono (R' := fun e w' => e = .returned (.int .u64 (n.natAbs : Int)) ∧ w' = w) (fun _ _ h => ⟨h.1, h.2.symm⟩)
    have hG := fun w => (divisor_any n.natAbs D w (by omega) (by omega)).mono (R' := fun e w' => e = .returned (.int .u64 (Nat.gcd n.natAbs D : Int)) ∧ w' = w) (fun _ _ h => ⟨h.1, h.2.symm⟩)
    obtain ⟨N, hN⟩ : ∃ N : Nat, N = n.natAbs := ⟨_, rfl⟩
    rw [← hN] at hS hG ⊢
    obtain ⟨g, hg⟩ : ∃ g, g = Nat.gcd N D := ⟨_, rfl⟩
    rw [← hg] at hG ⊢
    clear hN hg l1
    go_enter Try.func22, Try.ntmps22
    go_wp2
    go_quiet (first | (go_at_call 53; exact Calls.quiet_of_same (hS _)) | (go_at_call 56; exact Calls.quiet_of_same (hG _)))
    have hg1 : ((g : Int) == 1) = (g == 1) := by rw [Bool.eq_iff_iff]; simp; omega
    have HG1 := Lib.hid hg1
    clear hg1
    go_wp2
    go_ret
    exact ⟨by show Ending.returned (.bool ((g : Int) == 1)) = _; rw [HG1.out]; rfl, (bl1 _ _).trans ((drewN_below _ _).mono (by simp))⟩
  · have hd : decide ((0 : Int) < d) = false := decide_eq_false h0
    rw [hd]
    go_enter Try.func22, Try.ntmps22
    go_wp2
    go_quiet (fail)
    go_wp2
    go_ret
    exact ⟨rfl, (bl1 _ _).trans ((drewN_below _ _).mono (by simp))⟩

theorem cell_kept {X w1 : World} {p : Addr} {v : Value} (hb : Below X.heap.size X w1) (h : X.cell? p = some v) : w1.cell? p = some v := (hb.cell (World.block_lt_of_cell? X p h)).trans h
theorem keep2 {X w1 : World} {p1 p2 : Addr} {v1 v2 : Value} (hb : Below X.heap.size X w1) (h : X.cell? p1 = some v1 ∧ X.cell? p2 = some v2) : w1.cell? p1 = some v1 ∧ w1.cell? p2 = some v2 := ⟨cell_kept hb h.1, cell_kept hb h.2⟩
theorem keep4 {X w1 : World} {p1 p2 p3 p4 : Addr} {v1 v2 v3 v4 : Value} (hb : Below X.heap.size X w1) (h : X.cell? p1 = some v1 ∧ X.cell? p2 = some v2 ∧ X.cell? p3 = some v3 ∧ X.cell? p4 = some v4) : w1.cell? p1 = some v1 ∧ w1.cell? p2 = some v2 ∧ w1.cell? p3 = some v3 ∧ w1.cell? p4 = some v4 := ⟨cell_kept hb h.1, cell_kept hb h.2.1, cell_kept hb h.2.2.1, cell_kept hb h.2.2.2⟩
theorem div_fit (n g : Int) (hg : 0 < g) (h : I64n n) : I64n (n / g) := by
  have h1 := Int.natAbs_ediv_le_natAbs n g
  unfold I64n at h ⊢
  rcases Int.lt_or_le n 0 with h0 | h0
  · have := Int.ediv_neg_of_neg_of_pos h0 hg
    omega
  · have := Int.ediv_nonneg h0 (Int.le_of_lt hg)
    omega
/-- Ratio's answers -/
def ratV (n d : Int) : Int × Int := if 0 < d then ExactM.low n d else (0, 0)
def ratC (d : Int) : Int := if 0 < d then 0 else 1
set_option maxHeartbeats 1000000 in
set_option maxRecDepth 100000 in
theorem ratio_any (n d : Int) (w : World) (h1 : I64n n) (h2 : I64n d) :
    Calls Try.prog 16 #[.int .i64 n, .int .i64 d] w fun e w' => e = .returned (.tuple #[rv (ratV n d), .int .i64 (ratC d)]) ∧ Below w.heap.size w w' := by
  unfold ratV ratC
  by_cases h0 : 0 < d
  · rw [if_pos h0, if_pos h0]
    have hd : decide (d ≤ 0) = false := by simp; omega
    have l1 := abs_lt n h1
    obtain ⟨D, hDd⟩ : ∃ D : Nat, d = (D : Int) := ⟨d.toNat, by omega⟩
    subst hDd
    have hD2 : D ≤ 9223372036854775807 := by unfold I64n at h2; omega
    have hS := fun w => size_any n w h1
    have hG := fun w => divisor_any n.natAbs D w (by omega) (by omega)
    unfold rv ExactM.low
    simp only
    have eg : Int.gcd n D = Nat.gcd n.natAbs D := rfl
    rw [eg]
    obtain ⟨N, hN⟩ : ∃ N : Nat, N = n.natAbs := ⟨_, rfl⟩
    rw [← hN] at hS hG ⊢
    obtain ⟨g, hg⟩ : ∃ g, g = Nat.gcd N D := ⟨_, rfl⟩
    have hg0 : 0 < g := by rw [hg]; exact Nat.gcd_pos_of_pos_right _ (by omega)
    have gn : (g : Int) ∣ n := ExactM.nat_dvd.2 (by rw [hg, hN]; exact Nat.gcd_dvd_left _ _)
    have gd : (g : Int) ∣ (D : Int) := Int.natCast_dvd_natCast.2 (by rw [hg]; exact Nat.gcd_dvd_right _ _)
    have hgl : g ≤ D := by rw [hg]; exact Nat.le_of_dvd (by omega) (Nat.gcd_dvd_right _ _)
    rw [← hg] at hG ⊢
    have q1 : n.tdiv (g : Int) = n / (g : Int) := Int.tdiv_eq_ediv_of_dvd gn
    have q2 : (D : Int).tdiv (g : Int) = (D : Int) / (g : Int) := Int.tdiv_eq_ediv_of_dvd gd
    have b1 := div_fit n g (by omega) h1
    have b2 := div_fit D g (by omega) h2
    obtain ⟨x, hx⟩ : ∃ x, x = n / (g : Int) := ⟨_, rfl⟩
    obtain ⟨y, hy⟩ : ∃ y, y = (D : Int) / (g : Int) := ⟨_, rfl⟩
    rw [← hx] at q1 b1 ⊢
    rw [← hy] at q2 b2 ⊢
    have q3 : (D : Int) / (g : Int) = y := hy.symm
    clear hN hg l1 hx hy gn gd eg
    obtain ⟨b11, b12⟩ := b1
    obtain ⟨b21, b22⟩ := b2
    have gz : ¬ g = 0 := by omega
    have gi : ¬ (g : Int) = -1 := by omega
    go_enter Try.func16, Try.ntmps16
    go_wp2_with fail
    refine (hS _).mono ?_
    rintro e w' ⟨rfl, rfl⟩
    go_wp2_with fail
    refine (hG _).mono ?_
    rintro e w' ⟨rfl, rfl⟩
    have d0 : ((g : Int) == 0) = false := by simp; omega
    have wx : IntKind.i64.wrap x = x := by rw [IntKind.wrap_i64]; omega
    have wy : IntKind.i64.wrap y = y := by rw [IntKind.wrap_i64]; omega
    go_wp2
    go_region_with (fail)
    all_goals
      go_wp2
      exact bodyPost_ret (v := .tuple #[.agg #[.int .i64 x, .int .i64 y], .int .i64 0]) (by simp [results, Try.results16, go_sem]) rfl ⟨rfl, (bl1 _ _).drew⟩
  · rw [if_neg h0, if_neg h0]
    have hd : decide (d ≤ 0) = true := by simp; omega
    unfold rv
    go_enter Try.func16, Try.ntmps16
    go_wp2
    exact bodyPost_ret (v := .tuple #[.agg #[.int .i64 0, .int .i64 0], .int .i64 1]) (by simp [results, Try.results16, go_sem]) rfl ⟨rfl, bl1 _ _⟩
end Go.Proofs.Ythkcpaanegjodaa
