
/- exact: Compare. -/
import Derived.Test.YthkcpaanegjodaaExactL
import Derived.ChangeKeysEq
namespace Go.Proofs.Ythkcpaanegjodaa
open Go.RowKit

/-- two arrays of two numbers, held against each other -/
theorem run_eq_arr2 (a b c d : Int) (w : World) : (Op.equalIn 10000 99 (.agg #[.int .i64 a, .int .i64 b]) (.agg #[.int .i64 c, .int .i64 d])).run Try.prog w = .ok ((a == c) && (b == d)) w := by
  obtain ⟨i0, hi, _⟩ := info_parts int_info
  rw [run_equalIn_array w 9999 _ _ Try.underlying99 hi]
  have hc : Try.prog.cellsOf 3 = 1 := by kernel_rfl
  rw [hc]
  have h1 : ∀ (x y : Int) (w : World), (part 3 #[.int .i64 x, .int .i64 y] 0).run Try.prog w = .ok (.int .i64 x) w := fun x y w => by simp [go_sem]
  have h2 : ∀ (x y : Int) (w : World), (part 3 #[.int .i64 x, .int .i64 y] 1).run Try.prog w = .ok (.int .i64 y) w := fun x y w => by simp [go_sem]
  have h3 : ∀ (x y : Int) (w : World), (Op.equalIn 9999 3 (.int .i64 x) (.int .i64 y)).run Try.prog w = .ok (x == y) w := fun x y w => run_equalIn_int w 9998 _ .i64 .i64 x y Try.underlying3
  show (Op.eqItems 9999 3 1 _ _ [0, 1]).run Try.prog w = _
  simp only [Op.eqItems, Sem.run_bind, Nat.zero_mul, h1, h3, Result.andThen_ok]
  cases (a == c) with
  | false => simp
  | true =>
    have hr : (Op.eqItems 9999 3 1 #[.int .i64 a, .int .i64 b] #[.int .i64 c, .int .i64 d] [1]).run Try.prog w = .ok (b == d) w := by
      simp only [Op.eqItems, Sem.run_bind, Nat.one_mul, h2, h3, Result.andThen_ok]
      cases (b == d) <;> simp
    rw [if_neg (by decide), Bool.true_and]
    exact hr
def cmpV (p q : Int × Int) : Int := if (rtB p && rtB q) = true then ExactM.cmp p q else 0
set_option maxHeartbeats 1000000 in
set_option maxRecDepth 100000 in
theorem cmp_not (p q : Int × Int) (w : World) (hp : R64 p) (hq : R64 q) (hr : (rtB p && rtB q) = false) :
    Calls Try.prog 24 #[rv p, rv q] w fun e w' => e = .returned (.int .i64 0) ∧ Below w.heap.size w w' := by
  obtain ⟨n, d⟩ := p
  obtain ⟨m, f⟩ := q
  have hR1 := fun w => right_any (n, d) w hp
  have hR2 := fun w => right_any (m, f) w hq
  unfold rv at hR1 hR2 ⊢
  simp only at hR1 hR2 ⊢
  obtain ⟨V, hV, hB⟩ := bks2 w (.cells #[.int .i64 n, .int .i64 d] 37) (.cells #[.int .i64 m, .int .i64 f] 37)
  have HV := Lib.hid hV
  clear hV
  cases h1 : rtB (n, d) with
  | false =>
    rw [h1] at hR1
    clear hr h1 hR2
    go_enter Try.func24, Try.ntmps24
    go_wp2_with fail
    rw [← HV.out]
    refine (hR1 _).mono ?_
    rintro e V1 ⟨rfl, hb1⟩
    have HB := Lib.hid (hB.later hb1)
    clear hB hb1
    go_wp2
    go_ret
    exact ⟨rfl, HB.out.1⟩
  | true =>
    rw [h1, Bool.true_and] at hr
    rw [h1] at hR1
    rw [hr] at hR2
    clear hr h1
    go_enter Try.func24, Try.ntmps24
    go_wp2_with fail
    rw [← HV.out]
    refine (hR1 _).mono ?_
    rintro e V1 ⟨rfl, hb1⟩
    have hB1 := hB.later hb1
    obtain ⟨⟨c0, c1⟩, _, _⟩ := hB1.pair 1 rfl
    have HB := Lib.hid hB1
    clear hB hb1 hB1
    go_wp2_with fail
    refine (hR2 _).mono ?_
    rintro e V2 ⟨rfl, hb2⟩
    have HB2 := Lib.hid (HB.out.later hb2)
    clear hb2 HB
    go_wp2
    go_ret
    exact ⟨rfl, HB2.out.1⟩
set_option maxHeartbeats 4000000 in
set_option maxRecDepth 100000 in
theorem cmp_walk (n1 n2 : Int) (D1 D2 N1 N2 x1 x0 y1 y0 : Nat) (c1 c2 : Int) (ox oy oc : Int) (w : World)
    (l1 : D1 ≤ 9223372036854775807) (l2 : D2 ≤ 9223372036854775807)
    (hR1 : ∀ w, Calls Try.prog 22 #[.agg #[.int .i64 n1, .int .i64 (D1 : Int)]] w fun e w' => e = .returned (.bool true) ∧ Below w.heap.size w w')
    (hR2 : ∀ w, Calls Try.prog 22 #[.agg #[.int .i64 n2, .int .i64 (D2 : Int)]] w fun e w' => e = .returned (.bool true) ∧ Below w.heap.size w w')
    (hS1 : ∀ w, Calls Try.prog 53 #[.int .i64 n1] w fun e w' => e = .returned (.int .u64 (N1 : Int)) ∧ w = w')
    (hS2 : ∀ w, Calls Try.prog 53 #[.int .i64 n2] w fun e w' => e = .returned (.int .u64 (N2 : Int)) ∧ w = w')
    (hP1 : ∀ w, Calls Try.prog 52 #[.int .u64 (N1 : Int), .int .u64 (D2 : Int)] w fun e w' => e = .returned (.agg #[.int .u64 (x1 : Int), .int .u64 (x0 : Int)]) ∧ Below w.heap.size w w')
    (hP2 : ∀ w, Calls Try.prog 52 #[.int .u64 (N2 : Int), .int .u64 (D1 : Int)] w fun e w' => e = .returned (.agg #[.int .u64 (y1 : Int), .int .u64 (y0 : Int)]) ∧ Below w.heap.size w w')
    (hC1 : ∀ w, Calls Try.prog 61 #[.int .i64 n1, .int .i64 0] w fun e w' => e = .returned (.int .i64 c1) ∧ w = w')
    (hC2 : ∀ w, Calls Try.prog 61 #[.int .i64 n2, .int .i64 0] w fun e w' => e = .returned (.int .i64 c2) ∧ w = w')
    (hOx : ∀ w, Calls Try.prog 62 #[.agg #[.int .u64 (x1 : Int), .int .u64 (x0 : Int)], .agg #[.int .u64 (y1 : Int), .int .u64 (y0 : Int)]] w fun e w' => e = .returned (.int .i64 ox) ∧ Below w.heap.size w w')
    (hOy : ∀ w, Calls Try.prog 62 #[.agg #[.int .u64 (y1 : Int), .int .u64 (y0 : Int)], .agg #[.int .u64 (x1 : Int), .int .u64 (x0 : Int)]] w fun e w' => e = .returned (.int .i64 oy) ∧ Below w.heap.size w w')
    (hOc : ∀ w, Calls Try.prog 63 #[.int .i64 c1, .int .i64 c2] w fun e w' => e = .returned (.int .i64 oc) ∧ w = w')
    (v : Int) (hv1 : c1 = 1 → c2 = 1 → v = ox) (hv2 : c1 = -1 → c2 = -1 → v = oy) (hv3 : ¬ (c1 = 1 ∧ c2 = 1) → ¬ (c1 = -1 ∧ c2 = -1) → v = oc) :
    Calls Try.prog 24 #[.agg #[.int .i64 n1, .int .i64 (D1 : Int)], .agg #[.int .i64 n2, .int .i64 (D2 : Int)]] w fun e w' => e = .returned (.int .i64 v) ∧ Below w.heap.size w w' := by
  obtain ⟨V, hV, hB⟩ := bks2 w (.cells #[.int .i64 n1, .int .i64 (D1 : Int)] 37) (.cells #[.int .i64 n2, .int .i64 (D2 : Int)] 37)
  have HV := Lib.hid hV
  have HV1 := Lib.hid hv1
  have HV2 := Lib.hid hv2
  have HV3 := Lib.hid hv3
  clear hV hv1 hv2 hv3
  go_enter Try.func24, Try.ntmps24
  go_wp2_with fail
  rw [← HV.out]
  refine (hR1 _).mono ?_
  rintro e V1 ⟨rfl, hb1⟩
  have hB1 := hB.later hb1
  obtain ⟨⟨c0, c1'⟩, _, _⟩ := hB1.pair 1 rfl
  have HB1 := Lib.hid hB1
  clear hB hb1 hB1
  go_wp2_with fail
  refine (hR2 _).mono ?_
  rintro e U ⟨rfl, hb2⟩
  clear c0 c1'
  have hBU := HB1.out.later hb2
  clear HB1 hb2
  obtain ⟨⟨c0, c1'⟩, _, _⟩ := hBU.pair 0 rfl
  rw [Nat.add_zero] at c0 c1'
  obtain ⟨⟨c2', c3⟩, _, _⟩ := hBU.pair 1 rfl
  have HBU := Lib.hid hBU
  clear hBU
  have wD1 := wrapNN D1 (by omega)
  have wD2 := wrapNN D2 (by omega)
  go_upto_region 3 with fail
  go_cut [5] (fun y wx => ∃ k : Nat, y = .pointer (some ⟨k, 0, none⟩) ∧ Below U.heap.size U wx ∧ wx.heap[k]? = some (.cells #[.int .u64 (x1 : Int), .int .u64 (x0 : Int)] 88 (0, 0)))
  case first =>
    go_region_held3 (fun w' => w'.cell? ⟨w.heap.size, 0, none⟩ = some (.int .i64 n1) ∧ w'.cell? ⟨w.heap.size + 1, 1, none⟩ = some (.int .i64 (D2 : Int)) ∧ Below U.heap.size U w') ((first | (exact keepC hb (by assumption)) | (exact keepA (by assumption)) | (exact keepA hk.out) | (exact keepSt hk.out.2.2 kz.1 c0 c3) | (exact keepD (by assumption) (by assumption)) | go_keep))
      (first
        | (go_at_call 53; ((with_reducible refine (hS1 _).mono ?_); rintro e w' ⟨rfl, rfl⟩))
        | (go_at_call 52; ((with_reducible refine (hP1 _).mono ?_); rintro e U1 ⟨rfl, hb⟩; have hk : Hid (U1.cell? ⟨w.heap.size, 0, none⟩ = some (.int .i64 n1) ∧ U1.cell? ⟨w.heap.size + 1, 1, none⟩ = some (.int .i64 (D2 : Int)) ∧ Below U.heap.size U U1) := Lib.hid (keepC hb (by assumption)); try (have kz : Blk U U1 88 (.int .u64 0) (.int .u64 0) _ := blk_kept hb (by first | assumption | (exact blk_new (by first | (exact hid_size (by assumption)) | (exact Nat.le_refl _))))); try (obtain ⟨⟨z1, z2⟩, z3, z4⟩ := kz.cells))))
    all_goals
      go_wp2_with fail
      go_meet
      first
        | (exact ⟨_, rfl, (kz.done hk.out.2.2 _ _).1, (kz.done hk.out.2.2 _ _).2⟩)
        | (exact ⟨_, rfl, hk.out.2.2.alloc (hk.out.2.2.size) _, heap_alloc_new _ _⟩)
  case rest =>
    obtain ⟨kx, rfl, hbU, hkx⟩ := hcut
    have hB1 := HBU.out.later hbU
    have hbU' := Lib.hid hbU
    have HKX := Lib.hid hkx
    clear HBU c0 c1' c2' c3 hbU hkx
    obtain ⟨U2, hU2⟩ : ∃ U2, U2 = wc := ⟨_, rfl⟩
    subst hU2
    obtain ⟨⟨c0, c1'⟩, _, _⟩ := hB1.pair 0 rfl
    rw [Nat.add_zero] at c0 c1'
    obtain ⟨⟨c2', c3⟩, _, _⟩ := hB1.pair 1 rfl
    have HB1 := Lib.hid hB1
    clear hB1
    go_upto_region 4 with fail
    go_cut [6] (fun y wx => ∃ k : Nat, y = .pointer (some ⟨k, 0, none⟩) ∧ Below U2.heap.size U2 wx ∧ wx.heap[k]? = some (.cells #[.int .u64 (y1 : Int), .int .u64 (y0 : Int)] 88 (0, 0)))
    case first =>
      go_region_held3 (fun w' => w'.cell? ⟨w.heap.size + 1, 0, none⟩ = some (.int .i64 n2) ∧ w'.cell? ⟨w.heap.size, 1, none⟩ = some (.int .i64 (D1 : Int)) ∧ Below U2.heap.size U2 w') ((first | (exact keepC hb (by assumption)) | (exact keepA (by assumption)) | (exact keepA hk.out) | (exact keepSt hk.out.2.2 kz.1 c2' c1') | (exact keepD (by assumption) (by assumption)) | go_keep))
        (first
          | (go_at_call 53; ((with_reducible refine (hS2 _).mono ?_); rintro e w' ⟨rfl, rfl⟩))
          | (go_at_call 52; ((with_reducible refine (hP2 _).mono ?_); rintro e U1 ⟨rfl, hb⟩; have hk : Hid (U1.cell? ⟨w.heap.size + 1, 0, none⟩ = some (.int .i64 n2) ∧ U1.cell? ⟨w.heap.size, 1, none⟩ = some (.int .i64 (D1 : Int)) ∧ Below U2.heap.size U2 U1) := Lib.hid (keepC hb (by assumption)); try (have kz : Blk U2 U1 88 (.int .u64 0) (.int .u64 0) _ := blk_kept hb (by first | assumption | (exact blk_new (by first | (exact hid_size (by assumption)) | (exact Nat.le_refl _))))); try (obtain ⟨⟨z1, z2⟩, z3, z4⟩ := kz.cells))))
      all_goals
        go_wp2_with fail
        go_meet
        first
          | (exact ⟨_, rfl, (kz.done hk.out.2.2 _ _).1, (kz.done hk.out.2.2 _ _).2⟩)
          | (exact ⟨_, rfl, hk.out.2.2.alloc (hk.out.2.2.size) _, heap_alloc_new _ _⟩)
    case rest =>
      obtain ⟨ky, rfl, hbU2, hky⟩ := hcut
      have hB2 := HB1.out.later hbU2
      have hkx := (hbU2.block kx (Array.getElem?_eq_some_iff.1 HKX.out).1).trans HKX.out
      clear c0 c1' c2' c3
      obtain ⟨U3, hU3⟩ : ∃ U3, U3 = wc := ⟨_, rfl⟩
      subst hU3
      obtain ⟨⟨c0, c1'⟩, _, _⟩ := hB2.pair 0 rfl
      rw [Nat.add_zero] at c0 c1'
      obtain ⟨⟨c2', c3⟩, _, _⟩ := hB2.pair 1 rfl
      have HB2 := Lib.hid hB2
      have HKX2 := Lib.hid hkx
      have HKY2 := Lib.hid hky
      clear hB2 hkx hky hbU2 HB1 HKX
      go_upto_region 5 with fail
      go_cut [7] (fun y wx => ∃ k : Nat, y = .pointer (some ⟨k, 0, none⟩) ∧ Below U3.heap.size U3 wx ∧ wx.heap[k]? = some (.cells #[.int .i64 c1, .int .i64 c2] 99 (0, 0)))
      case first =>
        go_region_held3 (fun w' => w'.cell? ⟨w.heap.size, 0, none⟩ = some (.int .i64 n1) ∧ w'.cell? ⟨w.heap.size + 1, 0, none⟩ = some (.int .i64 n2) ∧ Below U3.heap.size U3 w') ((first | (exact keepA (by assumption)) | (exact keepA (keepD c0 c2')) | (exact keepD (by assumption) (by assumption)) | go_keep))
          (first
            | (go_at_call 61; first | ((with_reducible refine (hC1 _).mono ?_); rintro e w' ⟨rfl, rfl⟩) | ((with_reducible refine (hC2 _).mono ?_); rintro e w' ⟨rfl, rfl⟩)))
        all_goals
          go_wp2_with fail
          go_meet
          exact ⟨_, rfl, (keepA (keepD c0 c2')).2.2, heap_alloc_new _ _⟩
      case rest =>
        obtain ⟨kc, rfl, hbU3, hkc⟩ := hcut
        have hB3 := HB2.out.later hbU3
        have hkx := (hbU3.block kx (Array.getElem?_eq_some_iff.1 HKX2.out).1).trans HKX2.out
        have hky := (hbU3.block ky (Array.getElem?_eq_some_iff.1 HKY2.out).1).trans HKY2.out
        obtain ⟨kx0, kx1⟩ := cell_pair hkx
        obtain ⟨ky0, ky1⟩ := cell_pair hky
        obtain ⟨kc0, kc1⟩ := cell_pair hkc
        have HB3 := Lib.hid hB3
        clear hB3 hkx hky hkc hbU3 HB2 HKX2 HKY2 c0 c1' c2' c3
        have hE1 := fun w => run_eq_arr2 c1 c2 1 1 w
        have hE2 := fun w => run_eq_arr2 c1 c2 (-1) (-1) w
        obtain ⟨e1, he1⟩ : ∃ e, e = ((c1 == 1) && (c2 == 1)) := ⟨_, rfl⟩
        obtain ⟨e2, he2⟩ : ∃ e, e = ((c1 == -1) && (c2 == -1)) := ⟨_, rfl⟩
        rw [← he1] at hE1
        rw [← he2] at hE2
        have HE1 := Lib.hid he1
        have HE2 := Lib.hid he2
        clear he1 he2
        cases e1 with
        | true =>
          have hv : v = ox := by
            have h := HE1.out
            simp at h
            exact HV1.out h.1 h.2
          subst hv
          go_wp2_with (go_at_call 62; refine (hOx _).mono ?_; rintro e W ⟨rfl, hb⟩)
          go_ret
          exact ⟨rfl, HB3.out.1.trans (hb.mono HB3.out.1.size)⟩
        | false =>
          cases e2 with
          | true =>
            have hv : v = oy := by
              have h := HE2.out
              simp at h
              exact HV2.out h.1 h.2
            subst hv
            go_wp2_with (go_at_call 62; refine (hOy _).mono ?_; rintro e W ⟨rfl, hb⟩)
            go_ret
            exact ⟨rfl, HB3.out.1.trans (hb.mono HB3.out.1.size)⟩
          | false =>
            have hv : v = oc := by
              have h := HE1.out
              have h' := HE2.out
              simp at h h'
              exact HV3.out (fun k => h k.1 k.2) (fun k => h' k.1 k.2)
            subst hv
            go_wp2_with (go_at_call 63; refine (hOc _).mono ?_; rintro e W ⟨rfl, rfl⟩)
            go_ret
            exact ⟨rfl, HB3.out.1⟩
/-- a sign and a size times a number above 0 -/
theorem sign_size (n : Int) (D : Nat) (hD : 0 < D) : (0 < n → n * D = ((n.natAbs * D : Nat) : Int) ∧ 0 < n * D) ∧ (n < 0 → n * D = -((n.natAbs * D : Nat) : Int) ∧ n * D < 0) ∧ (n = 0 → n * D = 0) := by
  rw [Int.natCast_mul]
  refine ⟨fun h => ?_, fun h => ?_, fun h => by rw [h, Int.zero_mul]⟩
  · rw [show (n.natAbs : Int) = n by omega]
    exact ⟨rfl, Int.mul_pos h (by omega)⟩
  · rw [show (n.natAbs : Int) = -n by omega, Int.neg_mul, Int.neg_neg]
    exact ⟨rfl, Int.mul_neg_of_neg_of_pos h (by omega)⟩
theorem cmp_signs (n1 n2 : Int) (D1 D2 : Nat) (h1 : 0 < D1) (h2 : 0 < D2) :
    (cmpI n1 0 = 1 → cmpI n2 0 = 1 → ExactM.cmp (n1, (D1 : Int)) (n2, (D2 : Int)) = cmpI ((n1.natAbs * D2 : Nat) : Int) ((n2.natAbs * D1 : Nat) : Int)) ∧
    (cmpI n1 0 = -1 → cmpI n2 0 = -1 → ExactM.cmp (n1, (D1 : Int)) (n2, (D2 : Int)) = cmpI ((n2.natAbs * D1 : Nat) : Int) ((n1.natAbs * D2 : Nat) : Int)) ∧
    (¬ (cmpI n1 0 = 1 ∧ cmpI n2 0 = 1) → ¬ (cmpI n1 0 = -1 ∧ cmpI n2 0 = -1) → ExactM.cmp (n1, (D1 : Int)) (n2, (D2 : Int)) = cmpI (cmpI n1 0) (cmpI n2 0)) := by
  obtain ⟨a1, a2, a3⟩ := sign_size n1 D2 h2
  obtain ⟨b1, b2, b3⟩ := sign_size n2 D1 h1
  unfold ExactM.cmp
  simp only
  generalize n1 * (D2 : Int) = A at *
  generalize n2 * (D1 : Int) = B at *
  generalize ((n1.natAbs * D2 : Nat) : Int) = X at *
  generalize ((n2.natAbs * D1 : Nat) : Int) = Y at *
  have c1 : cmpI n1 0 = 1 ∧ 0 < n1 ∨ cmpI n1 0 = -1 ∧ n1 < 0 ∨ cmpI n1 0 = 0 ∧ n1 = 0 := by unfold cmpI; (repeat' split) <;> omega
  have c2 : cmpI n2 0 = 1 ∧ 0 < n2 ∨ cmpI n2 0 = -1 ∧ n2 < 0 ∨ cmpI n2 0 = 0 ∧ n2 = 0 := by unfold cmpI; (repeat' split) <;> omega
  rcases c1 with ⟨e1, s1⟩ | ⟨e1, s1⟩ | ⟨e1, s1⟩ <;> rcases c2 with ⟨e2, s2⟩ | ⟨e2, s2⟩ | ⟨e2, s2⟩ <;> rw [e1, e2] <;>
    (try have a1' := a1 s1) <;> (try have a2' := a2 s1) <;> (try have a3' := a3 s1) <;> (try have b1' := b1 s2) <;> (try have b2' := b2 s2) <;> (try have b3' := b3 s2) <;>
    refine ⟨fun k1 k2 => ?_, fun k1 k2 => ?_, fun k1 k2 => ?_⟩ <;> first | (exfalso; omega) | (exfalso; revert k1 k2; decide) | (unfold cmpI; (repeat' split) <;> omega)
theorem compare_yes (p q : Int × Int) (w : World) (hp : R64 p) (hq : R64 q) (h1 : rtB p = true) (h2 : rtB q = true) :
    Calls Try.prog 24 #[rv p, rv q] w fun e w' => e = .returned (.int .i64 (ExactM.cmp p q)) ∧ Below w.heap.size w w' := by
  have t1 := (rtB_iff p).1 h1
  have t2 := (rtB_iff q).1 h2
  have hR1 := fun w => right_any p w hp
  have hR2 := fun w => right_any q w hq
  rw [h1] at hR1
  rw [h2] at hR2
  obtain ⟨n1, d1⟩ := p
  obtain ⟨n2, d2⟩ := q
  obtain ⟨a1, a2⟩ := hp
  obtain ⟨b1, b2⟩ := hq
  obtain ⟨p1, _⟩ := t1
  obtain ⟨p2, _⟩ := t2
  simp only at a1 a2 b1 b2 p1 p2
  obtain ⟨D1, e⟩ : ∃ D : Nat, d1 = (D : Int) := ⟨d1.toNat, by omega⟩
  subst e
  obtain ⟨D2, e⟩ : ∃ D : Nat, d2 = (D : Int) := ⟨d2.toNat, by omega⟩
  subst e
  have l1 : D1 ≤ 9223372036854775807 := by unfold I64n at a2; omega
  have l2 : D2 ≤ 9223372036854775807 := by unfold I64n at b2; omega
  have m1 := abs_lt n1 a1
  have m2 := abs_lt n2 b1
  obtain ⟨v1, v2, v3⟩ := cmp_signs n1 n2 D1 D2 (by omega) (by omega)
  exact cmp_walk n1 n2 D1 D2 n1.natAbs n2.natAbs (n1.natAbs * D2 / 18446744073709551616) (n1.natAbs * D2 % 18446744073709551616) (n2.natAbs * D1 / 18446744073709551616) (n2.natAbs * D1 % 18446744073709551616) (cmpI n1 0) (cmpI n2 0) _ _ _ w l1 l2 hR1 hR2
    (fun w => size_any n1 w a1) (fun w => size_any n2 w b1) (fun w => product_any n1.natAbs D2 w (by omega) (by omega)) (fun w => product_any n2.natAbs D1 w (by omega) (by omega)) (fun w => cmp64_any n1 0 w) (fun w => cmp64_any n2 0 w)
    (fun w => order_any (n1.natAbs * D2) (n2.natAbs * D1) w) (fun w => order_any (n2.natAbs * D1) (n1.natAbs * D2) w) (fun w => cmpint_any _ _ w) _ v1 v2 v3
theorem compare_any (p q : Int × Int) (w : World) (hp : R64 p) (hq : R64 q) :
    Calls Try.prog 24 #[rv p, rv q] w fun e w' => e = .returned (.int .i64 (cmpV p q)) ∧ Below w.heap.size w w' := by
  unfold cmpV
  cases h : (rtB p && rtB q) with
  | true =>
    rw [Bool.and_eq_true] at h
    exact compare_yes p q w hp hq h.1 h.2
  | false => exact cmp_not p q w hp hq h
end Go.Proofs.Ythkcpaanegjodaa
