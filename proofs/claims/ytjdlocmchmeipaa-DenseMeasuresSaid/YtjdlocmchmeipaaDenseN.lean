
/- DenseMeasures, walked. -/
import Derived.Test.YtjdlocmchmeipaaDenseM
namespace Go.Proofs.Ytjdlocmchmeipaa
open Go.RowKit

theorem brg_comm (m : Bool) (a b : Int) : DenM.brg m a b = DenM.brg m b a := by
  unfold DenM.brg
  cases m
  · simp; exact Int.mul_comm a b
  · simp; grind
theorem score_comm (m : Bool) : ∀ (a b : List Int), DenM.score m a b = DenM.score m b a
  | [], [] => rfl
  | [], _ :: _ => rfl
  | _ :: _, [] => rfl
  | x :: a, y :: b => by
    have ih := score_comm m a b
    unfold DenM.score DenM.prts at *
    rw [List.zipWith_cons_cons, List.zipWith_cons_cons, DenM.sumD_cons, DenM.sumD_cons, ih, brg_comm]
theorem score_twice : ∀ (a b : List Int), a.length = b.length → 2 * DenM.score false a b = DenM.score false a a + DenM.score false b b + DenM.score true a b
  | [], [], _ => rfl
  | [], _ :: _, h => by simp at h
  | _ :: _, [], h => by simp at h
  | x :: a, y :: b, h => by
    have ih := score_twice a b (by simpa using h)
    unfold DenM.score DenM.prts at *
    rw [List.zipWith_cons_cons, List.zipWith_cons_cons, List.zipWith_cons_cons, List.zipWith_cons_cons, DenM.sumD_cons, DenM.sumD_cons, DenM.sumD_cons, DenM.sumD_cons]
    have e : 2 * DenM.brg false x y = DenM.brg false x x + DenM.brg false y y + DenM.brg true x y := by
      unfold DenM.brg
      simp
      grind
    omega
theorem sq_nonneg (d : Int) : 0 ≤ d * d ∧ (d * d = 0 → d = 0) := by
  refine ⟨?_, fun h => ?_⟩
  · by_cases c : 0 ≤ d
    · exact Int.mul_nonneg c c
    · have := Int.mul_nonneg (show 0 ≤ -d by omega) (show 0 ≤ -d by omega)
      have e : -d * -d = d * d := by grind
      omega
  · rcases Int.mul_eq_zero.1 h with e | e <;> exact e
theorem score_dist : ∀ (a b : List Int), a.length = b.length → DenM.score true a b ≤ 0 ∧ (DenM.score true a b = 0 ↔ a = b)
  | [], [], _ => ⟨Int.le_refl _, fun _ => rfl, fun _ => rfl⟩
  | [], _ :: _, h => by simp at h
  | _ :: _, [], h => by simp at h
  | x :: a, y :: b, h => by
    obtain ⟨h1, h2⟩ := score_dist a b (by simpa using h)
    have hs := sq_nonneg (x - y)
    have e : DenM.score true (x :: a) (y :: b) = -((x - y) * (x - y)) + DenM.score true a b := by
      unfold DenM.score DenM.prts
      rw [List.zipWith_cons_cons, DenM.sumD_cons]
      rfl
    obtain ⟨s, hs2⟩ : ∃ s, s = (x - y) * (x - y) := ⟨_, rfl⟩
    rw [← hs2] at hs e
    rw [e]
    refine ⟨by omega, fun h0 => ?_, fun h0 => ?_⟩
    · have g1 := hs.2 (by omega)
      have g2 := h2.1 (by omega)
      rw [g2, show x = y by omega]
    · injection h0 with g1 g2
      have g3 := h2.2 g2
      have : s = 0 := by rw [hs2, g1]; simp
      omega

set_option maxHeartbeats 4000000 in
set_option maxRecDepth 100000 in
theorem measures_out (A1 A2 : Option Addr) (n1 n2 c1 c2 : Nat) (a b : List Int) (w : World) (h1 : Ivs w A1 n1 a) (h2 : Ivs w A2 n2 b) (h : (DenM.vec a && DenM.vec b) = false) :
    Calls Try.prog 5 #[.slice A1 n1 c1, .slice A2 n2 c2] w fun e w' => e = .returned (.bool true) ∧ Below w.heap.size w w' := by
  have HA := Lib.hid (awake7_any w)
  have R1 := Lib.hid (fun W (hW : Below w.heap.size w W) => dright_any A1 n1 c1 a W (h1.later hW))
  have R2 := Lib.hid (fun W (hW : Below w.heap.size w W) => dright_any A2 n2 c2 b W (h2.later hW))
  obtain ⟨x, hx⟩ : ∃ x, x = DenM.vec a := ⟨_, rfl⟩
  obtain ⟨y, hy⟩ : ∃ y, y = DenM.vec b := ⟨_, rfl⟩
  rw [← hx] at R1 h
  rw [← hy] at R2 h
  clear h1 h2 hx hy
  by_cases g1 : 20 < n1
  · have d1 : decide ((20 : Int) < (n1 : Int)) = true := decide_eq_true (by omega)
    go_enter Try.func5, Try.ntmps5
    go_wp2_with fail
    refine HA.out.mono ?_
    rintro e w1 ⟨rfl, hb⟩
    go_wp2
    go_ret
    exact ⟨rfl, hb⟩
  · have d1 : decide ((20 : Int) < (n1 : Int)) = false := decide_eq_false (by omega)
    by_cases g2 : 20 < n2
    · have d2 : decide ((20 : Int) < (n2 : Int)) = true := decide_eq_true (by omega)
      go_enter Try.func5, Try.ntmps5
      go_wp2_with fail
      refine HA.out.mono ?_
      rintro e w1 ⟨rfl, hb⟩
      go_wp2
      go_ret
      exact ⟨rfl, hb⟩
    · have d2 : decide ((20 : Int) < (n2 : Int)) = false := decide_eq_false (by omega)
      cases x with
      | false =>
        clear h
        go_enter Try.func5, Try.ntmps5
        go_wp2_with fail
        refine HA.out.mono ?_
        rintro e w1 ⟨rfl, hb⟩
        have HB := Lib.hid hb
        clear hb
        go_wp2_with fail
        refine (R1.out _ HB.out).mono ?_
        rintro e w2 ⟨rfl, rfl⟩
        go_wp2
        go_ret
        exact ⟨rfl, HB.out⟩
      | true =>
        obtain rfl : y = false := by simpa using h
        clear h
        go_enter Try.func5, Try.ntmps5
        go_wp2_with fail
        refine HA.out.mono ?_
        rintro e w1 ⟨rfl, hb⟩
        have HB := Lib.hid hb
        clear hb
        go_wp2_with fail
        refine (R1.out _ HB.out).mono ?_
        rintro e w2 ⟨rfl, rfl⟩
        go_wp2_with fail
        refine (R2.out _ HB.out).mono ?_
        rintro e w2 ⟨rfl, rfl⟩
        go_wp2
        go_ret
        exact ⟨rfl, HB.out⟩
set_option maxHeartbeats 4000000 in
set_option maxRecDepth 100000 in
theorem measures_main (A1 A2 : Option Addr) (c1 c2 : Nat) (a b : List Int) (w : World) (h1 : Ivs w A1 8 a) (h2 : Ivs w A2 8 b) (ha : DenM.vec a = true) (hb : DenM.vec b = true) :
    Calls Try.prog 5 #[.slice A1 8 c1, .slice A2 8 c2] w fun e w' => e = .returned (.bool true) ∧ Below w.heap.size w w' := by
  have HA := Lib.hid (awake7_any w)
  have R1 := Lib.hid (fun W (hW : Below w.heap.size w W) => dright_any A1 8 c1 a W (h1.later hW))
  have R2 := Lib.hid (fun W (hW : Below w.heap.size w W) => dright_any A2 8 c2 b W (h2.later hW))
  rw [ha] at R1
  rw [hb] at R2
  have S1 := Lib.hid (fun W (hW : Below w.heap.size w W) => dscore_ok false A1 A2 8 8 c1 c2 a b W (h1.later hW) (h2.later hW) ha hb)
  have S2 := Lib.hid (fun W (hW : Below w.heap.size w W) => dscore_ok false A2 A1 8 8 c2 c1 b a W (h2.later hW) (h1.later hW) hb ha)
  have S3 := Lib.hid (fun W (hW : Below w.heap.size w W) => dscore_ok true A1 A2 8 8 c1 c2 a b W (h1.later hW) (h2.later hW) ha hb)
  have S4 := Lib.hid (fun W (hW : Below w.heap.size w W) => dscore_ok true A2 A1 8 8 c2 c1 b a W (h2.later hW) (h1.later hW) hb ha)
  have S5 := Lib.hid (fun W (hW : Below w.heap.size w W) => dscore_ok false A1 A1 8 8 c1 c1 a a W (h1.later hW) (h1.later hW) ha ha)
  have S6 := Lib.hid (fun W (hW : Below w.heap.size w W) => dscore_ok false A2 A2 8 8 c2 c2 b b W (h2.later hW) (h2.later hW) hb hb)
  rw [score_comm false b a] at S2
  rw [score_comm true b a] at S4
  unfold mI at S1 S2 S3 S4 S5 S6
  have hal := ((DenM.vec_iff a).1 ha).1
  have hbl := ((DenM.vec_iff b).1 hb).1
  have h2x := score_twice a b (by rw [hal, hbl])
  obtain ⟨hd0, hd1⟩ := score_dist a b (by rw [hal, hbl])
  have bX := DenM.score_bd (m := false) ha hb
  have bD := DenM.score_bd (m := true) ha hb
  have bP := DenM.score_bd (m := false) ha ha
  have bQ := DenM.score_bd (m := false) hb hb
  obtain ⟨X, hX⟩ : ∃ X, X = DenM.score false a b := ⟨_, rfl⟩
  obtain ⟨D, hD⟩ : ∃ D, D = DenM.score true a b := ⟨_, rfl⟩
  obtain ⟨P, hP⟩ : ∃ P, P = DenM.score false a a := ⟨_, rfl⟩
  obtain ⟨Q, hQ⟩ : ∃ Q, Q = DenM.score false b b := ⟨_, rfl⟩
  rw [← hX] at S1 S2 h2x bX
  rw [← hD] at S3 S4 h2x bD hd0 hd1
  rw [← hP] at S5 h2x bP
  rw [← hQ] at S6 h2x bQ
  have H1 := Lib.hid h1
  have H2 := Lib.hid h2
  have HAL := Lib.hid hal
  have HBL := Lib.hid hbl
  have H2X := Lib.hid h2x
  have HD1 := Lib.hid hd1
  have hd2 : decide (D ≤ 0) = true := decide_eq_true hd0
  obtain ⟨bX1, bX2⟩ := bX
  obtain ⟨bD1, bD2⟩ := bD
  obtain ⟨bP1, bP2⟩ := bP
  obtain ⟨bQ1, bQ2⟩ := bQ
  clear h1 h2 ha hb hX hD hP hQ hal hbl h2x hd1
  go_enter Try.func5, Try.ntmps5
  go_wp2_with fail
  refine HA.out.mono ?_
  rintro e w1 ⟨rfl, hb⟩
  have HB := Lib.hid hb
  clear hb
  go_wp2_with fail
  refine (R1.out _ HB.out).mono ?_
  rintro e w2 ⟨rfl, rfl⟩
  go_wp2_with fail
  refine (R2.out _ HB.out).mono ?_
  rintro e w2 ⟨rfl, rfl⟩
  go_wp2_with fail
  refine (S1.out _ HB.out).mono ?_
  rintro e w3 ⟨rfl, hb⟩
  have HB3 := Lib.hid (HB.out.trans (hb.mono HB.out.size))
  clear hb
  go_wp2_with fail
  refine (S2.out _ HB3.out).mono ?_
  rintro e w4 ⟨rfl, hb⟩
  have HB4 := Lib.hid (HB3.out.trans (hb.mono HB3.out.size))
  clear hb
  go_wp2_with fail
  refine (S3.out _ HB4.out).mono ?_
  rintro e w5 ⟨rfl, hb⟩
  have HB5 := Lib.hid (HB4.out.trans (hb.mono HB4.out.size))
  clear hb
  go_wp2_with fail
  refine (S4.out _ HB5.out).mono ?_
  rintro e w6 ⟨rfl, hb⟩
  have HB6 := Lib.hid (HB5.out.trans (hb.mono HB5.out.size))
  clear hb
  go_wp2_with fail
  refine (S5.out _ HB6.out).mono ?_
  rintro e w7 ⟨rfl, hb⟩
  have HB7 := Lib.hid (HB6.out.trans (hb.mono HB6.out.size))
  clear hb
  go_wp2_with fail
  refine (S6.out _ HB7.out).mono ?_
  rintro e w8 ⟨rfl, hb⟩
  have HB8 := Lib.hid (HB7.out.trans (hb.mono HB7.out.size))
  clear hb
  go_wp2_with fail
  go_loopw [17, 18] (fun x y wr => ∃ i : Nat, x = .bool (decide (a.take i = b.take i)) ∧ y = .int .i64 i ∧ i ≤ 8 ∧ Below w.heap.size w wr) (fun _ y _ => 8 - (intOf y).toNat)
  case atStart => exact ⟨0, rfl, rfl, by omega, HB8.out⟩
  case round =>
    obtain ⟨i, hxb, rfl, hi, hbw⟩ := hrel
    obtain ⟨sm, hsm⟩ : ∃ b0, b0 = decide (a.take i = b.take i) := ⟨_, rfl⟩
    rw [← hsm] at hxb
    have hxb2 := hxb
    subst hxb2
    have HW := Lib.hid hbw
    have HSM := Lib.hid hsm
    by_cases hlt : i < 8
    · have hmi : (i : Int) < 8 := by omega
      have hia : i < a.length := by rw [HAL.out]; exact hlt
      have hib : i < b.length := by rw [HBL.out]; exact hlt
      obtain ⟨g1, o1, rfl, hl1, q1⟩ := (H1.out.later hbw).2 i hia
      obtain ⟨g2, o2, rfl, hl2, q2⟩ := (H2.out.later hbw).2 i hib
      obtain ⟨x, hx⟩ : ∃ x, x = a[i] := ⟨_, rfl⟩
      obtain ⟨y, hy⟩ : ∃ y, y = b[i] := ⟨_, rfl⟩
      rw [← hx] at q1
      rw [← hy] at q2
      have hnx : decide (a.take (i + 1) = b.take (i + 1)) = (sm && decide (x = y)) := by
        rw [List.take_succ_eq_append_getElem hia, List.take_succ_eq_append_getElem hib, hsm, ← hx, ← hy]
        rw [Bool.eq_iff_iff]
        simp only [decide_eq_true_eq, Bool.and_eq_true]
        constructor
        · intro h
          have := List.append_inj h (by rw [List.length_take, List.length_take]; omega)
          exact ⟨this.1, by simpa using this.2⟩
        · rintro ⟨h, h'⟩
          rw [h, h']
      have HNX := Lib.hid hnx
      clear hbw hsm hx hy hnx hxb
      cases sm with
      | false =>
        go_wp2_with fail
        go_quiet (fail)
        go_wp2
        go_roundw
        case rel => exact ⟨i + 1, by rw [HNX.out]; rfl, by go_num, by omega, HW.out.trans ((below_drewN_p _ _).mono HW.out.size)⟩
        case measure => simp [intOf]; omega
      | true =>
        by_cases hxy : x = y
        · have e1 : (x == y) = true := by simpa using hxy
          have e2 : decide (x = y) = true := decide_eq_true hxy
          have HNY : Hid (decide (a.take (i + 1) = b.take (i + 1)) = true) := Lib.hid (by rw [HNX.out, e2]; rfl)
          clear hxy
          go_wp2_with fail
          go_quiet (fail)
          go_wp2
          go_roundw
          case rel => exact ⟨i + 1, by rw [HNY.out], by go_num, by omega, HW.out.trans ((below_drewN_p _ _).mono HW.out.size)⟩
          case measure => simp [intOf]; omega
        · have e1 : (x == y) = false := by simpa using hxy
          have e2 : decide (x = y) = false := decide_eq_false hxy
          have HNY : Hid (decide (a.take (i + 1) = b.take (i + 1)) = false) := Lib.hid (by rw [HNX.out, e2]; rfl)
          clear hxy
          go_wp2_with fail
          go_quiet (fail)
          go_wp2
          go_roundw
          case rel => exact ⟨i + 1, by rw [HNY.out], by go_num, by omega, HW.out.trans ((below_drewN_p _ _).mono HW.out.size)⟩
          case measure => simp [intOf]; omega
    · have hmi : ¬ (i : Int) < 8 := by omega
      obtain rfl : i = 8 := by omega
      have hz : (D == 0) = sm := by
        rw [hsm, List.take_of_length_le (by rw [HAL.out]; exact Nat.le_refl _), List.take_of_length_le (by rw [HBL.out]; exact Nat.le_refl _), Bool.eq_iff_iff]
        simp only [beq_iff_eq, decide_eq_true_eq]
        exact HD1.out
      clear hbw hsm hxb
      cases sm with
      | false =>
        have hz2 : decide (D = 0) = false := by simpa using hz
        have h2x := H2X.out
        go_wp2
        go_ret
        exact ⟨rfl, HW.out⟩
      | true =>
        have hz3 : D = 0 := by simpa using hz
        have h2x : 2 * X = P + Q := by have := H2X.out; omega
        clear H2X HD1 hz
        subst hz3
        go_wp2
        go_ret
        exact ⟨rfl, HW.out⟩
end Go.Proofs.Ytjdlocmchmeipaa
