
/- Two words by one: math/bits.Div64, Rem64. -/
import Derived.Test.YthkcpaanegjodaaExactC
import Derived.Deep.CutBlock
import Derived.Deep.DeepCutAuto
namespace Go.Proofs.Ythkcpaanegjodaa
open Go.RowKit

set_option maxHeartbeats 2000000 in
set_option maxRecDepth 100000 in
theorem div64_small (lo y : Nat) (w : World) (h0 : 0 < y) (hy : y < 18446744073709551616) (hlo : lo < 18446744073709551616) :
    Calls Try.prog 85 #[.int .u64 0, .int .u64 lo, .int .u64 y] w fun e w' => e = .returned (.tuple #[.int .u64 ((lo / y : Nat) : Int), .int .u64 ((lo % y : Nat) : Int)]) ∧ ∃ m, w' = w.drewN m := by
  have d0 : ((y : Int) == 0) = false := by simp; omega
  have d1 : decide ((y : Int) ≤ 0) = false := by simp; omega
  have b1 := Nat.div_le_self lo y
  have b2 := Nat.mod_lt lo h0
  have e1 : (lo : Int) / (y : Int) = ((lo / y : Nat) : Int) := by omega
  have e2 : (lo : Int) % (y : Int) = ((lo % y : Nat) : Int) := by omega
  generalize lo / y = q at *
  generalize lo % y = r at *
  have hq : q < 18446744073709551616 := by omega
  go_enter Try.func85, Try.ntmps85
  go_wp2
  go_region
  go_wp2
  go_ret2
  exact ⟨by show Ending.returned (.tuple #[.int .u64 (q : Int), .int .u64 ((lo : Int) % (y : Int))]) = _; rw [e2], 1, rfl⟩

theorem drewN_below (w : World) (m : Nat) : Below w.heap.size w (w.drewN m) := ⟨rfl, rfl, rfl, Nat.le_refl _, fun _ _ => rfl⟩
theorem or_parts (a b s : Nat) (hb : b < 2 ^ s) (h : a * 2 ^ s + b < 18446744073709551616) : bits .or .u64 ((a * 2 ^ s : Nat) : Int) (b : Int) = ((a * 2 ^ s + b : Nat) : Int) := by
  have h1 := u64_or_nat (a * 2 ^ s) b (by omega) (by omega)
  have e := Nat.shiftLeft_add_eq_or_of_lt (i := s) hb a
  rw [Nat.shiftLeft_eq] at e
  rw [← e] at h1
  exact h1
/-- what the digits start from -/
structure D64 (hi lo y s Y y1 y0 A B u t u1 u0 : Nat) : Prop where
  eY : (y : Int) * 2 ^ s = (Y : Int)
  e1 : (Y : Int) / 4294967296 = (y1 : Int)
  e2 : bits .and .u64 (Y : Int) 4294967295 = (y0 : Int)
  e3 : (hi : Int) * 2 ^ s = (A : Int)
  e4 : (lo : Int) / 2 ^ (64 - s) = (B : Int)
  e5 : bits .or .u64 (A : Int) (B : Int) = (u : Int)
  e6 : IntKind.u64.wrap ((lo : Int) * 2 ^ s) = (t : Int)
  e7 : (t : Int) / 4294967296 = (u1 : Int)
  e8 : bits .and .u64 (t : Int) 4294967295 = (u0 : Int)
  hY : Y = y1 * 4294967296 + y0
  hYl : Y < 18446744073709551616
  hA : A < 18446744073709551616
  ht : t < 18446744073709551616
  h0 : y0 < 4294967296
  h1 : 2147483648 ≤ y1
  h2 : y1 < 4294967296
  hu1 : u1 < 4294967296
  hu0 : u0 < 4294967296
  hu : u < Y
  hU : u * 18446744073709551616 + (u1 * 4294967296 + u0) = (hi * 18446744073709551616 + lo) * 2 ^ s
  hYs : Y = y * 2 ^ s
theorem d64 (hi lo y s : Nat) (hhi : hi < y) (hy : y < 18446744073709551616) (hlo : lo < 18446744073709551616) (hs : s = 64 - Lib.bitLen y) : ∃ Y y1 y0 A B u t u1 u0, D64 hi lo y s Y y1 y0 A B u t u1 u0 := by
  obtain ⟨s1, s2, s3, s4⟩ := len_spec y (by omega) hy
  have hs63 : s ≤ 63 := by omega
  have hYlt : y * 2 ^ s < 18446744073709551616 := by
    have : y * 2 ^ s < 2 ^ Lib.bitLen y * 2 ^ s := Nat.mul_lt_mul_of_pos_right s4 (Nat.two_pow_pos s)
    rw [← Nat.pow_add, show Lib.bitLen y + s = 64 by omega] at this
    exact this
  have hYge : 9223372036854775808 ≤ y * 2 ^ s := by
    have : 2 ^ (Lib.bitLen y - 1) * 2 ^ s ≤ y * 2 ^ s := Nat.mul_le_mul_right _ s3
    rw [← Nat.pow_add, show Lib.bitLen y - 1 + s = 63 by omega] at this
    exact this
  obtain ⟨hsh, hul⟩ := ExactM.shifted hi lo s y hs63 hlo hhi
  have hBs : lo / 2 ^ (64 - s) < 2 ^ s := Nat.div_lt_of_lt_mul (by rw [← Nat.pow_add, show 64 - s + s = 64 by omega]; exact hlo)
  refine ⟨y * 2 ^ s, y * 2 ^ s / 4294967296, y * 2 ^ s % 4294967296, hi * 2 ^ s, lo / 2 ^ (64 - s), hi * 2 ^ s + lo / 2 ^ (64 - s), lo * 2 ^ s % 18446744073709551616, lo * 2 ^ s % 18446744073709551616 / 4294967296, lo * 2 ^ s % 18446744073709551616 % 4294967296, ?_⟩
  constructor
  · simp
  · rw [div32N]
  · exact maskN32 _ hYlt
  · simp
  · simp
  · exact or_parts hi _ s hBs (by omega)
  · rw [IntKind.wrap_u64]; simp
  · rw [div32N]
  · exact maskN32 _ (by omega)
  · omega
  · exact hYlt
  · exact Nat.lt_of_le_of_lt (Nat.le_add_right _ _) (Nat.lt_trans hul hYlt)
  · omega
  · omega
  · omega
  · omega
  · omega
  · omega
  · exact hul
  · rw [← hsh]; omega
  · rfl
theorem d64_end {hi lo y s Y y1 y0 A B u t u1 u0 q1 t1 q0 r0 : Nat} (D : D64 hi lo y s Y y1 y0 A B u t u1 u0) (h1 : ExactM.KE u u1 Y q1) (ht : t1 = u * 4294967296 + u1 - q1 * Y) (h0 : ExactM.KE t1 u0 Y q0) (hr : r0 = t1 * 4294967296 + u0 - q0 * Y) :
    q1 * 4294967296 + q0 = (hi * 18446744073709551616 + lo) / y ∧ r0 / 2 ^ s = (hi * 18446744073709551616 + lo) % y := by
  have hY0 : 0 < Y := by have := D.hY; have := D.h1; omega
  obtain ⟨e1, e2⟩ := ExactM.ke_two u u1 u0 Y q1 t1 q0 h1 ht h0 hY0
  obtain ⟨f1, f2⟩ := ExactM.div_scaled (hi * 18446744073709551616 + lo) y (2 ^ s) (Nat.two_pow_pos s)
  rw [D.hU, D.hYs] at e1 e2
  rw [f1] at e1
  rw [f2, ← D.hYs, ← hr] at e2
  exact ⟨e1.symm, by rw [← e2, Nat.mul_div_cancel _ (Nat.two_pow_pos s)]⟩
/-- what a digit leaves, in words that go round -/
theorem left_wrap (u u1 q Y p t : Nat) (h : ExactM.KE u u1 Y q) (hp : p = q * Y) (ht : t = u * 4294967296 + u1 - p) (hl : t < 18446744073709551616) :
    IntKind.u64.wrap (IntKind.u64.wrap (IntKind.u64.wrap ((u : Int) * 4294967296) + (u1 : Int)) - IntKind.u64.wrap ((q : Int) * (Y : Int))) = (t : Int) := by
  have h1 := (ExactM.ke_rest h).2
  rw [mulNN, ← hp]
  rw [← hp] at h1
  simp only [IntKind.wrap_u64]
  omega

set_option maxHeartbeats 4000000 in
set_option maxRecDepth 100000 in
theorem div64_big (hi lo y : Nat) (w : World) (h0 : 0 < hi) (hhi : hi < y) (hy : y < 18446744073709551616) (hlo : lo < 18446744073709551616) :
    Calls Try.prog 85 #[.int .u64 hi, .int .u64 lo, .int .u64 y] w fun e w' => e = .returned (.tuple #[.int .u64 (((hi * 18446744073709551616 + lo) / y : Nat) : Int), .int .u64 (((hi * 18446744073709551616 + lo) % y : Nat) : Int)]) ∧ ∃ m, w' = w.drewN m := by
  have d0 : ((y : Int) == 0) = false := by simp; omega
  have d1 : decide (y ≤ hi) = false := by simp; omega
  have d2 : ((hi : Int) == 0) = false := by simp; omega
  have hl := fun w => lead64_any y w (by omega) hy
  obtain ⟨s1, s2, _, _⟩ := len_spec y (by omega) hy
  obtain ⟨s, hs⟩ : ∃ s, s = 64 - Lib.bitLen y := ⟨_, rfl⟩
  rw [← hs] at hl
  have hs63 : s ≤ 63 := by omega
  obtain ⟨Y, y1, y0, A, B, u, t, u1, u0, D⟩ := d64 hi lo y s hhi hy hlo hs
  clear hs s1 s2
  have eY := D.eY
  have e1 := D.e1
  have e2 := D.e2
  have e3 := D.e3
  have e4 := D.e4
  have e5 := D.e5
  have e6 := D.e6
  have e7 := D.e7
  have e8 := D.e8
  have hYl := D.hYl
  have hA := D.hA
  have ht := D.ht
  have b0 := D.h0
  have b1 := D.h1
  have b2 := D.h2
  have bu1 := D.hu1
  have bu0 := D.hu0
  have bu := D.hu
  have hn : ¬ y1 = 0 := by omega
  obtain ⟨q, hq⟩ : ∃ q, q = u / y1 := ⟨_, rfl⟩
  obtain ⟨p, hp⟩ : ∃ p, p = q * y1 := ⟨_, rfl⟩
  obtain ⟨r, hr⟩ : ∃ r, r = u - p := ⟨_, rfl⟩
  obtain ⟨hpu, hK⟩ := ExactM.ki_start u u1 y1 y0 Y q p r D.hY D.h0 D.h1 D.h2 D.hu D.hu1 hq hp hr
  have e9 : (u : Int) / (y1 : Int) = (q : Int) := by rw [hq]; simp
  have e10 : (q : Int) * (y1 : Int) = (p : Int) := by rw [hp]; simp
  have e11 : (u : Int) - (p : Int) = (r : Int) := by omega
  have hql : q ≤ 4294967297 := hK.2.1
  have HK := Lib.hid hK
  clear hq hp hr hK
  go_enter Try.func85, Try.ntmps85
  go_upto_block 0 with ((go_at_call 107; refine (hl _).mono ?_; rintro e w' ⟨rfl, rfl⟩))
  clear eY e1 e2 e3 e4 e5 e6 e7 e8 e9 e10 e11
  go_cut [15] (fun x wx => ∃ q : Nat, x = .int .u64 q ∧ ExactM.KE u u1 Y q ∧ w = wx)
  case first =>
    go_wp2_with fail
    go_loop [15, 16] (fun x z => ∃ q r : Nat, x = .int .u64 q ∧ z = .int .u64 r ∧ ExactM.KI u u1 y1 y0 q r) (fun x _ => (intOf x).toNat)
    case atStart => exact ⟨q, r, rfl, rfl, HK.out⟩
    case round =>
      clear HK hql hpu
      obtain ⟨q, r, rfl, rfl, hK⟩ := hrel
      have hql := hK.2.1
      have hrl := hK.2.2.1
      obtain ⟨p, hp⟩ : ∃ p, p = q * y0 := ⟨_, rfl⟩
      have HP := Lib.hid hp
      have HK := Lib.hid hK
      clear hK
      by_cases hq : 4294967296 ≤ q
      · have hd1 : decide ((4294967296 : Int) ≤ (q : Int)) = true := by simp; omega
        have hc : 4294967296 ≤ q ∨ 4294967296 * r + u1 < p := .inl hq
        clear hp
        obtain ⟨m1, m2, m3⟩ := ExactM.ki_more u u1 y1 y0 Y q r p D.hY bu bu1 HP.out HK.out hc
        have HM2 := Lib.hid m2
        have HM3 := Lib.hid m3
        have eq1 : (q : Int) - 1 = ((q - 1 : Nat) : Int) := by omega
        by_cases hb : 4294967296 ≤ r + y1
        · have hdb : decide ((4294967296 : Int) ≤ (r : Int) + (y1 : Int)) = true := by simp; omega
          have hE := Lib.hid (ExactM.ki_break u u1 y1 y0 Y q r D.hY b0 HM2.out hql HM3.out hb)
          clear m2 m3 hc
          go_wp2_with fail
          go_meet
          exact ⟨q - 1, rfl, hE.out, rfl⟩
        · have hdb : decide ((4294967296 : Int) ≤ (r : Int) + (y1 : Int)) = false := by simp; omega
          have hE := Lib.hid (ExactM.ki_on u u1 y1 y0 Y q r D.hY HM2.out hql HM3.out (by omega))
          clear m2 m3 hc
          go_wp2_with fail
          go_round
          case rel => exact ⟨q - 1, r + y1, rfl, by go_num, hE.out⟩
          case measure => simp [intOf]; omega
      · have hd1 : decide ((4294967296 : Int) ≤ (q : Int)) = false := by simp; omega
        have e10 : (q : Int) * (y0 : Int) = (p : Int) := by rw [hp]; simp
        have hpl : p ≤ 18446744073709551615 := by
          rw [hp]
          have := Nat.mul_le_mul (show q ≤ 4294967295 by omega) (show y0 ≤ 4294967295 by omega)
          omega
        clear hp
        by_cases hcc : 4294967296 * r + u1 < p
        · have hd2 : decide ((4294967296 : Int) * (r : Int) + (u1 : Int) < (p : Int)) = true := by simp; omega
          have hc : 4294967296 ≤ q ∨ 4294967296 * r + u1 < p := .inr hcc
          obtain ⟨m1, m2, m3⟩ := ExactM.ki_more u u1 y1 y0 Y q r p D.hY bu bu1 HP.out HK.out hc
          have HM2 := Lib.hid m2
          have HM3 := Lib.hid m3
          have eq1 : (q : Int) - 1 = ((q - 1 : Nat) : Int) := by omega
          by_cases hb : 4294967296 ≤ r + y1
          · have hdb : decide ((4294967296 : Int) ≤ (r : Int) + (y1 : Int)) = true := by simp; omega
            have hE := Lib.hid (ExactM.ki_break u u1 y1 y0 Y q r D.hY b0 HM2.out hql HM3.out hb)
            clear m2 m3 hc
            go_wp2_with fail
            go_meet
            exact ⟨q - 1, rfl, hE.out, rfl⟩
          · have hdb : decide ((4294967296 : Int) ≤ (r : Int) + (y1 : Int)) = false := by simp; omega
            have hE := Lib.hid (ExactM.ki_on u u1 y1 y0 Y q r D.hY HM2.out hql HM3.out (by omega))
            clear m2 m3 hc
            go_wp2_with fail
            go_round
            case rel => exact ⟨q - 1, r + y1, rfl, by go_num, hE.out⟩
            case measure => simp [intOf]; omega
        · have hd2 : decide ((4294967296 : Int) * (r : Int) + (u1 : Int) < (p : Int)) = false := by simp; omega
          have hE := Lib.hid (ExactM.ki_end u u1 y1 y0 Y q r p D.hY HP.out HK.out hcc)
          go_wp2_with fail
          go_meet
          exact ⟨q, rfl, hE.out, rfl⟩
  case rest =>
    clear HK hql hpu
    obtain ⟨q1, rfl, hE1, rfl⟩ := hcut
    obtain ⟨t1l, t1le⟩ := ExactM.ke_rest hE1
    have hq1 := ExactM.ke_small hE1 bu bu1
    obtain ⟨p1, hp1⟩ : ∃ p1, p1 = q1 * Y := ⟨_, rfl⟩
    rw [← hp1] at t1l t1le
    obtain ⟨t1, ht1⟩ : ∃ t1, t1 = u * 4294967296 + u1 - p1 := ⟨_, rfl⟩
    have bt1 : t1 < Y := by omega
    have f1 := left_wrap u u1 q1 Y p1 t1 hE1 hp1 ht1 (by omega)
    obtain ⟨q, hq⟩ : ∃ q, q = t1 / y1 := ⟨_, rfl⟩
    obtain ⟨p, hp⟩ : ∃ p, p = q * y1 := ⟨_, rfl⟩
    obtain ⟨r, hr⟩ : ∃ r, r = t1 - p := ⟨_, rfl⟩
    obtain ⟨hpu, hK⟩ := ExactM.ki_start t1 u0 y1 y0 Y q p r D.hY D.h0 D.h1 D.h2 bt1 D.hu0 hq hp hr
    have e9 : (t1 : Int) / (y1 : Int) = (q : Int) := by rw [hq]; simp
    have e10 : (q : Int) * (y1 : Int) = (p : Int) := by rw [hp]; simp
    have e11 : (t1 : Int) - (p : Int) = (r : Int) := by omega
    have hql : q ≤ 4294967297 := hK.2.1
    have HK := Lib.hid hK
    have HE1 := Lib.hid hE1
    have HT1 : Hid (t1 = u * 4294967296 + u1 - q1 * Y) := Lib.hid (by rw [ht1, hp1])
    clear hq hp hr hK hE1 hp1 ht1 t1l t1le
    go_upto_block 2 with fail
    clear f1 e9 e10 e11
    go_cut [18] (fun x wx => ∃ q : Nat, x = .int .u64 q ∧ ExactM.KE t1 u0 Y q ∧ w = wx)
    case first =>
      go_wp2_with fail
      go_loop [18, 16] (fun x z => ∃ q r : Nat, x = .int .u64 q ∧ z = .int .u64 r ∧ ExactM.KI t1 u0 y1 y0 q r) (fun x _ => (intOf x).toNat)
      case atStart => exact ⟨q, r, rfl, rfl, HK.out⟩
      case round =>
        clear HK hql hpu
        obtain ⟨q, r, rfl, rfl, hK⟩ := hrel
        have hql := hK.2.1
        have hrl := hK.2.2.1
        obtain ⟨p, hp⟩ : ∃ p, p = q * y0 := ⟨_, rfl⟩
        have HP := Lib.hid hp
        have HK := Lib.hid hK
        clear hK
        by_cases hq : 4294967296 ≤ q
        · have hd1 : decide ((4294967296 : Int) ≤ (q : Int)) = true := by simp; omega
          have hc : 4294967296 ≤ q ∨ 4294967296 * r + u0 < p := .inl hq
          clear hp
          obtain ⟨m1, m2, m3⟩ := ExactM.ki_more t1 u0 y1 y0 Y q r p D.hY bt1 bu0 HP.out HK.out hc
          have HM2 := Lib.hid m2
          have HM3 := Lib.hid m3
          have eq1 : (q : Int) - 1 = ((q - 1 : Nat) : Int) := by omega
          by_cases hb : 4294967296 ≤ r + y1
          · have hdb : decide ((4294967296 : Int) ≤ (r : Int) + (y1 : Int)) = true := by simp; omega
            have hE := Lib.hid (ExactM.ki_break t1 u0 y1 y0 Y q r D.hY b0 HM2.out hql HM3.out hb)
            clear m2 m3 hc
            go_wp2_with fail
            go_meet
            exact ⟨q - 1, rfl, hE.out, rfl⟩
          · have hdb : decide ((4294967296 : Int) ≤ (r : Int) + (y1 : Int)) = false := by simp; omega
            have hE := Lib.hid (ExactM.ki_on t1 u0 y1 y0 Y q r D.hY HM2.out hql HM3.out (by omega))
            clear m2 m3 hc
            go_wp2_with fail
            go_round
            case rel => exact ⟨q - 1, r + y1, rfl, by go_num, hE.out⟩
            case measure => simp [intOf]; omega
        · have hd1 : decide ((4294967296 : Int) ≤ (q : Int)) = false := by simp; omega
          have e10 : (q : Int) * (y0 : Int) = (p : Int) := by rw [hp]; simp
          have hpl : p ≤ 18446744073709551615 := by
            rw [hp]
            have := Nat.mul_le_mul (show q ≤ 4294967295 by omega) (show y0 ≤ 4294967295 by omega)
            omega
          clear hp
          by_cases hcc : 4294967296 * r + u0 < p
          · have hd2 : decide ((4294967296 : Int) * (r : Int) + (u0 : Int) < (p : Int)) = true := by simp; omega
            have hc : 4294967296 ≤ q ∨ 4294967296 * r + u0 < p := .inr hcc
            obtain ⟨m1, m2, m3⟩ := ExactM.ki_more t1 u0 y1 y0 Y q r p D.hY bt1 bu0 HP.out HK.out hc
            have HM2 := Lib.hid m2
            have HM3 := Lib.hid m3
            have eq1 : (q : Int) - 1 = ((q - 1 : Nat) : Int) := by omega
            by_cases hb : 4294967296 ≤ r + y1
            · have hdb : decide ((4294967296 : Int) ≤ (r : Int) + (y1 : Int)) = true := by simp; omega
              have hE := Lib.hid (ExactM.ki_break t1 u0 y1 y0 Y q r D.hY b0 HM2.out hql HM3.out hb)
              clear m2 m3 hc
              go_wp2_with fail
              go_meet
              exact ⟨q - 1, rfl, hE.out, rfl⟩
            · have hdb : decide ((4294967296 : Int) ≤ (r : Int) + (y1 : Int)) = false := by simp; omega
              have hE := Lib.hid (ExactM.ki_on t1 u0 y1 y0 Y q r D.hY HM2.out hql HM3.out (by omega))
              clear m2 m3 hc
              go_wp2_with fail
              go_round
              case rel => exact ⟨q - 1, r + y1, rfl, by go_num, hE.out⟩
              case measure => simp [intOf]; omega
          · have hd2 : decide ((4294967296 : Int) * (r : Int) + (u0 : Int) < (p : Int)) = false := by simp; omega
            have hE := Lib.hid (ExactM.ki_end t1 u0 y1 y0 Y q r p D.hY HP.out HK.out hcc)
            go_wp2_with fail
            go_meet
            exact ⟨q, rfl, hE.out, rfl⟩
    case rest =>
      clear HK hql hpu
      obtain ⟨q0, rfl, hE0, rfl⟩ := hcut
      obtain ⟨t0l, t0le⟩ := ExactM.ke_rest hE0
      have hq0 := ExactM.ke_small hE0 bt1 bu0
      obtain ⟨p0, hp0⟩ : ∃ p0, p0 = q0 * Y := ⟨_, rfl⟩
      rw [← hp0] at t0l t0le
      obtain ⟨r0, hr0⟩ : ∃ r0, r0 = t1 * 4294967296 + u0 - p0 := ⟨_, rfl⟩
      have br0 : r0 < Y := by omega
      have f1 := left_wrap t1 u0 q0 Y p0 r0 hE0 hp0 hr0 (by omega)
      obtain ⟨g1, g2⟩ := d64_end (r0 := r0) D HE1.out HT1.out hE0 (by rw [hr0, hp0])
      have G1 := Lib.hid g1
      have G2 := Lib.hid g2
      have e12 : (r0 : Int) / 2 ^ s = ((r0 / 2 ^ s : Nat) : Int) := by simp
      obtain ⟨R, hR⟩ : ∃ R, R = r0 / 2 ^ s := ⟨_, rfl⟩
      rw [← hR] at e12
      have HR := Lib.hid hR
      clear g1 g2 hE0 hp0 hr0 t0l t0le hR
      go_wp2_with fail
      go_ret2
      refine ⟨?_, 0, rfl⟩
      rw [← G1.out, ← G2.out, ← HR.out]
      first | rfl | (congr 5; omega) | trace_state
theorem div64_any (hi lo y : Nat) (w : World) (hhi : hi < y) (hy : y < 18446744073709551616) (hlo : lo < 18446744073709551616) :
    Calls Try.prog 85 #[.int .u64 hi, .int .u64 lo, .int .u64 y] w fun e w' => e = .returned (.tuple #[.int .u64 (((hi * 18446744073709551616 + lo) / y : Nat) : Int), .int .u64 (((hi * 18446744073709551616 + lo) % y : Nat) : Int)]) ∧ ∃ m, w' = w.drewN m := by
  by_cases h : hi = 0
  · subst h
    rw [Nat.zero_mul, Nat.zero_add]
    exact div64_small lo y w hhi hy hlo
  · exact div64_big hi lo y w (by omega) hhi hy hlo
set_option maxHeartbeats 400000 in
set_option maxRecDepth 100000 in
theorem rem64_any (hi lo y : Nat) (w : World) (h0 : 0 < y) (hy : y < 18446744073709551616) (hlo : lo < 18446744073709551616) (hhi : hi < 18446744073709551616) :
    Calls Try.prog 84 #[.int .u64 hi, .int .u64 lo, .int .u64 y] w fun e w' => e = .returned (.int .u64 (((hi * 18446744073709551616 + lo) % y : Nat) : Int)) ∧ ∃ m, w' = w.drewN m := by
  have hm := Nat.mod_lt hi h0
  have e1 : (hi : Int) % (y : Int) = ((hi % y : Nat) : Int) := by simp
  obtain ⟨m, hM⟩ : ∃ m, m = hi % y := ⟨_, rfl⟩
  obtain ⟨r, hR⟩ : ∃ r, r = (hi * 18446744073709551616 + lo) % y := ⟨_, rfl⟩
  have hD : ∃ q : Nat, ∀ w, Calls Try.prog 85 #[.int .u64 m, .int .u64 lo, .int .u64 y] w fun e w' => e = .returned (.tuple #[.int .u64 (q : Int), .int .u64 (r : Int)]) ∧ ∃ m, w' = w.drewN m := by
    refine ⟨(m * 18446744073709551616 + lo) / y, fun w => ?_⟩
    have h := div64_any m lo y w (by omega) hy hlo
    have e : (m * 18446744073709551616 + lo) % y = r := by
      rw [hR, hM, Nat.add_mod, Nat.mul_mod, Nat.mod_mod, ← Nat.mul_mod, ← Nat.add_mod]
    rw [e] at h
    exact h
  obtain ⟨q, hD⟩ := hD
  rw [← hM] at e1
  rw [← hR]
  clear hR hM hm
  have d0 : ¬ y = 0 := by omega
  go_enter Try.func84, Try.ntmps84
  go_wp2_with fail
  refine (hD _).mono ?_
  rintro e w' ⟨rfl, k, rfl⟩
  go_wp2
  go_ret
  exact ⟨rfl, k, rfl⟩
end Go.Proofs.Ythkcpaanegjodaa
