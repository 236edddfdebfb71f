
/- exact: a sum of numbers with unlike signs; Add, Mul. -/
import Derived.Test.YthkcpaanegjodaaExactF
namespace Go.Proofs.Ythkcpaanegjodaa
open Go.RowKit

set_option maxHeartbeats 1000000 in
set_option maxRecDepth 100000 in
theorem total_less (a b : Bool) (hab : a ≠ b) (x y : Nat) (w : World) (hle : x < y) (h : y < 340282366920938463463374607431768211456) :
    Calls Try.prog 58 #[.agg #[.bool a, .bool b], wv x, wv y] w fun e w' => e = .returned (.tuple #[.bool b, wv (y - x)]) ∧ Below w.heap.size w w' := by
  have hP := fun w => wminus_any y x w (by omega) h
  have hO := fun w => order_any x y w
  obtain ⟨c, ec⟩ : ∃ c, c = cmpI x y := ⟨_, rfl⟩
  rw [← ec] at hO
  have hd : decide (c < 0) = true := by rw [ec]; unfold cmpI; (repeat' split) <;> first | rfl | (exfalso; omega)
  have hd0 : (a == b) = false := by simpa using hab
  have hd1 : ¬ a = b := hab
  unfold wv at hP hO ⊢
  obtain ⟨x1, ex1⟩ : ∃ h, h = x / 18446744073709551616 := ⟨_, rfl⟩
  obtain ⟨x0, ex0⟩ : ∃ h, h = x % 18446744073709551616 := ⟨_, rfl⟩
  obtain ⟨y1, ey1⟩ : ∃ h, h = y / 18446744073709551616 := ⟨_, rfl⟩
  obtain ⟨y0, ey0⟩ : ∃ h, h = y % 18446744073709551616 := ⟨_, rfl⟩
  obtain ⟨z1, ez1⟩ : ∃ h, h = (y - x) / 18446744073709551616 := ⟨_, rfl⟩
  obtain ⟨z0, ez0⟩ : ∃ h, h = (y - x) % 18446744073709551616 := ⟨_, rfl⟩
  rw [← ex1, ← ex0, ← ey1, ← ey0, ← ez1, ← ez0] at hP ⊢
  rw [← ex1, ← ex0, ← ey1, ← ey0] at hO
  clear ex1 ex0 ey1 ey0 ez1 ez0 h hle ec hab
  go_enter Try.func58, Try.ntmps58
  go_wp2_with fail
  obtain ⟨W, hW, hsz, hbW, g0, g1, g2, g3⟩ := four w (.cells #[.bool a, .bool b] 95) (.cells #[.int .u64 (x1 : Int), .int .u64 (x0 : Int)] 88) (.cells #[.int .u64 (y1 : Int), .int .u64 (y0 : Int)] 88) (.cells #[.int .u64 0, .int .u64 0] 88)
  rw [← hW]
  refine (hO _).mono ?_
  rintro e V ⟨rfl, hV⟩
  have hsz' : w.heap.size + 4 ≤ V.heap.size := Nat.le_trans (by omega) hV.size
  have v0 := (hV.block w.heap.size (by omega)).trans g0
  have v1 := (hV.block (w.heap.size + 1) (by omega)).trans g1
  have v2 := (hV.block (w.heap.size + 2) (by omega)).trans g2
  have v3 := (hV.block (w.heap.size + 3) (by omega)).trans g3
  have hbV : Below w.heap.size w V := hbW.trans (hV.mono (by omega))
  clear hW g0 g1 g2 g3 hsz hV hbW
  obtain ⟨c0, c1⟩ := cell_pair v0
  obtain ⟨c2, c3⟩ := cell_pair v1
  obtain ⟨c4, c5⟩ := cell_pair v2
  have HG := Lib.hid v3
  clear v0 v1 v2 v3
  go_wp2
  go_region_with (go_at_call 83; refine (hP _).mono ?_; rintro e w1 ⟨rfl, hb⟩; have k0 := (hb.cell (p := ⟨w.heap.size, 1, none⟩) (by simp; omega)).trans c1; have kg : w1.heap[w.heap.size + 3]? = _ := (hb.block (w.heap.size + 3) (by simp; omega)).trans HG.out; obtain ⟨k1, k2⟩ := cell_pair kg; have k3 : w1.frozen? ⟨w.heap.size + 3, 0, none⟩ = false := (by simp [World.frozen?, kg]); have k4 : w1.frozen? ⟨w.heap.size + 3, 1, none⟩ = false := (by simp [World.frozen?, kg]); clear kg)
  all_goals
    go_wp2
    exact bodyPost_ret (v := .tuple #[.bool b, .agg #[.int .u64 (z1 : Int), .int .u64 (z0 : Int)]]) (by simp [results, Try.results58, go_sem, k1, k2]) rfl ⟨rfl, (((hbV.trans ((Below.refl _ V).drew)).trans (hb.mono (by simp; omega))).setCell (by simp; omega) _).setCell (by simp; omega) _⟩
set_option maxHeartbeats 1000000 in
set_option maxRecDepth 100000 in
theorem total_more (a b : Bool) (hab : a ≠ b) (x y : Nat) (w : World) (hle : y ≤ x) (h : x < 340282366920938463463374607431768211456) :
    Calls Try.prog 58 #[.agg #[.bool a, .bool b], wv x, wv y] w fun e w' => e = .returned (.tuple #[.bool a, wv (x - y)]) ∧ Below w.heap.size w w' := by
  have hP := fun w => wminus_any x y w hle h
  have hO := fun w => order_any x y w
  obtain ⟨c, ec⟩ : ∃ c, c = cmpI x y := ⟨_, rfl⟩
  rw [← ec] at hO
  have hd : decide (c < 0) = false := by rw [ec]; unfold cmpI; (repeat' split) <;> first | rfl | (exfalso; omega)
  have hd0 : (a == b) = false := by simpa using hab
  have hd1 : ¬ a = b := hab
  unfold wv at hP hO ⊢
  obtain ⟨x1, ex1⟩ : ∃ h, h = x / 18446744073709551616 := ⟨_, rfl⟩
  obtain ⟨x0, ex0⟩ : ∃ h, h = x % 18446744073709551616 := ⟨_, rfl⟩
  obtain ⟨y1, ey1⟩ : ∃ h, h = y / 18446744073709551616 := ⟨_, rfl⟩
  obtain ⟨y0, ey0⟩ : ∃ h, h = y % 18446744073709551616 := ⟨_, rfl⟩
  obtain ⟨z1, ez1⟩ : ∃ h, h = (x - y) / 18446744073709551616 := ⟨_, rfl⟩
  obtain ⟨z0, ez0⟩ : ∃ h, h = (x - y) % 18446744073709551616 := ⟨_, rfl⟩
  rw [← ex1, ← ex0, ← ey1, ← ey0, ← ez1, ← ez0] at hP ⊢
  rw [← ex1, ← ex0, ← ey1, ← ey0] at hO
  clear ex1 ex0 ey1 ey0 ez1 ez0 h hle ec hab
  go_enter Try.func58, Try.ntmps58
  go_wp2_with fail
  obtain ⟨W, hW, hsz, hbW, g0, g1, g2, g3⟩ := four w (.cells #[.bool a, .bool b] 95) (.cells #[.int .u64 (x1 : Int), .int .u64 (x0 : Int)] 88) (.cells #[.int .u64 (y1 : Int), .int .u64 (y0 : Int)] 88) (.cells #[.int .u64 0, .int .u64 0] 88)
  rw [← hW]
  refine (hO _).mono ?_
  rintro e V ⟨rfl, hV⟩
  have hsz' : w.heap.size + 4 ≤ V.heap.size := Nat.le_trans (by omega) hV.size
  have v0 := (hV.block w.heap.size (by omega)).trans g0
  have v1 := (hV.block (w.heap.size + 1) (by omega)).trans g1
  have v2 := (hV.block (w.heap.size + 2) (by omega)).trans g2
  have v3 := (hV.block (w.heap.size + 3) (by omega)).trans g3
  have hbV : Below w.heap.size w V := hbW.trans (hV.mono (by omega))
  clear hW g0 g1 g2 g3 hsz hV hbW
  obtain ⟨c0, c1⟩ := cell_pair v0
  obtain ⟨c2, c3⟩ := cell_pair v1
  obtain ⟨c4, c5⟩ := cell_pair v2
  have HG := Lib.hid v3
  clear v0 v1 v2 v3
  go_wp2
  go_region_with (go_at_call 83; refine (hP _).mono ?_; rintro e w1 ⟨rfl, hb⟩; have k0 := (hb.cell (p := ⟨w.heap.size, 0, none⟩) (by simp; omega)).trans c0; have kg : w1.heap[w.heap.size + 3]? = _ := (hb.block (w.heap.size + 3) (by simp; omega)).trans HG.out; obtain ⟨k1, k2⟩ := cell_pair kg; have k3 : w1.frozen? ⟨w.heap.size + 3, 0, none⟩ = false := (by simp [World.frozen?, kg]); have k4 : w1.frozen? ⟨w.heap.size + 3, 1, none⟩ = false := (by simp [World.frozen?, kg]); clear kg)
  all_goals
    go_wp2
    exact bodyPost_ret (v := .tuple #[.bool a, .agg #[.int .u64 (z1 : Int), .int .u64 (z0 : Int)]]) (by simp [results, Try.results58, go_sem, k1, k2]) rfl ⟨rfl, (((hbV.trans ((Below.refl _ V).drew)).trans (hb.mono (by simp; omega))).setCell (by simp; omega) _).setCell (by simp; omega) _⟩
theorem total_any (a b : Bool) (x y : Nat) (w : World) (h : x + y < 340282366920938463463374607431768211456) :
    Calls Try.prog 58 #[.agg #[.bool a, .bool b], wv x, wv y] w fun e w' => e = .returned (.tuple #[.bool (totS a b x y), wv (totN a b x y)]) ∧ Below w.heap.size w w' := by
  unfold totS totN
  by_cases hab : a = b
  · subst hab
    rw [if_pos rfl, if_pos rfl]
    exact total_same a x y w h
  · rw [if_neg hab, if_neg hab]
    by_cases hl : x < y
    · rw [if_pos hl, if_pos hl]
      exact total_less a b hab x y w hl (by omega)
    · rw [if_neg hl, if_neg hl]
      exact total_more a b hab x y w (by omega) (by omega)
end Go.Proofs.Ythkcpaanegjodaa
