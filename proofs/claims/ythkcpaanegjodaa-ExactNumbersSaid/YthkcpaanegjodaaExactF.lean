
/- exact: a sum with signs; Add, Mul. -/
import Derived.Test.YthkcpaanegjodaaExactE
namespace Go.Proofs.Ythkcpaanegjodaa
open Go.RowKit

def totS (a b : Bool) (x y : Nat) : Bool := if a = b then a else if x < y then b else a
def totN (a b : Bool) (x y : Nat) : Nat := if a = b then x + y else if x < y then y - x else x - y
theorem tot_is (a b : Bool) (x y : Nat) : numV (totS a b x y) (totN a b x y) = numV a x + numV b y := by
  unfold totS totN numV
  by_cases h : x < y <;> cases a <;> cases b <;> simp [h] <;> omega
theorem cell_pair {w : World} {g : Nat} {t : TypeId} {a b : Value} {k : Nat × Nat} (h : w.heap[g]? = some (.cells #[a, b] t k)) : w.cell? ⟨g, 0, none⟩ = some a ∧ w.cell? ⟨g, 1, none⟩ = some b :=
  ⟨cell_of_row w g 0 _ _ k h, cell_of_row w g 1 _ _ k h⟩
/-- four new blocks -/
theorem four (w : World) (a b c d : Obj) : ∃ W, W = (((w.alloc a).alloc b).alloc c).alloc d ∧ W.heap.size = w.heap.size + 4 ∧ Below w.heap.size w W ∧ W.heap[w.heap.size]? = some a ∧ W.heap[w.heap.size + 1]? = some b ∧ W.heap[w.heap.size + 2]? = some c ∧ W.heap[w.heap.size + 3]? = some d := by
  refine ⟨_, rfl, by simp, bl4 _ _ _ _ _, ?_, ?_, ?_, ?_⟩
  · rw [Below.heap_alloc _ _ _ (by simp; omega), Below.heap_alloc _ _ _ (by simp; omega), Below.heap_alloc _ _ _ (by simp)]; exact heap_alloc_new _ _
  · rw [Below.heap_alloc _ _ _ (by simp), Below.heap_alloc _ _ _ (by simp)]; have := heap_alloc_new (w.alloc a) b; simpa using this
  · rw [Below.heap_alloc _ _ _ (by simp)]; have := heap_alloc_new ((w.alloc a).alloc b) c; simpa using this
  · have := heap_alloc_new (((w.alloc a).alloc b).alloc c) d; simpa using this
set_option maxHeartbeats 1000000 in
set_option maxRecDepth 100000 in
theorem total_same (a : Bool) (x y : Nat) (w : World) (h : x + y < 340282366920938463463374607431768211456) :
    Calls Try.prog 58 #[.agg #[.bool a, .bool a], wv x, wv y] w fun e w' => e = .returned (.tuple #[.bool a, wv (x + y)]) ∧ Below w.heap.size w w' := by
  have hP := fun w => wplus_any x y w h
  unfold wv at hP ⊢
  obtain ⟨x1, ex1⟩ : ∃ h, h = x / 18446744073709551616 := ⟨_, rfl⟩
  obtain ⟨x0, ex0⟩ : ∃ h, h = x % 18446744073709551616 := ⟨_, rfl⟩
  obtain ⟨y1, ey1⟩ : ∃ h, h = y / 18446744073709551616 := ⟨_, rfl⟩
  obtain ⟨y0, ey0⟩ : ∃ h, h = y % 18446744073709551616 := ⟨_, rfl⟩
  obtain ⟨z1, ez1⟩ : ∃ h, h = (x + y) / 18446744073709551616 := ⟨_, rfl⟩
  obtain ⟨z0, ez0⟩ : ∃ h, h = (x + y) % 18446744073709551616 := ⟨_, rfl⟩
  rw [← ex1, ← ex0, ← ey1, ← ey0, ← ez1, ← ez0] at hP ⊢
  clear ex1 ex0 ey1 ey0 ez1 ez0 h
  go_enter Try.func58, Try.ntmps58
  go_wp2
  obtain ⟨W, hW, hsz, hbW, g0, g1, g2, g3⟩ := four w (.cells #[.bool a, .bool a] 95) (.cells #[.int .u64 (x1 : Int), .int .u64 (x0 : Int)] 88) (.cells #[.int .u64 (y1 : Int), .int .u64 (y0 : Int)] 88) (.cells #[.int .u64 0, .int .u64 0] 88)
  rw [← hW]
  obtain ⟨c0, c1⟩ := cell_pair g0
  obtain ⟨c2, c3⟩ := cell_pair g1
  obtain ⟨c4, c5⟩ := cell_pair g2
  clear hW
  have HZ := Lib.hid hsz
  have hsz' : w.heap.size + 4 ≤ W.heap.size := by omega
  clear hsz
  have HG := Lib.hid g3
  clear g0 g1 g2 g3
  go_region_with (go_at_call 82; refine (hP _).mono ?_; rintro e w1 ⟨rfl, hb⟩; have k0 := (hb.cell (p := ⟨w.heap.size, 0, none⟩) (by simp; omega)).trans c0; have kg : w1.heap[w.heap.size + 3]? = _ := (hb.block (w.heap.size + 3) (by simp; omega)).trans HG.out; obtain ⟨k1, k2⟩ := cell_pair kg; have k3 : w1.frozen? ⟨w.heap.size + 3, 0, none⟩ = false := (by simp [World.frozen?, kg]); have k4 : w1.frozen? ⟨w.heap.size + 3, 1, none⟩ = false := (by simp [World.frozen?, kg]); clear kg)
  all_goals
    go_wp2
    exact bodyPost_ret (v := .tuple #[.bool a, .agg #[.int .u64 (z1 : Int), .int .u64 (z0 : Int)]]) (by simp [results, Try.results58, go_sem, k1, k2]) rfl ⟨rfl, (((hbW.trans ((Below.refl _ W).drew)).trans (hb.mono (by simp; omega))).setCell (by simp; omega) _).setCell (by simp; omega) _⟩
end Go.Proofs.Ythkcpaanegjodaa
