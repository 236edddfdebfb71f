
/- A measure's functions, and a score, as the program tells it. -/
import Derived.Test.YtjdlocmchmeipaaDenseA
import Derived.Laws.EntriesVeiled
namespace Go.Proofs.Ytjdlocmchmeipaa
open Go.RowKit

def mI : Bool → Int
  | false => 0
  | true => 1
def brV : Bool → Value
  | false => .func (.func 40) #[] #[]
  | true => .func (.func 42) #[] #[]
def moV : Bool → Value
  | false => .func (.func 41) #[] #[]
  | true => .func (.func 43) #[] #[]
set_option maxHeartbeats 1000000 in
set_option maxRecDepth 100000 in
theorem measurings_any (w : World) :
    Calls Try.prog 29 #[] w fun e w' => e = .returned (.agg #[brV false, moV false, brV true, moV true]) ∧ Below w.heap.size w w' := by
  unfold brV moV
  go_enter Try.func29, Try.ntmps29
  go_wp2
  refine bodyPost_ret (v := .agg #[.func (.func 40) #[] #[], .func (.func 41) #[] #[], .func (.func 42) #[] #[], .func (.func 43) #[] #[]]) ?_ rfl ?_
  · simp [results, Try.results29, go_sem]
  · refine ⟨rfl, ?_⟩
    repeat (first | exact (Below.refl _ _).alloc (Nat.le_refl _) _ | refine Below.setCell ?_ (Nat.le_refl _) _)
set_option maxHeartbeats 1000000 in
set_option maxRecDepth 100000 in
theorem mof_yes (m : Bool) (w : World) :
    Calls Try.prog 20 #[.int .i64 (mI m)] w fun e w' => e = .returned (.tuple #[.agg #[brV m, moV m], .bool true]) ∧ Below w.heap.size w w' := by
  have HM := Lib.hid (fun w => measurings_any w)
  cases m with
  | false =>
    simp only [brV, moV] at HM ⊢
    unfold mI
    go_enter Try.func20, Try.ntmps20
    go_wp2_with fail
    refine (HM.out _).mono ?_
    rintro e w2 ⟨rfl, hb⟩
    have ho := blk_stay hb (heap_alloc_new w (.cells #[.nilFunc, .nilFunc] 60))
    have k0 := cell_of_cells (i := 0) ho rfl
    have k1 := cell_of_cells (i := 1) ho rfl
    have f0 := fun i => frozen_of_cells (i := i) ho
    have hlt := World.block_lt_of_cell? w2 _ k0
    have hB : Below w.heap.size w w2 := ((Below.refl _ w).alloc (Nat.le_refl _) _).trans (hb.mono (by simp))
    simp only at hlt
    clear ho hb
    go_wp2
    refine bodyPost_ret (v := .tuple #[.agg #[.func (.func 40) #[] #[], .func (.func 41) #[] #[]], .bool true]) ?_ rfl ⟨rfl, ((hB.setCell (Nat.le_refl _) _).setCell (Nat.le_refl _) _).alloc (by simpa [World.setCell] using hB.size) _⟩
    simp [results, Try.results20, go_sem, k0, k1, hlt]
  | true =>
    simp only [brV, moV] at HM ⊢
    unfold mI
    go_enter Try.func20, Try.ntmps20
    go_wp2_with fail
    refine (HM.out _).mono ?_
    rintro e w2 ⟨rfl, hb⟩
    have ho := blk_stay hb (heap_alloc_new w (.cells #[.nilFunc, .nilFunc] 60))
    have k0 := cell_of_cells (i := 0) ho rfl
    have k1 := cell_of_cells (i := 1) ho rfl
    have f0 := fun i => frozen_of_cells (i := i) ho
    have hlt := World.block_lt_of_cell? w2 _ k0
    have hB : Below w.heap.size w w2 := ((Below.refl _ w).alloc (Nat.le_refl _) _).trans (hb.mono (by simp))
    simp only at hlt
    clear ho hb
    go_wp2
    refine bodyPost_ret (v := .tuple #[.agg #[.func (.func 42) #[] #[], .func (.func 43) #[] #[]], .bool true]) ?_ rfl ⟨rfl, ((hB.setCell (Nat.le_refl _) _).setCell (Nat.le_refl _) _).alloc (by simpa [World.setCell] using hB.size) _⟩
    simp [results, Try.results20, go_sem, k0, k1, hlt]
set_option maxHeartbeats 1000000 in
set_option maxRecDepth 100000 in
theorem mof_no (k : Int) (w : World) (h : k ≠ 0 ∧ k ≠ 1) :
    Calls Try.prog 20 #[.int .i64 k] w fun e w' => e = .returned (.tuple #[.agg #[.nilFunc, .nilFunc], .bool false]) ∧ Below w.heap.size w w' := by
  have HM := Lib.hid (fun w => measurings_any w)
  simp only [brV, moV] at HM ⊢
  by_cases h0 : k < 0
  · have hd : decide (k < 0) = true := decide_eq_true h0
    clear h
    go_enter Try.func20, Try.ntmps20
    go_wp2_with fail
    refine (HM.out _).mono ?_
    rintro e w2 ⟨rfl, hb⟩
    have ho := blk_stay hb (heap_alloc_new w (.cells #[.nilFunc, .nilFunc] 60))
    have k0 := cell_of_cells (i := 0) ho rfl
    have k1 := cell_of_cells (i := 1) ho rfl
    have f0 := fun i => frozen_of_cells (i := i) ho
    have hlt := World.block_lt_of_cell? w2 _ k0
    have hB : Below w.heap.size w w2 := ((Below.refl _ w).alloc (Nat.le_refl _) _).trans (hb.mono (by simp))
    simp only at hlt
    clear ho hb
    go_wp2
    refine bodyPost_ret (v := .tuple #[.agg #[.nilFunc, .nilFunc], .bool false]) ?_ rfl ⟨rfl, ((hB.setCell (Nat.le_refl _) _).setCell (Nat.le_refl _) _).alloc (by simpa [World.setCell] using hB.size) _⟩
    simp [results, Try.results20, go_sem, k0, k1, hlt]
  · have hd : decide (k < 0) = false := decide_eq_false h0
    have h2 : (2 : Int) ≤ k := by omega
    have hd2 : decide ((2 : Int) ≤ k) = true := decide_eq_true h2
    clear h
    go_enter Try.func20, Try.ntmps20
    go_wp2_with fail
    refine (HM.out _).mono ?_
    rintro e w2 ⟨rfl, hb⟩
    have ho := blk_stay hb (heap_alloc_new w (.cells #[.nilFunc, .nilFunc] 60))
    have k0 := cell_of_cells (i := 0) ho rfl
    have k1 := cell_of_cells (i := 1) ho rfl
    have f0 := fun i => frozen_of_cells (i := i) ho
    have hlt := World.block_lt_of_cell? w2 _ k0
    have hB : Below w.heap.size w w2 := ((Below.refl _ w).alloc (Nat.le_refl _) _).trans (hb.mono (by simp))
    simp only at hlt
    clear ho hb
    go_wp2
    refine bodyPost_ret (v := .tuple #[.agg #[.nilFunc, .nilFunc], .bool false]) ?_ rfl ⟨rfl, ((hB.setCell (Nat.le_refl _) _).setCell (Nat.le_refl _) _).alloc (by simpa [World.setCell] using hB.size) _⟩
    simp [results, Try.results20, go_sem, k0, k1, hlt]
end Go.Proofs.Ytjdlocmchmeipaa
