/- Do for the first time: the table is made, nothing else that was there has turned but the meter's own block. -/
import Derived.Test.YtjcfegjjdpembaaCrcD
import Derived.Lib.Hide
namespace Go.Proofs.Ytjcfegjjdpembaa
open Go.RowKit

theorem gcells_0 (d st k s n : Nat) : (gcells d st k s n)[0]? = some (.int .u32 d) := by simp [gcells, Array.getElem?_append]
theorem gcells_1 (d st k s n : Nat) : (gcells d st k s n)[1]? = some (.int .i32 st) := by simp [gcells, Array.getElem?_append]
theorem gcells_19 (d st k s n : Nat) : (gcells d st k s n)[19]? = some (.int .u32 s) := by
  have h1 := tabK_size k
  simp [gcells, h1]
theorem gcells_20 (d st k s n : Nat) : (gcells d st k s n)[20]? = some (.int .i64 n) := by
  have h1 := tabK_size k
  simp [gcells, h1]
theorem gcells_tab (d st s n i : Nat) (h : i < 16) : (gcells d st 16 s n)[3 + i]? = some (.int .u32 (CrcM.mvn 4 i : Nat)) := by
  have h1 := tabK_size 16
  have h2 := tabK_at 16 i h
  rw [if_pos h] at h2
  simp only [gcells, Array.append_assoc]
  rw [Array.getElem?_append_right (by simp), Array.getElem?_append_left (by simp [h1]; omega)]
  simpa using h2
theorem gcells_set0 (d st k s n d' : Nat) : (gcells d st k s n).setIfInBounds 0 (.int .u32 d') = gcells d' st k s n := by
  apply Array.ext'
  simp [gcells]
theorem gcells_set1 (d st k s n d' : Nat) : (gcells d st k s n).setIfInBounds 1 (.int .i32 d') = gcells d d' k s n := by
  apply Array.ext'
  simp [gcells]
theorem gcells_set19 (d st k s n d' : Nat) : (gcells d st k s n).setIfInBounds 19 (.int .u32 d') = gcells d st k d' n := by
  have h1 := tabK_size k
  apply Array.ext'
  simp [gcells, h1]
theorem gcells_set20 (d st k s n d' : Nat) : (gcells d st k s n).setIfInBounds 20 (.int .i64 d') = gcells d st k s d' := by
  have h1 := tabK_size k
  apply Array.ext'
  simp [gcells, h1]

theorem heap_setCell_row {w : World} {g : Nat} {t : TypeId} {cs : Array Value} (h : w.heap[g]? = some (.cells cs t (0, 0))) (i : Nat) (u : Value) :
    (w.setCell ⟨g, i, none⟩ u).heap[g]? = some (.cells (cs.setIfInBounds i u) t (0, 0)) := by
  simp [World.setCell, Array.getElem?_modify, h]

section
variable {w : World} {b d st k s n : Nat}
theorem GMtr.cell (h : GMtr w b d st k s n) (i : Nat) : w.cell? ⟨b, i, none⟩ = (gcells d st k s n)[i]? := cell_of_row w b i _ _ (0, 0) h
theorem GMtr.c0 (h : GMtr w b d st k s n) : w.cell? ⟨b, 0, none⟩ = some (.int .u32 d) := (h.cell 0).trans (gcells_0 ..)
theorem GMtr.c1 (h : GMtr w b d st k s n) : w.cell? ⟨b, 1, none⟩ = some (.int .i32 st) := (h.cell 1).trans (gcells_1 ..)
theorem GMtr.c19 (h : GMtr w b d st k s n) : w.cell? ⟨b, 19, none⟩ = some (.int .u32 s) := (h.cell 19).trans (gcells_19 ..)
theorem GMtr.c20 (h : GMtr w b d st k s n) : w.cell? ⟨b, 20, none⟩ = some (.int .i64 n) := (h.cell 20).trans (gcells_20 ..)
theorem GMtr.ctab (h : GMtr w b d st 16 s n) (i : Nat) (hi : i < 16) : w.cell? ⟨b, 3 + i, none⟩ = some (.int .u32 (CrcM.mvn 4 i : Nat)) := (h.cell (3 + i)).trans (gcells_tab _ _ _ _ i hi)
theorem GMtr.free (h : GMtr w b d st k s n) (i : Nat) : w.frozen? ⟨b, i, none⟩ = false := by
  unfold GMtr at h
  simp [World.frozen?, h]
theorem GMtr.set0 (h : GMtr w b d st k s n) (x : Nat) : GMtr (w.setCell ⟨b, 0, none⟩ (.int .u32 x)) b x st k s n := by
  unfold GMtr; rw [heap_setCell_row h, gcells_set0]
theorem GMtr.set1 (h : GMtr w b d st k s n) (x : Nat) : GMtr (w.setCell ⟨b, 1, none⟩ (.int .i32 x)) b d x k s n := by
  unfold GMtr; rw [heap_setCell_row h, gcells_set1]
theorem GMtr.set19 (h : GMtr w b d st k s n) (x : Nat) : GMtr (w.setCell ⟨b, 19, none⟩ (.int .u32 x)) b d st k x n := by
  unfold GMtr; rw [heap_setCell_row h, gcells_set19]
theorem GMtr.set20 (h : GMtr w b d st k s n) (x : Nat) : GMtr (w.setCell ⟨b, 20, none⟩ (.int .i64 x)) b d st k s x := by
  unfold GMtr; rw [heap_setCell_row h, gcells_set20]
theorem GMtr.drew (h : GMtr w b d st k s n) : GMtr w.drew b d st k s n := h
theorem GMtr.alloc (h : GMtr w b d st k s n) (o : Obj) : GMtr (w.alloc o) b d st k s n := (Below.heap_alloc w o b h.lt).trans h
theorem GMtr.fill (h : GMtr w b d st k s n) : GMtr (wfill w b d st s n) b d st 16 s n := setRow_heap (wtab2 w) b (gcells d st k s n) _ _ _ ((wtab2_heap_lt w b h.lt).trans h)
end

/-- nothing that was there has turned but block b -/
theorem only_set {a w : World} {b : Nat} (h : a.grownBy w (some b)) (i : Nat) (u : Value) : a.grownBy (w.setCell ⟨b, i, none⟩ u) (some b) :=
  ⟨h.os, h.tape, h.output, by simpa [World.setCell] using h.size, fun j hj hne => (Below.heap_setCell w _ u j (fun e => hne (by rw [e]))).trans (h.block j hj hne)⟩
theorem only_draw {a w : World} {r : Option Nat} (h : a.grownBy w r) : a.grownBy w.drew r := ⟨h.os, h.tape, h.output, h.size, h.block⟩
theorem only_new {a w : World} {r : Option Nat} (h : a.grownBy w r) (o : Obj) : a.grownBy (w.alloc o) r :=
  ⟨h.os, h.tape, h.output, Nat.le_trans h.size (by simp), fun i hi hne => (Below.heap_alloc w o i (Nat.lt_of_lt_of_le hi h.size)).trans (h.block i hi hne)⟩
theorem only_row {a w : World} {b : Nat} (h : a.grownBy w (some b)) (cs : Array Value) : a.grownBy (w.setRow b cs) (some b) :=
  ⟨h.os, h.tape, h.output, by simpa using h.size, fun j hj hne => by
    have e : b ≠ j := fun e => hne (by rw [e])
    have : (w.setRow b cs).heap[j]? = w.heap[j]? := by simp [World.setRow, Array.getElem?_modify, e]
    exact this.trans (h.block j hj hne)⟩
theorem only_fill {a w : World} {b d st s n : Nat} (h : a.grownBy w (some b)) : a.grownBy (wfill w b d st s n) (some b) := only_row (only_new (only_new h _) _) _

set_option maxRecDepth 100000 in
set_option maxHeartbeats 1600000 in
theorem slow_first (b s n : Nat) (pl : Addr) (w : World) (hpl : pl.block < w.heap.size) (hne : ¬ b = pl.block) (hp : w.cell? pl = some (.pointer (some ⟨b, 0, none⟩))) (hm : GMtr w b 0 0 0 s n) :
    Calls Try.prog 24 #[.pointer (some ⟨b, 0, none⟩), .func (.func 17) #[] #[.pointer (some pl)]] w fun e w' => e = .returned (.tuple #[]) ∧ GMtr w' b 1 0 16 s n ∧ w.grownBy w' (some b) := by
  have m1 : GMtr (w.setCell ⟨b, 1, none⟩ (.int .i32 1)) b 0 1 0 s n := hm.set1 1
  have c0 : (w.setCell ⟨b, 1, none⟩ (.int .i32 1)).cell? ⟨b, 0, none⟩ = some (.int .u32 0) := m1.c0
  have hl := run_call_load (P := Try.prog) Try.func29 (by kernel_rfl) (by kernel_rfl) (by kernel_rfl) .u32 (by kernel_rfl) c0
  have hp1 : (w.setCell ⟨b, 1, none⟩ (.int .i32 1)).cell? pl = some (.pointer (some ⟨b, 0, none⟩)) := (World.cell?_setCell_other _ ⟨b, 1, none⟩ pl _ (fun h => hne (by rw [← h]))).trans hp
  have hpl1 : pl.block < (w.setCell ⟨b, 1, none⟩ (.int .i32 1)).heap.size := by simpa [World.setCell] using hpl
  have hnot : ∀ (x : Bool) (w : World), (Op.unary .not (.bool x)).run Try.prog w = .ok (.bool (!x)) w := fun _ _ => rfl
  have L1 : w.cell? ⟨b, 1, none⟩ = some (.int .i32 0) := hm.c1
  have L2 := hm.free 1
  go_enter_defers Try.func24, Try.ntmps24
  go_wp2_with (first | (go_at_call 30; refine (lock_free ⟨b, 1, none⟩ _ L1 L2).mono ?_; rintro e w' ⟨rfl, rfl⟩) | (go_at_call 23; go_in) | (go_at_call 17; refine (fill_any b 0 1 0 s n pl _ hpl1 hp1 m1).mono ?_; rintro e w' ⟨rfl, rfl⟩))
  have m2 := (m1.drew).fill
  have g2 : w.grownBy (wfill (w.setCell ⟨b, 1, none⟩ (.int .i32 1)).drew b 0 1 s n) (some b) := only_fill (only_draw (only_set (World.grownBy.refl w _) _ _))
  generalize wfill (w.setCell ⟨b, 1, none⟩ (.int .i32 1)).drew b 0 1 s n = w2 at m2 g2 ⊢
  refine leaves_cons (f := 32) (args := #[.pointer (some ⟨b, 0, none⟩), .bool true]) (by simp) (by simp [go_sem]) ?_
  refine (store_deferred ⟨b, 0, none⟩ _ .returning _ m2.c0 (m2.free 0)).mono ?_
  rintro e u' w'' ⟨rfl, rfl, rfl⟩
  have m3 := (m2.drew).set0 1
  have g3 := only_set (only_draw g2) 0 (.int .u32 (1 : Nat))
  refine leaves_cons (f := 31) (args := #[.pointer (some ⟨b, 1, none⟩)]) (by simp [settle]) (by simp [go_sem]) ?_
  refine (unlock_deferred ⟨b, 1, none⟩ _ _ m3.c1 (m3.free 1)).mono ?_
  rintro e u' w'' ⟨rfl, rfl, rfl⟩
  have m4 := m3.set1 0
  have g4 := only_set g3 1 (.int .i32 (0 : Nat))
  simp only [Leaves, settle]
  exact ⟨_, results_none rfl _ _ _, rfl, m4, g4⟩

/-- Do, for the first time -/
theorem do_first (b s n : Nat) (pl : Addr) (w : World) (hpl : pl.block < w.heap.size) (hne : ¬ b = pl.block) (hp : w.cell? pl = some (.pointer (some ⟨b, 0, none⟩))) (hm : GMtr w b 0 0 0 s n) :
    Calls Try.prog 16 #[.pointer (some ⟨b, 0, none⟩), .func (.func 17) #[] #[.pointer (some pl)]] w fun e w' => e = .returned (.tuple #[]) ∧ GMtr w' b 1 0 16 s n ∧ w.grownBy w' (some b) := by
  have c0 : w.cell? ⟨b, 0, none⟩ = some (.int .u32 0) := hm.c0
  have hl := run_call_load (P := Try.prog) Try.func29 (by kernel_rfl) (by kernel_rfl) (by kernel_rfl) .u32 (by kernel_rfl) c0
  have hnot : ∀ (x : Bool) (w : World), (Op.unary .not (.bool x)).run Try.prog w = .ok (.bool (!x)) w := fun _ _ => rfl
  go_enter Try.func16, Try.ntmps16
  go_wp2_with (first | (go_at_call 24; refine (slow_first b s n pl _ hpl hne hp hm).mono ?_; rintro e w' ⟨rfl, hm', hg'⟩) | (go_at_call 23; go_in))
  go_end0
  exact ⟨rfl, hm', hg'⟩
end Go.Proofs.Ytjcfegjjdpembaa
