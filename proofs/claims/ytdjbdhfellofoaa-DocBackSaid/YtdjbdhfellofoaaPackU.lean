
/- awake of layer 2 answers true. -/
import Derived.Test.YtdjbdhfellofoaaPackT
import Derived.LaidEqlPtr
namespace Go.Proofs.Ytdjbdhfellofoaa
open Go.RowKit

theorem vw300 : PackM.vw 300 = [172, 2] := by
  rw [PackM.vw_ge (by decide), PackM.vw_lt (by decide)]
  decide +kernel
theorem varint_300 (w : World) : Calls Try.prog 22 #[.int .i64 300] w fun e w' => e = .returned (.tuple #[.string ⟨#[172, 2]⟩, .int .i64 0]) ∧ Below w.heap.size w w' := by
  refine (varint_any 300 w (by omega) (by omega)).mono fun e w' ⟨h1, h2⟩ => ⟨?_, h2⟩
  have e1 : varB 300 = [172, 2] := by unfold varB; rw [if_neg (by decide)]; exact vw300
  rw [h1, e1]
  rfl
theorem varint_low (w : World) : Calls Try.prog 22 #[.int .i64 (-1)] w fun e w' => e = .returned (.tuple #[.string ⟨#[]⟩, .int .i64 1]) ∧ Below w.heap.size w w' := by
  refine (varint_any (-1) w (by omega) (by omega)).mono fun e w' ⟨h1, h2⟩ => ⟨?_, h2⟩
  rw [h1]
  rfl
theorem ints2 (w : World) (x y : Int) : Ints (w.alloc (.cells #[.int .i64 x, .int .i64 y] 3)) (some ⟨w.heap.size, 0, none⟩) 2 [x, y] :=
  ⟨rfl, fun k hk => ⟨w.heap.size, 0, rfl, by simp, by
    have hrow := heap_alloc_new w (.cells #[.int .i64 x, .int .i64 y] 3)
    rw [Nat.zero_add, cell_of_row _ _ _ _ _ _ hrow]
    match k, hk with
    | 0, _ => rfl
    | 1, _ => rfl⟩⟩
theorem ints3 (w : World) (x y z : Int) : Ints (w.alloc (.cells #[.int .i64 x, .int .i64 y, .int .i64 z] 3)) (some ⟨w.heap.size, 0, none⟩) 3 [x, y, z] :=
  ⟨rfl, fun k hk => ⟨w.heap.size, 0, rfl, by simp, by
    have hrow := heap_alloc_new w (.cells #[.int .i64 x, .int .i64 y, .int .i64 z] 3)
    rw [Nat.zero_add, cell_of_row _ _ _ _ _ _ hrow]
    match k, hk with
    | 0, _ => rfl
    | 1, _ => rfl
    | 2, _ => rfl⟩⟩
theorem rising_35 (w : World) : Calls Try.prog 46 #[.slice (some ⟨w.heap.size, 0, none⟩) 2 2] (w.alloc (.cells #[.int .i64 3, .int .i64 5] 3)) fun e w' => e = .returned (.tuple #[.string ⟨#[2, 3, 1]⟩, .int .i64 0]) ∧ Below w.heap.size w w' := by
  refine (rising_any _ 2 2 [3, 5] _ (by omega) (ints2 w 3 5) (by intro v hv; simp at hv; omega)).mono fun e w' ⟨h1, h2⟩ => ⟨?_, ((Below.refl _ w).alloc (Nat.le_refl _) _).trans (h2.mono (by simp))⟩
  have e1 : risS [3, 5] = [2, 3, 1] := by
    unfold risS
    rw [if_pos (by decide)]
    have a : PackM.risB [3, 5] = PackM.vw 2 ++ (PackM.vw 3 ++ (PackM.vw 1 ++ [])) := rfl
    rw [a, PackM.vw_lt (by decide), PackM.vw_lt (by decide), PackM.vw_lt (by decide)]
    rfl
  rw [h1, e1]
  rfl
theorem fixed_527 (w : World) : Calls Try.prog 47 #[.int .i64 3, .slice (some ⟨w.heap.size, 0, none⟩) 3 3] (w.alloc (.cells #[.int .i64 5, .int .i64 2, .int .i64 7] 3)) fun e w' => e = .returned (.tuple #[.string ⟨#[213, 1]⟩, .int .i64 0]) ∧ Below w.heap.size w w' := by
  refine (fixed_any _ 3 3 3 [5, 2, 7] _ (by omega) (by omega) (ints3 w 5 2 7) (by intro v hv; simp at hv; omega)).mono fun e w' ⟨h1, h2⟩ => ⟨?_, ((Below.refl _ w).alloc (Nat.le_refl _) _).trans (h2.mono (by simp))⟩
  have e1 : fixS 3 [5, 2, 7] = [213, 1] := by decide +kernel
  have e2 : fixC 3 [5, 2, 7] = 0 := by decide +kernel
  have h1' : e = .returned (.tuple #[.string (ofBytes (fixS 3 [5, 2, 7])), .int .i64 (fixC 3 [5, 2, 7])]) := h1
  rw [h1', e1, e2]
  rfl
def awk : List UInt8 := [172, 2, 1, 2, 3, 1, 213, 1, 120]
theorem new_awk (w : World) : Calls Try.prog 12 #[.string ⟨#[172, 2, 1, 2, 3, 1, 213, 1, 120]⟩] w fun e w' => ∃ b, e = .returned (.pointer (some ⟨b, 0, none⟩)) ∧ w.heap.size ≤ b ∧ RD w' b awk false ∧ Below w.heap.size w w' := rnew_any w awk (by decide)
theorem rv_awk (w : World) (b : Nat) (h : RD w b awk false) : Calls Try.prog 50 #[.pointer (some ⟨b, 0, none⟩)] w fun e w' => e = .returned (.int .i64 300) ∧ RD w' b [1, 2, 3, 1, 213, 1, 120] false ∧ w.grownBy w' (some b) := by
  refine (rvarint_any w b awk false (by decide) h).mono fun e w' ⟨h1, h2, h3⟩ => ⟨?_, ?_, h3⟩
  · have e1 : nV PackM.MAXI awk = 300 := by decide +kernel
    rw [h1, e1]; rfl
  · have e1 : nS PackM.MAXI awk = [1, 2, 3, 1, 213, 1, 120] := by decide +kernel
    have e2 : nB PackM.MAXI awk false = false := by decide +kernel
    rw [e1, e2] at h2; exact h2
theorem rr_awk (w : World) (b : Nat) (h : RD w b [2, 3, 1, 213, 1, 120] false) : Calls Try.prog 67 #[.pointer (some ⟨b, 0, none⟩), .int .i64 2] w fun e w' => (∃ g o cp, e = .returned (.slice (some ⟨g, o, none⟩) 2 cp) ∧ w.heap.size ≤ g ∧ g < w'.heap.size ∧ w'.cell? ⟨g, o + 1, none⟩ = some (.int .i64 5)) ∧ RD w' b [213, 1, 120] false ∧ w.grownBy w' (some b) := by
  refine (rrising_any w b _ false 2 (by decide) (fun e => by cases e) h).mono fun e w' ⟨⟨A, cp, h1, hA, hI, h2⟩, h3⟩ => ⟨?_, ?_, h3⟩
  · have e1 : rsV 2 [2, 3, 1, 213, 1, 120] = [3, 5] := by decide +kernel
    rw [e1] at h1 hI
    obtain ⟨g, o, rfl, hlt, hc⟩ := hI.2 1 (by decide)
    exact ⟨g, o, cp, h1, hA _ rfl, hlt, hc⟩
  · have e1 : rsS 2 [2, 3, 1, 213, 1, 120] = [213, 1, 120] := by decide +kernel
    have e2 : rsB 2 [2, 3, 1, 213, 1, 120] false = false := by decide +kernel
    rw [e1, e2] at h2; exact h2
theorem rf_awk (w : World) (b : Nat) (h : RD w b [213, 1, 120] false) : Calls Try.prog 68 #[.pointer (some ⟨b, 0, none⟩), .int .i64 3, .int .i64 3] w fun e w' => (∃ g o cp, e = .returned (.slice (some ⟨g, o, none⟩) 3 cp) ∧ w.heap.size ≤ g ∧ g < w'.heap.size ∧ w'.cell? ⟨g, o, none⟩ = some (.int .i64 5) ∧ w'.cell? ⟨g, o + 2, none⟩ = some (.int .i64 7)) ∧ RD w' b [120] false ∧ w.grownBy w' (some b) := by
  refine (rfixed_in w b _ false 3 3 (by decide) (fun e => by cases e) h (by omega) (by omega)).mono fun e w' ⟨⟨A, cp, h1, hA, hI, h2⟩, h3⟩ => ⟨?_, ?_, h3⟩
  · have e1 : fxV (3 : Nat) (3 : Nat) [213, 1, 120] false = [5, 2, 7] := by decide +kernel
    rw [e1] at h1 hI
    obtain ⟨g, o, rfl, hlt, hc⟩ := hI.2 0 (by decide)
    obtain ⟨g', o', e', _, hc'⟩ := hI.2 2 (by decide)
    injection e' with e'
    injection e' with e1' e2'
    subst e1'; subst e2'
    exact ⟨g, o, cp, h1, hA _ rfl, hlt, hc, hc'⟩
  · have e1 : fxS (3 : Nat) (3 : Nat) [213, 1, 120] false = [120] := by decide +kernel
    have e2 : fxB (3 : Nat) (3 : Nat) [213, 1, 120] false = false := by decide +kernel
    rw [e1, e2] at h2; exact h2
theorem rl_awk (w : World) (b : Nat) (h : RD w b [120] false) : Calls Try.prog 18 #[.pointer (some ⟨b, 0, none⟩)] w fun e w' => e = .returned (.int .i64 1) ∧ w = w' := rleft_any w b _ _ h
theorem rb_awk (w : World) (b : Nat) (h : RD w b [120] false) : Calls Try.prog 75 #[.pointer (some ⟨b, 0, none⟩), .int .i64 2] w fun e w' => e = .returned (.string ⟨#[]⟩) ∧ RD w' b [] true ∧ w.grownBy w' (some b) := by
  refine (rbytes_any w b [120] false 2 (by decide) h).mono fun e w' ⟨h1, h2, h3⟩ => ⟨?_, ?_, h3⟩
  · have e1 : byV 2 [120] = [] := by decide +kernel
    rw [h1, e1]; rfl
  · have e1 : byS 2 [120] = [] := by decide +kernel
    have e2 : byB 2 [120] false = true := by decide +kernel
    rw [e1, e2] at h2; exact h2
theorem reader_info : ∃ j, Try.prog.info? 67 = some j := by
  have h : (Try.prog.info? 67).isSome = true := by kernel_rfl
  exact Option.isSome_iff_exists.1 h
end Go.Proofs.Ytdjbdhfellofoaa
