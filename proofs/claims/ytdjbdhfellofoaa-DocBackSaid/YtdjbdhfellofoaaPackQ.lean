
/- The document's reader: TakeVarint, TakeZigzag, Bytes. -/
import Derived.Test.YtdjbdhfellofoaaPackP
namespace Go.Proofs.Ytdjbdhfellofoaa
open Go.RowKit

theorem num_le {s : List UInt8} (h : nV PackM.MAXU s ≤ PackM.MAXI) : PackM.num PackM.MAXI 0 0 s = PackM.num PackM.MAXU 0 0 s := by
  rw [PackM.num_less (m := PackM.MAXI) (M := PackM.MAXU) (by decide)]
  unfold nV at h
  cases hN : PackM.num PackM.MAXU 0 0 s with
  | none => rfl
  | some x => rw [hN] at h; simp only [Option.bind]; rw [if_pos h]
theorem num_gt {s : List UInt8} (h : PackM.MAXI < nV PackM.MAXU s) : PackM.num PackM.MAXI 0 0 s = none := by
  rw [PackM.num_less (m := PackM.MAXI) (M := PackM.MAXU) (by decide)]
  unfold nV at h
  cases hN : PackM.num PackM.MAXU 0 0 s with
  | none => rfl
  | some x => rw [hN] at h; simp only at h; simp only [Option.bind]; rw [if_neg (by omega)]

theorem endA {w1 : World} {R : Nat} {v0 v1 : Value} (h0 : w1.cell? ⟨R, 0, none⟩ = some v0) (h1 : w1.cell? ⟨R, 1, none⟩ = some v1) (hR : R < w1.heap.size) (o : Obj) (x y : Value) :
    (((w1.setCell ⟨R, 0, none⟩ x).setCell ⟨R, 1, none⟩ y).alloc o).cell? ⟨R, 0, none⟩ = some x ∧ (((w1.setCell ⟨R, 0, none⟩ x).setCell ⟨R, 1, none⟩ y).alloc o).cell? ⟨R, 1, none⟩ = some y := by
  have hz : R < ((w1.setCell ⟨R, 0, none⟩ x).setCell ⟨R, 1, none⟩ y).heap.size := by simpa [World.setCell] using hR
  exact ⟨(World.cell?_alloc_lt _ _ ⟨R, 0, none⟩ hz).trans (set2_0 h0 x y h1), (World.cell?_alloc_lt _ _ ⟨R, 1, none⟩ hz).trans (set2_1 h1 x y)⟩
theorem endB {w w1 : World} {n R : Nat} (h : Below n w w1) (hR : n ≤ R) (hs : n ≤ w1.heap.size) (o : Obj) (x y : Value) : Below n w (((w1.setCell ⟨R, 0, none⟩ x).setCell ⟨R, 1, none⟩ y).alloc o) :=
  (below_set2 h hR x y).alloc (by simpa [World.setCell] using hs) o

/-- the world behind a parameter's box and a result's cells -/
def wMR (w : World) (s : List UInt8) (bad : Bool) : World := (w.alloc (.cells #[.string (ofBytes s), .bool bad] 69)).alloc (.cells #[.string ⟨#[]⟩, .bool false] 69)
section
variable (w : World) (s : List UInt8) (bad : Bool)
theorem wMR_a0 : (wMR w s bad).cell? ⟨w.heap.size, 0, none⟩ = some (.string (ofBytes s)) := by unfold wMR; go_simp
theorem wMR_a1 : (wMR w s bad).cell? ⟨w.heap.size, 1, none⟩ = some (.bool bad) := by unfold wMR; go_simp
theorem wMR_r0 : (wMR w s bad).cell? ⟨w.heap.size + 1, 0, none⟩ = some (.string ⟨#[]⟩) := by unfold wMR; go_simp
theorem wMR_r1 : (wMR w s bad).cell? ⟨w.heap.size + 1, 1, none⟩ = some (.bool false) := by unfold wMR; go_simp
theorem wMR_f0 : (wMR w s bad).frozen? ⟨w.heap.size + 1, 0, none⟩ = false := by unfold wMR; go_simp
theorem wMR_f1 : (wMR w s bad).frozen? ⟨w.heap.size + 1, 1, none⟩ = false := by unfold wMR; go_simp
theorem wMR_size : w.heap.size + 1 < (wMR w s bad).heap.size := by unfold wMR; simp
theorem wMR_below : Below w.heap.size w (wMR w s bad) := ((Below.refl _ _).alloc (Nat.le_refl _) _).alloc (by simp) _
end

set_option maxHeartbeats 1600000 in
set_option maxRecDepth 100000 in
theorem mvarint_any (w : World) (s : List UInt8) (bad : Bool) (hl : s.length ≤ 100000000) (hbad : bad = true → s = []) :
    Calls Try.prog 30 #[mR s bad] w fun e w' => e = .returned (.tuple #[mR (nS PackM.MAXI s) (nB PackM.MAXI s bad), .int .i64 (nV PackM.MAXI s : Nat)]) ∧ Below w.heap.size w w' := by
  obtain ⟨wA, hwA⟩ : ∃ wA, wA = wMR w s bad := ⟨_, rfl⟩
  obtain ⟨A, hA⟩ : ∃ A, A = w.heap.size := ⟨_, rfl⟩
  obtain ⟨R, hR⟩ : ∃ R, R = w.heap.size + 1 := ⟨_, rfl⟩
  have a0 := wMR_a0 w s bad
  have a1 := wMR_a1 w s bad
  have r0 := wMR_r0 w s bad
  have r1 := wMR_r1 w s bad
  have f0 := wMR_f0 w s bad
  have f1 := wMR_f1 w s bad
  have hAs := wMR_size w s bad
  have hBA := wMR_below w s bad
  rw [← hwA, ← hA] at a0 a1
  rw [← hwA, ← hR] at r0 r1 f0 f1 hAs
  rw [← hwA] at hBA
  unfold wMR at hwA
  have hRw : w.heap.size ≤ R := by omega
  have hAR : A < R := by omega
  have htk := fun W => mtake_any W s bad hl hbad
  have hm : PackM.MAXI = 9223372036854775807 := rfl
  have HM := Lib.hid hm
  have hmu : PackM.MAXU = 18446744073709551615 := rfl
  have hvu := nV_le PackM.MAXU s
  obtain ⟨x, hx⟩ : ∃ x, x = nV PackM.MAXU s := ⟨_, rfl⟩
  rw [← hx, hmu] at hvu
  have HX := Lib.hid hx
  obtain ⟨S', hS⟩ : ∃ S', S' = nS PackM.MAXU s := ⟨_, rfl⟩
  obtain ⟨B', hB⟩ : ∃ B', B' = nB PackM.MAXU s bad := ⟨_, rfl⟩
  rw [← hx, ← hS, ← hB] at htk
  have HS := Lib.hid hS
  have HB := Lib.hid hB
  clear hm hmu hx hS hB
  have hmR : mR s bad = .agg #[.string (ofBytes s), .bool bad] := rfl
  rw [hmR] at htk ⊢
  clear hmR
  go_enter Try.func30, Try.ntmps30
  go_wp2_with fail
  rw [← hwA, ← hR, ← hA]
  clear hwA hR hA
  refine (htk _).mono ?_
  rintro e w1 ⟨rfl, hb⟩
  clear htk
  have hB1 : Below w.heap.size w w1 := hBA.trans (hb.mono (by omega))
  have hsz1 := hB1.size
  have hR1 : R < w1.heap.size := Nat.lt_of_lt_of_le hAs hb.size
  have r0' := (hb.cell (p := ⟨R, 0, none⟩) hAs).trans r0
  have r1' := (hb.cell (p := ⟨R, 1, none⟩) hAs).trans r1
  have f0' := (hb.frozen (p := ⟨R, 0, none⟩) hAs).trans f0
  have f1' := (hb.frozen (p := ⟨R, 1, none⟩) hAs).trans f1
  unfold mR
  have hne : ¬ w1.heap.size = R := by omega
  by_cases hbig : 9223372036854775807 < x
  · have hd : decide (9223372036854775807 < x) = true := decide_eq_true hbig
    have hno := num_gt (s := s) (by rw [← HX.out, HM.out]; exact hbig)
    have HNO := Lib.hid hno
    clear hno
    go_wp2_with fail
    refine (mfail_any _).mono ?_
    rintro e w3 ⟨rfl, hb3⟩
    have hlt3 : R < (w1.alloc (.cells #[.string (ofBytes S'), .bool B'] 69)).heap.size := by simp; omega
    have r0'' := (hb3.cell (p := ⟨R, 0, none⟩) hlt3).trans ((World.cell?_alloc_lt _ _ ⟨R, 0, none⟩ hR1).trans r0')
    have r1'' := (hb3.cell (p := ⟨R, 1, none⟩) hlt3).trans ((World.cell?_alloc_lt _ _ ⟨R, 1, none⟩ hR1).trans r1')
    have f0'' := (hb3.frozen (p := ⟨R, 0, none⟩) hlt3).trans ((World.frozen?_of_block (w := w1) (Below.heap_alloc w1 _ R hR1)).trans f0')
    have f1'' := (hb3.frozen (p := ⟨R, 1, none⟩) hlt3).trans ((World.frozen?_of_block (w := w1) (Below.heap_alloc w1 _ R hR1)).trans f1')
    have hB3 : Below w.heap.size w w3 := (hB1.alloc hsz1 _).trans (hb3.mono (by simp; omega))
    unfold mR
    go_wp2
    have g0 := set2_0 r0'' (.string (ofBytes [])) (.bool true) r1''
    have g1 := set2_1 r1'' (.string (ofBytes [])) (.bool true)
    have gB := below_set2 hB3 hRw (.string (ofBytes [])) (.bool true)
    generalize (w3.setCell ⟨R, 0, none⟩ (.string (ofBytes []))).setCell ⟨R, 1, none⟩ (.bool true) = w2 at g0 g1 gB ⊢
    have hx3 : nS PackM.MAXI s = [] ∧ nB PackM.MAXI s bad = true ∧ nV PackM.MAXI s = 0 := by unfold nS nB nV; rw [HNO.out]; exact ⟨rfl, rfl, rfl⟩
    rw [hx3.1, hx3.2.1, hx3.2.2]
    exact bodyPost_ret (v := .tuple #[.agg #[.string (ofBytes []), .bool true], .int .i64 0]) (by simp [results, Try.results30, go_sem, g0, g1]) rfl ⟨rfl, gB⟩
  · have hd : decide (9223372036854775807 < x) = false := decide_eq_false hbig
    have hno := num_le (s := s) (by rw [← HX.out, HM.out]; omega)
    have HNO := Lib.hid hno
    clear hno
    go_wp2
    obtain ⟨g0, g1⟩ := endA r0' r1' hR1 (.cells #[.string (ofBytes S'), .bool B'] 69) (.string (ofBytes S')) (.bool B')
    have gB := endB hB1 hRw hsz1 (.cells #[.string (ofBytes S'), .bool B'] 69) (.string (ofBytes S')) (.bool B')
    generalize ((w1.setCell ⟨R, 0, none⟩ (.string (ofBytes S'))).setCell ⟨R, 1, none⟩ (.bool B')).alloc (.cells #[.string (ofBytes S'), .bool B'] 69) = w2 at g0 g1 gB ⊢
    have hx3 : nS PackM.MAXI s = S' ∧ nB PackM.MAXI s bad = B' ∧ nV PackM.MAXI s = x := by rw [HS.out, HB.out, HX.out]; unfold nS nB nV; rw [HNO.out]; exact ⟨rfl, rfl, rfl⟩
    rw [hx3.1, hx3.2.1, hx3.2.2]
    exact bodyPost_ret (v := .tuple #[.agg #[.string (ofBytes S'), .bool B'], .int .i64 (x : Int)]) (by simp [results, Try.results30, go_sem, g0, g1]) rfl ⟨rfl, gB⟩
end Go.Proofs.Ytdjbdhfellofoaa
