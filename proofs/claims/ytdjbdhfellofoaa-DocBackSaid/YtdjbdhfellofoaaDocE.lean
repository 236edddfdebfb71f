
/- Is a change right? (the program's answer) -/
import Derived.Test.YtdjbdhfellofoaaDocD
namespace Go.Proofs.Ytdjbdhfellofoaa.Do
open Go.RowKit Go.Proofs.Ytdjbdhfellofoaa DocM

/-- a change as a value: its terms and its vector lie in slices -/
def chV (c : Ch) (T V : Value) : Value := .agg #[.int .i64 c.doc, T, V, .int .i64 c.tags, .bool c.gone]
theorem n_eq0 (n : Nat) : ((n : Int) == 0) = decide (n = 0) := by
  by_cases h : n = 0
  · subst h; rfl
  · rw [decide_eq_false h]
    simp
    omega
set_option maxHeartbeats 2000000 in
set_option maxRecDepth 100000 in
theorem hasform_any (c : Ch) (A A2 : Option Addr) (n cp n2 cp2 : Nat) (w : World) (h : Pairs w A n c.ts) (hv : Ivs w A2 n2 c.v) (hn : n ≤ 1000000000) :
    Calls Try.prog 35 #[chV c (.slice A n cp) (.slice A2 n2 cp2)] w fun e w' => e = .returned (.bool (form c)) ∧ Below w.heap.size w w' := by
  have H := Lib.hid h
  have HV := Lib.hid hv
  clear h hv
  obtain ⟨d, ts, v, tags, gone⟩ := c
  unfold chV
  simp only at H HV ⊢
  cases gone with
  | true =>
    have hf : form ⟨d, ts, v, tags, true⟩ = (decide (n = 0) && decide (n2 = 0) && decide (tags = 0)) := by
      unfold form
      rw [if_pos rfl, H.out.1, HV.out.1]
    rw [hf]
    clear hf
    have e1 := n_eq0 n
    have e2 := n_eq0 n2
    have e3 : (tags == 0) = decide (tags = 0) := by
      by_cases h : tags = 0
      · subst h; rfl
      · rw [decide_eq_false h]; simpa using h
    obtain ⟨x, hx⟩ : ∃ x, x = decide (n = 0) := ⟨_, rfl⟩
    obtain ⟨y, hy⟩ : ∃ y, y = decide (n2 = 0) := ⟨_, rfl⟩
    obtain ⟨z, hz⟩ : ∃ z, z = decide (tags = 0) := ⟨_, rfl⟩
    rw [← hx] at e1 ⊢
    rw [← hy] at e2 ⊢
    rw [← hz] at e3 ⊢
    clear hx hy hz
    cases x with
    | false =>
      go_enter Try.func35, Try.ntmps35
      go_wp2
      go_ret
      exact ⟨by simp, pl1 _ _⟩
    | true =>
      cases y with
      | false =>
        go_enter Try.func35, Try.ntmps35
        go_wp2
        go_ret
        exact ⟨by simp, pl1 _ _⟩
      | true =>
        go_enter Try.func35, Try.ntmps35
        go_wp2
        go_ret
        exact ⟨by simp, pl1 _ _⟩
  | false =>
    have hf : form ⟨d, ts, v, tags, false⟩ = (DenM.vec v && sorted (tms ts)) := by
      unfold form
      rw [if_neg (by simp)]
    rw [hf]
    clear hf
    obtain ⟨x, hx⟩ : ∃ x, x = DenM.vec v := ⟨_, rfl⟩
    rw [← hx]
    have HX := Lib.hid hx
    clear hx
    go_enter Try.func35, Try.ntmps35
    go_wp2_with fail
    refine (dright_any _ _ _ v _ (HV.out.later (pl1 _ _))).mono ?_
    rintro e w' ⟨rfl, rfl⟩
    rw [← HX.out]
    cases x with
    | false =>
      go_wp2
      go_ret
      exact ⟨by simp, pl1 _ _⟩
    | true =>
      go_wp2_with fail
      refine (issorted_any _ _ _ ts _ (H.out.later (pl1 _ _)) hn).mono ?_
      rintro e w' ⟨rfl, hb⟩
      have HB := Lib.hid ((pl1 w _).trans (hb.mono (by simp)))
      clear hb
      go_wp2
      go_ret
      exact ⟨by simp, HB.out⟩
set_option maxHeartbeats 4000000 in
set_option maxRecDepth 100000 in
theorem right_any (c : Ch) (A A2 : Option Addr) (n cp n2 cp2 : Nat) (w : World) (h : Pairs w A n c.ts) (hv : Ivs w A2 n2 c.v) (hn : n ≤ 1000000000) :
    Calls Try.prog 15 #[chV c (.slice A n cp) (.slice A2 n2 cp2)] w fun e w' => e = .returned (.int .i64 (rightC c)) ∧ Below w.heap.size w w' := by
  have H := Lib.hid h
  have HV := Lib.hid hv
  have HL := Lib.hid h.1
  clear h hv
  have HR := Lib.hid (fun W hW => inrange_any c A n cp (.slice A2 n2 cp2) W hW hn)
  have HK : Hid (inR c = true → ∀ p ∈ c.ts, -9223372036854775808 ≤ p.1 ∧ p.1 ≤ 9223372036854775807) := Lib.hid (fun h p hp => by
    unfold inR at h
    simp only [Bool.and_eq_true, List.all_eq_true] at h
    have := h.2 p hp
    unfold tOk at this
    simp only [Bool.and_eq_true, isin_iff] at this
    omega)
  have HTW := Lib.hid (fun W hW h1 h2 => istwice_any A n cp c.ts W hW h1 h2)
  have HF := Lib.hid (fun W hW hX => hasform_any c A A2 n cp n2 cp2 W hW hX hn)
  obtain ⟨x, hx⟩ : ∃ x, x = inR c := ⟨_, rfl⟩
  obtain ⟨y, hy⟩ : ∃ y, y = twice (tms c.ts) := ⟨_, rfl⟩
  obtain ⟨z, hz⟩ : ∃ z, z = form c := ⟨_, rfl⟩
  have hc : rightC c = if x = false then 1 else if 64 < n then 3 else if y = true then 9 else if z = false then 2 else 0 := by
    unfold rightC
    rw [← hx, ← hy, ← hz, HL.out]
  rw [hc]
  rw [← hx] at HR HK
  rw [← hy] at HTW
  rw [← hz] at HF
  clear hc hx hy hz
  unfold chV at HF ⊢
  obtain ⟨d, ts, v, tags, gone⟩ := c
  simp only at H HV HL HR HK HTW HF ⊢
  go_enter Try.func15, Try.ntmps15
  go_wp2_with fail
  refine (HR.out _ (H.out.later (pl1 _ _))).mono ?_
  rintro e w1 ⟨rfl, hb⟩
  have q0 := cell_of_cells (i := 0) (heap_alloc_new w (.cells #[.int .i64 d, .slice A n cp, .slice A2 n2 cp2, .int .i64 tags, .bool gone] 27)) rfl
  have q1 := cell_of_cells (i := 1) (heap_alloc_new w (.cells #[.int .i64 d, .slice A n cp, .slice A2 n2 cp2, .int .i64 tags, .bool gone] 27)) rfl
  have q2 := cell_of_cells (i := 2) (heap_alloc_new w (.cells #[.int .i64 d, .slice A n cp, .slice A2 n2 cp2, .int .i64 tags, .bool gone] 27)) rfl
  have q3 := cell_of_cells (i := 3) (heap_alloc_new w (.cells #[.int .i64 d, .slice A n cp, .slice A2 n2 cp2, .int .i64 tags, .bool gone] 27)) rfl
  have q4 := cell_of_cells (i := 4) (heap_alloc_new w (.cells #[.int .i64 d, .slice A n cp, .slice A2 n2 cp2, .int .i64 tags, .bool gone] 27)) rfl
  have hl : w.heap.size < (w.alloc (.cells #[.int .i64 d, .slice A n cp, .slice A2 n2 cp2, .int .i64 tags, .bool gone] 27)).heap.size := by simp
  replace q0 := (hb.cell (p := ⟨w.heap.size, 0, none⟩) hl).trans q0
  replace q1 := (hb.cell (p := ⟨w.heap.size, 1, none⟩) hl).trans q1
  replace q2 := (hb.cell (p := ⟨w.heap.size, 2, none⟩) hl).trans q2
  replace q3 := (hb.cell (p := ⟨w.heap.size, 3, none⟩) hl).trans q3
  replace q4 := (hb.cell (p := ⟨w.heap.size, 4, none⟩) hl).trans q4
  have HB := Lib.hid ((pl1 w _).trans (hb.mono (by simp)))
  have hl1 : w.heap.size < w1.heap.size := World.block_lt_of_cell? w1 _ q0
  clear hb hl
  cases x with
  | false =>
    go_wp2
    go_ret
    exact ⟨rfl, HB.out⟩
  | true =>
    by_cases hlen : 64 < n
    · have hd : decide ((64 : Int) < (n : Int)) = true := decide_eq_true (by omega)
      go_wp2
      go_ret
      exact ⟨by first | rfl | simp [hlen], HB.out⟩
    · have hd : decide ((64 : Int) < (n : Int)) = false := decide_eq_false (by omega)
      go_wp2_with fail
      refine (HTW.out _ (H.out.later HB.out) (by omega) (HK.out trivial)).mono ?_
      rintro e w2 ⟨rfl, hb⟩
      replace q0 := (hb.cell (p := ⟨w.heap.size, 0, none⟩) hl1).trans q0
      replace q1 := (hb.cell (p := ⟨w.heap.size, 1, none⟩) hl1).trans q1
      replace q2 := (hb.cell (p := ⟨w.heap.size, 2, none⟩) hl1).trans q2
      replace q3 := (hb.cell (p := ⟨w.heap.size, 3, none⟩) hl1).trans q3
      replace q4 := (hb.cell (p := ⟨w.heap.size, 4, none⟩) hl1).trans q4
      have HB2 := Lib.hid (HB.out.trans (hb.mono HB.out.size))
      clear hb
      cases y with
      | true =>
        go_wp2
        go_ret
        exact ⟨by first | rfl | simp [hlen], HB2.out⟩
      | false =>
        go_wp2_with fail
        refine (HF.out _ (H.out.later HB2.out) (HV.out.later HB2.out)).mono ?_
        rintro e w3 ⟨rfl, hb⟩
        have HB3 := Lib.hid (HB2.out.trans (hb.mono HB2.out.size))
        clear hb q0 q1 q2 q3 q4
        cases z with
        | false =>
          go_wp2
          go_ret
          exact ⟨by first | rfl | simp [hlen], HB3.out⟩
        | true =>
          go_wp2
          go_ret
          exact ⟨by first | rfl | simp [hlen], HB3.out⟩
end Go.Proofs.Ytdjbdhfellofoaa.Do
