
/- A change taken off bytes, step by step, in plain words: what a reader's answers make of it. -/
import Derived.Test.YtdjbdhfellofoaaDocMath
import Derived.Test.YtdjbdhfellofoaaPackN
namespace Go.Proofs.Ytdjbdhfellofoaa.DocM
open Go.Proofs.Ytdjbdhfellofoaa

/-- a reader's state: bad with nothing left, not longer than K -/
structure StK (K : Nat) (s : List UInt8) (bad : Bool) : Prop where
  nil_ : bad = true → s = []
  len : s.length ≤ K
theorem StK.num {K most : Nat} {s : List UInt8} {bad : Bool} (h : StK K s bad) : StK K (nS most s) (nB most s bad) := by
  refine ⟨fun hb => ?_, Nat.le_trans (nS_len most s) h.len⟩
  unfold nB at hb
  unfold nS
  cases hn : PackM.num most 0 0 s with
  | none => rfl
  | some x =>
    rw [hn] at hb
    have := h.nil_ hb
    rw [this] at hn
    cases hn
theorem StK.ris {K : Nat} {most : Int} {s : List UInt8} {bad : Bool} (h : StK K s bad) : StK K (rsS most s) (rsB most s bad) := by
  unfold rsS rsB
  cases hn : PackM.rRis most s with
  | none => exact ⟨fun _ => rfl, by simp⟩
  | some x =>
    refine ⟨fun hb => ?_, ?_⟩
    · have := h.nil_ hb
      rw [this] at hn
      cases hn
    · have h1 := (PackM.rRis_here (l := x.1) (t := x.2) hn).1
      have h2 := h.len
      rw [h1, List.length_append] at h2
      simp only
      omega
theorem StK.fix {K : Nat} {m n : Int} {s : List UInt8} {bad : Bool} (h : StK K s bad) : StK K (fxS m n s bad) (fxB m n s bad) := by
  unfold fxS fxB
  cases hn : fxR m n s bad with
  | none => exact ⟨fun _ => rfl, by simp⟩
  | some x =>
    refine ⟨fun hb => (by cases hb), ?_⟩
    unfold fxR at hn
    split at hn
    · have h1 := (PackM.rFix_here (ns := x.1) (t := x.2) hn).1
      have h2 := h.len
      rw [h1, List.length_append] at h2
      simp only
      omega
    · cases hn
theorem rs_len {most : Int} {s : List UInt8} (hm : 0 ≤ most) : ((rsV most s).length : Int) ≤ most := by
  unfold rsV
  cases hn : PackM.rRis most s with
  | none => simpa using hm
  | some x => exact (PackM.rRis_here (l := x.1) (t := x.2) hn).2.2.2
/-- packed numbers that are read: none, or as many as were asked for, each in its bits -/
theorem fx_form (w n : Nat) (s : List UInt8) (bad : Bool) : (fxV w n s bad = [] ∨ (fxV w n s bad).length = n) ∧ ∀ v ∈ fxV w n s bad, 0 ≤ v ∧ v < 2 ^ w := by
  unfold fxV
  cases hn : fxR w n s bad with
  | none => exact ⟨.inl rfl, fun v hv => by simp at hv⟩
  | some x =>
    unfold fxR at hn
    split at hn
    · rw [Int.toNat_natCast, Int.toNat_natCast] at hn
      obtain ⟨_, h2, h3⟩ := PackM.rFix_here (ns := x.1) (t := x.2) hn
      exact ⟨.inr (by simp only [toI_length]; exact h2), toI_fits h3⟩
    · cases hn
/-- what stands behind the two numbers of a change that is there -/
def bodyR (d : Int) (s : List UInt8) : Option (Ch × List UInt8) :=
  (PackM.rRis 64 s).bind fun a => (PackM.rFix 16 a.1.length a.2).bind fun b => (PackM.rFix 8 8 b.2).bind fun v => (PackM.rFix 8 1 v.2).bind fun t =>
    some (⟨d, a.1.zip (toI b.1), (toI v.1).map (· - 128), (toI t.1).getD 0 0, false⟩, t.2)
theorem fx_rFix {w n : Nat} {s : List UInt8} (hw : w ≤ 32) (hn : n ≤ 65536) : fxR w n s false = PackM.rFix w n s := by
  unfold fxR
  rw [if_pos ⟨rfl, by omega, by omega, by omega, by omega⟩, Int.toNat_natCast, Int.toNat_natCast]
theorem fx_bad {w n : Int} {s : List UInt8} : fxB w n s true = true := by
  unfold fxB fxR
  rw [if_neg (fun h => by cases h.1)]
theorem rs_bad {m : Int} {bad : Bool} (h : bad = true) {s : List UInt8} (hs : bad = true → s = []) : rsB m s bad = true := by
  rw [hs h]
  unfold rsB
  have : PackM.rRis m [] = none := rfl
  rw [this]
/-- a reader, not bad: its answers make just what the bytes tell -/
theorem body_thread (d : Int) (s : List UInt8) :
    let a := rsV 64 s
    let s3 := rsS 64 s
    let b3 := rsB 64 s false
    let s4 := fxS 16 a.length s3 b3
    let b4 := fxB 16 a.length s3 b3
    let s5 := fxS 8 8 s4 b4
    let b5 := fxB 8 8 s4 b4
    let s6 := fxS 8 1 s5 b5
    let b6 := fxB 8 1 s5 b5
    bodyR d s = if b6 = true then none else some (⟨d, a.zip (fxV 16 a.length s3 b3), (fxV 8 8 s4 b4).map (· - 128), (fxV 8 1 s5 b5).getD 0 0, false⟩, s6) := by
  intro a s3 b3 s4 b4 s5 b5 s6 b6
  cases h1 : PackM.rRis 64 s with
  | none =>
    have e3 : b3 = true := by show rsB 64 s false = true; unfold rsB; rw [h1]
    have e4 : b4 = true := by show fxB 16 _ _ b3 = true; rw [e3]; exact fx_bad
    have e5 : b5 = true := by show fxB 8 8 _ b4 = true; rw [e4]; exact fx_bad
    have e6 : b6 = true := by show fxB 8 1 _ b5 = true; rw [e5]; exact fx_bad
    rw [if_pos e6]
    unfold bodyR
    rw [h1]
    rfl
  | some x =>
    have ea : a = x.1 := by show rsV 64 s = _; unfold rsV; rw [h1]
    have es3 : s3 = x.2 := by show rsS 64 s = _; unfold rsS; rw [h1]
    have e3 : b3 = false := by show rsB 64 s false = _; unfold rsB; rw [h1]
    have hl : x.1.length ≤ 64 := by have := (PackM.rRis_here (l := x.1) (t := x.2) h1).2.2.2; omega
    unfold bodyR
    rw [h1]
    simp only [Option.bind_some]
    cases h2 : PackM.rFix 16 x.1.length x.2 with
    | none =>
      have hfx : fxR (16 : Int) (a.length : Int) s3 b3 = none := by rw [e3, es3, ea]; exact (fx_rFix (w := 16) (by omega) (by omega)).trans h2
      have e4 : b4 = true := (fx_none hfx).2.2
      have e5 : b5 = true := by show fxB 8 8 _ b4 = true; rw [e4]; exact fx_bad
      have e6 : b6 = true := by show fxB 8 1 _ b5 = true; rw [e5]; exact fx_bad
      rw [if_pos e6]
      rfl
    | some y =>
      have hfx : fxR (16 : Int) (a.length : Int) s3 b3 = some y := by rw [e3, es3, ea]; exact (fx_rFix (w := 16) (by omega) (by omega)).trans h2
      have ev1 : fxV 16 (a.length : Int) s3 b3 = toI y.1 := by unfold fxV; rw [hfx]
      have es4 : s4 = y.2 := by show fxS 16 (a.length : Int) s3 b3 = _; unfold fxS; rw [hfx]
      have e4 : b4 = false := by show fxB 16 (a.length : Int) s3 b3 = _; unfold fxB; rw [hfx]
      simp only [Option.bind_some]
      cases h3 : PackM.rFix 8 8 y.2 with
      | none =>
        have hfx2 : fxR (8 : Int) (8 : Int) s4 b4 = none := by rw [e4, es4]; exact (fx_rFix (w := 8) (n := 8) (by omega) (by omega)).trans h3
        have e5 : b5 = true := (fx_none hfx2).2.2
        have e6 : b6 = true := by show fxB 8 1 _ b5 = true; rw [e5]; exact fx_bad
        rw [if_pos e6]
        rfl
      | some z =>
        have hfx2 : fxR (8 : Int) (8 : Int) s4 b4 = some z := by rw [e4, es4]; exact (fx_rFix (w := 8) (n := 8) (by omega) (by omega)).trans h3
        have ev2 : fxV 8 8 s4 b4 = toI z.1 := by unfold fxV; rw [hfx2]
        have es5 : s5 = z.2 := by show fxS 8 8 s4 b4 = _; unfold fxS; rw [hfx2]
        have e5 : b5 = false := by show fxB 8 8 s4 b4 = _; unfold fxB; rw [hfx2]
        simp only [Option.bind_some]
        cases h4 : PackM.rFix 8 1 z.2 with
        | none =>
          have hfx3 : fxR (8 : Int) (1 : Int) s5 b5 = none := by rw [e5, es5]; exact (fx_rFix (w := 8) (n := 1) (by omega) (by omega)).trans h4
          have e6 : b6 = true := (fx_none hfx3).2.2
          rw [if_pos e6]
          rfl
        | some q =>
          have hfx3 : fxR (8 : Int) (1 : Int) s5 b5 = some q := by rw [e5, es5]; exact (fx_rFix (w := 8) (n := 1) (by omega) (by omega)).trans h4
          have ev3 : fxV 8 1 s5 b5 = toI q.1 := by unfold fxV; rw [hfx3]
          have es6 : s6 = q.2 := by show fxS 8 1 s5 b5 = _; unfold fxS; rw [hfx3]
          have e6 : b6 = false := by show fxB 8 1 s5 b5 = _; unfold fxB; rw [hfx3]
          rw [if_neg (by rw [e6]; simp), ev1, ev2, ev3, es6, ea]
          rfl
/-- the same of a reader that may be bad -/
theorem body_state (d : Int) (s : List UInt8) (bad : Bool) (h : bad = true → s = []) :
    (if bad = true then none else bodyR d s) =
      if true = true ∧ fxB 8 1 (fxS 8 8 (fxS 16 (rsV 64 s).length (rsS 64 s) (rsB 64 s bad)) (fxB 16 (rsV 64 s).length (rsS 64 s) (rsB 64 s bad))) (fxB 8 8 (fxS 16 (rsV 64 s).length (rsS 64 s) (rsB 64 s bad)) (fxB 16 (rsV 64 s).length (rsS 64 s) (rsB 64 s bad))) = false then
        some (⟨d, (rsV 64 s).zip (fxV 16 (rsV 64 s).length (rsS 64 s) (rsB 64 s bad)), (fxV 8 8 (fxS 16 (rsV 64 s).length (rsS 64 s) (rsB 64 s bad)) (fxB 16 (rsV 64 s).length (rsS 64 s) (rsB 64 s bad))).map (· - 128),
          (fxV 8 1 (fxS 8 8 (fxS 16 (rsV 64 s).length (rsS 64 s) (rsB 64 s bad)) (fxB 16 (rsV 64 s).length (rsS 64 s) (rsB 64 s bad))) (fxB 8 8 (fxS 16 (rsV 64 s).length (rsS 64 s) (rsB 64 s bad)) (fxB 16 (rsV 64 s).length (rsS 64 s) (rsB 64 s bad)))).getD 0 0, false⟩,
          fxS 8 1 (fxS 8 8 (fxS 16 (rsV 64 s).length (rsS 64 s) (rsB 64 s bad)) (fxB 16 (rsV 64 s).length (rsS 64 s) (rsB 64 s bad))) (fxB 8 8 (fxS 16 (rsV 64 s).length (rsS 64 s) (rsB 64 s bad)) (fxB 16 (rsV 64 s).length (rsS 64 s) (rsB 64 s bad))))
      else none := by
  cases bad with
  | true =>
    have e3 : rsB 64 s true = true := rs_bad rfl h
    rw [e3, fx_bad, fx_bad, fx_bad]
    simp
  | false =>
    have := body_thread d s
    simp only at this
    rw [if_neg (by simp), this]
    cases fxB 8 1 (fxS 8 8 (fxS 16 (rsV 64 s).length (rsS 64 s) (rsB 64 s false)) (fxB 16 (rsV 64 s).length (rsS 64 s) (rsB 64 s false))) (fxB 8 8 (fxS 16 (rsV 64 s).length (rsS 64 s) (rsB 64 s false)) (fxB 16 (rsV 64 s).length (rsS 64 s) (rsB 64 s false))) <;> simp
/-- the two numbers ahead -/
theorem raw_thread (s : List UInt8) :
    let x := nV PackM.MAXI s
    let s1 := nS PackM.MAXI s
    let b1 := nB PackM.MAXI s false
    let y := nV PackM.MAXI s1
    let s2 := nS PackM.MAXI s1
    let b2 := nB PackM.MAXI s1 b1
    (y = 1 → b2 = false ∧ rawC s = some (⟨x, [], [], 0, true⟩, s2)) ∧ (y = 0 → rawC s = if b2 = true then none else bodyR x s2) ∧ (y ≠ 0 → y ≠ 1 → rawC s = none) := by
  intro x s1 b1 y s2 b2
  unfold rawC
  cases h1 : PackM.num PackM.MAXI 0 0 s with
  | none =>
    have es1 : s1 = [] := by show nS _ s = []; unfold nS; rw [h1]
    have e2 : PackM.num PackM.MAXI 0 0 s1 = none := by rw [es1]; rfl
    have ey : y = 0 := by show nV _ s1 = 0; unfold nV; rw [e2]
    have eb : b2 = true := by show nB _ s1 b1 = true; unfold nB; rw [e2]
    refine ⟨fun h => by omega, fun _ => ?_, fun h => absurd ey h⟩
    rw [if_pos eb]
    rfl
  | some p =>
    have ex : x = p.1 := by show nV _ s = _; unfold nV; rw [h1]
    have es1 : s1 = p.2 := by show nS _ s = _; unfold nS; rw [h1]
    have eb1 : b1 = false := by show nB _ s false = _; unfold nB; rw [h1]
    simp only [Option.bind_some]
    cases h2 : PackM.num PackM.MAXI 0 0 p.2 with
    | none =>
      have e2 : PackM.num PackM.MAXI 0 0 s1 = none := by rw [es1]; exact h2
      have ey : y = 0 := by show nV _ s1 = 0; unfold nV; rw [e2]
      have eb : b2 = true := by show nB _ s1 b1 = true; unfold nB; rw [e2]
      refine ⟨fun h => by omega, fun _ => ?_, fun h => absurd ey h⟩
      rw [if_pos eb]
      rfl
    | some q =>
      have e2 : PackM.num PackM.MAXI 0 0 s1 = some q := by rw [es1]; exact h2
      have ey : y = q.1 := by show nV _ s1 = _; unfold nV; rw [e2]
      have es2 : s2 = q.2 := by show nS _ s1 = _; unfold nS; rw [e2]
      have eb : b2 = false := by show nB _ s1 b1 = _; unfold nB; rw [e2]; exact eb1
      simp only [Option.bind_some]
      refine ⟨fun h => ⟨eb, ?_⟩, fun h => ?_, fun h h' => ?_⟩
      · rw [if_pos (by omega), ex, es2]
      · rw [if_neg (by omega), if_pos (by omega), if_neg (by rw [eb]; simp), ex, es2]
        rfl
      · rw [if_neg (by omega), if_neg (by omega)]
end Go.Proofs.Ytdjbdhfellofoaa.DocM
