/- PackReads' parts: two rows that are the same, told by draws alone; a slice of asks; what a state keeps. -/
import Derived.Test.YtiflcjiillkgoaaPackW
namespace Go.Proofs.Ytiflcjiillkgoaa
open Go.RowKit

set_option maxHeartbeats 1600000 in
set_option maxRecDepth 100000 in
theorem same_quiet (A B : Option Addr) (n ca cb : Nat) (l : List Int) (w : World) (hn : n ≤ 100000000) (hA : Ints w A n l) (hB : Ints w B n l) :
    Calls Try.prog 39 #[.slice A n ca, .slice B n cb] w fun e w' => e = .returned (.bool true) ∧ ∃ q, w' = w.drewN q := by
  have hlen := Lib.hid hA.1
  go_enter Try.func39, Try.ntmps39
  go_wp2
  go_loopw [5] (fun i wr => ∃ k q : Nat, k ≤ n ∧ i = .int .i64 k ∧ wr = w.drewN q) (fun i _ => n - (intOf i).toNat)
  case atStart => exact ⟨0, 0, by omega, rfl, rfl⟩
  case round =>
    obtain ⟨k, q, hk, rfl, rfl⟩ := hrel
    by_cases hlt : k < n
    · have hkl : k < l.length := by rw [hlen.out]; exact hlt
      obtain ⟨b1, o1, rfl, hb1, c1⟩ := hA.2 k hkl
      obtain ⟨b2, o2, rfl, hb2, c2⟩ := hB.2 k hkl
      obtain ⟨x, hx⟩ : ∃ x, x = l[k] := ⟨_, rfl⟩
      rw [← hx] at c1 c2
      have c1' : (w.drewN q).cell? ⟨b1, o1 + k, none⟩ = some (.int .i64 x) := c1
      have c2' : (w.drewN q).cell? ⟨b2, o2 + k, none⟩ = some (.int .i64 x) := c2
      have hd : decide ((k : Int) < (n : Int)) = true := decide_eq_true (by omega)
      clear hx hA hB
      generalize hW : w.drewN q = W at c1' c2' ⊢
      have HW := Lib.hid hW
      clear hW
      go_wp2
      go_quiet (fail)
      go_wp2
      go_roundw
      case rel => exact ⟨k + 1, q + nq, by omega, by go_num, by rw [← HW.out]; simp [World.drewN]; omega⟩
      case measure => simp [intOf]; omega
    · have hd : decide ((k : Int) < (n : Int)) = false := decide_eq_false (by omega)
      go_wp2
      go_ret
      exact ⟨rfl, q, rfl⟩

/-- a slice of asks: kind, n, w -/
def Asks (w : World) (A : Option Addr) (n : Nat) (l : List (Int × Int × Int)) : Prop :=
  l.length = n ∧ ∀ k (h : k < l.length), ∃ b o, A = some ⟨b, o, none⟩ ∧ b < w.heap.size ∧ w.cell? ⟨b, o + k * 3, none⟩ = some (.int .i64 l[k].1) ∧ w.cell? ⟨b, o + k * 3 + 1, none⟩ = some (.int .i64 l[k].2.1) ∧ w.cell? ⟨b, o + k * 3 + 2, none⟩ = some (.int .i64 l[k].2.2)

/-- a reader's state: bad with nothing left, not too long -/
def StOk (s : List UInt8) (bad : Bool) : Prop := (bad = true → s = []) ∧ s.length ≤ 2000
theorem st_num {most : Nat} {s : List UInt8} {bad : Bool} (h : StOk s bad) : StOk (nS most s) (nB most s bad) := by
  refine ⟨fun hb => ?_, Nat.le_trans (nS_len most s) h.2⟩
  unfold nB at hb
  unfold nS
  cases hn : PackM.num most 0 0 s with
  | none => rfl
  | some x =>
    rw [hn] at hb
    have := h.1 hb
    rw [this] at hn
    cases hn
theorem st_ris {most : Int} {s : List UInt8} {bad : Bool} (h : StOk s bad) : StOk (rsS most s) (rsB most s bad) := by
  unfold rsS rsB
  cases hn : PackM.rRis most s with
  | none => exact ⟨fun _ => rfl, by simp⟩
  | some x =>
    refine ⟨fun hb => ?_, ?_⟩
    · have := h.1 hb
      rw [this] at hn
      cases hn
    · unfold PackM.rRis at hn
      cases hm : PackM.num PackM.MAXI 0 0 s with
      | none => rw [hm] at hn; cases hn
      | some y =>
        rw [hm] at hn
        simp only [Option.bind] at hn
        split at hn
        · cases hn
        · have h1 := PackM.ris_short _ _ _ x.1 x.2 hn
          have h2 := PackM.num_short (v := y.1) (t := y.2) hm
          have := h.2
          simp only
          omega
theorem st_by {n : Int} {s : List UInt8} {bad : Bool} (h : StOk s bad) : StOk (byS n s) (byB n s bad) := by
  unfold byS byB
  split
  · refine ⟨fun hb => by rw [h.1 hb]; simp, ?_⟩
    have := h.2
    simp only [List.length_drop]
    omega
  · exact ⟨fun _ => rfl, by simp⟩
theorem st_fix {m n : Int} {s : List UInt8} {bad : Bool} (h : StOk s bad) : StOk (fxS m n s bad) (fxB m n s bad) := by
  unfold fxS fxB
  cases hn : fxR m n s bad with
  | none => exact ⟨fun _ => rfl, by simp⟩
  | some x =>
    refine ⟨fun hb => (by cases hb), ?_⟩
    unfold fxR at hn
    split at hn
    · unfold PackM.rFix at hn
      split at hn
      · cases hn
      · split at hn
        · injection hn with hn
          rw [← hn]
          have := h.2
          simp only [List.length_drop]
          omega
        · cases hn
    · cases hn

theorem rfixed_all (w : World) (b : Nat) (s : List UInt8) (bad : Bool) (m n : Int) (hl : s.length ≤ 100000000) (hbad : bad = true → s = []) (h : RD w b s bad) :
    Calls Try.prog 35 #[.pointer (some ⟨b, 0, none⟩), .int .i64 m, .int .i64 n] w fun e w' => RowEnd w.heap.size b (fxV m n s bad) (fxS m n s bad) (fxB m n s bad) e w' ∧ w.grownBy w' (some b) := by
  by_cases hr : 0 ≤ m ∧ m ≤ 32 ∧ 0 ≤ n ∧ n ≤ 65536
  · obtain ⟨m', rfl⟩ := Int.eq_ofNat_of_zero_le hr.1
    obtain ⟨n', rfl⟩ := Int.eq_ofNat_of_zero_le hr.2.2.1
    exact rfixed_in w b s bad m' n' hl hbad h (by omega) (by omega)
  · exact rfixed_out w b s bad m n h hr
theorem mfixed_all (w : World) (s : List UInt8) (bad : Bool) (m n : Int) (hl : s.length ≤ 100000) (hbad : bad = true → s = []) :
    Calls Try.prog 36 #[mR s bad, .int .i64 m, .int .i64 n] w fun e w' => MEnd w.heap.size (fxV m n s bad) (fxS m n s bad) (fxB m n s bad) e w' ∧ Below w.heap.size w w' := by
  by_cases hr : 0 ≤ m ∧ m ≤ 32 ∧ 0 ≤ n ∧ n ≤ 65536
  · obtain ⟨m', rfl⟩ := Int.eq_ofNat_of_zero_le hr.1
    obtain ⟨n', rfl⟩ := Int.eq_ofNat_of_zero_le hr.2.2.1
    exact mfixed_in w s bad m' n' hl hbad (by omega) (by omega)
  · exact mfixed_out w s bad m n hr
theorem rsV_len {most : Int} {s : List UInt8} {bad : Bool} (h : StOk s bad) : (rsV most s).length ≤ 2000 := by
  unfold rsV
  cases hn : PackM.rRis most s with
  | none => simp
  | some x =>
    unfold PackM.rRis at hn
    cases hm : PackM.num PackM.MAXI 0 0 s with
    | none => rw [hm] at hn; cases hn
    | some y =>
      rw [hm] at hn
      simp only [Option.bind] at hn
      split at hn
      · cases hn
      · have h1 := PackM.ris_short _ _ _ x.1 x.2 hn
        have h2 := PackM.num_short (v := y.1) (t := y.2) hm
        have := h.2
        simp only
        omega
theorem fxV_len {m n : Int} {s : List UInt8} {bad : Bool} : (fxV m n s bad).length ≤ 65536 := by
  unfold fxV
  cases hn : fxR m n s bad with
  | none => simp
  | some x =>
    unfold fxR at hn
    split at hn
    · rename_i hr
      unfold PackM.rFix at hn
      split at hn
      · cases hn
      · split at hn
        · injection hn with hn
          rw [← hn]
          simp only [toI_length, nums_length]
          omega
        · cases hn
    · cases hn
theorem Ints.setBoth {w : World} {A : Option Addr} {n X : Nat} {l : List Int} (h : Ints w A n l) (hne : ∀ ad, A = some ad → ad.block ≠ X) (x y : Value) : Ints ((w.setCell ⟨X, 0, none⟩ x).setCell ⟨X, 1, none⟩ y) A n l :=
  ⟨h.1, fun k hk => by
    obtain ⟨b, o, e, hlt, hc⟩ := h.2 k hk
    have hb : b ≠ X := hne _ e
    refine ⟨b, o, e, by simpa [World.setCell] using hlt, ?_⟩
    rw [World.cell?_setCell_other _ _ _ _ (fun e => by injection e with e1; omega), World.cell?_setCell_other _ _ _ _ (fun e => by injection e with e1; omega)]
    exact hc⟩
theorem MD.grown {w w' : World} {b c : Nat} {s : List UInt8} {bad : Bool} (h : MD w b s bad) (hg : w.grownBy w' (some c)) (hne : b ≠ c) : MD w' b s bad := (hg.block b h.lt (fun e => hne (by injection e))).trans h
end Go.Proofs.Ytiflcjiillkgoaa
