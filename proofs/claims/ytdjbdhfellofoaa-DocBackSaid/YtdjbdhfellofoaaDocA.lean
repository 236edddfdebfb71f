
/- A change's numbers in their ranges; slices.IndexFunc and slices.ContainsFunc over terms, asked by a closure that may keep a state. -/
import Derived.Test.YtdjbdhfellofoaaDocMath
import Derived.Test.YtdjbdhfellofoaaPairs
import Derived.Test.YtdjbdhfellofoaaLin
namespace Go.Proofs.Ytdjbdhfellofoaa.Do
open Go.RowKit Go.Proofs.Ytdjbdhfellofoaa DocM

theorem within_any (n a b : Int) (w : World) : Calls Try.prog 57 #[.int .i64 n, .int .i64 a, .int .i64 b] w fun e w' => e = .returned (.bool (isin n a b)) ∧ w' = w := by
  unfold isin
  by_cases h1 : a ≤ n
  · rw [decide_eq_true h1]
    obtain ⟨x, hx⟩ : ∃ x, decide (n ≤ b) = x := ⟨_, rfl⟩
    rw [hx]
    have hd := decide_eq_true h1
    clear h1
    go_enter Try.func57, Try.ntmps57
    go_wp2
    go_ret
    exact ⟨rfl, rfl⟩
  · have hd : decide (a ≤ n) = false := decide_eq_false h1
    rw [hd]
    clear h1
    go_enter Try.func57, Try.ntmps57
    go_wp2
    go_ret
    exact ⟨rfl, rfl⟩
theorem outterm_any (p : Int × Int) (w : World) : Calls Try.prog 59 #[sv p] w fun e w' => e = .returned (.bool (!tOk p)) ∧ Below w.heap.size w w' := by
  obtain ⟨p1, p2⟩ := p
  unfold sv tOk
  simp only
  obtain ⟨x, hx⟩ : ∃ x, x = isin p1 0 1048575 := ⟨_, rfl⟩
  rw [← hx]
  have HX := Lib.hid hx
  clear hx
  cases x with
  | true =>
    obtain ⟨y, hy⟩ : ∃ y, y = isin p2 1 65535 := ⟨_, rfl⟩
    rw [← hy]
    have HY := Lib.hid hy
    clear hy
    go_enter Try.func59, Try.ntmps59
    go_wp2_with fail
    refine (within_any _ _ _ _).mono ?_
    rintro e w' ⟨rfl, rfl⟩
    rw [← HX.out]
    go_wp2_with fail
    refine (within_any _ _ _ _).mono ?_
    rintro e w' ⟨rfl, rfl⟩
    rw [← HY.out]
    go_wp2
    go_ret
    exact ⟨by simp, (Below.refl _ _).alloc (Nat.le_refl _) _⟩
  | false =>
    go_enter Try.func59, Try.ntmps59
    go_wp2_with fail
    refine (within_any _ _ _ _).mono ?_
    rintro e w' ⟨rfl, rfl⟩
    rw [← HX.out]
    go_wp2
    go_ret
    exact ⟨by simp, (Below.refl _ _).alloc (Nat.le_refl _) _⟩

/-- what a closure does that is asked of the elements of l in order: q = its answers, I = its state, R = what of the world is told in the end -/
structure AskC (A : Option Addr) (n : Nat) (l : List (Int × Int)) (F : FuncId) (B : Array Value) (q : Nat → Bool) (I : Nat → World → Prop) (R : World → Prop) : Prop where
  call : ∀ args w, (callFunc F args).run Try.prog w = .ok (.enter F args) w
  reads : ∀ k W, I k W → Pairs W A n l
  tells : ∀ W, I n W → R W
  step : ∀ k (h : k < l.length) W, I k W → Calls Try.prog F (#[sv l[k]] ++ B) W fun e w' => e = .returned (.bool (q k)) ∧ R w' ∧ (q k = false → I (k + 1) w')
set_option maxHeartbeats 1600000 in
set_option maxRecDepth 100000 in
theorem indexfunc_any (A : Option Addr) (n cp : Nat) (l : List (Int × Int)) (F : FuncId) (B : Array Value) (q : Nat → Bool) (I : Nat → World → Prop) (R : World → Prop) (h : AskC A n l F B q I R) (w : World) (h0 : I 0 w) (hn : n ≤ 1000000000) :
    Calls Try.prog 70 #[.slice A n cp, .func (.func F) #[] B] w fun e w' => (∃ i : Int, e = .returned (.int .i64 i) ∧ (0 ≤ i ↔ ∃ k, k < n ∧ q k = true)) ∧ R w' := by
  have HA := Lib.hid h
  have HL := Lib.hid (h.reads 0 w h0).1
  have hcall := h.call
  have HCALL := Lib.hid hcall
  clear h hcall
  go_enter Try.func70, Try.ntmps70
  go_wp2
  go_loopw [8] (fun x wr => ∃ k : Nat, x = .int .i64 k ∧ k ≤ n ∧ I k wr ∧ ∀ j, j < k → q j = false) (fun x _ => n - (intOf x).toNat)
  case atStart => exact ⟨0, rfl, Nat.zero_le _, h0, fun j hj => by omega⟩
  case round =>
    obtain ⟨k, rfl, hkn, hI, hq⟩ := hrel
    by_cases hlt : k < n
    · have hmi : (k : Int) < (n : Int) := by omega
      have hkl : k < l.length := by rw [HL.out]; exact hlt
      have hst := HA.out.step k hkl wr hI
      obtain ⟨b, o, rfl, hbl, c0, c1⟩ := (HA.out.reads k wr hI).2 k hkl
      obtain ⟨⟨p1, p2⟩, hp⟩ : ∃ x, x = l[k] := ⟨_, rfl⟩
      rw [← hp] at c0 c1 hst
      simp only at c0 c1
      unfold sv at hst
      have HST := Lib.hid hst
      have HQ := Lib.hid hq
      obtain ⟨x, hx⟩ : ∃ x, x = q k := ⟨_, rfl⟩
      have HX := Lib.hid hx
      clear hst hq hp hx hI hbl
      have hcall := HCALL.out
      go_wp2_with fail
      refine HST.out.mono ?_
      rintro e w2 ⟨rfl, hR, hI2⟩
      rw [← HX.out] at hI2 ⊢
      have HR := Lib.hid hR
      have HI2 := Lib.hid hI2
      clear hR hI2
      cases x with
      | true =>
        go_wp2
        go_ret
        exact ⟨⟨k, rfl, ⟨fun _ => ⟨k, hlt, HX.out.symm⟩, fun _ => by omega⟩⟩, HR.out⟩
      | false =>
        go_wp2
        go_roundw
        case rel => exact ⟨k + 1, by go_num, by omega, HI2.out trivial, fun j hj => by
          rcases Nat.lt_or_ge j k with e | e
          · exact HQ.out j e
          · obtain rfl : j = k := by omega
            exact HX.out.symm⟩
        case measure => simp [intOf]; omega
    · have hmi : ¬ (k : Int) < (n : Int) := by omega
      obtain rfl : k = n := by omega
      have HR := Lib.hid (HA.out.tells wr hI)
      have HQ := Lib.hid hq
      clear hI hq
      go_wp2
      go_ret
      refine ⟨⟨-1, rfl, ⟨fun h => by omega, fun ⟨j, hj, h⟩ => ?_⟩⟩, HR.out⟩
      rw [HQ.out j hj] at h
      cases h
set_option maxHeartbeats 400000 in
theorem contains_any (A : Option Addr) (n cp : Nat) (l : List (Int × Int)) (F : FuncId) (B : Array Value) (q : Nat → Bool) (I : Nat → World → Prop) (R : World → Prop) (h : AskC A n l F B q I R) (w : World) (h0 : I 0 w) (hn : n ≤ 1000000000) (r : Bool) (hr : r = true ↔ ∃ k, k < n ∧ q k = true) :
    Calls Try.prog 58 #[.slice A n cp, .func (.func F) #[] B] w fun e w' => e = .returned (.bool r) ∧ R w' := by
  have HF := Lib.hid (indexfunc_any A n cp l F B q I R h w h0 hn)
  have HR := Lib.hid hr
  clear h h0 hr
  go_enter Try.func58, Try.ntmps58
  go_wp2_with fail
  refine HF.out.mono ?_
  rintro e w' ⟨⟨i, rfl, hi⟩, hR⟩
  have hd : decide (0 ≤ i) = r := by
    cases r with
    | true => exact decide_eq_true (hi.2 (HR.out.1 rfl))
    | false => exact decide_eq_false (fun h => by have := HR.out.2 (hi.1 h); cases this)
  clear hi
  go_wp2
  go_ret
  exact ⟨rfl, hR⟩
end Go.Proofs.Ytdjbdhfellofoaa.Do
