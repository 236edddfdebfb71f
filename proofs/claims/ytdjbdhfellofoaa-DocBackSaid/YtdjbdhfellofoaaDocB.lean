
/- Is a change in its ranges? is a term there twice? -/
import Derived.Test.YtdjbdhfellofoaaDocA
import Derived.Test.YtdjbdhfellofoaaIvs
namespace Go.Proofs.Ytdjbdhfellofoaa.Do
open Go.RowKit Go.Proofs.Ytdjbdhfellofoaa DocM

theorem ask_range (A : Option Addr) (n : Nat) (l : List (Int × Int)) (w : World) (h : Pairs w A n l) :
    AskC A n l 59 #[] (fun k => !tOk (l.getD k (0, 0))) (fun _ W => Below w.heap.size w W) (fun W => Below w.heap.size w W) where
  call := fun args w => rfl
  reads := fun k W hW => h.later hW
  tells := fun W hW => hW
  step := fun k hk W hW => (outterm_any l[k] W).mono fun e w' ⟨h1, h2⟩ => by
    have e1 : l.getD k (0, 0) = l[k] := by rw [List.getD_eq_getElem?_getD, List.getElem?_eq_getElem hk]; rfl
    have hb : Below w.heap.size w w' := hW.trans (h2.mono hW.size)
    exact ⟨by rw [h1, e1], hb, fun _ => hb⟩
theorem all_not (l : List (Int × Int)) : (!l.all tOk) = true ↔ ∃ k, k < l.length ∧ (!tOk (l.getD k (0, 0))) = true := by
  constructor
  · intro h
    have h : l.all tOk = false := by cases hh : l.all tOk <;> simp [hh] at h ⊢
    rw [List.all_eq_false] at h
    obtain ⟨x, hx, hn⟩ := h
    obtain ⟨k, hk, rfl⟩ := List.getElem_of_mem hx
    refine ⟨k, hk, ?_⟩
    rw [List.getD_eq_getElem?_getD, List.getElem?_eq_getElem hk]
    simpa using hn
  · rintro ⟨k, hk, h⟩
    rw [List.getD_eq_getElem?_getD, List.getElem?_eq_getElem hk] at h
    have : l.all tOk = false := List.all_eq_false.2 ⟨l[k], List.getElem_mem hk, by simpa using h⟩
    rw [this]
    rfl
set_option maxHeartbeats 1600000 in
set_option maxRecDepth 100000 in
theorem inrange_any (c : Ch) (A : Option Addr) (n cp : Nat) (V : Value) (w : World) (h : Pairs w A n c.ts) (hn : n ≤ 1000000000) :
    Calls Try.prog 33 #[.agg #[.int .i64 c.doc, .slice A n cp, V, .int .i64 c.tags]] w fun e w' => e = .returned (.bool (inR c)) ∧ Below w.heap.size w w' := by
  have H := Lib.hid h
  clear h
  obtain ⟨d, ts, v, tags, gone⟩ := c
  unfold inR
  simp only at H ⊢
  obtain ⟨x, hx⟩ : ∃ x, x = isin d 0 2147483647 := ⟨_, rfl⟩
  rw [← hx]
  have HX := Lib.hid hx
  clear hx
  cases x with
  | false =>
    go_enter Try.func33, Try.ntmps33
    go_wp2_with fail
    refine (within_any _ _ _ _).mono ?_
    rintro e w' ⟨rfl, rfl⟩
    rw [← HX.out]
    go_wp2
    go_ret
    exact ⟨by simp, (Below.refl _ _).alloc (Nat.le_refl _) _⟩
  | true =>
    obtain ⟨y, hy⟩ : ∃ y, y = isin tags 0 255 := ⟨_, rfl⟩
    rw [← hy]
    have HY := Lib.hid hy
    clear hy
    cases y with
    | false =>
      go_enter Try.func33, Try.ntmps33
      go_wp2_with fail
      refine (within_any _ _ _ _).mono ?_
      rintro e w' ⟨rfl, rfl⟩
      rw [← HX.out]
      go_wp2_with fail
      refine (within_any _ _ _ _).mono ?_
      rintro e w' ⟨rfl, rfl⟩
      rw [← HY.out]
      go_wp2
      go_ret
      exact ⟨by simp, (Below.refl _ _).alloc (Nat.le_refl _) _⟩
    | true =>
      go_enter Try.func33, Try.ntmps33
      go_wp2_with fail
      refine (within_any _ _ _ _).mono ?_
      rintro e w' ⟨rfl, rfl⟩
      rw [← HX.out]
      go_wp2_with fail
      refine (within_any _ _ _ _).mono ?_
      rintro e w' ⟨rfl, rfl⟩
      rw [← HY.out]
      go_wp2_with fail
      refine (contains_any A n cp ts _ _ _ _ _ (ask_range A n ts _ (H.out.later ((Below.refl _ _).alloc (Nat.le_refl _) _))) _ (Below.refl _ _) hn (!ts.all tOk) (by rw [← H.out.1]; exact all_not ts)).mono ?_
      rintro e w' ⟨rfl, hb⟩
      have HB := Lib.hid (((Below.refl _ w).alloc (Nat.le_refl _) _).trans (hb.mono (by simp)))
      clear hb
      go_wp2
      go_ret
      exact ⟨by simp, HB.out⟩
end Go.Proofs.Ytdjbdhfellofoaa.Do
