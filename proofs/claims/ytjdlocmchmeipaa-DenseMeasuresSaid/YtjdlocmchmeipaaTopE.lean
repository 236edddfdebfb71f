
/- The worst of a bound; how many it keeps. -/
import Derived.Test.YtjdlocmchmeipaaTopD
import Derived.Deep.QuietTactic
import Derived.BigQuiet
namespace Go.Proofs.Ytjdlocmchmeipaa
open Go.RowKit

theorem TopAt.drewN {w : World} {base t k : Nat} {v : Value} {h : List (Int × Int)} (x : TopAt w base t k v h) (n : Nat) : TopAt (w.drewN n) base t k v h := ⟨x.old, x.blk, x.row⟩

theorem bdrewN {B : Nat} {a w : World} (h : Below B a w) (n : Nat) : Below B a (w.drewN n) := ⟨h.os, h.tape, h.output, h.size, h.block⟩
/-- are k kept? -/
def fullB (k : Nat) (h : List (Int × Int)) : Bool := decide (0 < k) && decide (k ≤ h.length)
def worstV (k : Nat) (h : List (Int × Int)) : Int × Int := if fullB k h = true then TopM.at_ h 0 else (0, 0)
set_option maxHeartbeats 4000000 in
set_option maxRecDepth 100000 in
theorem worst_no (base t k : Nat) (v : Value) (h : List (Int × Int)) (w : World) (hx : TopAt w base t k v h) (hf : fullB k h = false) :
    Calls Try.prog 34 #[.pointer (some ⟨t, 0, none⟩)] w fun e w' => e = .returned (.tuple #[sv (0, 0), .bool false]) ∧ Below w.heap.size w w' := by
  obtain ⟨A, cap, rfl, hcap, hA⟩ := hx.row.form
  have c0 := hx.c0
  have c2 := hx.c2
  obtain ⟨n, hn⟩ : ∃ n, n = h.length := ⟨_, rfl⟩
  unfold fullB at hf
  rw [← hn] at c2 hf
  have ht := hx.lt
  clear hx hA hcap hn
  by_cases h0 : k = 0
  · subst h0
    clear hf
    have hd : (((0 : Nat) : Int) == 0) = true := by decide
    go_enter Try.func34, Try.ntmps34
    go_wp2
    go_quiet (fail)
    go_wp2
    exact bodyPost_ret (v := .tuple #[sv (0, 0), .bool false]) (by simp [results, Try.results34, go_sem, sv]) rfl ⟨rfl, ((((bdrewN ((Below.refl _ w).alloc (Nat.le_refl _) _) _).setCell (Nat.le_refl _) _).setCell (Nat.le_refl _) _).alloc (by simp) _)⟩
  · have hlt : n < k := by
      simp at hf; omega
    have hd : ((k : Int) == 0) = false := by simp; omega
    have hd1 : decide ((n : Int) < (k : Int)) = true := decide_eq_true (by omega)
    have hd2 : decide (n < k) = true := decide_eq_true (by omega)
    clear hf
    go_enter Try.func34, Try.ntmps34
    go_wp2
    go_quiet (fail)
    go_wp2
    exact bodyPost_ret (v := .tuple #[sv (0, 0), .bool false]) (by simp [results, Try.results34, go_sem, sv]) rfl ⟨rfl, ((((bdrewN ((Below.refl _ w).alloc (Nat.le_refl _) _) _).setCell (Nat.le_refl _) _).setCell (Nat.le_refl _) _).alloc (by simp) _)⟩
set_option maxHeartbeats 4000000 in
set_option maxRecDepth 100000 in
theorem worst_yes (base t k : Nat) (v : Value) (h : List (Int × Int)) (w : World) (hx : TopAt w base t k v h) (hf : fullB k h = true) :
    Calls Try.prog 34 #[.pointer (some ⟨t, 0, none⟩)] w fun e w' => e = .returned (.tuple #[sv (TopM.at_ h 0), .bool true]) ∧ Below w.heap.size w w' := by
  unfold fullB at hf
  simp at hf
  obtain ⟨g, cap, hv, hbg, hg, hcap, hfz, hc⟩ := hx.row.cells (by omega)
  have c0 := hx.c0
  have c2 := hx.c2
  obtain ⟨x0, x1⟩ := hc 0 (by omega)
  have ai := TopM.at_get (show 0 < h.length by omega)
  rw [← ai] at x0 x1
  obtain ⟨x, hxe⟩ : ∃ x, x = TopM.at_ h 0 := ⟨_, rfl⟩
  rw [← hxe] at x0 x1 ⊢
  rw [Nat.zero_mul] at x0 x1
  obtain ⟨n, hn⟩ : ∃ n, n = h.length := ⟨_, rfl⟩
  rw [hv, ← hn] at c2
  rw [← hn] at hf hcap
  obtain ⟨hf0, hf1⟩ := hf
  have ht := hx.lt
  have hd : ((k : Int) == 0) = false := by simp; omega
  have hd1 : decide ((n : Int) < (k : Int)) = false := decide_eq_false (by omega)
  have hd2 : decide (n < k) = false := decide_eq_false (by omega)
  have hn0 : (0 : Int) < (n : Int) := by omega
  have hn0' : 0 < n := by omega
  clear hx hc hfz ai hxe hn hv
  go_enter Try.func34, Try.ntmps34
  go_wp2
  go_quiet (fail)
  go_wp2
  exact bodyPost_ret (v := .tuple #[sv x, .bool true]) (by simp [results, Try.results34, go_sem, sv]) rfl ⟨rfl, (((bdrewN ((Below.refl _ w).alloc (Nat.le_refl _) _) _).setCell (Nat.le_refl _) _).setCell (Nat.le_refl _) _)⟩
theorem worst_any (base t k : Nat) (v : Value) (h : List (Int × Int)) (w : World) (hx : TopAt w base t k v h) :
    Calls Try.prog 34 #[.pointer (some ⟨t, 0, none⟩)] w fun e w' => e = .returned (.tuple #[sv (worstV k h), .bool (fullB k h)]) ∧ Below w.heap.size w w' := by
  unfold worstV
  cases hf : fullB k h with
  | true => rw [if_pos rfl]; exact worst_yes base t k v h w hx hf
  | false => rw [if_neg (by decide)]; exact worst_no base t k v h w hx hf
end Go.Proofs.Ytjdlocmchmeipaa
