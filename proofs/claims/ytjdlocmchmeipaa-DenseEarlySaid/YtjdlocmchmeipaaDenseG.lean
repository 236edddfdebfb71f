
/- What a Count finds. -/
import Derived.Test.YtjdlocmchmeipaaDenseF
import Derived.Test.YtjdlocmchmeipaaTopJ
namespace Go.Proofs.Ytjdlocmchmeipaa
open Go.RowKit

theorem run_add_n {P : Program} {w : World} (x n : Nat) (hn : x + n ≤ 1000000000) : (Op.intArith .add .i64 (x : Int) (n : Int)).run P w = .ok (.int .i64 ((x + n : Nat) : Int)) w := by
  have h : IntKind.i64.wrap ((x : Int) + n) = ((x + n : Nat) : Int) := by rw [IntKind.wrap_i64]; omega
  simp [go_sem, h]
set_option maxHeartbeats 400000 in
theorem iaddn_any (b : Nat) (x n : Nat) (w : World) (hn : x + n ≤ 1000000000) (h : w.cell? ⟨b, 0, none⟩ = some (.int .i64 x)) (hz : w.frozen? ⟨b, 0, none⟩ = false) :
    Calls Try.prog 25 #[.pointer (some ⟨b, 0, none⟩), .int .i64 n] w fun e w' => e = .returned (.int .i64 ((x + n : Nat) : Int)) ∧ w' = w.setCell ⟨b, 0, none⟩ (.int .i64 ((x + n : Nat) : Int)) := by
  have hadd := run_call_add (P := Try.prog) Try.func33 (by kernel_rfl) (by kernel_rfl) (by kernel_rfl) .i64 (by kernel_rfl) (y := n) (s := ((x + n : Nat) : Int)) h hz (run_add_n x n hn)
  go_enter Try.func25, Try.ntmps25
  go_wp2
  go_ret
  exact ⟨rfl, rfl⟩
theorem SD.counted {w1 W0 W : World} {s t c : Nat} {m : Bool} {k : Nat} {q : List Int} {off : List (Int × Int)} {cnt : Nat} (h : SD w1 W0 W s t c m k q off cnt) (x : Nat) : SD w1 W0 (W.setCell ⟨c, 0, none⟩ (.int .i64 (x : Int))) s t c m k q off x := by
  have h0 := h.o0
  have h1 := h.o1
  have h2 := h.o2
  have hT : Turned (fun b => b = c) W (W.setCell ⟨c, 0, none⟩ (.int .i64 (x : Int))) := (Turned.refl (fun b => b = c) W).set_ (b := c) rfl 0 _
  obtain ⟨v, hh, ht, hbn⟩ := h.top
  refine ⟨(hT.block s (Array.getElem?_eq_some_iff.1 h.obj).1 (by omega)).trans h.obj, ⟨v, hh, ⟨ht.old, (hT.block t ht.lt (by omega)).trans ht.blk, ht.row.kept (fun b hb => hT.block b (World.ownsRow.lt ht.row b hb).2 (by have := (World.ownsRow.lt ht.row b hb).1; omega))⟩, hbn⟩, ?_, h0, h1, h2, h.o3, h.low.setCell h0 _, h.kept.trans hT⟩
  rw [heap_setCell_row h.cnt 0 _]
  simp
theorem not_nil7 (w : World) (f : Fn) (a c : Array Value) : (binOp .eql 34 (.func f a c) .nilFunc).run Try.prog w = .ok (.bool false) w := run_eql_func_nil w _ f a c Try.underlying34

set_option maxHeartbeats 2000000 in
set_option maxRecDepth 100000 in
theorem cfind_range1 (c : Nat) (x k : Int) (v1 v2 v3 : Value) (w : World) (h : mOf x = none) :
    Calls Try.prog 17 #[.pointer (some ⟨c, 0, none⟩), .int .i64 x, v1, v2, .int .i64 k, v3] w fun e w' => e = .returned (.tuple #[.slice none 0 0, .int .i64 1]) ∧ Below w.heap.size w w' := by
  have HM := Lib.hid (fun w => mof_no x w (mOf_none h))
  clear h
  go_enter Try.func17, Try.ntmps17
  go_wp2_with fail
  refine (HM.out _).mono ?_
  rintro e w2 ⟨rfl, hb⟩
  go_wp2
  go_ret2
  exact ⟨rfl, hb.trans ((pl1 _ _).mono hb.size)⟩
set_option maxHeartbeats 2000000 in
set_option maxRecDepth 100000 in
theorem cfind_range2 (c : Nat) (m : Bool) (k : Int) (v1 v2 v3 : Value) (w : World) (h : k < 1 ∨ 1000 < k) :
    Calls Try.prog 17 #[.pointer (some ⟨c, 0, none⟩), .int .i64 (mI m), v1, v2, .int .i64 k, v3] w fun e w' => e = .returned (.tuple #[.slice none 0 0, .int .i64 1]) ∧ Below w.heap.size w w' := by
  have HM := Lib.hid (fun w => mof_yes m w)
  obtain ⟨x, hx⟩ : ∃ k, k = mI m := ⟨_, rfl⟩
  rw [← hx] at HM ⊢
  obtain ⟨F, hF, _⟩ := brings_any m
  obtain ⟨G, hG, _⟩ := mosts_any m
  rw [hF, hG] at HM
  clear hx hF hG
  by_cases h1 : k < 1
  · have hd : decide (k < 1) = true := decide_eq_true h1
    clear h
    go_enter Try.func17, Try.ntmps17
    go_wp2_with fail
    refine (HM.out _).mono ?_
    rintro e w2 ⟨rfl, hb⟩
    go_wp2
    go_ret2
    exact ⟨rfl, hb.trans ((pl1 _ _).mono hb.size)⟩
  · have hd : decide (k < 1) = false := decide_eq_false h1
    have h2 : 1000 < k := by omega
    have hd2 : decide (1000 < k) = true := decide_eq_true h2
    clear h
    go_enter Try.func17, Try.ntmps17
    go_wp2_with fail
    refine (HM.out _).mono ?_
    rintro e w2 ⟨rfl, hb⟩
    go_wp2
    go_ret2
    exact ⟨rfl, hb.trans ((pl1 _ _).mono hb.size)⟩
set_option maxHeartbeats 2000000 in
set_option maxRecDepth 100000 in
theorem cfind_form (c : Nat) (m : Bool) (k : Nat) (A1 A2 : Option Addr) (n1 n2 c1 c2 : Nat) (q : List Int) (l : List (Int × List Int)) (v3 : Value) (w : World) (h1 : 1 ≤ k) (h2 : k ≤ 1000) (hq : Ivs w A1 n1 q) (hr : Rws w A2 n2 l) (hn : n2 ≤ 1000000) (h : (DenM.vec q && DenM.rowsB l (-1)) = false) :
    Calls Try.prog 17 #[.pointer (some ⟨c, 0, none⟩), .int .i64 (mI m), .slice A1 n1 c1, .slice A2 n2 c2, .int .i64 k, v3] w fun e w' => e = .returned (.tuple #[.slice none 0 0, .int .i64 2]) ∧ Below w.heap.size w w' := by
  have HM := Lib.hid (fun w => mof_yes m w)
  obtain ⟨x, hx⟩ : ∃ k, k = mI m := ⟨_, rfl⟩
  rw [← hx] at HM ⊢
  obtain ⟨F, hF, _⟩ := brings_any m
  obtain ⟨G, hG, _⟩ := mosts_any m
  rw [hF, hG] at HM
  have R1 := Lib.hid (fun W (hb : Below w.heap.size w W) => dright_any A1 n1 c1 q W (hq.later hb))
  have R2 := Lib.hid (fun W (hb : Below w.heap.size w W) => arerows_any A2 n2 c2 l W (hr.later hb) hn)
  obtain ⟨b1, hb1⟩ : ∃ b, b = DenM.vec q := ⟨_, rfl⟩
  obtain ⟨b2, hb2⟩ : ∃ b, b = DenM.rowsB l (-1) := ⟨_, rfl⟩
  rw [← hb1] at R1 h
  rw [← hb2] at R2 h
  have hd1 : decide ((k : Int) < 1) = false := decide_eq_false (by omega)
  have hd2 : decide ((1000 : Int) < (k : Int)) = false := decide_eq_false (by omega)
  clear hx hF hG hq hr hb1 hb2 hn
  cases b1 with
  | false =>
    clear h
    go_enter Try.func17, Try.ntmps17
    go_wp2_with fail
    refine (HM.out _).mono ?_
    rintro e w2 ⟨rfl, hb⟩
    have HB := Lib.hid (hb.trans ((pl1 w2 (.cells #[.func (.func F) #[] #[], .func (.func G) #[] #[]] 60)).mono hb.size))
    clear hb
    go_wp2_with fail
    refine (R1.out _ HB.out).mono ?_
    rintro e w3 ⟨rfl, rfl⟩
    go_wp2
    go_ret2
    exact ⟨rfl, HB.out⟩
  | true =>
    obtain rfl : b2 = false := by simpa using h
    clear h
    go_enter Try.func17, Try.ntmps17
    go_wp2_with fail
    refine (HM.out _).mono ?_
    rintro e w2 ⟨rfl, hb⟩
    have HB := Lib.hid (hb.trans ((pl1 w2 (.cells #[.func (.func F) #[] #[], .func (.func G) #[] #[]] 60)).mono hb.size))
    clear hb
    go_wp2_with fail
    refine (R1.out _ HB.out).mono ?_
    rintro e w3 ⟨rfl, rfl⟩
    go_wp2_with fail
    refine (R2.out _ HB.out).mono ?_
    rintro e w4 ⟨rfl, hb4⟩
    go_wp2
    go_ret2
    exact ⟨rfl, HB.out.trans (hb4.mono HB.out.size)⟩
end Go.Proofs.Ytjdlocmchmeipaa
