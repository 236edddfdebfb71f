/- PackTells answers true: the walk. -/
import Derived.Test.YtiflcjiillkgoaaPackV
namespace Go.Proofs.Ytiflcjiillkgoaa
open Go.RowKit

theorem fixed_all (w : Int) (A : Option Addr) (n cp : Nat) (l : List Int) (W : World) (hn : n ≤ 1000000) (hI : Ints W A n l) (h64 : I64 l) :
    Calls Try.prog 24 #[.int .i64 w, .slice A n cp] W fun e W' => e = .returned (.tuple #[.string (ofBytes (fixS w l)), .int .i64 (fixC w l)]) ∧ Below W.heap.size W W' := by
  by_cases h : 0 ≤ w ∧ w ≤ 32
  · obtain ⟨m, rfl⟩ := Int.eq_ofNat_of_zero_le h.1
    exact fixed_any A n cp m l W (by omega) hn hI h64
  · exact fixed_range w A n cp l W h
theorem reffixed_all (w : Int) (A : Option Addr) (n cp : Nat) (l : List Int) (W : World) (hn : n ≤ 1000000) (hI : Ints W A n l) (h64 : I64 l) :
    Calls Try.prog 25 #[.int .i64 w, .slice A n cp] W fun e W' => e = .returned (.tuple #[.string (ofBytes (fixS w l)), .int .i64 (fixC w l)]) ∧ Below W.heap.size W W' := by
  by_cases h : 0 ≤ w ∧ w ≤ 32
  · obtain ⟨m, rfl⟩ := Int.eq_ofNat_of_zero_le h.1
    exact reffixed_any A n cp m l W (by omega) hn hI h64
  · exact reffixed_range w A n cp l W h

theorem varC_01 (v : Int) : 0 ≤ varC v ∧ varC v ≤ 1 := by unfold varC; split <;> omega
theorem risC_01 (l : List Int) : 0 ≤ risC l ∧ risC l ≤ 1 := by unfold risC; split <;> omega
theorem fixC_01 (w : Int) (l : List Int) : 0 ≤ fixC w l ∧ fixC w l ≤ 1 := by unfold fixC; split <;> omega

set_option maxHeartbeats 4000000 in
set_option maxRecDepth 100000 in
theorem packtells_main (v m : Int) (A : Option Addr) (n cp : Nat) (l : List Int) (w : World) (hv1 : -9223372036854775808 ≤ v) (hv2 : v ≤ 9223372036854775807) (hn : n ≤ 500) (hI : Ints w A n l) (h64 : I64 l) :
    Calls Try.prog 5 #[.int .i64 v, .int .i64 m, .slice A n cp] w fun e w' => e = .returned (.bool true) ∧ Below w.heap.size w w' := by
  have hd : decide ((500 : Int) < (n : Int)) = false := decide_eq_false (by omega)
  have hc1 := varC_01 v
  have hc2 := risC_01 l
  have hc3 := fixC_01 m l
  have HV := Lib.hid (varint_any v · hv1 hv2)
  go_enter Try.func5, Try.ntmps5
  go_wp2_with fail
  refine (awake2_any _).mono ?_
  rintro e w1 ⟨rfl, b1⟩
  go_wp2_with fail
  refine (varint_any v _ hv1 hv2).mono ?_
  rintro e w2 ⟨rfl, b2⟩
  have b02 : Below w.heap.size w w2 := b1.trans (b2.mono b1.size)
  clear b1 b2
  go_wp2_with fail
  refine (refvarint_any v _ hv1 hv2).mono ?_
  rintro e w3 ⟨rfl, b3⟩
  have b03 : Below w.heap.size w w3 := b02.trans (b3.mono b02.size)
  clear b3 b02
  have I3 := hI.below b03
  go_wp2_with fail
  refine (rising_any A n cp l _ (by omega) I3 h64).mono ?_
  rintro e w4 ⟨rfl, b4⟩
  have b04 : Below w.heap.size w w4 := b03.trans (b4.mono b03.size)
  clear b4 b03 I3
  have I4 := hI.below b04
  go_wp2_with fail
  refine (refrising_any A n cp l _ (by omega) I4 h64).mono ?_
  rintro e w5 ⟨rfl, b5⟩
  have b05 : Below w.heap.size w w5 := b04.trans (b5.mono b04.size)
  clear b5 b04 I4
  have I5 := hI.below b05
  go_wp2_with fail
  refine (fixed_all m A n cp l _ (by omega) I5 h64).mono ?_
  rintro e w6 ⟨rfl, b6⟩
  have b06 : Below w.heap.size w w6 := b05.trans (b6.mono b05.size)
  clear b6 b05 I5
  have I6 := hI.below b06
  go_wp2_with fail
  refine (reffixed_all m A n cp l _ (by omega) I6 h64).mono ?_
  rintro e w7 ⟨rfl, b7⟩
  have b07 : Below w.heap.size w w7 := b06.trans (b7.mono b06.size)
  clear b7 b06 I6
  go_wp2_with fail
  refine (zigzag_any v _ hv1 hv2).mono ?_
  rintro e w8 ⟨rfl, b8⟩
  have b08 : Below w.heap.size w w8 := b07.trans (b8.mono b07.size)
  clear b8 b07
  go_wp2_with fail
  refine (refzigzag_any v _ hv1 hv2).mono ?_
  rintro e w9 ⟨rfl, b9⟩
  have b09 : Below w.heap.size w w9 := b08.trans (b9.mono b08.size)
  clear b9 b08
  go_wp2_with fail
  go_ret
  exact ⟨rfl, b09⟩

set_option maxHeartbeats 4000000 in
set_option maxRecDepth 100000 in
theorem packtells_long (v m : Int) (A : Option Addr) (n cp : Nat) (w : World) (hn : ¬ n ≤ 500) :
    Calls Try.prog 5 #[.int .i64 v, .int .i64 m, .slice A n cp] w fun e w' => e = .returned (.bool true) ∧ Below w.heap.size w w' := by
  have hd : decide ((500 : Int) < (n : Int)) = true := decide_eq_true (by omega)
  go_enter Try.func5, Try.ntmps5
  go_wp2_with fail
  refine (awake2_any _).mono ?_
  rintro e w1 ⟨rfl, b1⟩
  go_wp2_with fail
  go_ret
  exact ⟨rfl, b1⟩
end Go.Proofs.Ytiflcjiillkgoaa
