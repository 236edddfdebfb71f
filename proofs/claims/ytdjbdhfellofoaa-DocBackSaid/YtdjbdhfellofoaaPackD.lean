
/- Rows of numbers that are the same; a rising row, written by the program. -/
import Derived.Test.YtdjbdhfellofoaaPackC
import Derived.Deep.QuietTactic
import Derived.BigQuiet
import Derived.Deep.RegionWith
namespace Go.Proofs.Ytdjbdhfellofoaa
open Go.RowKit

/-- the slice value '.slice A n c' reads as the numbers l -/
def Ints (w : World) (A : Option Addr) (n : Nat) (l : List Int) : Prop :=
  l.length = n ∧ ∀ k (h : k < l.length), ∃ b o, A = some ⟨b, o, none⟩ ∧ b < w.heap.size ∧ w.cell? ⟨b, o + k, none⟩ = some (.int .i64 l[k])
theorem Ints.below {w w' : World} {A : Option Addr} {n : Nat} {l : List Int} (h : Ints w A n l) (hb : Below w.heap.size w w') : Ints w' A n l :=
  ⟨h.1, fun k hk => by
    obtain ⟨b, o, e, hlt, hc⟩ := h.2 k hk
    exact ⟨b, o, e, Nat.lt_of_lt_of_le hlt hb.size, (hb.cell (p := ⟨b, o + k, none⟩) hlt).trans hc⟩⟩
theorem Ints.at_ {w w' : World} {A : Option Addr} {n : Nat} {l : List Int} (h : Ints w A n l) {k : Nat} (hk : k < l.length) {b o : Nat} (hA : A = some ⟨b, o, none⟩) (hb : Below w.heap.size w w') : w'.cell? ⟨b, o + k, none⟩ = some (.int .i64 l[k]) := by
  obtain ⟨b', o', e, hlt, hc⟩ := h.2 k hk
  rw [hA] at e
  injection e with e
  injection e with e1 e2
  subst e1; subst e2
  exact (hb.cell (p := ⟨b, o + k, none⟩) hlt).trans hc

set_option maxHeartbeats 1600000 in
set_option maxRecDepth 100000 in
theorem same_any (A B : Option Addr) (n ca cb : Nat) (l : List Int) (w : World) (hn : n ≤ 100000000) (hA : Ints w A n l) (hB : Ints w B n l) :
    Calls Try.prog 37 #[.slice A n ca, .slice B n cb] w fun e w' => e = .returned (.bool true) ∧ Below w.heap.size w w' := by
  have hlen := Lib.hid hA.1
  go_enter Try.func37, Try.ntmps37
  go_wp2
  go_loopw [5] (fun i wr => ∃ k : Nat, k ≤ n ∧ i = .int .i64 k ∧ Below w.heap.size w wr) (fun i _ => n - (intOf i).toNat)
  case atStart => exact ⟨0, by omega, rfl, Below.refl _ _⟩
  case round =>
    obtain ⟨k, hk, rfl, hb⟩ := hrel
    by_cases hlt : k < n
    · have hkl : k < l.length := by rw [hlen.out]; exact hlt
      obtain ⟨b1, o1, rfl, hb1, _⟩ := hA.2 k hkl
      obtain ⟨b2, o2, rfl, hb2, _⟩ := hB.2 k hkl
      have c1 := hA.at_ hkl rfl hb
      have c2 := hB.at_ hkl rfl hb
      obtain ⟨x, hx⟩ : ∃ x, x = l[k] := ⟨_, rfl⟩
      rw [← hx] at c1 c2
      have hd : decide ((k : Int) < (n : Int)) = true := decide_eq_true (by omega)
      clear hx hA hB
      go_wp2
      go_quiet (fail)
      go_wp2
      go_roundw
      case rel => exact ⟨k + 1, by omega, by go_num, hb.trans ⟨rfl, rfl, rfl, Nat.le_refl _, fun _ _ => rfl⟩⟩
      case measure => simp [intOf]; omega
    · have hd : decide ((k : Int) < (n : Int)) = false := decide_eq_false (by omega)
      go_wp2
      go_ret
      exact ⟨rfl, hb⟩

def risS (l : List Int) : List UInt8 := if PackM.rises (-1) l = true then PackM.risB l else []
def risC (l : List Int) : Int := if PackM.rises (-1) l = true then 0 else 1
/-- each number is an int -/
def I64 (l : List Int) : Prop := ∀ v ∈ l, -9223372036854775808 ≤ v ∧ v ≤ 9223372036854775807

set_option maxHeartbeats 1600000 in
set_option maxRecDepth 100000 in
theorem rising_any (A : Option Addr) (n cp : Nat) (l : List Int) (w : World) (hn : n ≤ 1000000) (hI : Ints w A n l) (h64 : I64 l) :
    Calls Try.prog 46 #[.slice A n cp] w fun e w' => e = .returned (.tuple #[.string (ofBytes (risS l)), .int .i64 (risC l)]) ∧ Below w.heap.size w w' := by
  have hlen := Lib.hid hI.1
  have hn64 : n < 18446744073709551616 := by omega
  go_enter Try.func46, Try.ntmps46
  go_wp2_with fail
  refine (appendVarint_any w.heap.size [] _ n _ hn64 (by simp) (Nat.le_refl _) (ByteRow.nil_ _ _)).mono ?_
  rintro e w1 ⟨v1, rfl, hown, hb1, _⟩
  rw [List.nil_append] at hown
  have h10 := PackM.vw_len10 n hn64
  have hst : PackM.vw n ++ PackM.diffs (-1) (l.drop 0) = PackM.risB l := by rw [List.drop_zero, PackM.risB, hlen.out]
  have HST := Lib.hid hst
  clear hst
  go_wp2
  go_loopw [4, 5, 14] (fun v last i wr => ∃ (k : Nat) (acc : List UInt8) (la : Int), k ≤ n ∧ i = .int .i64 k ∧ last = .int .i64 la ∧ -1 ≤ la ∧ la ≤ 9223372036854775807 ∧ acc.length ≤ 10 + 10 * k ∧ ByteRow wr w.heap.size v acc ∧ PackM.rises (-1) l = PackM.rises la (l.drop k) ∧ acc ++ PackM.diffs la (l.drop k) = PackM.risB l ∧ Below w.heap.size w wr) (fun _ _ i _ => n - (intOf i).toNat)
  case atStart => exact ⟨0, PackM.vw n, -1, by omega, rfl, rfl, by omega, by omega, by omega, hown, by rw [List.drop_zero], HST.out, hb1⟩
  case round =>
    clear hown hb1
    obtain ⟨k, acc, la, hk, rfl, rfl, hla1, hla2, hacc, hown, hris, heq, hb⟩ := hrel
    have HR := Lib.hid hris
    have HE := Lib.hid heq
    clear hris heq
    have hsz := hb.size
    by_cases hlt : k < n
    · have hkl : k < l.length := by rw [hlen.out]; exact hlt
      obtain ⟨b, o, rfl, hbl, _⟩ := hI.2 k hkl
      have c1 := hI.at_ hkl rfl hb
      have h6 := h64 l[k] (List.getElem_mem hkl)
      have hdr := List.drop_eq_getElem_cons hkl
      obtain ⟨x, hx⟩ : ∃ x, x = l[k] := ⟨_, rfl⟩
      rw [← hx] at c1 h6 hdr
      have HD := Lib.hid hdr
      clear hx hdr
      have hd : decide ((k : Int) < (n : Int)) = true := decide_eq_true (by omega)
      by_cases hv : x ≤ la
      · have hd2 : decide (x ≤ la) = true := decide_eq_true hv
        have hf : PackM.rises (-1) l = false := by rw [HR.out, HD.out]; simp only [PackM.rises, Bool.and_eq_false_iff]; left; exact decide_eq_false (by omega)
        have hs : risS l = [] := by unfold risS; rw [hf]; rfl
        have hc : risC l = 1 := by unfold risC; rw [hf]; rfl
        have HS := Lib.hid hs
        have HC := Lib.hid hc
        clear hs hc hf
        go_wp2
        go_ret2
        exact ⟨by rw [HS.out, HC.out]; rfl, hb⟩
      · have hd2 : decide (x ≤ la) = false := decide_eq_false hv
        obtain ⟨d, hdE⟩ : ∃ d : Nat, d = (x - 1 - la).toNat := ⟨_, rfl⟩
        have hdI : x - 1 - la = (d : Int) := by omega
        have hd64 : d < 18446744073709551616 := by omega
        have HDE := Lib.hid hdE
        clear hdE
        go_wp2_with fail
        refine (appendVarint_any w.heap.size acc _ d _ hd64 (by omega) hsz hown).mono ?_
        rintro e w2 ⟨v2, rfl, hown2, hb2, _⟩
        clear hdI
        have h10 := PackM.vw_len10 d hd64
        go_wp2
        go_roundw
        case rel =>
          refine ⟨k + 1, acc ++ PackM.vw d, x, by omega, by go_num, rfl, by omega, by omega, by simp; omega, hown2, ?_, ?_, hb.trans hb2⟩
          · rw [HR.out, HD.out]
            simp only [PackM.rises]
            rw [decide_eq_true (by omega), Bool.true_and]
          · rw [← HE.out, HD.out, List.append_assoc, HDE.out]
            rfl
        case measure => simp [intOf]; omega
    · have hd : decide ((k : Int) < (n : Int)) = false := decide_eq_false (by omega)
      have hke : l.drop k = [] := List.drop_of_length_le (by rw [hlen.out]; omega)
      have hf : PackM.rises (-1) l = true := by rw [HR.out, hke]; rfl
      have hs : risS l = acc := by unfold risS; rw [hf, if_pos rfl, ← HE.out, hke]; simp [PackM.diffs]
      have hc : risC l = 0 := by unfold risC; rw [hf]; rfl
      have HS := Lib.hid hs
      have HC := Lib.hid hc
      clear hs hc hf hke
      have hcv := hown.conv
      clear hown
      go_wp2
      go_ret2
      exact ⟨by rw [HS.out, HC.out]; rfl, hb⟩
end Go.Proofs.Ytdjbdhfellofoaa
