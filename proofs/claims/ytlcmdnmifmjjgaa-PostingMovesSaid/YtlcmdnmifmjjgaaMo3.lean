/- Own texts, merged (3 of 9). -/
import Derived.Laws.BytesArg
import Derived.Deep.QuietTactic
import Derived.BigQuiet
import Derived.Deep.RegionWith
import Derived.RegionTactic
import Derived.Laws.OwnMore
import Derived.Test.YtlcmdnmifmjjgaaMo2

/- Varint and Zigzag, written: the program's and the document's. -/
namespace Go.Proofs.Ytlcmdnmifmjjgaa
open Go.RowKit

/-- a row of bytes as a string -/
theorem ByteRow.conv {W : World} {base : Nat} {v : Value} {l : List UInt8} (h : ByteRow W base v l) : (convert 87 9 v).run Try.prog W = .ok (.string (ofBytes l)) W := by
  rcases h.2 with ⟨rfl, hn⟩ | ⟨g, cap, cur, rfl, hbg, hgg, rest⟩
  · have hl0 : l = [] := List.eq_nil_of_length_eq_zero hn
    subst hl0
    exact run_convert_bytes_nil W 87 5 Try.underlying87 Try.underlying5 0 0 9 Try.underlying9
  · refine run_convert_bytes_back W 87 9 5 ⟨g, 0, none⟩ cap l Try.underlying87 Try.underlying5 Try.underlying9 (fun j hj => ?_)
    exact World.ownsRow.cells h (g := g) rfl j _ (by simp [hj, byteV])

theorem conv1 (w : World) (b : UInt8) : (convert 87 9 (.slice (some ⟨w.heap.size, 0, none⟩) 1 1)).run Try.prog (w.alloc (.cells #[.int .u8 (b.toNat : Int)] 5))
    = .ok (.string (ofBytes [b])) (w.alloc (.cells #[.int .u8 (b.toNat : Int)] 5)) :=
  run_convert_bytes_back _ 87 9 5 ⟨w.heap.size, 0, none⟩ 1 [b] Try.underlying87 Try.underlying5 Try.underlying9 (fun j hj => by
    match j, hj with
    | 0, _ => rw [add_none, cell_of_row _ _ _ _ _ _ (heap_alloc_new w _)]; rfl)

/-- the bytes of Varint(v), the number of its error -/
def varB (v : Int) : List UInt8 := if v < 0 then [] else PackM.vw v.toNat
def varC (v : Int) : Int := if v < 0 then 1 else 0
theorem varB_len (v : Int) (h2 : v ≤ 9223372036854775807) : (varB v).length ≤ 10 := by
  unfold varB
  split
  · simp
  · exact PackM.vw_len10 _ (by omega)

set_option maxHeartbeats 1600000 in
set_option maxRecDepth 100000 in
theorem word_any (u : Nat) (w : World) (hu : u < 18446744073709551616) :
    Calls Try.prog 46 #[.int .u64 u] w fun e w' => e = .returned (.string (ofBytes (PackM.vw u))) ∧ Below w.heap.size w w' := by
  have h10 := PackM.vw_len10 u hu
  go_enter Try.func46, Try.ntmps46
  go_wp2
  go_loopw [0, 3] (fun y s wr => ∃ (l' : List UInt8) (k : Nat), y = .int .u64 k ∧ s = .string (ofBytes l') ∧ k < 18446744073709551616 ∧ l'.length + (PackM.vw k).length ≤ 10 ∧ PackM.vw u = l' ++ PackM.vw k ∧ Below w.heap.size w wr) (fun y _ _ => (intOf y).toNat)
  case atStart => exact ⟨[], u, rfl, rfl, hu, by simpa using h10, rfl, Below.refl _ _⟩
  case round =>
    obtain ⟨l', k, rfl, rfl, hk, hlen, heq, hb⟩ := hrel
    have HE := Lib.hid heq
    clear heq
    have hsz := hb.size
    have hs1 : (ofBytes l').size ≤ 10 := by rw [size_ofBytes]; omega
    by_cases hlt : k < 128
    · have hd : decide ((128 : Int) ≤ (k : Int)) = false := decide_eq_false (by omega)
      have hvw := PackM.vw_lt hlt
      have HV := Lib.hid hvw
      clear hvw
      obtain ⟨b, hbE⟩ : ∃ b : UInt8, b = UInt8.ofNat k := ⟨_, rfl⟩
      have hbk : (k : Int) = (b.toNat : Int) := by rw [hbE, PackM.toNat_of k (by omega)]
      have hcv := conv1 wr b
      rw [← hbk] at hcv
      have hs2 : (ofBytes [b]).size = 1 := by rw [size_ofBytes]; rfl
      have HB := Lib.hid hbE
      clear hbE hbk
      go_wp2
      go_ret
      refine ⟨ret_str ?_, hb.alloc hsz _⟩
      rw [HE.out, HV.out, ← HB.out, append_ofBytes, ofBytes_list]
    · have hd : decide ((128 : Int) ≤ (k : Int)) = true := decide_eq_true (by omega)
      have hvw := PackM.vw_ge hlt
      have hl1 : (PackM.vw k).length = (PackM.vw (k / 128)).length + 1 := by rw [hvw]; rfl
      have hlen2 : l'.length + 1 + (PackM.vw (k / 128)).length ≤ 10 := by omega
      obtain ⟨b, hbE⟩ : ∃ b : UInt8, b = UInt8.ofNat (k % 128 + 128) := ⟨_, rfl⟩
      have hbk : ((k : Int) % 128 + 128) = (b.toNat : Int) := by rw [hbE, PackM.toNat_of _ (by omega)]; omega
      rw [← hbE] at hvw
      have hcv := conv1 wr b
      have hb256 := b.toNat_lt
      rw [← hbk] at hcv
      have hs2 : (ofBytes [b]).size = 1 := by rw [size_ofBytes]; rfl
      have HV := Lib.hid hvw
      have HB := Lib.hid hbE
      clear hbE hbk hvw hl1
      go_wp2
      go_roundw
      case rel =>
        refine ⟨l' ++ [b], k / 128, by go_num, ?_, by omega, by simp; omega, ?_, hb.alloc hsz _⟩
        · rw [append_ofBytes, ofBytes_list]
        · rw [HE.out, HV.out, List.append_assoc]
          rfl
      case measure => simp [intOf]; omega

end Go.Proofs.Ytlcmdnmifmjjgaa

/- Zigzag, written: the program's and the document's. -/
namespace Go.Proofs.Ytlcmdnmifmjjgaa
open Go.RowKit

theorem xor_ones64 {c : Nat} (h : c < 18446744073709551616) : 18446744073709551615 - c = 18446744073709551615 ^^^ c := by
  have e := Nat.testBit_two_pow_sub_succ (n := 64) (x := c) h
  apply Nat.eq_of_testBit_eq
  intro i
  have h1 : 18446744073709551615 - c = 2 ^ 64 - (c + 1) := by omega
  have h2 : (18446744073709551615 : Nat) = 2 ^ 64 - 1 := by decide
  rw [h1, e, Nat.testBit_xor, h2, Nat.testBit_two_pow_sub_one]
  by_cases hi : i < 64
  · simp [hi]
  · have : c.testBit i = false := Nat.testBit_lt_two_pow (Nat.lt_of_lt_of_le h (by
      calc 18446744073709551616 = 2 ^ 64 := by decide
        _ ≤ 2 ^ i := Nat.pow_le_pow_right (by decide) (by omega)))
    simp [hi, this]
theorem zz_low (v : Int) (h1 : -9223372036854775808 ≤ v) (hv : v < 0) : bits .xor .u64 IntKind.u64.max (IntKind.u64.wrap (IntKind.u64.wrap v * 2)) = ((PackM.zz v : Nat) : Int) := by
  have hz : PackM.zz v = (-(2 * v) - 1).toNat := by unfold PackM.zz; rw [if_neg (by omega)]
  have e : IntKind.u64.wrap (IntKind.u64.wrap v * 2) = ((18446744073709551616 + 2 * v).toNat : Int) := by
    rw [IntKind.wrap_u64, IntKind.wrap_u64]; omega
  obtain ⟨y, hy⟩ : ∃ y : Nat, y = (18446744073709551616 + 2 * v).toNat := ⟨_, rfl⟩
  have hy1 : y < 18446744073709551616 := by omega
  rw [e, ← hy]
  have hx := u64_xor_nat 18446744073709551615 y (by decide) hy1
  rw [← xor_ones64 hy1] at hx
  have hm : IntKind.u64.max = ((18446744073709551615 : Nat) : Int) := rfl
  rw [hm, hx, hz]
  omega
theorem zz_high (v : Int) (hv : ¬ v < 0) : v * 2 = ((PackM.zz v : Nat) : Int) := by
  unfold PackM.zz; rw [if_pos (by omega)]; omega
theorem zz_low' (v : Int) (hv : v < 0) : -(v + 1) * 2 + 1 = ((PackM.zz v : Nat) : Int) := by
  unfold PackM.zz; rw [if_neg (by omega)]; omega

end Go.Proofs.Ytlcmdnmifmjjgaa

/- Rows of numbers that are the same; a rising row, written by the program. -/
namespace Go.Proofs.Ytlcmdnmifmjjgaa
open Go.RowKit

/-- the slice value '.slice A n c' reads as the numbers l -/
def Ints (w : World) (A : Option Addr) (n : Nat) (l : List Int) : Prop :=
  l.length = n ∧ ∀ k (h : k < l.length), ∃ b o, A = some ⟨b, o, none⟩ ∧ b < w.heap.size ∧ w.cell? ⟨b, o + k, none⟩ = some (.int .i64 l[k])
theorem Ints.below {w w' : World} {A : Option Addr} {n : Nat} {l : List Int} (h : Ints w A n l) (hb : Below w.heap.size w w') : Ints w' A n l :=
  ⟨h.1, fun k hk => by
    obtain ⟨b, o, e, hlt, hc⟩ := h.2 k hk
    exact ⟨b, o, e, Nat.lt_of_lt_of_le hlt hb.size, (hb.cell (p := ⟨b, o + k, none⟩) hlt).trans hc⟩⟩
theorem Ints.at_ {w w' : World} {A : Option Addr} {n : Nat} {l : List Int} (h : Ints w A n l) {k : Nat} (hk : k < l.length) {b o : Nat} (hA : A = some ⟨b, o, none⟩) (hb : Below w.heap.size w w') : w'.cell? ⟨b, o + k, none⟩ = some (.int .i64 l[k]) := by
  obtain ⟨b', o', e, hlt, hc⟩ := h.2 k hk
  rw [hA] at e
  injection e with e
  injection e with e1 e2
  subst e1; subst e2
  exact (hb.cell (p := ⟨b, o + k, none⟩) hlt).trans hc

def risS (l : List Int) : List UInt8 := if PackM.rises (-1) l = true then PackM.risB l else []
def risC (l : List Int) : Int := if PackM.rises (-1) l = true then 0 else 1
/-- each number is an int -/
def I64 (l : List Int) : Prop := ∀ v ∈ l, -9223372036854775808 ≤ v ∧ v ≤ 9223372036854775807

set_option maxHeartbeats 1600000 in
set_option maxRecDepth 100000 in
theorem rising_any (A : Option Addr) (n cp : Nat) (l : List Int) (w : World) (hn : n ≤ 1000000) (hI : Ints w A n l) (h64 : I64 l) :
    Calls Try.prog 29 #[.slice A n cp] w fun e w' => e = .returned (.tuple #[.string (ofBytes (risS l)), .int .i64 (risC l)]) ∧ Below w.heap.size w w' := by
  have hlen := Lib.hid hI.1
  have hn64 : n < 18446744073709551616 := by omega
  go_enter Try.func29, Try.ntmps29
  go_wp2_with fail
  refine (appendVarint_any w.heap.size [] _ n _ hn64 (by simp) (Nat.le_refl _) (ByteRow.nil_ _ _)).mono ?_
  rintro e w1 ⟨v1, rfl, hown, hb1, _⟩
  rw [List.nil_append] at hown
  have h10 := PackM.vw_len10 n hn64
  have hst : PackM.vw n ++ PackM.diffs (-1) (l.drop 0) = PackM.risB l := by rw [List.drop_zero, PackM.risB, hlen.out]
  have HST := Lib.hid hst
  clear hst
  go_wp2
  go_loopw [4, 5, 14] (fun v last i wr => ∃ (k : Nat) (acc : List UInt8) (la : Int), k ≤ n ∧ i = .int .i64 k ∧ last = .int .i64 la ∧ -1 ≤ la ∧ la ≤ 9223372036854775807 ∧ acc.length ≤ 10 + 10 * k ∧ ByteRow wr w.heap.size v acc ∧ PackM.rises (-1) l = PackM.rises la (l.drop k) ∧ acc ++ PackM.diffs la (l.drop k) = PackM.risB l ∧ Below w.heap.size w wr) (fun _ _ i _ => n - (intOf i).toNat)
  case atStart => exact ⟨0, PackM.vw n, -1, by omega, rfl, rfl, by omega, by omega, by omega, hown, by rw [List.drop_zero], HST.out, hb1⟩
  case round =>
    clear hown hb1
    obtain ⟨k, acc, la, hk, rfl, rfl, hla1, hla2, hacc, hown, hris, heq, hb⟩ := hrel
    have HR := Lib.hid hris
    have HE := Lib.hid heq
    clear hris heq
    have hsz := hb.size
    by_cases hlt : k < n
    · have hkl : k < l.length := by rw [hlen.out]; exact hlt
      obtain ⟨b, o, rfl, hbl, _⟩ := hI.2 k hkl
      have c1 := hI.at_ hkl rfl hb
      have h6 := h64 l[k] (List.getElem_mem hkl)
      have hdr := List.drop_eq_getElem_cons hkl
      obtain ⟨x, hx⟩ : ∃ x, x = l[k] := ⟨_, rfl⟩
      rw [← hx] at c1 h6 hdr
      have HD := Lib.hid hdr
      clear hx hdr
      have hd : decide ((k : Int) < (n : Int)) = true := decide_eq_true (by omega)
      by_cases hv : x ≤ la
      · have hd2 : decide (x ≤ la) = true := decide_eq_true hv
        have hf : PackM.rises (-1) l = false := by rw [HR.out, HD.out]; simp only [PackM.rises, Bool.and_eq_false_iff]; left; exact decide_eq_false (by omega)
        have hs : risS l = [] := by unfold risS; rw [hf]; rfl
        have hc : risC l = 1 := by unfold risC; rw [hf]; rfl
        have HS := Lib.hid hs
        have HC := Lib.hid hc
        clear hs hc hf
        go_wp2
        go_ret2
        exact ⟨by rw [HS.out, HC.out]; rfl, hb⟩
      · have hd2 : decide (x ≤ la) = false := decide_eq_false hv
        obtain ⟨d, hdE⟩ : ∃ d : Nat, d = (x - 1 - la).toNat := ⟨_, rfl⟩
        have hdI : x - 1 - la = (d : Int) := by omega
        have hd64 : d < 18446744073709551616 := by omega
        have HDE := Lib.hid hdE
        clear hdE
        go_wp2_with fail
        refine (appendVarint_any w.heap.size acc _ d _ hd64 (by omega) hsz hown).mono ?_
        rintro e w2 ⟨v2, rfl, hown2, hb2, _⟩
        clear hdI
        have h10 := PackM.vw_len10 d hd64
        go_wp2
        go_roundw
        case rel =>
          refine ⟨k + 1, acc ++ PackM.vw d, x, by omega, by go_num, rfl, by omega, by omega, by simp; omega, hown2, ?_, ?_, hb.trans hb2⟩
          · rw [HR.out, HD.out]
            simp only [PackM.rises]
            rw [decide_eq_true (by omega), Bool.true_and]
          · rw [← HE.out, HD.out, List.append_assoc, HDE.out]
            rfl
        case measure => simp [intOf]; omega
    · have hd : decide ((k : Int) < (n : Int)) = false := decide_eq_false (by omega)
      have hke : l.drop k = [] := List.drop_of_length_le (by rw [hlen.out]; omega)
      have hf : PackM.rises (-1) l = true := by rw [HR.out, hke]; rfl
      have hs : risS l = acc := by unfold risS; rw [hf, if_pos rfl, ← HE.out, hke]; simp [PackM.diffs]
      have hc : risC l = 0 := by unfold risC; rw [hf]; rfl
      have HS := Lib.hid hs
      have HC := Lib.hid hc
      clear hs hc hf hke
      have hcv := hown.conv
      clear hown
      go_wp2
      go_ret2
      exact ⟨by rw [HS.out, HC.out]; rfl, hb⟩
end Go.Proofs.Ytlcmdnmifmjjgaa

/- A rising row, written by the document. -/
namespace Go.Proofs.Ytlcmdnmifmjjgaa
open Go.RowKit

theorem below_drewN {w : World} (k : Nat) : Below w.heap.size w (w.drewN k) := ⟨rfl, rfl, rfl, Nat.le_refl _, fun _ _ => rfl⟩

theorem at_one {l : List Int} {k : Nat} {x : Int} (h : l[k]? = some x) : ∀ j, k + 1 = j + 1 → l[j]? = some x := fun j hj => by
  have : j = k := by omega
  subst this
  exact h

set_option maxHeartbeats 800000 in
set_option maxRecDepth 100000 in
theorem refrising_any (A : Option Addr) (n cp : Nat) (l : List Int) (w : World) (hn : n ≤ 1000000) (hI : Ints w A n l) (h64 : I64 l) :
    Calls Try.prog 32 #[.slice A n cp] w fun e w' => e = .returned (.tuple #[.string (ofBytes (risS l)), .int .i64 (risC l)]) ∧ Below w.heap.size w w' := by
  have hlen := Lib.hid hI.1
  have hn64 : n < 18446744073709551616 := by omega
  go_enter Try.func32, Try.ntmps32
  go_wp2_with fail
  refine (word_any n _ hn64).mono ?_
  rintro e w1 ⟨rfl, hb1⟩
  have h10 := PackM.vw_len10 n hn64
  have hst : PackM.vw n ++ PackM.diffs (-1) (l.drop 0) = PackM.risB l := by rw [List.drop_zero, PackM.risB, hlen.out]
  have HST := Lib.hid hst
  clear hst
  go_wp2
  go_loopw [4, 5] (fun s i wr => ∃ (k : Nat) (acc : List UInt8) (la : Int), k ≤ n ∧ i = .int .i64 k ∧ (k = 0 → la = -1) ∧ (∀ j, k = j + 1 → l[j]? = some la) ∧ (0 < k → 0 ≤ la) ∧ -1 ≤ la ∧ la ≤ 9223372036854775807 ∧ acc.length ≤ 10 + 10 * k ∧ s = .string (ofBytes acc) ∧ PackM.rises (-1) l = PackM.rises la (l.drop k) ∧ acc ++ PackM.diffs la (l.drop k) = PackM.risB l ∧ Below w.heap.size w wr) (fun _ i _ => n - (intOf i).toNat)
  case atStart => exact ⟨0, PackM.vw n, -1, by omega, rfl, fun _ => rfl, fun j h => by omega, fun h => by omega, by omega, by omega, by omega, rfl, by rw [List.drop_zero], HST.out, hb1⟩
  case round =>
    clear hb1
    obtain ⟨k, acc, la, hk, rfl, hz0, hzs, hla0, hla1, hla2, hacc, rfl, hris, heq, hb⟩ := hrel
    have HR := Lib.hid hris
    have HE := Lib.hid heq
    have HZ0 := Lib.hid hz0
    have HZS := Lib.hid hzs
    clear hris heq hz0 hzs
    have hsz := hb.size
    by_cases hlt : k < n
    · have hkl : k < l.length := by rw [hlen.out]; exact hlt
      obtain ⟨b, o, rfl, hbl, _⟩ := hI.2 k hkl
      have c1 := hI.at_ hkl rfl hb
      have h6 := h64 l[k] (List.getElem_mem hkl)
      have hdr := List.drop_eq_getElem_cons hkl
      have hgk : l[k]? = some l[k] := List.getElem?_eq_getElem hkl
      obtain ⟨x, hx⟩ : ∃ x, x = l[k] := ⟨_, rfl⟩
      rw [← hx] at c1 h6 hdr hgk
      have HD := Lib.hid hdr
      have HG := Lib.hid hgk
      clear hx hdr hgk
      have hd : decide ((k : Int) < (n : Int)) = true := decide_eq_true (by omega)
      by_cases hv : x ≤ la
      · have hf : PackM.rises (-1) l = false := by rw [HR.out, HD.out]; simp only [PackM.rises, Bool.and_eq_false_iff]; left; exact decide_eq_false (by omega)
        have hs : risS l = [] := by unfold risS; rw [hf]; rfl
        have hc : risC l = 1 := by unfold risC; rw [hf]; rfl
        have HS := Lib.hid hs
        have HC := Lib.hid hc
        clear hs hc hf
        by_cases hneg : x < 0
        · have hd2 : decide (x < 0) = true := decide_eq_true hneg
          go_wp2
          go_quiet (fail)
          go_wp2
          go_ret2
          exact ⟨by rw [HS.out, HC.out]; rfl, hb.trans ((below_drewN _).mono hsz)⟩
        · have hd2 : decide (x < 0) = false := decide_eq_false hneg
          obtain ⟨j, rfl⟩ : ∃ j, k = j + 1 := by
            rcases Nat.eq_zero_or_pos k with e | e
            · have := HZ0.out e; omega
            · exact ⟨k - 1, by omega⟩
          have hjl : j < l.length := by omega
          have c2 := hI.at_ hjl rfl hb
          have hla : l[j] = la := by
            have := HZS.out j rfl
            rw [List.getElem?_eq_getElem hjl] at this
            injection this
          rw [hla] at c2
          clear hla
          have hd3 : decide ((0 : Int) < ((j + 1 : Nat) : Int)) = true := decide_eq_true (by omega)
          have hd4 : decide (x ≤ la) = true := decide_eq_true hv
          go_wp2
          go_quiet (fail)
          go_wp2
          go_ret2
          exact ⟨by rw [HS.out, HC.out]; rfl, hb.trans ((below_drewN _).mono hsz)⟩
      · have hd2 : decide (x < 0) = false := decide_eq_false (by omega)
        obtain ⟨d, hdE⟩ : ∃ d : Nat, d = (x - 1 - la).toNat := ⟨_, rfl⟩
        have hd64 : d < 18446744073709551616 := by omega
        have h10 := PackM.vw_len10 d hd64
        have HDE := Lib.hid hdE
        have hr2 : PackM.rises (-1) l = PackM.rises x (l.drop (k + 1)) := by
          rw [HR.out, HD.out]
          simp only [PackM.rises]
          rw [decide_eq_true (by omega), Bool.true_and]
        have he2 : (acc ++ PackM.vw d) ++ PackM.diffs x (l.drop (k + 1)) = PackM.risB l := by
          rw [← HE.out, HD.out, List.append_assoc, hdE]
          rfl
        have HR2 := Lib.hid hr2
        have HE2 := Lib.hid he2
        clear hr2 he2
        have hs1 : (ofBytes acc).size = acc.length := size_ofBytes _
        have hs2 : (ofBytes (PackM.vw d)).size = (PackM.vw d).length := size_ofBytes _
        rcases Nat.eq_zero_or_pos k with e | e
        · subst e
          have hla := HZ0.out rfl
          subst hla
          have hxd : x = (d : Int) := by omega
          subst hxd
          clear hdE
          rw [show o + 0 = o from rfl] at c1
          have hd3 : decide ((0 : Int) < ((0 : Nat) : Int)) = false := rfl
          go_wp2
          go_quiet (fail)
          go_wp2_with fail
          refine (word_any d _ hd64).mono ?_
          rintro e w2 ⟨rfl, hb2⟩
          go_wp2
          go_roundw
          case rel =>
            refine ⟨0 + 1, acc ++ PackM.vw d, d, by omega, by go_num, fun h => by omega, at_one HG.out, fun _ => by omega, by omega, by omega, by simp; omega, by rw [append_ofBytes, ofBytes_list], HR2.out, HE2.out, (hb.trans ((below_drewN _).mono hsz)).trans (hb2.mono hsz)⟩
          case measure => simp [intOf]; omega
        · obtain ⟨j, rfl⟩ : ∃ j, k = j + 1 := ⟨k - 1, by omega⟩
          have hjl : j < l.length := by omega
          have c2 := hI.at_ hjl rfl hb
          have hla : l[j] = la := by
            have := HZS.out j rfl
            rw [List.getElem?_eq_getElem hjl] at this
            injection this
          rw [hla] at c2
          clear hla
          have hd3 : decide ((0 : Int) < ((j + 1 : Nat) : Int)) = true := decide_eq_true (by omega)
          have hd4 : decide (x ≤ la) = false := decide_eq_false hv
          have hla3 := hla0 (by omega)
          have hw : IntKind.u64.wrap (IntKind.i64.wrap (IntKind.i64.wrap (x - la) - 1)) = (d : Int) := by
            rw [IntWalk.i64_in (x - la) (by omega), IntWalk.i64_in (x - la - 1) (by omega), IntWalk.u64_in _ (by omega)]; omega
          have HW := Lib.hid hw
          have hj0 : (0 : Int) ≤ (j : Int) := by omega
          have hjn : (j : Int) < (n : Int) := by omega
          clear hdE hw
          go_wp2
          go_quiet (fail)
          go_wp2
          have hj1 : IntKind.i64.wrap ((j : Int) + 1 - 1) = (j : Int) := by rw [IntWalk.i64_in _ (by omega)]; omega
          have hj2 : IntKind.i64.wrap (j : Int) = (j : Int) := by rw [IntWalk.i64_in _ (by omega)]
          go_region_with (go_at_call 46; rw [HW.out]; refine (word_any d _ hd64).mono ?_; rintro e w2 ⟨rfl, hb2⟩)
          all_goals clear hj1 hj2
          all_goals go_wp2
          all_goals exact ⟨⟨j + 1 + 1, acc ++ PackM.vw d, x, by omega, by go_num, fun h => by omega, at_one HG.out, fun _ => by omega, by omega, by omega, by simp; omega, by rw [append_ofBytes, ofBytes_list], HR2.out, HE2.out, (hb.trans ((below_drewN _).mono hsz)).trans (hb2.mono hsz)⟩, by simp [intOf]; omega⟩
    · have hd : decide ((k : Int) < (n : Int)) = false := decide_eq_false (by omega)
      have hke : l.drop k = [] := List.drop_of_length_le (by rw [hlen.out]; omega)
      have hf : PackM.rises (-1) l = true := by rw [HR.out, hke]; rfl
      have hs : risS l = acc := by unfold risS; rw [hf, if_pos rfl, ← HE.out, hke]; simp [PackM.diffs]
      have hc : risC l = 0 := by unfold risC; rw [hf]; rfl
      have HS := Lib.hid hs
      have HC := Lib.hid hc
      clear hs hc hf hke
      go_wp2
      go_ret2
      exact ⟨by rw [HS.out, HC.out]; rfl, hb⟩
end Go.Proofs.Ytlcmdnmifmjjgaa

/- A packed row, written by the program. -/
namespace Go.Proofs.Ytlcmdnmifmjjgaa
open Go.RowKit

set_option maxHeartbeats 800000 in
theorem packedSize_any (w n p : Nat) (W : World) (hp : p = w * n) (hpl : p ≤ 1000000000) :
    Calls Try.prog 44 #[.int .i64 w, .int .i64 n] W fun e W' => e = .returned (.int .i64 ((p + 7) / 8 : Nat)) ∧ W = W' := by
  have hpI : (w : Int) * (n : Int) = (p : Int) := by rw [hp]; simp
  clear hp
  go_enter Try.func44, Try.ntmps44
  go_wp2
  go_ret
  exact ⟨ret_int (by omega), rfl⟩

theorem i64_and_nat (a b : Nat) (ha : a < 9223372036854775808) (hb : b < 9223372036854775808) : bits .and .i64 (a : Int) (b : Int) = ((a &&& b : Nat) : Int) := by
  have hx : a &&& b < 2 ^ 63 := Nat.and_lt_two_pow _ (by omega)
  show IntKind.i64.wrap ((BitVec.ofInt 64 (a : Int) &&& BitVec.ofInt 64 (b : Int)).toNat : Int) = _
  rw [BitVec.toNat_and, ofInt_u64 a (by omega), ofInt_u64 b (by omega), IntWalk.i64_in _ (by omega)]
theorem i64_or_nat (a b : Nat) (ha : a < 9223372036854775808) (hb : b < 9223372036854775808) : bits .or .i64 (a : Int) (b : Int) = ((a ||| b : Nat) : Int) := by
  have hx : a ||| b < 2 ^ 63 := Nat.or_lt_two_pow (by omega) (by omega)
  show IntKind.i64.wrap ((BitVec.ofInt 64 (a : Int) ||| BitVec.ofInt 64 (b : Int)).toNat : Int) = _
  rw [BitVec.toNat_or, ofInt_u64 a (by omega), ofInt_u64 b (by omega), IntWalk.i64_in _ (by omega)]
theorem i64_and1 (a : Nat) (ha : a < 9223372036854775808) : bits .and .i64 (a : Int) 1 = ((a % 2 : Nat) : Int) := by
  have := i64_and_nat a 1 ha (by decide)
  rw [Nat.and_one_is_mod] at this
  exact this

/-- the byte behind one bit more, as the walk spells it -/
theorem or_bit (B : List Nat) (hB : PackM.Bits B) (L e8 m8 old bt : Nat) (he : e8 = B.length / 8) (hm : m8 = B.length % 8) (hL : e8 < L) (hold : old = ((PackM.packed B L)[e8]'(by rw [PackM.packed_length]; exact hL)).toNat) (hbt : bt ≤ 1) :
    bits .or .u8 (old : Int) ((bt : Int) * 2 ^ m8 % 256) = ((UInt8.ofNat (PackM.byt B (B.length / 8) + bt * 2 ^ (B.length % 8))).toNat : Int) := by
  have ho : old = PackM.byt B (B.length / 8) := by
    rw [hold]
    simp only [PackM.packed, List.getElem_map, List.getElem_range]
    rw [PackM.toNat_of _ (PackM.byt_lt hB _), he]
  have hlt := PackM.byt_lt hB (B.length / 8)
  have hB2 : PackM.Bits (B ++ [bt]) := by
    intro x hx
    rcases List.mem_append.1 hx with h | h
    · exact hB x h
    · simp at h; omega
  have h2 := PackM.byt_lt hB2 (B.length / 8)
  rw [PackM.byt_snoc, if_pos rfl] at h2
  rw [PackM.toNat_of _ h2, ← PackM.byt_or hB]
  have hs : bt * 2 ^ (B.length % 8) < 256 := by omega
  rw [ho, hm]
  have e : ((bt : Int) * 2 ^ (B.length % 8) % 256) = ((bt * 2 ^ (B.length % 8) : Nat) : Int) := by
    have h3 : ((bt * 2 ^ (B.length % 8) : Nat) : Int) = (bt : Int) * 2 ^ (B.length % 8) := by simp
    rw [← h3]
    omega
  rw [e, u8_or_nat _ _ hlt hs]

def fits (w : Nat) (l : List Int) : Bool := l.all fun v => decide (0 ≤ v ∧ v < 2 ^ w)
def fixS (w : Int) (l : List Int) : List UInt8 := if 0 ≤ w ∧ w ≤ 32 ∧ fits w.toNat l = true then PackM.fixB w.toNat (l.map Int.toNat) else []
def fixC (w : Int) (l : List Int) : Int := if 0 ≤ w ∧ w ≤ 32 ∧ fits w.toNat l = true then 0 else 1

theorem made_at (z : Value) (n j : Nat) (h : j < n) : (madeCells #[z] n)[j]? = some z := by
  have : (madeCells #[z] n).toList[j]? = some z := by rw [toList_madeCells_one]; simp [h]
  simpa using this
theorem made_bytes (w : World) (L : Nat) (hL : L ≤ 1000000000) : ∃ M, (Instr.makeSlice 87 (.int .i64 (L : Int)) (.int .i64 (L : Int))).run Try.prog w = .ok (.slice (some ⟨w.heap.size, 0, none⟩) L L) (w.alloc (.cells M 5)) ∧ BytesAt (w.alloc (.cells M 5)) w.heap.size (List.replicate L 0) := by
  obtain ⟨i0, hi, hz0, hz1, hz2⟩ := info_parts byte_info
  have h := run_make (P := Try.prog) w 87 5 i0 (.int .u8 0) Try.underlying87 hi hz0 .i64 .i64 (L : Int) (L : Int) (by omega) (by omega) (by rw [hz2]; omega) (by omega)
  rw [hz1, Int.toNat_natCast, Nat.mul_one] at h
  obtain ⟨M, hM⟩ : ∃ M, M = madeCells (Value.int .u8 0).cells L := ⟨_, rfl⟩
  rw [← hM] at h
  refine ⟨M, h, ?_⟩
  intro j hj
  rw [List.length_replicate] at hj
  have hrow := heap_alloc_new w (.cells M 5)
  refine ⟨?_, by unfold World.frozen?; simp only [hrow]; simp⟩
  rw [cell_of_row _ _ _ _ _ _ hrow, hM]
  rw [show (Value.int .u8 0).cells = #[Value.int .u8 0] from rfl, made_at _ _ _ hj]
  simp

set_option maxHeartbeats 1600000 in
set_option maxRecDepth 100000 in
theorem fixed_any (A : Option Addr) (n cp w : Nat) (l : List Int) (W : World) (hw : w ≤ 32) (hn : n ≤ 1000000) (hI : Ints W A n l) (h64 : I64 l) :
    Calls Try.prog 30 #[.int .i64 (w : Int), .slice A n cp] W fun e W' => e = .returned (.tuple #[.string (ofBytes (fixS w l)), .int .i64 (fixC w l)]) ∧ Below W.heap.size W W' := by
  have hlen := Lib.hid hI.1
  obtain ⟨p, hp⟩ : ∃ p, p = w * n := ⟨_, rfl⟩
  have hpl : p ≤ 32000000 := by
    rw [hp]
    calc w * n ≤ 32 * n := Nat.mul_le_mul_right _ hw
      _ ≤ 32000000 := by omega
  have HP := Lib.hid hp
  clear hp
  obtain ⟨L, hL⟩ : ∃ L, L = (p + 7) / 8 := ⟨_, rfl⟩
  have hLl : L ≤ 5000000 := by omega
  have HL := Lib.hid hL
  clear hL
  obtain ⟨M, hmk, hz⟩ := made_bytes W L (by omega)
  rw [← PackM.packed_zero] at hz
  have HZ := Lib.hid hz
  clear hz
  have hd1 : decide ((w : Int) < 0) = false := decide_eq_false (by omega)
  have hd2 : decide ((32 : Int) < (w : Int)) = false := decide_eq_false (by omega)
  go_enter Try.func30, Try.ntmps30
  go_wp2_with fail
  refine (packedSize_any w n p _ HP.out (by omega)).mono ?_
  rintro e W0 ⟨rfl, rfl⟩
  rw [← HL.out]
  go_wp2
  clear hmk
  have hg := Nat.le_refl W.heap.size
  obtain ⟨g, hgE⟩ : ∃ g, g = W.heap.size := ⟨_, rfl⟩
  go_loopw [7, 24] (fun at_ i wr => ∃ (k q : Nat), k ≤ n ∧ i = .int .i64 k ∧ q = k * w ∧ at_ = .int .i64 q ∧ fits w (l.take k) = true ∧ BytesAt wr W.heap.size (PackM.packed (PackM.allBits w ((l.take k).map Int.toNat)) L) ∧ Below W.heap.size W wr) (fun _ i _ => n - (intOf i).toNat)
  case atStart => exact ⟨0, 0, by omega, rfl, by omega, rfl, rfl, HZ.out, (Below.refl _ _).alloc (Nat.le_refl _) _⟩
  case round =>
    obtain ⟨k, q, hk, rfl, hq, rfl, hfit, hbytes, hb⟩ := hrel
    have HF := Lib.hid hfit
    have HB := Lib.hid hbytes
    clear hfit hbytes
    have hsz := hb.size
    by_cases hlt : k < n
    · have hkl : k < l.length := by rw [hlen.out]; exact hlt
      obtain ⟨b, o, rfl, hbl, _⟩ := hI.2 k hkl
      have c1 := hI.at_ hkl rfl hb
      have h6 := h64 l[k] (List.getElem_mem hkl)
      have htk := List.take_succ_eq_append_getElem hkl
      obtain ⟨x, hx⟩ : ∃ x, x = l[k] := ⟨_, rfl⟩
      rw [← hx] at c1 h6 htk
      have HT := Lib.hid htk
      have HX := Lib.hid hx
      clear hx htk
      have hd : decide ((k : Int) < (n : Int)) = true := decide_eq_true (by omega)
      by_cases hv : 0 ≤ x ∧ x < 2 ^ w
      · have hx0 : x / 2 ^ w = 0 := Int.ediv_eq_zero_of_lt hv.1 hv.2
        obtain ⟨v, rfl⟩ := Int.eq_ofNat_of_zero_le hv.1
        have hft : fits w (l.take (k + 1)) = true := by
          have := HF.out
          unfold fits at this ⊢
          rw [HT.out, List.all_append, this]
          simpa using hv
        have HFT := Lib.hid hft
        have HV := Lib.hid hv
        clear hft hv
        go_wp2
        clear hx0
        obtain ⟨B, hB⟩ : ∃ B, B = PackM.allBits w ((l.take k).map Int.toNat) := ⟨_, rfl⟩
        have hBl : B.length = q := by rw [hB, PackM.allBits_length, List.length_map, List.length_take, hq]; congr 1; omega
        have hBok : PackM.Bits B := by rw [hB]; exact PackM.allBits_ok _ _
        have hqp : q + w ≤ p := by
          have h1 : (k + 1) * w ≤ n * w := Nat.mul_le_mul_right _ hlt
          rw [Nat.succ_mul] at h1
          rw [HP.out, Nat.mul_comm w n, hq]; exact h1
        have HQ := Lib.hid hq
        have HBL := Lib.hid hBl
        rw [← hB] at HB
        have HBE := Lib.hid hB
        clear hq hBl hB
        go_loopw [7, 33] (fun at_ i wr2 => ∃ (j r : Nat), j ≤ w ∧ i = .int .i64 j ∧ r = q + j ∧ at_ = .int .i64 r ∧ BytesAt wr2 W.heap.size (PackM.packed (B ++ PackM.bitsN j v) L) ∧ Below W.heap.size W wr2) (fun _ i _ => w - (intOf i).toNat)
        case atStart => exact ⟨0, q, by omega, rfl, by omega, rfl, by simpa [PackM.bitsN] using HB.out, hb⟩
        case round =>
          clear hb
          obtain ⟨j, r, hj, rfl, hr, rfl, hby, hb2⟩ := hrel
          by_cases hjw : j < w
          · have hdj : decide ((j : Int) < (w : Int)) = true := decide_eq_true (by omega)
            have hB'l : (B ++ PackM.bitsN j v).length = r := by rw [List.length_append, HBL.out, PackM.bitsN_length, hr]
            obtain ⟨e8, he8⟩ : ∃ e8, e8 = r / 8 := ⟨_, rfl⟩
            obtain ⟨m8, hm8⟩ : ∃ m8, m8 = r % 8 := ⟨_, rfl⟩
            have he8L : e8 < L := by have := HL.out; omega
            obtain ⟨cc, cf⟩ := hby e8 (by rw [PackM.packed_length]; exact he8L)
            have hq1 : (r : Int) / 8 = (e8 : Int) := by omega
            have hq2 : (r : Int) % 8 = (m8 : Int) := by omega
            have hm8l : m8 < 8 := by omega
            obtain ⟨old, hold⟩ : ∃ old : Nat, old = ((PackM.packed (B ++ PackM.bitsN j v) L)[e8]'(by rw [PackM.packed_length]; exact he8L)).toNat := ⟨_, rfl⟩
            rw [← hold] at cc
            obtain ⟨y, hy⟩ : ∃ y : Nat, y = v / 2 ^ j := ⟨_, rfl⟩
            have hyI : (v : Int) / 2 ^ j = (y : Int) := by rw [hy]; simp
            have hyl : y < 9223372036854775808 := by rw [hy]; exact Nat.lt_of_le_of_lt (Nat.div_le_self _ _) (by omega)
            have hand := i64_and1 y hyl
            obtain ⟨bt, hbt⟩ : ∃ bt : Nat, bt = y % 2 := ⟨_, rfl⟩
            have hbt1 : bt ≤ 1 := by omega
            rw [← hbt] at hand
            have hor := or_bit (B ++ PackM.bitsN j v) (by intro z hz; rcases List.mem_append.1 hz with h | h; exact hBok z h; exact PackM.bitsN_ok _ _ z h) L e8 m8 old bt (by rw [hB'l, he8]) (by rw [hB'l, hm8]) he8L hold hbt1
            have hnew : PackM.packed (B ++ PackM.bitsN (j + 1) v) L = (PackM.packed (B ++ PackM.bitsN j v) L).set e8 (UInt8.ofNat (PackM.byt (B ++ PackM.bitsN j v) ((B ++ PackM.bitsN j v).length / 8) + bt * 2 ^ ((B ++ PackM.bitsN j v).length % 8))) := by
              rw [PackM.bitsN_succ, ← List.append_assoc, PackM.packed_snoc, hbt, hy, hB'l, he8]
            have hset := hby.set_ e8 (UInt8.ofNat (PackM.byt (B ++ PackM.bitsN j v) ((B ++ PackM.bitsN j v).length / 8) + bt * 2 ^ ((B ++ PackM.bitsN j v).length % 8)))
            rw [← hor, ← hnew] at hset
            have HSET := Lib.hid hset
            have HR := Lib.hid hr
            clear hset hor hnew hby hold hy hr he8 hm8 hB'l hbt
            go_wp2
            go_region
            all_goals go_wp2
            all_goals exact ⟨⟨j + 1, r + 1, by omega, by go_num, by rw [HR.out]; rfl, by go_num, HSET.out, (hb2.setCell (Nat.le_refl _) _).drew⟩, by simp [intOf]; omega⟩
          · have hdj : decide ((j : Int) < (w : Int)) = false := decide_eq_false (by omega)
            have hjE : j = w := by omega
            subst hjE
            have hall : B ++ PackM.bitsN j v = PackM.allBits j ((l.take (k + 1)).map Int.toNat) := by
              rw [HT.out, List.map_append, List.map_singleton, PackM.allBits_snoc, ← HBE.out, Int.toNat_natCast]
            have HA := Lib.hid hall
            have HBY := Lib.hid hby
            clear hall hby
            go_wp2
            go_roundw
            case rel => exact ⟨k + 1, r, by omega, by go_num, by rw [hr, HQ.out, Nat.succ_mul], rfl, HFT.out, by rw [← HA.out]; exact HBY.out, hb2⟩
            case measure => simp [intOf]; omega
      · obtain ⟨y, hy⟩ : ∃ y : Int, y = x / 2 ^ w := ⟨_, rfl⟩
        have hy0 : y ≠ 0 := by
          intro e
          apply hv
          rw [e] at hy
          have hpos : (0 : Int) < 2 ^ w := Int.pow_pos (by decide)
          have h1 := Int.emod_add_mul_ediv x (2 ^ w)
          rw [← hy, Int.mul_zero, Int.add_zero] at h1
          rw [← h1]
          exact ⟨Int.emod_nonneg _ (by omega), Int.emod_lt_of_pos _ hpos⟩
        have hyb : (y != 0) = true := by simpa using hy0
        have hf : fits w l = false := by
          unfold fits
          rw [List.all_eq_false]
          exact ⟨x, by rw [HX.out]; exact List.getElem_mem hkl, by simpa using hv⟩
        have hs : fixS w l = [] := by
          unfold fixS
          rw [if_neg (fun h => by have := h.2.2; rw [Int.toNat_natCast, hf] at this; cases this)]
        have hc : fixC w l = 1 := by
          unfold fixC
          rw [if_neg (fun h => by have := h.2.2; rw [Int.toNat_natCast, hf] at this; cases this)]
        have hyE := hy.symm
        have HS := Lib.hid hs
        have HC := Lib.hid hc
        clear hs hc hf hv hy
        go_wp2
        go_ret2
        exact ⟨by rw [HS.out, HC.out]; rfl, hb⟩
    · have hd : decide ((k : Int) < (n : Int)) = false := decide_eq_false (by omega)
      have hke : l.take k = l := List.take_of_length_le (by rw [hlen.out]; omega)
      have hf : fits w l = true := by have := HF.out; rwa [hke] at this
      have hs : fixS w l = PackM.packed (PackM.allBits w (l.map Int.toNat)) L := by
        unfold fixS
        rw [if_pos ⟨by omega, by omega, hf⟩, PackM.fixB, List.length_map, hlen.out, Int.toNat_natCast, ← HP.out, ← HL.out]
      have hc : fixC w l = 0 := by unfold fixC; rw [if_pos ⟨by omega, by omega, hf⟩]
      have hcv := conv_string wr W.heap.size L _ HB.out
      rw [hke, PackM.packed_length] at hcv
      have HS := Lib.hid hs
      have HC := Lib.hid hc
      clear hs hc hf hke
      go_wp2
      go_ret2
      exact ⟨by rw [HS.out, HC.out]; rfl, hb⟩
end Go.Proofs.Ytlcmdnmifmjjgaa

/- A packed row, written by the document; what is out of its range. -/
namespace Go.Proofs.Ytlcmdnmifmjjgaa
open Go.RowKit

theorem fixed_range (w : Int) (A : Option Addr) (n cp : Nat) (l : List Int) (W : World) (hw : ¬ (0 ≤ w ∧ w ≤ 32)) :
    Calls Try.prog 30 #[.int .i64 w, .slice A n cp] W fun e W' => e = .returned (.tuple #[.string (ofBytes (fixS w l)), .int .i64 (fixC w l)]) ∧ Below W.heap.size W W' := by
  have hs : fixS w l = [] := by unfold fixS; rw [if_neg (fun h => hw ⟨h.1, h.2.1⟩)]
  have hc : fixC w l = 1 := by unfold fixC; rw [if_neg (fun h => hw ⟨h.1, h.2.1⟩)]
  have HS := Lib.hid hs
  have HC := Lib.hid hc
  clear hs hc
  by_cases h0 : w < 0
  · have hd1 : decide (w < 0) = true := decide_eq_true h0
    go_enter Try.func30, Try.ntmps30
    go_wp2
    go_ret2
    exact ⟨by rw [HS.out, HC.out]; rfl, Below.refl _ _⟩
  · have hd1 : decide (w < 0) = false := decide_eq_false h0
    have hd2 : decide ((32 : Int) < w) = true := decide_eq_true (by omega)
    go_enter Try.func30, Try.ntmps30
    go_wp2
    go_ret2
    exact ⟨by rw [HS.out, HC.out]; rfl, Below.refl _ _⟩
theorem reffixed_range (w : Int) (A : Option Addr) (n cp : Nat) (l : List Int) (W : World) (hw : ¬ (0 ≤ w ∧ w ≤ 32)) :
    Calls Try.prog 33 #[.int .i64 w, .slice A n cp] W fun e W' => e = .returned (.tuple #[.string (ofBytes (fixS w l)), .int .i64 (fixC w l)]) ∧ Below W.heap.size W W' := by
  have hs : fixS w l = [] := by unfold fixS; rw [if_neg (fun h => hw ⟨h.1, h.2.1⟩)]
  have hc : fixC w l = 1 := by unfold fixC; rw [if_neg (fun h => hw ⟨h.1, h.2.1⟩)]
  have HS := Lib.hid hs
  have HC := Lib.hid hc
  clear hs hc
  by_cases h0 : w < 0
  · have hd1 : decide (w < 0) = true := decide_eq_true h0
    go_enter Try.func33, Try.ntmps33
    go_wp2
    go_ret2
    exact ⟨by rw [HS.out, HC.out]; rfl, Below.refl _ _⟩
  · have hd1 : decide (w < 0) = false := decide_eq_false h0
    have hd2 : decide ((32 : Int) < w) = true := decide_eq_true (by omega)
    go_enter Try.func33, Try.ntmps33
    go_wp2
    go_ret2
    exact ⟨by rw [HS.out, HC.out]; rfl, Below.refl _ _⟩

/-- one's own row of numbers -/
def IntRow (w : World) (base : Nat) (v : Value) (l : List Int) : Prop := w.ownsRow base 3 1 v l.length (l.map (Value.int .i64))
theorem IntRow.nil_ (w : World) (base : Nat) : IntRow w base (.slice none 0 0) [] := World.ownsRow_nil _ _ _ _
theorem IntRow.later {w w' : World} {base : Nat} {v : Value} {l : List Int} (h : IntRow w base v l) (hb : Below w.heap.size w w') : IntRow w' base v l := by
  refine ⟨h.1, ?_⟩
  rcases h.2 with hn | ⟨g, cap, cur, rfl, hbg, hgg, rest⟩
  · exact .inl hn
  · exact .inr ⟨g, cap, cur, rfl, hbg, (hb.block g (World.ownsRow.lt h g rfl).2).trans hgg, rest⟩
theorem IntRow.ints {w : World} {base : Nat} {v : Value} {l : List Int} (h : IntRow w base v l) : ∃ A cp, v = .slice A l.length cp ∧ Ints w A l.length l := by
  rcases h.2 with ⟨rfl, hn⟩ | ⟨g, cap, cur, rfl, hbg, hgg, rest⟩
  · have hl0 : l = [] := List.eq_nil_of_length_eq_zero hn
    subst hl0
    exact ⟨none, 0, rfl, rfl, fun k hk => by simp at hk⟩
  · refine ⟨some ⟨g, 0, none⟩, cap, rfl, rfl, fun k hk => ⟨g, 0, rfl, (Array.getElem?_eq_some_iff.1 hgg).1, ?_⟩⟩
    have := World.ownsRow.cells h (g := g) rfl k (.int .i64 l[k]) (by simp [hk])
    rw [add_none] at this
    exact this

/-- append of one number onto one's own row -/
theorem wpList_append_int {w : World} {ops : Array Oper} {rest : List Oper} {o : Oper} {a : Act} {Q : Exit → Act → World → Prop} (hgd : o.guard = none) (s x : Operand)
    (ho : o.op = .call { callee := .builtin .append, args := #[s, x], argTypes := #[60, 60] })
    (base : Nat) (v : Value) (l : List Int) (hs : a.eval s = v) (hown : IntRow w base v l)
    (g c : Nat) (b : Int) (hx : a.eval x = .slice (some ⟨g, 0, none⟩) 1 c) (hc : w.cell? ⟨g, 0, none⟩ = some (.int .i64 b)) (hbase : base ≤ w.heap.size) (hn : l.length ≤ 1000000000)
    (h : ∀ v' w', IntRow w' base v' (l ++ [b]) → Below base w w' → wpList Try.prog ops Q rest (a.put o.dst v') w') : wpList Try.prog ops Q (o :: rest) a w := by
  obtain ⟨i0, hi, hz0, hz1, hz2⟩ := info_parts int_info
  refine wpList_append_own w hgd s x 60 ho base 3 i0 _ 1 8 Try.underlying60 hi hz0 hz1 hz2 rfl (by omega) _ _ _ hs hown ⟨g, 0, none⟩ 1 c [.int .i64 b] hx rfl (fun j u hu => ?_) (fun u hu => ?_) (by simp [maxLen]; omega) (by omega) hbase ?_
  · match j, hu with
    | 0, hu => simp at hu; subst hu; rw [add_none]; exact hc
  · simp at hu; subst hu; rfl
  · intro v' w' hown' hg' hiff
    have hb : Below base w w' := (Below.refl _ _).grown hg' hbase (fun k hk => (World.ownsRow.lt hown k hk).1)
    refine h v' w' ?_ hb
    unfold IntRow
    rw [List.length_append, List.map_append]
    exact hown'

/-- a byte of one's own row, turned -/
theorem ByteRow.set_ {w : World} {base g n cap : Nat} {l : List UInt8} (h : ByteRow w base (.slice (some ⟨g, 0, none⟩) n cap) l) (i : Nat) (x : UInt8) : ByteRow (w.setCell ⟨g, i, none⟩ (byteV x)) base (.slice (some ⟨g, 0, none⟩) n cap) (l.set i x) := by
  refine ⟨by simp, .inr ?_⟩
  rcases h.2 with ⟨e, _⟩ | ⟨g', cap', cur, e, hbg, hgg, h1, h2, h3, h4⟩
  · cases e
  · injection e with e1 e2 e3
    injection e1 with e1
    injection e1 with e1
    subst e1; subst e2; subst e3
    refine ⟨g, cap, cur.setIfInBounds i (byteV x), by simp, hbg, heap_setCell_row hgg i _, by simpa using h1, h2, by simpa using h3, ?_⟩
    rw [Array.toList_setIfInBounds, List.take_set]
    simp only [List.length_set]
    rw [h4, List.map_set]
theorem ByteRow.slice {w : World} {base : Nat} {v : Value} {l : List UInt8} (h : ByteRow w base v l) (hne : 0 < l.length) : ∃ g cap, v = .slice (some ⟨g, 0, none⟩) l.length cap ∧ base ≤ g ∧ ∀ j (hj : j < l.length), w.cell? ⟨g, j, none⟩ = some (.int .u8 (l[j].toNat : Int)) ∧ w.frozen? ⟨g, j, none⟩ = false := by
  rcases h.2 with ⟨rfl, hn⟩ | ⟨g, cap, cur, rfl, hbg, hgg, rest⟩
  · omega
  · refine ⟨g, cap, rfl, hbg, fun j hj => ⟨?_, by unfold World.frozen?; simp only [hgg]; simp⟩⟩
    have := World.ownsRow.cells h (g := g) rfl j (byteV l[j]) (by simp [hj])
    rw [add_none, Nat.zero_add] at this
    exact this
end Go.Proofs.Ytlcmdnmifmjjgaa

/- A packed row, written by the document: the walk. -/
namespace Go.Proofs.Ytlcmdnmifmjjgaa
open Go.RowKit

def toI (l : List Nat) : List Int := l.map Int.ofNat
theorem toI_length (l : List Nat) : (toI l).length = l.length := by simp [toI]
theorem toI_snoc (l : List Nat) (x : Nat) : toI (l ++ [x]) = toI l ++ [(x : Int)] := by simp [toI]

/-- the byte behind one bit more, by '+' -/
theorem add_bit (B : List Nat) (hB : PackM.Bits B) (bt : Nat) (hbt : bt ≤ 1) : PackM.byt B (B.length / 8) + bt * 2 ^ (B.length % 8) < 256 ∧ bt * 2 ^ (B.length % 8) < 256 := by
  have hB2 : PackM.Bits (B ++ [bt]) := by
    intro x hx
    rcases List.mem_append.1 hx with h | h
    · exact hB x h
    · simp at h; omega
  have h2 := PackM.byt_lt hB2 (B.length / 8)
  rw [PackM.byt_snoc, if_pos rfl] at h2
  omega

theorem take_bits {B : List Nat} (h : PackM.Bits B) (q : Nat) : PackM.Bits (B.take q) := fun x hx => h x (List.mem_of_mem_take hx)

set_option maxHeartbeats 1600000 in
set_option maxRecDepth 100000 in
theorem reffixed_any (A : Option Addr) (n cp w : Nat) (l : List Int) (W : World) (hw : w ≤ 32) (hn : n ≤ 1000000) (hI : Ints W A n l) (h64 : I64 l) :
    Calls Try.prog 33 #[.int .i64 (w : Int), .slice A n cp] W fun e W' => e = .returned (.tuple #[.string (ofBytes (fixS w l)), .int .i64 (fixC w l)]) ∧ Below W.heap.size W W' := by
  have hlen := Lib.hid hI.1
  have hd1 : decide ((w : Int) < 0) = false := decide_eq_false (by omega)
  have hd2 : decide ((32 : Int) < (w : Int)) = false := decide_eq_false (by omega)
  go_enter Try.func33, Try.ntmps33
  go_wp2
  go_loopw [6, 7] (fun bits i wr => ∃ (k : Nat), k ≤ n ∧ i = .int .i64 k ∧ fits w (l.take k) = true ∧ IntRow wr W.heap.size bits (toI (PackM.allBits w ((l.take k).map Int.toNat))) ∧ Below W.heap.size W wr) (fun _ i _ => n - (intOf i).toNat)
  case atStart => exact ⟨0, by omega, rfl, rfl, IntRow.nil_ _ _, Below.refl _ _⟩
  case round =>
    obtain ⟨k, hk, rfl, hfit, hrow, hb⟩ := hrel
    have HF := Lib.hid hfit
    clear hfit
    have hsz := hb.size
    obtain ⟨B, hB⟩ : ∃ B, B = PackM.allBits w ((l.take k).map Int.toNat) := ⟨_, rfl⟩
    have hBl : B.length = k * w := by rw [hB, PackM.allBits_length, List.length_map, List.length_take, hlen.out]; congr 1; omega
    have hBok : PackM.Bits B := by rw [hB]; exact PackM.allBits_ok _ _
    have hBm : B.length ≤ 32000000 := by
      rw [hBl]
      calc k * w ≤ k * 32 := Nat.mul_le_mul_left _ hw
        _ ≤ 32000000 := by omega
    rw [← hB] at hrow
    have HBE := Lib.hid hB
    clear hB hBl
    by_cases hlt : k < n
    · have hkl : k < l.length := by rw [hlen.out]; exact hlt
      obtain ⟨b, o, rfl, hbl, _⟩ := hI.2 k hkl
      have c1 := hI.at_ hkl rfl hb
      have h6 := h64 l[k] (List.getElem_mem hkl)
      have htk := List.take_succ_eq_append_getElem hkl
      obtain ⟨x, hx⟩ : ∃ x, x = l[k] := ⟨_, rfl⟩
      rw [← hx] at c1 h6 htk
      have HT := Lib.hid htk
      have HX := Lib.hid hx
      clear hx htk
      have hd : decide ((k : Int) < (n : Int)) = true := decide_eq_true (by omega)
      have bad : ¬ (0 ≤ x ∧ x < 2 ^ w) → fixS w l = [] ∧ fixC w l = 1 := by
        intro hv
        have hf : fits w l = false := by
          unfold fits
          rw [List.all_eq_false]
          exact ⟨x, by rw [HX.out]; exact List.getElem_mem hkl, by simpa using hv⟩
        constructor
        · unfold fixS
          rw [if_neg (fun h => by have := h.2.2; rw [Int.toNat_natCast, hf] at this; cases this)]
        · unfold fixC
          rw [if_neg (fun h => by have := h.2.2; rw [Int.toNat_natCast, hf] at this; cases this)]
      have HBAD := Lib.hid bad
      clear bad
      by_cases hneg : x < 0
      · have hd3 : decide (x < 0) = true := decide_eq_true hneg
        go_wp2
        go_ret2
        have hbad := HBAD.out (by omega)
        exact ⟨by rw [hbad.1, hbad.2]; rfl, hb⟩
      · have hd3 : decide (x < 0) = false := decide_eq_false hneg
        obtain ⟨v, rfl⟩ := Int.eq_ofNat_of_zero_le (Int.not_lt.1 hneg)
        have hvl : v < 9223372036854775808 := by omega
        go_wp2
        go_loopw [6, 8, 9] (fun bits x i wr2 => ∃ (j y : Nat), j ≤ w ∧ i = .int .i64 j ∧ y = v / 2 ^ j ∧ y < 9223372036854775808 ∧ x = .int .i64 y ∧ IntRow wr2 W.heap.size bits (toI (B ++ PackM.bitsN j v)) ∧ Below W.heap.size W wr2) (fun _ _ i _ => w - (intOf i).toNat)
        case atStart => exact ⟨0, v, by omega, rfl, by simp, hvl, rfl, by simpa [PackM.bitsN] using hrow, hb⟩
        case round =>
          clear hrow hb hsz
          obtain ⟨j, y, hj, rfl, hy, hyl, rfl, hrow, hb⟩ := hrel
          have hsz := hb.size
          by_cases hjw : j < w
          · have hdj : decide ((j : Int) < (w : Int)) = true := decide_eq_true (by omega)
            have hll : (toI (B ++ PackM.bitsN j v)).length ≤ 1000000000 := by rw [toI_length, List.length_append, PackM.bitsN_length]; omega
            have hnew : toI (B ++ PackM.bitsN (j + 1) v) = toI (B ++ PackM.bitsN j v) ++ [((y % 2 : Nat) : Int)] := by rw [PackM.bitsN_succ, ← List.append_assoc, toI_snoc, hy]
            have HNEW := Lib.hid hnew
            have hy2 : y / 2 = v / 2 ^ (j + 1) := by rw [hy, Nat.div_div_eq_div_mul, ← Nat.pow_succ]
            have HY2 := Lib.hid hy2
            clear hnew hy2 hy
            go_wp2_with (at_builtin; refine wpList_append_int rfl _ _ rfl W.heap.size _ (toI (B ++ PackM.bitsN j v)) rfl (World.ownsRow.alloc hrow _) wr.heap.size _ ((y : Int) % 2) rfl (by simp) (by simp; omega) hll ?_; intro v' w1 hown' hb1)
            go_wp2
            go_roundw
            case rel => exact ⟨j + 1, y / 2, by omega, by go_num, HY2.out, by omega, by go_num, by rw [HNEW.out]; exact hown', (hb.alloc hsz _).trans hb1⟩
            case measure => simp [intOf]; omega
          · have hdj : decide ((j : Int) < (w : Int)) = false := decide_eq_false (by omega)
            have hjE : j = w := by omega
            subst hjE
            by_cases hv : v < 2 ^ j
            · have hy0 : y = 0 := by rw [hy]; exact Nat.div_eq_of_lt hv
              subst hy0
              have hft : fits j (l.take (k + 1)) = true := by
                have := HF.out
                unfold fits at this ⊢
                rw [HT.out, List.all_append, this]
                have h2 : ((v : Int) < 2 ^ j) := by exact_mod_cast hv
                simpa using h2
              have hall : B ++ PackM.bitsN j v = PackM.allBits j ((l.take (k + 1)).map Int.toNat) := by
                rw [HT.out, List.map_append, List.map_singleton, PackM.allBits_snoc, ← HBE.out, Int.toNat_natCast]
              have HA := Lib.hid hall
              have HFT := Lib.hid hft
              clear hall hft hy hv
              go_wp2
              go_roundw
              case rel => exact ⟨k + 1, by omega, by go_num, HFT.out, by rw [← HA.out]; exact hrow, hb⟩
              case measure => simp [intOf]; omega
            · have hy0 : y ≠ 0 := by
                rw [hy]
                intro e
                rcases Nat.div_eq_zero_iff.1 e with h | h
                · have := Nat.two_pow_pos j; omega
                · exact hv h
              have hyb : (((y : Nat) : Int) != 0) = true := by simpa using hy0
              have hbad := HBAD.out (fun h => hv (by exact_mod_cast h.2))
              have HB2 := Lib.hid hbad
              clear hbad hy hv hy0
              go_wp2
              go_ret2
              exact ⟨by rw [HB2.out.1, HB2.out.2]; rfl, hb⟩
    · have hd : decide ((k : Int) < (n : Int)) = false := decide_eq_false (by omega)
      have hke : l.take k = l := List.take_of_length_le (by rw [hlen.out]; omega)
      have hf : fits w l = true := by have := HF.out; rwa [hke] at this
      have hBE : B = PackM.allBits w (l.map Int.toNat) := by rw [HBE.out, hke]
      have hs : fixS w l = PackM.packed B ((B.length + 7) / 8) := by
        unfold fixS
        rw [if_pos ⟨by omega, by omega, hf⟩, PackM.fixB, Int.toNat_natCast, ← hBE, hBE, PackM.allBits_length, Nat.mul_comm]
      have hc : fixC w l = 0 := by unfold fixC; rw [if_pos ⟨by omega, by omega, hf⟩]
      have HS := Lib.hid hs
      have HC := Lib.hid hc
      clear hs hc hf hke hBE HF HBE
      obtain ⟨A6, c6, rfl, hI6⟩ := hrow.ints
      rw [toI_length] at hI6 ⊢
      obtain ⟨N, hN⟩ : ∃ N, N = B.length := ⟨_, rfl⟩
      rw [← hN] at hI6 hBm ⊢
      have HN := Lib.hid hN
      clear hrow hN
      go_wp2
      go_loopw [10, 11] (fun bv i wr3 => ∃ (q : Nat), q ≤ N ∧ i = .int .i64 q ∧ ByteRow wr3 wr.heap.size bv (PackM.packed (B.take q) ((q + 7) / 8)) ∧ Below wr.heap.size wr wr3) (fun _ i _ => N - (intOf i).toNat)
      case atStart => exact ⟨0, by omega, rfl, ByteRow.nil_ _ _, Below.refl _ _⟩
      case round =>
        obtain ⟨q, hq, rfl, hrow, hb3⟩ := hrel
        have hsz3 := hb3.size
        by_cases hlt3 : q < N
        · have hdq : decide ((q : Int) < (N : Int)) = true := decide_eq_true (by omega)
          have hqB : q < B.length := by rw [← HN.out]; exact hlt3
          have hqT : q < (toI B).length := by rw [toI_length]; exact hqB
          obtain ⟨b6, o6, rfl, hb6, _⟩ := hI6.2 q hqT
          obtain ⟨bt, hbt⟩ : ∃ bt : Nat, bt = B[q] := ⟨_, rfl⟩
          have hbt1 : bt ≤ 1 := by rw [hbt]; exact hBok _ (List.getElem_mem hqB)
          have hbI : (toI B)[q] = (bt : Int) := by rw [hbt]; simp [toI]
          have HBI := Lib.hid hbI
          have htk := List.take_succ_eq_append_getElem hqB
          rw [← hbt] at htk
          have HTK := Lib.hid htk
          have htq : (B.take q).length = q := by rw [List.length_take]; omega
          clear hbI hbt htk
          by_cases hq8 : q % 8 = 0
          · have hgr := PackM.packed_grow (B := B.take q) (by rw [htq]; exact hq8)
            rw [htq] at hgr
            rw [show (q + 7) / 8 = q / 8 from by omega] at hrow
            have hq8b : ((q : Int) % 8 == 0) = true := beq_iff_eq.2 (by omega)
            have hlen8 : (PackM.packed (B.take q) (q / 8)).length ≤ 1000000000 := by rw [PackM.packed_length]; omega
            go_wp2_with (at_builtin; refine wpList_append_byte rfl _ _ rfl _ _ (PackM.packed (B.take q) (q / 8)) rfl (World.ownsRow.alloc hrow _) _ _ 0 rfl (by simp [byteV]) (by simp; omega) hlen8 ?_; intro v' w1 hown' hb1 hne)
            clear hq8b
            rw [← hgr] at hown'
            clear hgr
            obtain ⟨g8, cap8, rfl, hg8, hcells⟩ := hown'.slice (by rw [PackM.packed_length]; omega)
            have hrow' := hown'
            clear hown'
            have hb4 := (hb3.alloc hsz3 _).trans hb1
            have c6 := hI6.at_ hqT rfl hb4
            rw [HBI.out] at c6
            clear hb3 hrow hb1 hlen8
            obtain ⟨cc, cf⟩ := hcells (q / 8) (by rw [PackM.packed_length]; omega)
            obtain ⟨old, hold⟩ : ∃ old : Nat, old = ((PackM.packed (B.take q) (q / 8 + 1))[q / 8]'(by rw [PackM.packed_length]; omega)).toNat := ⟨_, rfl⟩
            rw [← hold] at cc
            have holdE : old = PackM.byt (B.take q) (q / 8) := by
              rw [hold]
              simp only [PackM.packed, List.getElem_map, List.getElem_range]
              rw [PackM.toNat_of _ (PackM.byt_lt (take_bits hBok q) _)]
            have hsum := add_bit (B.take q) (take_bits hBok q) bt hbt1
            rw [htq, ← holdE] at hsum
            have hset := hrow'.set_ (q / 8) (UInt8.ofNat (PackM.byt (B.take q) (q / 8) + bt * 2 ^ (q % 8)))
            have hnew : (PackM.packed (B.take q) (q / 8 + 1)).set (q / 8) (UInt8.ofNat (PackM.byt (B.take q) (q / 8) + bt * 2 ^ (q % 8))) = PackM.packed (B.take (q + 1)) ((q + 1 + 7) / 8) := by
              rw [HTK.out, show (q + 1 + 7) / 8 = q / 8 + 1 from by omega, PackM.packed_snoc, htq]
            rw [hnew, ← holdE] at hset
            obtain ⟨e8, he8⟩ : ∃ e8, e8 = q / 8 := ⟨_, rfl⟩
            obtain ⟨m8, hm8⟩ : ∃ m8, m8 = q % 8 := ⟨_, rfl⟩
            have hq1 : (q : Int) / 8 = (e8 : Int) := by omega
            have hq2 : (q : Int) % 8 = (m8 : Int) := by omega
            rw [← he8] at hset cc cf
            rw [← hm8] at hset hsum
            obtain ⟨sh, hsh⟩ : ∃ sh : Nat, sh = bt * 2 ^ m8 := ⟨_, rfl⟩
            rw [← hsh] at hset hsum
            have hshI : (bt : Int) * 2 ^ m8 = (sh : Int) := by rw [hsh]; simp
            have hm8l : m8 < 8 := by omega
            have hnv : byteV (UInt8.ofNat (old + sh)) = .int .u8 ((old : Int) + (sh : Int)) := by unfold byteV; rw [PackM.toNat_of _ hsum.1]; simp
            rw [hnv] at hset
            have hs1 := hsum.1
            have hs2 := hsum.2
            rw [PackM.packed_length] at hset ⊢
            rw [← he8]
            have HSET := Lib.hid hset
            clear hset hnew hnv hsum hold holdE hsh he8 hm8 hcells hrow'
            go_wp2
            go_region
            all_goals go_wp2
            all_goals exact ⟨⟨q + 1, by omega, by go_num, HSET.out, (hb4.setCell hg8 _).drew⟩, by simp [intOf]; omega⟩
          · have hq8b : ((q : Int) % 8 == 0) = false := beq_eq_false_iff_ne.2 (by omega)
            rw [show (q + 7) / 8 = q / 8 + 1 from by omega] at hrow
            obtain ⟨g8, cap8, rfl, hg8, hcells⟩ := hrow.slice (by rw [PackM.packed_length]; omega)
            have hrow' := hrow
            have hb4 := hb3
            have c6 := hI6.at_ hqT rfl hb4
            rw [HBI.out] at c6
            clear hb3 hrow
            obtain ⟨cc, cf⟩ := hcells (q / 8) (by rw [PackM.packed_length]; omega)
            obtain ⟨old, hold⟩ : ∃ old : Nat, old = ((PackM.packed (B.take q) (q / 8 + 1))[q / 8]'(by rw [PackM.packed_length]; omega)).toNat := ⟨_, rfl⟩
            rw [← hold] at cc
            have holdE : old = PackM.byt (B.take q) (q / 8) := by
              rw [hold]
              simp only [PackM.packed, List.getElem_map, List.getElem_range]
              rw [PackM.toNat_of _ (PackM.byt_lt (take_bits hBok q) _)]
            have hsum := add_bit (B.take q) (take_bits hBok q) bt hbt1
            rw [htq, ← holdE] at hsum
            have hset := hrow'.set_ (q / 8) (UInt8.ofNat (PackM.byt (B.take q) (q / 8) + bt * 2 ^ (q % 8)))
            have hnew : (PackM.packed (B.take q) (q / 8 + 1)).set (q / 8) (UInt8.ofNat (PackM.byt (B.take q) (q / 8) + bt * 2 ^ (q % 8))) = PackM.packed (B.take (q + 1)) ((q + 1 + 7) / 8) := by
              rw [HTK.out, show (q + 1 + 7) / 8 = q / 8 + 1 from by omega, PackM.packed_snoc, htq]
            rw [hnew, ← holdE] at hset
            obtain ⟨e8, he8⟩ : ∃ e8, e8 = q / 8 := ⟨_, rfl⟩
            obtain ⟨m8, hm8⟩ : ∃ m8, m8 = q % 8 := ⟨_, rfl⟩
            have hq1 : (q : Int) / 8 = (e8 : Int) := by omega
            have hq2 : (q : Int) % 8 = (m8 : Int) := by omega
            rw [← he8] at hset cc cf
            rw [← hm8] at hset hsum
            obtain ⟨sh, hsh⟩ : ∃ sh : Nat, sh = bt * 2 ^ m8 := ⟨_, rfl⟩
            rw [← hsh] at hset hsum
            have hshI : (bt : Int) * 2 ^ m8 = (sh : Int) := by rw [hsh]; simp
            have hm8l : m8 < 8 := by omega
            have hnv : byteV (UInt8.ofNat (old + sh)) = .int .u8 ((old : Int) + (sh : Int)) := by unfold byteV; rw [PackM.toNat_of _ hsum.1]; simp
            rw [hnv] at hset
            have hs1 := hsum.1
            have hs2 := hsum.2
            rw [PackM.packed_length] at hset ⊢
            rw [← he8]
            have HSET := Lib.hid hset
            clear hset hnew hnv hsum hold holdE hsh he8 hm8 hcells hrow'
            go_wp2
            go_region
            all_goals go_wp2
            all_goals exact ⟨⟨q + 1, by omega, by go_num, HSET.out, (hb4.setCell hg8 _).drew⟩, by simp [intOf]; omega⟩
        · have hdq : decide ((q : Int) < (N : Int)) = false := decide_eq_false (by omega)
          have hqe : q = B.length := by rw [← HN.out]; omega
          have hcv := hrow.conv
          have hall : PackM.packed (B.take q) ((q + 7) / 8) = PackM.packed B ((B.length + 7) / 8) := by rw [hqe, List.take_of_length_le (Nat.le_refl _)]
          rw [hall] at hcv
          clear hall hrow hqe
          go_wp2
          go_ret2
          exact ⟨by rw [HS.out, HC.out]; rfl, hb.trans (hb3.mono hsz)⟩
end Go.Proofs.Ytlcmdnmifmjjgaa

/- The program's reader: its block, fail, New, Left, Bad, number. -/
namespace Go.Proofs.Ytlcmdnmifmjjgaa
open Go.RowKit

/-- the reader at block b: what is left, is it bad -/
def RD (w : World) (b : Nat) (s : List UInt8) (bad : Bool) : Prop := w.heap[b]? = some (.cells #[.string (ofBytes s), .bool bad] 98 (0, 0))
section
variable {w : World} {b : Nat} {s : List UInt8} {bad : Bool}
theorem RD.lt (h : RD w b s bad) : b < w.heap.size := (Array.getElem?_eq_some_iff.1 h).1
theorem RD.c0 (h : RD w b s bad) : w.cell? ⟨b, 0, none⟩ = some (.string (ofBytes s)) := cell_of_row w b 0 _ _ (0, 0) h
theorem RD.c1 (h : RD w b s bad) : w.cell? ⟨b, 1, none⟩ = some (.bool bad) := cell_of_row w b 1 _ _ (0, 0) h
theorem RD.free (h : RD w b s bad) (i : Nat) : w.frozen? ⟨b, i, none⟩ = false := by
  unfold RD at h
  simp [World.frozen?, h]
theorem RD.set0 (h : RD w b s bad) (s' : List UInt8) : RD (w.setCell ⟨b, 0, none⟩ (.string (ofBytes s'))) b s' bad := by
  unfold RD; rw [heap_setCell_row h]; rfl
theorem RD.set1 (h : RD w b s bad) (x : Bool) : RD (w.setCell ⟨b, 1, none⟩ (.bool x)) b s x := by
  unfold RD; rw [heap_setCell_row h]; rfl
theorem RD.kept {w' : World} (h : RD w b s bad) (hb : w'.heap[b]? = w.heap[b]?) : RD w' b s bad := hb.trans h
theorem RD.alloc (h : RD w b s bad) (o : Obj) : RD (w.alloc o) b s bad := (Below.heap_alloc w o b h.lt).trans h
theorem RD.later {w' : World} (h : RD w b s bad) (hb : Below w.heap.size w w') : RD w' b s bad := (hb.block b h.lt).trans h
theorem RD.drew (h : RD w b s bad) : RD w.drew b s bad := h
end
theorem only_below {a w w' : World} {b : Nat} (h : a.grownBy w (some b)) (hb : Below w.heap.size w w') : a.grownBy w' (some b) :=
  ⟨hb.os.trans h.os, hb.tape.trans h.tape, hb.output.trans h.output, Nat.le_trans h.size hb.size, fun i hi hne => (hb.block i (Nat.lt_of_lt_of_le hi h.size)).trans (h.block i hi hne)⟩

set_option maxHeartbeats 400000 in
theorem rfail_any (w : World) (b : Nat) (s : List UInt8) (bad : Bool) (h : RD w b s bad) :
    Calls Try.prog 61 #[.pointer (some ⟨b, 0, none⟩)] w fun e w' => e = .returned (.tuple #[]) ∧ RD w' b [] true ∧ w.grownBy w' (some b) := by
  have c0 := h.c0
  have f0 := h.free 0
  have h1 : RD (w.setCell ⟨b, 0, none⟩ (.string ⟨#[]⟩)) b [] bad := h.set0 []
  have c1 := h1.c1
  have f1 := h1.free 1
  go_enter Try.func61, Try.ntmps61
  go_wp2
  go_end0
  exact ⟨rfl, h1.set1 true, only_set (only_set (World.grownBy.refl w _) _ _) _ _⟩

set_option maxHeartbeats 400000 in
theorem rleft_any (w : World) (b : Nat) (s : List UInt8) (bad : Bool) (h : RD w b s bad) :
    Calls Try.prog 52 #[.pointer (some ⟨b, 0, none⟩)] w fun e w' => e = .returned (.int .i64 (s.length : Nat)) ∧ w = w' := by
  have c0 := h.c0
  have hs : (ofBytes s).size = s.length := size_ofBytes s
  go_enter Try.func52, Try.ntmps52
  go_wp2
  go_ret
  exact ⟨rfl, rfl⟩
set_option maxHeartbeats 400000 in
theorem rbad_any (w : World) (b : Nat) (s : List UInt8) (bad : Bool) (h : RD w b s bad) :
    Calls Try.prog 51 #[.pointer (some ⟨b, 0, none⟩)] w fun e w' => e = .returned (.bool bad) ∧ w = w' := by
  have c1 := h.c1
  go_enter Try.func51, Try.ntmps51
  go_wp2
  go_ret
  exact ⟨rfl, rfl⟩

set_option maxHeartbeats 400000 in
theorem rnew_any (w : World) (s : List UInt8) (hs : s.length ≤ 100000000) :
    Calls Try.prog 37 #[.string (ofBytes s)] w fun e w' => ∃ b, e = .returned (.pointer (some ⟨b, 0, none⟩)) ∧ w.heap.size ≤ b ∧ RD w' b s false ∧ Below w.heap.size w w' := by
  have hz : (ofBytes s).size ≤ 100000000 := by rw [size_ofBytes]; exact hs
  go_enter Try.func37, Try.ntmps37
  go_wp2_with fail
  refine (clone_any _ _ hz).mono ?_
  rintro e w1 ⟨rfl, hb⟩
  go_wp2
  go_ret
  exact ⟨_, rfl, hb.size, heap_alloc_new w1 _, hb.alloc hb.size _⟩

def nV (most : Nat) (s : List UInt8) : Nat := match PackM.num most 0 0 s with | none => 0 | some x => x.1
def nS (most : Nat) (s : List UInt8) : List UInt8 := match PackM.num most 0 0 s with | none => [] | some x => x.2
def nB (most : Nat) (s : List UInt8) (bad : Bool) : Bool := match PackM.num most 0 0 s with | none => true | some _ => bad

theorem and127u8 (u : Nat) (h : u < 256) : bits .and .u8 (u : Int) 127 = ((u % 128 : Nat) : Int) := by
  have := u8_and_nat u 127 h (by decide)
  have e : u &&& 127 = u % 128 := Nat.and_two_pow_sub_one_eq_mod u 7
  rw [e] at this
  exact this
theorem and128u8 (u : Nat) (h : u < 256) : bits .and .u8 (u : Int) 128 = ((if 128 ≤ u then 128 else 0 : Nat) : Int) := by
  have := u8_and_nat u 128 h (by decide)
  have e : u &&& 128 = if 128 ≤ u then 128 else 0 := by
    have h2 : ∀ x : Fin 256, x.val &&& 128 = if 128 ≤ x.val then 128 else 0 := by decide +kernel
    exact h2 ⟨u, h⟩
  rw [e] at this
  exact this

theorem shr_min (x t : Nat) (hx : x < 18446744073709551616) : (x : Int) / 2 ^ min t 64 = ((x / 2 ^ t : Nat) : Int) := by
  by_cases ht : t ≤ 64
  · rw [Nat.min_eq_left ht]; simp
  · rw [Nat.min_eq_right (by omega)]
    have h0 : x / 2 ^ t = 0 := Nat.div_eq_of_lt (Nat.lt_of_lt_of_le hx (by
      calc 18446744073709551616 = 2 ^ 64 := by decide
        _ ≤ 2 ^ t := Nat.pow_le_pow_right (by decide) (by omega)))
    rw [h0]
    omega
theorem shl_min (x t y : Nat) (hy : y = x * 2 ^ t) (hyl : y < 18446744073709551616) : (x : Int) * 2 ^ min t 64 = (y : Int) := by
  by_cases ht : t ≤ 64
  · rw [Nat.min_eq_left ht, hy]; simp
  · have hp : 18446744073709551616 ≤ 2 ^ t := by
      calc 18446744073709551616 = 2 ^ 64 := by decide
        _ ≤ 2 ^ t := Nat.pow_le_pow_right (by decide) (by omega)
    have hx : x = 0 := by
      rcases Nat.eq_zero_or_pos x with e | e
      · exact e
      · have := Nat.mul_le_mul e hp
        omega
    subst hx
    rw [Nat.zero_mul] at hy
    subst hy
    simp
theorem pow7 (k : Nat) : 2 ^ (7 * k) = 128 ^ k := by rw [Nat.pow_mul]
theorem or_u64 (u y k : Nat) (g : Nat) (hu : u < 128 ^ k) (hy : y = g * 128 ^ k) (h : u + y < 18446744073709551616) : bits .or .u64 (u : Int) (y : Int) = ((u + y : Nat) : Int) := by
  rw [u64_or_nat u y (by omega) (by omega)]
  have := Nat.shiftLeft_add_eq_or_of_lt (i := 7 * k) (b := u) (by rw [pow7]; exact hu) g
  rw [Nat.shiftLeft_eq, pow7, ← hy] at this
  rw [Nat.or_comm, ← this, Nat.add_comm]
theorem over_iff (most u g k : Nat) (hu : u ≤ most) : (most - u) / 128 ^ k < g ↔ most < u + g * 128 ^ k := by
  rw [Nat.div_lt_iff_lt_mul (Nat.pow_pos (by decide))]
  omega
theorem extract_drop (s : List UInt8) (k N : Nat) (h : N = s.length) : (ofBytes s).extract k N = ofBytes (s.drop k) := by
  apply ByteArray.ext
  apply Array.ext'
  rw [ByteArray.data_extract, Array.toList_extract, ofBytes_list, ofBytes_list, h]
  simp only [List.extract]
  exact List.take_of_length_le (by simp)

set_option maxHeartbeats 1600000 in
set_option maxRecDepth 100000 in
theorem number_any (w : World) (b : Nat) (s : List UInt8) (bad : Bool) (most : Nat) (hm : most < 18446744073709551616) (hl : s.length ≤ 100000000) (h : RD w b s bad) :
    Calls Try.prog 71 #[.pointer (some ⟨b, 0, none⟩), .int .u64 most] w fun e w' => e = .returned (.int .u64 (nV most s)) ∧ RD w' b (nS most s) (nB most s bad) ∧ w.grownBy w' (some b) := by
  have c0 := h.c0
  have f0 := h.free 0
  have hs : (ofBytes s).size = s.length := size_ofBytes s
  obtain ⟨N, hN⟩ : ∃ N, N = s.length := ⟨_, rfl⟩
  rw [← hN] at hs hl
  have HN := Lib.hid hN
  clear hN
  go_enter Try.func71, Try.ntmps71
  go_wp2
  go_loop [5, 14] (fun x i => ∃ (k u : Nat), k ≤ N ∧ i = .int .i64 k ∧ x = .int .u64 u ∧ u < 128 ^ k ∧ u ≤ most ∧ PackM.num most 0 0 s = PackM.num most k u (s.drop k)) (fun _ i => N - (intOf i).toNat)
  case atStart => exact ⟨0, 0, by omega, rfl, rfl, by decide, by omega, by rw [List.drop_zero]⟩
  case round =>
    obtain ⟨k, u, hk, rfl, rfl, hu, hum, heq⟩ := hrel
    have HE := Lib.hid heq
    have HU := Lib.hid hu
    clear heq hu
    by_cases hlt : k < N
    · have hkl : k < s.length := by rw [← HN.out]; exact hlt
      have hd : decide ((k : Int) < (N : Int)) = true := decide_eq_true (by omega)
      have hdr := List.drop_eq_getElem_cons hkl
      obtain ⟨c, hc⟩ : ∃ c : UInt8, c = s[k] := ⟨_, rfl⟩
      have hkz : k < (ofBytes s).size := by rw [hs]; exact hlt
      obtain ⟨x, hx⟩ : ∃ x : Nat, x = c.toNat := ⟨_, rfl⟩
      have hx256 : x < 256 := by rw [hx]; exact c.toNat_lt
      have hbx : (ofBytes s)[k].toNat = x := by rw [hx, hc]; rfl
      rw [← hc] at hdr
      clear hc
      have hand := and127u8 x hx256
      obtain ⟨g, hg⟩ : ∃ g, g = x % 128 := ⟨_, rfl⟩
      rw [← hg] at hand
      have hgl : g < 128 := by omega
      obtain ⟨t, ht⟩ : ∃ t, t = 7 * k := ⟨_, rfl⟩
      have htI : 7 * (k : Int) = (t : Int) := by omega
      have hsubI : (most : Int) - (u : Int) = ((most - u : Nat) : Int) := by omega
      have hshr := shr_min (most - u) t (by omega)
      obtain ⟨qv, hqv⟩ : ∃ qv, qv = (most - u) / 2 ^ t := ⟨_, rfl⟩
      rw [← hqv] at hshr
      rw [ht, pow7] at hqv
      have hov := over_iff most u g k hum
      rw [← hqv] at hov
      obtain ⟨d, hdE⟩ : ∃ d, d = most - u := ⟨_, rfl⟩
      rw [← hdE] at hsubI hshr
      have hdl : d < 18446744073709551616 := by omega
      have HX := Lib.hid hx
      have HG := Lib.hid hg
      have HT := Lib.hid ht
      have HQ := Lib.hid hqv
      have HDR := Lib.hid hdr
      have HOV := Lib.hid hov
      clear hx hg ht hqv hdr hov hdE
      by_cases hover : qv < g
      · have hdo : decide (qv < g) = true := decide_eq_true (by omega)
        have hnone : PackM.num most 0 0 s = none := by
          rw [HE.out, HDR.out]
          refine PackM.num_over ?_
          rw [← HX.out, ← HG.out]
          exact HOV.out.1 hover
        have HNO := Lib.hid hnone
        clear hnone
        go_wp2_with fail
        refine (rfail_any _ _ _ _ h).mono ?_
        rintro e w' ⟨rfl, hr, hg⟩
        go_wp2
        go_ret
        unfold nV nS nB
        rw [HNO.out]
        exact ⟨rfl, hr, hg⟩
      · have hdo : decide (qv < g) = false := decide_eq_false (by omega)
        have hno : ¬ most < u + g * 128 ^ k := fun h => hover (HOV.out.2 h)
        obtain ⟨y, hy⟩ : ∃ y, y = g * 128 ^ k := ⟨_, rfl⟩
        rw [← hy] at hno
        have hshl := shl_min g t y (by rw [HT.out, pow7, hy]) (by omega)
        have hor := or_u64 u y k g HU.out hy (by omega)
        obtain ⟨u2, hu2⟩ : ∃ u2, u2 = u + y := ⟨_, rfl⟩
        rw [← hu2] at hor hno
        have hu2k : u2 < 128 ^ (k + 1) := by
          have h1 : g * 128 ^ k ≤ 127 * 128 ^ k := Nat.mul_le_mul_right _ (by omega)
          have h2 := HU.out
          rw [Nat.pow_succ]; omega
        have hno' : ¬ most < u + c.toNat % 128 * 128 ^ k := by rw [← HX.out, ← HG.out, ← hy, ← hu2]; exact hno
        have hval : u + c.toNat % 128 * 128 ^ k = u2 := by rw [← HX.out, ← HG.out, ← hy, ← hu2]
        have HV := Lib.hid hval
        have HNO := Lib.hid hno'
        have HU2 := Lib.hid hu2
        have HU2K := Lib.hid hu2k
        have hy64 : y < 18446744073709551616 := by omega
        clear hval hno' hu2 hy hu2k
        have hand2 := and128u8 x hx256
        by_cases hmore : 128 ≤ x
        · rw [if_pos hmore] at hand2
          have hnext : PackM.num most 0 0 s = PackM.num most (k + 1) u2 (s.drop (k + 1)) := by
            rw [HE.out, HDR.out, PackM.num_more HNO.out (by rw [← HX.out]; exact hmore), HV.out]
          have HNX := Lib.hid hnext
          clear hnext
          go_wp2
          go_round
          case rel => exact ⟨k + 1, u2, by omega, by go_num, rfl, HU2K.out, by omega, HNX.out⟩
          case measure => simp [intOf]; omega
        · rw [if_neg hmore] at hand2
          by_cases hzero : x = 0 ∧ 0 < k
          · have hnone : PackM.num most 0 0 s = none := by
              rw [HE.out, HDR.out]
              exact PackM.num_null HNO.out (by rw [← HX.out]; exact hzero.1) hzero.2
            have HNONE := Lib.hid hnone
            obtain ⟨hz1, hz2⟩ := hzero
            have hx0 : ((x : Int) == 0) = true := beq_iff_eq.2 (by omega)
            have hk0 : decide ((0 : Int) < (k : Int)) = true := decide_eq_true (by omega)
            clear hnone hz1
            go_wp2_with fail
            refine (rfail_any _ _ _ _ h).mono ?_
            rintro e w' ⟨rfl, hr, hg⟩
            go_wp2
            go_ret
            unfold nV nS nB
            rw [HNONE.out]
            exact ⟨rfl, hr, hg⟩
          · have hsome : PackM.num most 0 0 s = some (u2, s.drop (k + 1)) := by
              rw [HE.out, HDR.out, PackM.num_end HNO.out (by rw [← HX.out]; exact hmore) (by rw [← HX.out]; exact hzero), HV.out]
            have HSOME := Lib.hid hsome
            have hex := extract_drop s (k + 1) N HN.out
            have hr := h.set0 (s.drop (k + 1))
            have HZ := Lib.hid hzero
            clear hsome hzero
            by_cases hx0 : x = 0
            · have hx0b : ((x : Int) == 0) = true := beq_iff_eq.2 (by omega)
              have hk0 : ¬ 0 < k := by have := HZ.out; omega
              have hk1 : decide (0 < k) = false := decide_eq_false hk0
              have htz : min t 64 = t := by have := HT.out; omega
              rw [htz] at hshr hshl
              clear hx0 htz
              go_wp2
              go_ret
              unfold nV nS nB
              rw [HSOME.out]
              exact ⟨rfl, hr, only_set (World.grownBy.refl w _) _ _⟩
            · have hx0b : ((x : Int) == 0) = false := beq_eq_false_iff_ne.2 (by omega)
              clear hx0
              go_wp2
              go_ret
              unfold nV nS nB
              rw [HSOME.out]
              exact ⟨rfl, hr, only_set (World.grownBy.refl w _) _ _⟩
    · have hd : decide ((k : Int) < (N : Int)) = false := decide_eq_false (by omega)
      have hnone : PackM.num most 0 0 s = none := by rw [HE.out, List.drop_of_length_le (by rw [← HN.out]; omega)]; rfl
      have HNO := Lib.hid hnone
      clear hnone
      go_wp2_with fail
      refine (rfail_any _ _ _ _ h).mono ?_
      rintro e w' ⟨rfl, hr, hg⟩
      go_wp2
      go_ret
      unfold nV nS nB
      rw [HNO.out]
      exact ⟨rfl, hr, hg⟩
end Go.Proofs.Ytlcmdnmifmjjgaa
