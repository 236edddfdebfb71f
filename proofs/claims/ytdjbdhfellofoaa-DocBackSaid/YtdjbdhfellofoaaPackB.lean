
/- Varint and Zigzag, written: the program's and the document's. -/
import Derived.Test.YtdjbdhfellofoaaPackA
import Derived.Laws.BytesArg
namespace Go.Proofs.Ytdjbdhfellofoaa
open Go.RowKit

/-- a row of bytes as a string -/
theorem ByteRow.conv {W : World} {base : Nat} {v : Value} {l : List UInt8} (h : ByteRow W base v l) : (convert 62 9 v).run Try.prog W = .ok (.string (ofBytes l)) W := by
  rcases h.2 with ⟨rfl, hn⟩ | ⟨g, cap, cur, rfl, hbg, hgg, rest⟩
  · have hl0 : l = [] := List.eq_nil_of_length_eq_zero hn
    subst hl0
    exact run_convert_bytes_nil W 62 5 Try.underlying62 Try.underlying5 0 0 9 Try.underlying9
  · refine run_convert_bytes_back W 62 9 5 ⟨g, 0, none⟩ cap l Try.underlying62 Try.underlying5 Try.underlying9 (fun j hj => ?_)
    exact World.ownsRow.cells h (g := g) rfl j _ (by simp [hj, byteV])

theorem conv1 (w : World) (b : UInt8) : (convert 62 9 (.slice (some ⟨w.heap.size, 0, none⟩) 1 1)).run Try.prog (w.alloc (.cells #[.int .u8 (b.toNat : Int)] 5))
    = .ok (.string (ofBytes [b])) (w.alloc (.cells #[.int .u8 (b.toNat : Int)] 5)) :=
  run_convert_bytes_back _ 62 9 5 ⟨w.heap.size, 0, none⟩ 1 [b] Try.underlying62 Try.underlying5 Try.underlying9 (fun j hj => by
    match j, hj with
    | 0, _ => rw [add_none, cell_of_row _ _ _ _ _ _ (heap_alloc_new w _)]; rfl)

/-- the bytes of Varint(v), the number of its error -/
def varB (v : Int) : List UInt8 := if v < 0 then [] else PackM.vw v.toNat
def varC (v : Int) : Int := if v < 0 then 1 else 0
theorem varB_len (v : Int) (h2 : v ≤ 9223372036854775807) : (varB v).length ≤ 10 := by
  unfold varB
  split
  · simp
  · exact PackM.vw_len10 _ (by omega)

set_option maxHeartbeats 1600000 in
set_option maxRecDepth 100000 in
theorem varint_any (v : Int) (w : World) (h1 : -9223372036854775808 ≤ v) (h2 : v ≤ 9223372036854775807) :
    Calls Try.prog 22 #[.int .i64 v] w fun e w' => e = .returned (.tuple #[.string (ofBytes (varB v)), .int .i64 (varC v)]) ∧ Below w.heap.size w w' := by
  unfold varB varC
  by_cases hv : v < 0
  · rw [if_pos hv, if_pos hv]
    have hd : decide (v < 0) = true := decide_eq_true hv
    go_enter Try.func22, Try.ntmps22
    go_wp2
    go_ret2
    exact ⟨rfl, Below.refl _ _⟩
  · rw [if_neg hv, if_neg hv]
    have hd : decide (v < 0) = false := decide_eq_false hv
    obtain ⟨n, rfl⟩ := Int.eq_ofNat_of_zero_le (Int.not_lt.1 hv)
    have hn : n < 18446744073709551616 := by omega
    rw [Int.toNat_natCast]
    go_enter Try.func22, Try.ntmps22
    go_wp2_with fail
    refine (appendVarint_any w.heap.size [] _ n _ hn (by simp) (Nat.le_refl _) (ByteRow.nil_ _ _)).mono ?_
    rintro e w1 ⟨v1, rfl, hown, hb, hne⟩
    have hcv := hown.conv
    rw [List.nil_append] at hcv
    clear hown
    go_wp2
    go_ret2
    exact ⟨rfl, hb⟩

set_option maxHeartbeats 1600000 in
set_option maxRecDepth 100000 in
theorem word_any (u : Nat) (w : World) (hu : u < 18446744073709551616) :
    Calls Try.prog 48 #[.int .u64 u] w fun e w' => e = .returned (.string (ofBytes (PackM.vw u))) ∧ Below w.heap.size w w' := by
  have h10 := PackM.vw_len10 u hu
  go_enter Try.func48, Try.ntmps48
  go_wp2
  go_loopw [0, 3] (fun y s wr => ∃ (l' : List UInt8) (k : Nat), y = .int .u64 k ∧ s = .string (ofBytes l') ∧ k < 18446744073709551616 ∧ l'.length + (PackM.vw k).length ≤ 10 ∧ PackM.vw u = l' ++ PackM.vw k ∧ Below w.heap.size w wr) (fun y _ _ => (intOf y).toNat)
  case atStart => exact ⟨[], u, rfl, rfl, hu, by simpa using h10, rfl, Below.refl _ _⟩
  case round =>
    obtain ⟨l', k, rfl, rfl, hk, hlen, heq, hb⟩ := hrel
    have HE := Lib.hid heq
    clear heq
    have hsz := hb.size
    have hs1 : (ofBytes l').size ≤ 10 := by rw [size_ofBytes]; omega
    by_cases hlt : k < 128
    · have hd : decide ((128 : Int) ≤ (k : Int)) = false := decide_eq_false (by omega)
      have hvw := PackM.vw_lt hlt
      have HV := Lib.hid hvw
      clear hvw
      obtain ⟨b, hbE⟩ : ∃ b : UInt8, b = UInt8.ofNat k := ⟨_, rfl⟩
      have hbk : (k : Int) = (b.toNat : Int) := by rw [hbE, PackM.toNat_of k (by omega)]
      have hcv := conv1 wr b
      rw [← hbk] at hcv
      have hs2 : (ofBytes [b]).size = 1 := by rw [size_ofBytes]; rfl
      have HB := Lib.hid hbE
      clear hbE hbk
      go_wp2
      go_ret
      refine ⟨ret_str ?_, hb.alloc hsz _⟩
      rw [HE.out, HV.out, ← HB.out, append_ofBytes, ofBytes_list]
    · have hd : decide ((128 : Int) ≤ (k : Int)) = true := decide_eq_true (by omega)
      have hvw := PackM.vw_ge hlt
      have hl1 : (PackM.vw k).length = (PackM.vw (k / 128)).length + 1 := by rw [hvw]; rfl
      have hlen2 : l'.length + 1 + (PackM.vw (k / 128)).length ≤ 10 := by omega
      obtain ⟨b, hbE⟩ : ∃ b : UInt8, b = UInt8.ofNat (k % 128 + 128) := ⟨_, rfl⟩
      have hbk : ((k : Int) % 128 + 128) = (b.toNat : Int) := by rw [hbE, PackM.toNat_of _ (by omega)]; omega
      rw [← hbE] at hvw
      have hcv := conv1 wr b
      have hb256 := b.toNat_lt
      rw [← hbk] at hcv
      have hs2 : (ofBytes [b]).size = 1 := by rw [size_ofBytes]; rfl
      have HV := Lib.hid hvw
      have HB := Lib.hid hbE
      clear hbE hbk hvw hl1
      go_wp2
      go_roundw
      case rel =>
        refine ⟨l' ++ [b], k / 128, by go_num, ?_, by omega, by simp; omega, ?_, hb.alloc hsz _⟩
        · rw [append_ofBytes, ofBytes_list]
        · rw [HE.out, HV.out, List.append_assoc]
          rfl
      case measure => simp [intOf]; omega

set_option maxHeartbeats 1600000 in
set_option maxRecDepth 100000 in
theorem refvarint_any (v : Int) (w : World) (h1 : -9223372036854775808 ≤ v) (h2 : v ≤ 9223372036854775807) :
    Calls Try.prog 24 #[.int .i64 v] w fun e w' => e = .returned (.tuple #[.string (ofBytes (varB v)), .int .i64 (varC v)]) ∧ Below w.heap.size w w' := by
  unfold varB varC
  by_cases hv : v < 0
  · rw [if_pos hv, if_pos hv]
    have hd : decide (v < 0) = true := decide_eq_true hv
    go_enter Try.func24, Try.ntmps24
    go_wp2
    go_ret2
    exact ⟨rfl, Below.refl _ _⟩
  · rw [if_neg hv, if_neg hv]
    have hd : decide (v < 0) = false := decide_eq_false hv
    obtain ⟨n, rfl⟩ := Int.eq_ofNat_of_zero_le (Int.not_lt.1 hv)
    have hn : n < 18446744073709551616 := by omega
    rw [Int.toNat_natCast]
    go_enter Try.func24, Try.ntmps24
    go_wp2_with fail
    refine (word_any n _ hn).mono ?_
    rintro e w1 ⟨rfl, hb⟩
    go_wp2
    go_ret2
    exact ⟨rfl, hb⟩
end Go.Proofs.Ytdjbdhfellofoaa
