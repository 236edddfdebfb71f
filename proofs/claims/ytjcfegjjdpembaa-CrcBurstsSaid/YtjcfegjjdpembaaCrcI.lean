/- The sum put behind the bytes, by the program and by the document. No condition but a bound on the length. -/
import Derived.Test.YtjcfegjjdpembaaCrcH
import Derived.Laws.IdiomStrings
namespace Go.Proofs.Ytjcfegjjdpembaa
open Go.RowKit

def ofBytes (l : List UInt8) : ByteArray := ⟨l.toArray⟩
theorem ofBytes_list (l : List UInt8) : (ofBytes l).data.toList = l := by simp [ofBytes]
theorem ofBytes_self (t : ByteArray) : ofBytes t.data.toList = t := by cases t; simp [ofBytes]
theorem ofBytes_app (t : ByteArray) (l : List UInt8) : t ++ ofBytes l = ofBytes (t.data.toList ++ l) := by
  apply ByteArray.ext
  simp [ofBytes]

theorem le4_size (c : Nat) : (ofBytes (CrcM.le4 c)).size ≤ 4 := by simp [ofBytes, CrcM.le4, ByteArray.size]

theorem conv4 (w : World) (a0 a1 a2 a3 : UInt8) : (convert 39 9 (.slice (some ⟨w.heap.size, 0, none⟩) 4 4)).run Try.prog (w.alloc (.cells #[.int .u8 (a0.toNat : Int), .int .u8 (a1.toNat : Int), .int .u8 (a2.toNat : Int), .int .u8 (a3.toNat : Int)] 5))
    = .ok (.string (ofBytes [a0, a1, a2, a3])) (w.alloc (.cells #[.int .u8 (a0.toNat : Int), .int .u8 (a1.toNat : Int), .int .u8 (a2.toNat : Int), .int .u8 (a3.toNat : Int)] 5)) :=
  run_convert_bytes_back _ 39 9 5 ⟨w.heap.size, 0, none⟩ 4 [a0, a1, a2, a3] Try.underlying39 Try.underlying5 Try.underlying9 (fun j hj => by
    have hj4 : j < 4 := hj
    have hrow := heap_alloc_new w (.cells #[.int .u8 (a0.toNat : Int), .int .u8 (a1.toNat : Int), .int .u8 (a2.toNat : Int), .int .u8 (a3.toNat : Int)] 5)
    have hadd : (⟨w.heap.size, 0, none⟩ : Addr).add j = ⟨w.heap.size, j, none⟩ := by unfold Addr.add; split <;> simp_all
    rw [hadd, cell_of_row _ _ _ _ _ _ hrow]
    match j, hj4 with
    | 0, _ => rfl
    | 1, _ => rfl
    | 2, _ => rfl
    | 3, _ => rfl)

theorem conv_le4 (w : World) (c : Nat) (h : c < 4294967296) : (convert 39 9 (.slice (some ⟨w.heap.size, 0, none⟩) 4 4)).run Try.prog (w.alloc (.cells #[.int .u8 ((c : Int) % 256), .int .u8 ((c : Int) / 256 % 256), .int .u8 ((c : Int) / 65536 % 256), .int .u8 ((c : Int) / 16777216)] 5))
    = .ok (.string (ofBytes (CrcM.le4 c))) (w.alloc (.cells #[.int .u8 ((c : Int) % 256), .int .u8 ((c : Int) / 256 % 256), .int .u8 ((c : Int) / 65536 % 256), .int .u8 ((c : Int) / 16777216)] 5)) := by
  have := conv4 w (UInt8.ofNat c) (UInt8.ofNat (c / 256)) (UInt8.ofNat (c / 65536)) (UInt8.ofNat (c / 16777216))
  have e0 : (((UInt8.ofNat c).toNat : Nat) : Int) = (c : Int) % 256 := by rw [UInt8.toNat_ofNat']; omega
  have e1 : (((UInt8.ofNat (c / 256)).toNat : Nat) : Int) = (c : Int) / 256 % 256 := by rw [UInt8.toNat_ofNat']; omega
  have e2 : (((UInt8.ofNat (c / 65536)).toNat : Nat) : Int) = (c : Int) / 65536 % 256 := by rw [UInt8.toNat_ofNat']; omega
  have e3 : (((UInt8.ofNat (c / 16777216)).toNat : Nat) : Int) = (c : Int) / 16777216 := by rw [UInt8.toNat_ofNat']; omega
  rw [e0, e1, e2, e3] at this
  exact this

theorem ret_str {a b : ByteArray} (h : a = b) : Ending.returned (.string a) = .returned (.string b) := by rw [h]

set_option maxRecDepth 100000 in
set_option maxHeartbeats 1600000 in
theorem refseal_any (t : ByteArray) (w : World) (ht : t.size ≤ 100000000) :
    Calls Try.prog 15 #[.string t] w fun e w' => e = .returned (.string (ofBytes (CrcM.sealed t.data.toList))) ∧ Below w.heap.size w w' := by
  have hslt := CrcM.sum_lt t.data.toList
  obtain ⟨c, hcE⟩ : ∃ c, c = CrcM.sum t.data.toList := ⟨_, rfl⟩
  rw [← hcE] at hslt
  have HC := Lib.hid hcE
  have hcv := conv_le4 w c hslt
  have hz4 := le4_size c
  go_enter Try.func15, Try.ntmps15
  go_wp2_with (go_at_call 9; refine (refsum_any _ _ ht).mono ?_; rintro e w' ⟨rfl, rfl⟩; rw [← hcE]; clear hcE)
  go_ret
  exact ⟨ret_str (by rw [HC.out, CrcM.sealed, ← ofBytes_app]), (Below.refl _ _).alloc (Nat.le_refl _) _⟩

set_option maxRecDepth 100000 in
set_option maxHeartbeats 1600000 in
theorem seal_any (t : ByteArray) (w : World) (ht : t.size ≤ 100000000) :
    Calls Try.prog 21 #[.string t] w fun e w' => e = .returned (.string (ofBytes (CrcM.le4 (CrcM.sum t.data.toList)))) ∧ Below w.heap.size w w' := by
  have hslt := CrcM.sum_lt t.data.toList
  obtain ⟨c, hcE⟩ : ∃ c, c = CrcM.sum t.data.toList := ⟨_, rfl⟩
  rw [← hcE] at hslt ⊢
  have hcat : cat [t] = t.data.toList := by simp [cat]
  rw [← hcat] at hcE
  have HC := Lib.hid hcE
  have hl1 : (cat [t]).length ≤ 100000000 := by rw [hcat]; simpa using ht
  clear hcE hcat
  go_enter Try.func21, Try.ntmps21
  go_wp2_with (fail)
  refine (sum_any _ 1 1 [t] _ (by omega) hl1 ?_).mono ?_
  · refine ⟨rfl, fun k hk => ?_⟩
    have hk0 : k = 0 := by simpa using hk
    subst hk0
    exact ⟨w.heap.size, 0, rfl, by simp, by simp⟩
  rintro e w1 ⟨rfl, hb1⟩
  rw [← HC.out]
  have hcv := conv_le4 w1 c hslt
  go_wp2
  go_ret
  exact ⟨rfl, ((((Below.refl _ _).alloc (Nat.le_refl _) _).trans (hb1.mono (by simp))).alloc (by have := hb1.size; simp at this; omega) _)⟩

set_option maxRecDepth 100000 in
set_option maxHeartbeats 1600000 in
theorem Seal_any (t : ByteArray) (w : World) (ht : t.size ≤ 100000000) :
    Calls Try.prog 14 #[.string t] w fun e w' => e = .returned (.string (ofBytes (CrcM.sealed t.data.toList))) ∧ Below w.heap.size w w' := by
  have hz4 := le4_size (CrcM.sum t.data.toList)
  go_enter Try.func14, Try.ntmps14
  go_wp2_with (go_at_call 21; refine (seal_any _ _ ht).mono ?_; rintro e w' ⟨rfl, hb⟩)
  go_ret
  exact ⟨ret_str (by rw [CrcM.sealed, ← ofBytes_app]), hb⟩
end Go.Proofs.Ytjcfegjjdpembaa
