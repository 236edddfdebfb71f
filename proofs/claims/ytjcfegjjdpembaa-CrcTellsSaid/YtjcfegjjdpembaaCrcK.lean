/- Open, and the document's. -/
import Derived.Test.YtjcfegjjdpembaaCrcJ
import Derived.Deep.RegionWith
import Derived.Lib.IndexBytes
namespace Go.Proofs.Ytjcfegjjdpembaa
open Go.RowKit

set_option maxHeartbeats 1000000 in
set_option maxRecDepth 100000 in
theorem open_short (s : ByteArray) (w : World) (h : s.size < 4) :
    Calls Try.prog 11 #[.string s] w fun e w' => e = .returned (.tuple #[.string ⟨#[]⟩, .int .i64 2]) ∧ w = w' := by
  go_enter Try.func11, Try.ntmps11
  go_wp2
  go_ret2
  exact ⟨rfl, rfl⟩

theorem tail_eq (s : ByteArray) (n : Nat) (h : s.size = n + 4) : ((s.extract n s.size).toList == (ofBytes (CrcM.le4 (CrcM.sum (List.take n s.data.toList)))).toList) = decide (s.data.toList = CrcM.sealed (s.data.toList.take n)) := by
  rw [Bool.eq_iff_iff, beq_iff_eq, decide_eq_true_iff]
  have e1 : (s.extract n s.size).toList = s.data.toList.drop n := by
    rw [ByteArray.toList_eq, Lib.extract_to_end]
  have e2 : (ofBytes (CrcM.le4 (CrcM.sum (List.take n s.data.toList)))).toList = CrcM.le4 (CrcM.sum (List.take n s.data.toList)) := by
    rw [ByteArray.toList_eq, ofBytes_list]
  rw [e1, e2]
  constructor
  · intro h1
    unfold CrcM.sealed
    rw [← h1, List.take_append_drop]
  · intro h1
    unfold CrcM.sealed at h1
    have hl : (s.data.toList.take n).length = n := by simp; omega
    have := congrArg (List.drop n) h1
    rw [List.drop_append_of_le_length (by omega)] at this
    rw [this, List.drop_of_length_le (by omega)]
    rfl

set_option maxHeartbeats 1000000 in
set_option maxRecDepth 100000 in
theorem open_bad (s : ByteArray) (n : Nat) (w : World) (h : s.size = n + 4) (hl : s.size ≤ 100000000) (hne : s.data.toList ≠ CrcM.sealed (s.data.toList.take n)) :
    Calls Try.prog 11 #[.string s] w fun e w' => e = .returned (.tuple #[.string ⟨#[]⟩, .int .i64 8]) ∧ Below w.heap.size w w' := by
  have hb := tail_eq s n h
  rw [decide_eq_false hne] at hb
  have hsub : (s.size : Int) - 4 = (n : Int) := by omega
  have hn1 : n + 4 ≤ s.size := by omega
  have hn2 : (s.extract 0 n).size ≤ 100000000 := by simp [ByteArray.size_extract]; omega
  have hnn : (n : Int) ≤ (s.size : Int) := by omega
  have hn0 : decide ((n : Int) < 0) = false := decide_eq_false (by omega)
  clear hne h
  go_enter Try.func11, Try.ntmps11
  go_wp2
  go_region_with (go_at_call 21; refine (seal_any _ _ hn2).mono ?_; rintro e w' ⟨rfl, hbw⟩)
  all_goals go_wp2
  all_goals go_ret2
  all_goals exact ⟨rfl, (Below.refl _ w).drew.trans hbw⟩

theorem extract_self (s : ByteArray) (n : Nat) : s.extract 0 n = ofBytes (s.data.toList.take n) := by
  apply ByteArray.ext
  apply Array.ext'
  simp [ofBytes, ByteArray.data_extract]

set_option maxHeartbeats 1000000 in
set_option maxRecDepth 100000 in
theorem open_good (s : ByteArray) (n : Nat) (w : World) (h : s.size = n + 4) (hl : s.size ≤ 100000000) (hne : s.data.toList = CrcM.sealed (s.data.toList.take n)) :
    Calls Try.prog 11 #[.string s] w fun e w' => e = .returned (.tuple #[.string (ofBytes (s.data.toList.take n)), .int .i64 0]) ∧ Below w.heap.size w w' := by
  have hb := tail_eq s n h
  rw [decide_eq_true hne] at hb
  have hsub : (s.size : Int) - 4 = (n : Int) := by omega
  have hn1 : n + 4 ≤ s.size := by omega
  have hn2 : (s.extract 0 n).size ≤ 100000000 := by simp [ByteArray.size_extract]; omega
  have hnn : (n : Int) ≤ (s.size : Int) := by omega
  have hn0 : decide ((n : Int) < 0) = false := decide_eq_false (by omega)
  rw [← extract_self]
  clear hne h
  go_enter Try.func11, Try.ntmps11
  go_wp2
  go_region_with (go_at_call 21; refine (seal_any _ _ hn2).mono ?_; rintro e w' ⟨rfl, hbw⟩)
  all_goals go_wp2_with (go_at_call 22; refine (clone_any _ _ hn2).mono ?_; rintro e w2 ⟨rfl, hbw2⟩)
  all_goals go_ret2
  all_goals exact ⟨rfl, (Below.refl _ w).drew.trans (hbw.trans (hbw2.mono hbw.size))⟩

theorem refopen_short (s : ByteArray) (w : World) (h : s.size < 4) :
    Calls Try.prog 12 #[.string s] w fun e w' => e = .returned (.tuple #[.string ⟨#[]⟩, .int .i64 2]) ∧ w = w' := by
  go_enter Try.func12, Try.ntmps12
  go_wp2
  go_ret2
  exact ⟨rfl, rfl⟩

theorem whole_eq (s : ByteArray) (n : Nat) : ((ofBytes (CrcM.sealed (List.take n s.data.toList))).toList == s.toList) = decide (s.data.toList = CrcM.sealed (s.data.toList.take n)) := by
  rw [Bool.eq_iff_iff, beq_iff_eq, decide_eq_true_iff, ByteArray.toList_eq, ByteArray.toList_eq, ofBytes_list]
  exact eq_comm

set_option maxHeartbeats 1000000 in
set_option maxRecDepth 100000 in
theorem refopen_bad (s : ByteArray) (n : Nat) (w : World) (h : s.size = n + 4) (hl : s.size ≤ 100000000) (hne : s.data.toList ≠ CrcM.sealed (s.data.toList.take n)) :
    Calls Try.prog 12 #[.string s] w fun e w' => e = .returned (.tuple #[.string ⟨#[]⟩, .int .i64 8]) ∧ Below w.heap.size w w' := by
  have hb := whole_eq s n
  rw [decide_eq_false hne] at hb
  have hsub : (s.size : Int) - 4 = (n : Int) := by omega
  have hn1 : n + 4 ≤ s.size := by omega
  have hn2 : (s.extract 0 n).size ≤ 100000000 := by simp [ByteArray.size_extract]; omega
  have hnn : (n : Int) ≤ (s.size : Int) := by omega
  have hn0 : decide ((n : Int) < 0) = false := decide_eq_false (by omega)
  clear hne h
  go_enter Try.func12, Try.ntmps12
  go_wp2_with (go_at_call 15; refine (refseal_any _ _ hn2).mono ?_; rintro e w' ⟨rfl, hbw⟩)
  go_ret2
  exact ⟨rfl, hbw⟩

set_option maxHeartbeats 1000000 in
set_option maxRecDepth 100000 in
theorem refopen_good (s : ByteArray) (n : Nat) (w : World) (h : s.size = n + 4) (hl : s.size ≤ 100000000) (hne : s.data.toList = CrcM.sealed (s.data.toList.take n)) :
    Calls Try.prog 12 #[.string s] w fun e w' => e = .returned (.tuple #[.string (ofBytes (s.data.toList.take n)), .int .i64 0]) ∧ Below w.heap.size w w' := by
  have hb := whole_eq s n
  rw [decide_eq_true hne] at hb
  have hsub : (s.size : Int) - 4 = (n : Int) := by omega
  have hn1 : n + 4 ≤ s.size := by omega
  have hn2 : (s.extract 0 n).size ≤ 100000000 := by simp [ByteArray.size_extract]; omega
  have hnn : (n : Int) ≤ (s.size : Int) := by omega
  have hn0 : decide ((n : Int) < 0) = false := decide_eq_false (by omega)
  rw [← extract_self]
  clear hne h
  go_enter Try.func12, Try.ntmps12
  go_wp2_with (go_at_call 15; refine (refseal_any _ _ hn2).mono ?_; rintro e w' ⟨rfl, hbw⟩)
  go_ret2
  exact ⟨rfl, hbw⟩
end Go.Proofs.Ytjcfegjjdpembaa
