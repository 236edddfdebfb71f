/- Contracts of crc's small functions. -/
import Derived.Test.YtjcfegjjdpembaaRows
import Derived.Test.YtjcfegjjdpembaaCrcMath
import Derived.WalkKit
import Derived.WalkSpells
import Derived.WalkLawsBesides
namespace Go.Proofs.Ytjcfegjjdpembaa
open Go.RowKit

theorem bit_u32 (c : Nat) (h : c < 4294967296) : bits .and .u32 (c : Int) 1 = ((c % 2 : Nat) : Int) := by
  have := u32_and_nat c 1 h (by decide)
  rw [Nat.and_one_is_mod] at this
  exact this

theorem mv_odd (c : Nat) (h : c < 4294967296) (ho : c % 2 = 1) : bits .xor .u32 ((c : Int) / 2) 3988292384 = ((CrcM.mv c : Nat) : Int) := by
  have e : ((c : Int) / 2) = ((c / 2 : Nat) : Int) := by omega
  have := u32_xor_nat (c / 2) 3988292384 (by omega) (by decide)
  rw [e]
  unfold CrcM.mv
  rw [if_pos ho]
  exact this
theorem mv_even (c : Nat) (ho : ¬ c % 2 = 1) : ((c : Int) / 2) = ((CrcM.mv c : Nat) : Int) := by
  unfold CrcM.mv
  rw [if_neg ho]
  omega

theorem ret_int {k : IntKind} {a b : Int} (h : a = b) : Ending.returned (.int k a) = .returned (.int k b) := by rw [h]

set_option maxHeartbeats 400000 in
theorem moveBit_any (c : Nat) (w : World) (h : c < 4294967296) :
    Calls Try.prog 25 #[.int .u32 c] w fun e w' => e = .returned (.int .u32 (CrcM.mv c)) ∧ w = w' := by
  have hb := bit_u32 c h
  by_cases ho : c % 2 = 1
  · rw [ho] at hb
    go_enter Try.func25, Try.ntmps25
    go_wp2
    go_ret
    exact ⟨ret_int (mv_odd c h ho), rfl⟩
  · have h0 : c % 2 = 0 := by omega
    rw [h0] at hb
    have h1 : c % 2 ≠ 1 := by omega
    clear h0
    go_enter Try.func25, Try.ntmps25
    go_wp2
    go_ret
    exact ⟨ret_int (mv_even c ho), rfl⟩

/-- the meter's table, in front of it the first k are made -/
def tabK (k : Nat) : Array Value := ((List.range 16).map fun i => Value.int .u32 (if i < k then (CrcM.mvn 4 i : Nat) else (0 : Nat) : Nat)).toArray
theorem tabK_0 : tabK 0 = #[.int .u32 0, .int .u32 0, .int .u32 0, .int .u32 0, .int .u32 0, .int .u32 0, .int .u32 0, .int .u32 0, .int .u32 0, .int .u32 0, .int .u32 0, .int .u32 0, .int .u32 0, .int .u32 0, .int .u32 0, .int .u32 0] := rfl
theorem tabK_16 : tabK 16 = #[.int .u32 0, .int .u32 498536548, .int .u32 997073096, .int .u32 651767980, .int .u32 1994146192, .int .u32 1802195444, .int .u32 1303535960, .int .u32 1342533948, .int .u32 3988292384, .int .u32 4027552580, .int .u32 3604390888, .int .u32 3412177804, .int .u32 2607071920, .int .u32 2262029012, .int .u32 2685067896, .int .u32 3183342108] := by kernel_rfl
theorem tabK_size (k : Nat) : (tabK k).size = 16 := by simp [tabK]
theorem tabK_at (k i : Nat) (h : i < 16) : (tabK k)[i]? = some (.int .u32 (if i < k then (CrcM.mvn 4 i : Nat) else (0 : Nat) : Nat)) := by
  simp [tabK, h]
theorem tabK_set (k : Nat) : (tabK k).setIfInBounds k (.int .u32 (CrcM.mvn 4 k : Nat)) = tabK (k + 1) := by
  apply Array.ext
  · simp [tabK]
  · intro i h1 h2
    rw [tabK_size] at h2
    simp only [tabK, List.setIfInBounds_toArray, List.getElem_toArray, List.getElem_set, List.getElem_map, List.getElem_range]
    by_cases e : k = i
    · subst e; simp
    · rw [if_neg e]
      by_cases l : i < k
      · have : i < k + 1 := by omega
        simp [l, this]
      · have : ¬ i < k + 1 := by omega
        simp [l, this]

/-- the cells of a meter: done d, lock st, the table's first k made, sum s, count n -/
def gcells (d st k s n : Nat) : Array Value := #[.int .u32 d, .int .i32 st, .int .u32 0] ++ tabK k ++ #[.int .u32 s, .int .i64 n]
def mcells (d s n : Nat) : Array Value := gcells d 0 (16 * d) s n

/-- the meter at block b: 'done' d (0 or 1), sum s, count n -/
def Mtr (w : World) (b d s n : Nat) : Prop := w.heap[b]? = some (.cells (mcells d s n) 58 (0, 0))

set_option maxHeartbeats 400000 in
theorem new_any (w : World) :
    Calls Try.prog 6 #[] w fun e w' => e = .returned (.pointer (some ⟨w.heap.size, 0, none⟩)) ∧ w' = w.alloc (.cells (mcells 0 0 0) 58) := by
  go_enter Try.func6, Try.ntmps6
  go_wp2
  go_ret
  exact ⟨rfl, rfl⟩

set_option maxHeartbeats 400000 in
theorem msum_any (b : Nat) (s : Nat) (w : World) (h : w.cell? ⟨b, 19, none⟩ = some (.int .u32 s)) :
    Calls Try.prog 8 #[.pointer (some ⟨b, 0, none⟩)] w fun e w' => e = .returned (.int .u32 s) ∧ w = w' := by
  go_enter Try.func8, Try.ntmps8
  go_wp2
  go_ret
  exact ⟨rfl, rfl⟩

set_option maxHeartbeats 400000 in
theorem mlen_any (b : Nat) (n : Nat) (w : World) (h : w.cell? ⟨b, 20, none⟩ = some (.int .i64 n)) :
    Calls Try.prog 10 #[.pointer (some ⟨b, 0, none⟩)] w fun e w' => e = .returned (.int .i64 n) ∧ w = w' := by
  have hl := run_call_load (P := Try.prog) Try.func27 (by kernel_rfl) (by kernel_rfl) (by kernel_rfl) .i64 (by kernel_rfl) h
  go_enter Try.func10, Try.ntmps10
  go_wp2
  go_ret
  exact ⟨rfl, rfl⟩

theorem add_run {P : Program} {w : World} (n m : Nat) (hn : n ≤ 1000000000) (hm : m ≤ 1000000000) : (Op.intArith .add .i64 (n : Int) (m : Int)).run P w = .ok (.int .i64 ((n + m : Nat) : Int)) w := by
  have h : IntKind.i64.wrap ((n : Int) + (m : Int)) = ((n + m : Nat) : Int) := by rw [IntWalk.i64_in _ (by omega)]; omega
  simp [go_sem, h]

set_option maxHeartbeats 400000 in
theorem iadd_any (b : Nat) (n m : Nat) (w : World) (hn : n ≤ 1000000000) (hm : m ≤ 1000000000) (h : w.cell? ⟨b, 20, none⟩ = some (.int .i64 n)) (hz : w.frozen? ⟨b, 20, none⟩ = false) :
    Calls Try.prog 19 #[.pointer (some ⟨b, 20, none⟩), .int .i64 m] w fun e w' => e = .returned (.int .i64 ((n + m : Nat) : Int)) ∧ w' = w.setCell ⟨b, 20, none⟩ (.int .i64 ((n + m : Nat) : Int)) := by
  have hadd := run_call_add (P := Try.prog) Try.func26 (by kernel_rfl) (by kernel_rfl) (by kernel_rfl) .i64 (by kernel_rfl) (y := m) (s := ((n + m : Nat) : Int)) h hz (add_run n m hn hm)
  go_enter Try.func19, Try.ntmps19
  go_wp2
  go_ret
  exact ⟨rfl, rfl⟩
end Go.Proofs.Ytjcfegjjdpembaa
