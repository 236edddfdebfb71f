/- makeTable's contract. -/
import Derived.Test.YtjcfegjjdpembaaCrcA
namespace Go.Proofs.Ytjcfegjjdpembaa
open Go.RowKit

def wtab (w : World) (k : Nat) : World := (w.alloc (.cells (tabK 0) 53)).alloc (.cells (tabK k) 53)
theorem wtab_size (w : World) (k : Nat) : (wtab w k).heap.size = w.heap.size + 2 := by simp [wtab]
theorem wtab_heap (w : World) (k : Nat) : (wtab w k).heap[w.heap.size + 1]? = some (.cells (tabK k) 53 (0, 0)) := by
  have := heap_alloc_new (w.alloc (.cells (tabK 0) 53)) (.cells (tabK k) 53)
  simpa [wtab] using this
theorem wtab_cell (w : World) (k i : Nat) (h : i < 16) : (wtab w k).cell? ⟨w.heap.size + 1, i, none⟩ = some (.int .u32 (if i < k then (CrcM.mvn 4 i : Nat) else (0 : Nat) : Nat)) := by
  rw [cell_of_row _ _ _ _ _ _ (wtab_heap w k), tabK_at k i h]
theorem wtab_frozen (w : World) (k i : Nat) : (wtab w k).frozen? ⟨w.heap.size + 1, i, none⟩ = false := by
  simp [World.frozen?, wtab_heap w k]
theorem wtab_set (w : World) (k : Nat) : (wtab w k).setCell ⟨w.heap.size + 1, k, none⟩ (.int .u32 (CrcM.mvn 4 k : Nat)) = wtab w (k + 1) := by
  unfold wtab
  rw [World.setCell_alloc_at _ _ _ _ _ (by simp), tabK_set]

def wtab2 (w : World) : World := (w.alloc (.cells (tabK 16) 53)).alloc (.cells (tabK 16) 53)
theorem wtab2_heap (w : World) : (wtab2 w).heap[w.heap.size]? = some (.cells (tabK 16) 53 (0, 0)) := by
  unfold wtab2
  rw [Below.heap_alloc _ _ _ (by simp)]
  exact heap_alloc_new w _
theorem wtab0_heap (w : World) (k : Nat) : (wtab w k).heap[w.heap.size]? = some (.cells (tabK 0) 53 (0, 0)) := by
  unfold wtab
  rw [Below.heap_alloc _ _ _ (by simp)]
  exact heap_alloc_new w _
theorem tabK_one (k : Nat) : ∀ v ∈ (tabK k).toList, v.oneCell' = true := by
  intro v hv
  simp only [tabK, List.mem_map] at hv
  obtain ⟨i, _, rfl⟩ := hv
  rfl
theorem setRow_wtab (w : World) : (wtab w 16).setRow w.heap.size (tabK 16) = wtab2 w := by
  unfold wtab wtab2 World.setRow World.alloc
  congr 1
  apply Array.ext
  · simp
  · intro i h1 h2
    simp only [Array.getElem_modify, Array.getElem_push]
    by_cases e : w.heap.size = i
    · subst e; simp
    · simp only [e, if_false]
      by_cases l : i < w.heap.size
      · have : i < w.heap.size + 1 := by omega
        simp [l, this]
      · have : ¬ i < w.heap.size + 1 := by omega
        simp [this]
theorem asAddr_run (P : Program) (w : World) (a : Addr) : (asAddr (.pointer (some a))).run P w = .ok a w := rfl
theorem wtab_store (w : World) : (storeCells ⟨w.heap.size, 0, none⟩ (tabK 16).toList).run Try.prog (wtab w 16) = .ok () (wtab2 w) := by
  have := run_storeCells_from (P := Try.prog) w.heap.size 53 (tabK 16).toList 0 (tabK 0) (wtab w 16) (wtab0_heap w 16) (by simp [tabK_size]) (tabK_one 16)
  rw [this]
  simp [setRow_wtab]
theorem wtab2_load (w : World) (hi : (Try.prog.info? 53).map (·.size) = some (tabK 16).size) : (loadVar 53 ⟨w.heap.size, 0, none⟩).run Try.prog (wtab2 w) = .ok (.agg (tabK 16)) (wtab2 w) :=
  run_loadVar_row (wtab2 w) w.heap.size 53 53 (tabK 16) (0, 0) _ (wtab2_heap w) Try.underlying53 rfl hi

set_option maxRecDepth 100000 in
set_option maxHeartbeats 1000000 in
theorem makeTable_any (w : World) :
    Calls Try.prog 18 #[] w fun e w' => e = .returned (.agg (tabK 16)) ∧ w' = wtab2 w := by
  go_enter Try.func18, Try.ntmps18
  go_wp2
  go_loopw [4] (fun i wr => ∃ k : Nat, k ≤ 16 ∧ i = .int .i64 k ∧ wr = wtab w k) (fun i _ => 16 - (intOf i).toNat)
  case atStart => exact ⟨0, by omega, rfl, rfl⟩
  case round =>
    obtain ⟨k, hk, rfl, rfl⟩ := hrel
    by_cases hlt : k < 16
    · have hcell := wtab_cell w k k hlt
      have hfr := wtab_frozen w k k
      have hd : decide ((k : Int) < 16) = true := decide_eq_true (by omega)
      go_wp2
      go_loopw [3, 9] (fun c j wr => ∃ m : Nat, m ≤ 4 ∧ j = .int .i64 m ∧ c = .int .u32 (CrcM.mvn m k : Nat) ∧ wr = wtab w k) (fun _ j _ => 4 - (intOf j).toNat)
      case atStart => exact ⟨0, by omega, rfl, rfl, rfl⟩
      case round =>
        obtain ⟨m, hm, rfl, rfl, rfl⟩ := hrel
        have hc := CrcM.mvn_lt m (c := k) (by omega)
        by_cases hm4 : m < 4
        · go_wp2_with (go_at_call 25; refine (moveBit_any _ _ hc).mono ?_; rintro e w' ⟨rfl, rfl⟩)
          go_roundw
          case rel => exact ⟨m + 1, by omega, by go_num, rfl, trivial⟩
          case measure => simp [intOf]; omega
        · have h4 : m = 4 := by omega
          subst h4
          go_wp2
          rw [wtab_set]
          go_roundw
          case rel => exact ⟨k + 1, by omega, by go_num, rfl⟩
          case measure => simp [intOf]; omega
    · have h16 : k = 16 := by omega
      subst h16
      have hrow := wtab_heap w 16
      have hsz := tabK_size 16
      have hst := wtab_store w
      have hinfo : (Try.prog.info? 53).map (·.size) = some (tabK 16).size := by rw [tabK_size]; kernel_rfl
      go_wp2_with (refine wpList_load_row rfl 53 _ rfl _ rfl 53 (tabK 16) (0, 0) _ hrow Try.underlying53 rfl hinfo ?_)
      exact bodyPost_ret (v := .agg (tabK 16)) (by simp [results, Try.results18, asAddr_run, wtab2_load w hinfo]) rfl ⟨rfl, rfl⟩
end Go.Proofs.Ytjcfegjjdpembaa
