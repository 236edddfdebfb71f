/- The closure that makes the table; Do for the first time. -/
import Derived.Test.YtjcfegjjdpembaaCrcC
import Derived.Deep.RegionWith
namespace Go.Proofs.Ytjcfegjjdpembaa
open Go.RowKit

theorem wtab2_cell_lt (w : World) (p : Addr) (h : p.block < w.heap.size) : (wtab2 w).cell? p = w.cell? p := by
  unfold wtab2
  rw [World.cell?_alloc_lt _ _ _ (by simp; omega), World.cell?_alloc_lt _ _ _ h]
theorem wtab2_heap_lt (w : World) (g : Nat) (h : g < w.heap.size) : (wtab2 w).heap[g]? = w.heap[g]? := by
  unfold wtab2
  rw [Below.heap_alloc _ _ _ (by simp; omega), Below.heap_alloc _ _ _ h]

theorem run_storeCells_mid {P : Program} (g : Nat) (t : TypeId) (o : Nat) : ∀ (vs : List Value) (i : Nat) (cur : Array Value) (w : World), w.heap[g]? = some (.cells cur t (0, 0)) → o + i + vs.length ≤ cur.size → (∀ v ∈ vs, v.oneCell' = true) →
    (storeCells ⟨g, o, none⟩ vs i).run P w = .ok () (w.setRow g (cur.toList.take (o + i) ++ (vs ++ cur.toList.drop (o + i + vs.length))).toArray)
  | [], i, cur, w, hg, hl, _ => by
    have hlt : g < w.heap.size := (Array.getElem?_eq_some_iff.1 hg).1
    have hv : w.heap[g] = .cells cur t (0, 0) := (Array.getElem?_eq_some_iff.1 hg).2
    simp only [storeCells, List.nil_append, List.length_nil, Nat.add_zero, List.take_append_drop, Array.toArray_toList]
    show Result.ok () w = _
    congr 1
    unfold World.setRow
    cases w with
    | mk heap tape drawn os output =>
      congr 1
      apply Array.ext
      · simp
      · intro k h1 h2
        simp only [Array.getElem_modify]
        split
        · rename_i hk; subst hk; simp at hv; simp [hv]
        · rfl
  | v :: rest, i, cur, w, hg, hl, h1 => by
    have hi : o + i < cur.size := by simp at hl; omega
    have hadd : (⟨g, o, none⟩ : Addr).add i = ⟨g, o + i, none⟩ := by unfold Addr.add; split <;> simp_all
    have hcell : w.cell? ⟨g, o + i, none⟩ = some cur[o + i] := by simp [World.cell?, hg, hi]
    have hfro : w.frozen? ⟨g, o + i, none⟩ = false := by simp [World.frozen?, hg]
    have hst : (store ((⟨g, o, none⟩ : Addr).add i) v).run P w = .ok () (w.setRow g (cur.setIfInBounds (o + i) v)) := by
      rw [hadd, run_store P w _ v _ (h1 v (by simp)), hcell]
      simp [hfro, setCell_eq_setRow w g (o + i) cur t (0, 0) v hg]
    have ih := run_storeCells_mid (P := P) g t o rest (i + 1) (cur.setIfInBounds (o + i) v) (w.setRow g (cur.setIfInBounds (o + i) v)) (setRow_heap w g cur _ t _ hg) (by simp at hl ⊢; omega) (fun x hx => h1 x (by simp [hx]))
    simp only [storeCells, Sem.run_bind, hst, Result.andThen_ok, ih, setRow_setRow]
    congr 3
    apply List.ext_getElem?
    intro k
    have e1 : o + (i + 1) = o + i + 1 := by omega
    simp only [Array.toList_setIfInBounds, List.getElem?_append, List.length_take, List.length_set, Array.length_toList, e1, List.length_cons, List.getElem?_drop, List.getElem?_set, List.getElem?_take]
    by_cases hk : k < o + i
    · simp [hk, show k < o + i + 1 by omega, show min (o + i + 1) cur.size = o + i + 1 by omega, show min (o + i) cur.size = o + i by omega, show o + i ≠ k by omega]
    · by_cases hk2 : k = o + i
      · subst hk2
        simp [show min (o + i + 1) cur.size = o + i + 1 by omega, show min (o + i) cur.size = o + i by omega, hi]
      · have a1 : min (o + i + 1) cur.size = o + i + 1 := by omega
        have a2 : min (o + i) cur.size = o + i := by omega
        have a3 : ¬ k < o + i + 1 := by omega
        have a4 : k - (o + i) = (k - (o + i + 1)) + 1 := by omega
        simp only [a1, a2, hk, a3, if_false, a4, List.getElem?_cons_succ]
        by_cases hr : k - (o + i + 1) < rest.length
        · have : k - (o + i + 1) + 1 < rest.length + 1 := by omega
          simp [hr]
        · have a5 : ¬ k - (o + i + 1) + 1 < rest.length + 1 := by omega
          have a6 : ¬ o + i = o + i + 1 + rest.length + (k - (o + i + 1) - rest.length) := by omega
          simp only [hr, a5, if_false, a6]
          congr 1
          omega

theorem gcells_size (d st k s n : Nat) : (gcells d st k s n).size = 21 := by simp [gcells, tabK_size]
theorem gcells_fill (d st k s n : Nat) : ((gcells d st k s n).toList.take (3 + 0) ++ ((tabK 16).toList ++ (gcells d st k s n).toList.drop (3 + 0 + (tabK 16).toList.length))).toArray = gcells d st 16 s n := by
  have h1 := tabK_size k
  have h2 := tabK_size 16
  generalize hA : tabK k = A at *
  generalize hB : tabK 16 = B at *
  apply Array.ext'
  simp [gcells, hA, hB, h1, h2, List.take_append]

/-- behind the closure -/
def wfill (w : World) (b d st s n : Nat) : World := (wtab2 w).setRow b (gcells d st 16 s n)

def GMtr (w : World) (b d st k s n : Nat) : Prop := w.heap[b]? = some (.cells (gcells d st k s n) 58 (0, 0))
theorem GMtr.lt {w : World} {b d st k s n : Nat} (h : GMtr w b d st k s n) : b < w.heap.size := (Array.getElem?_eq_some_iff.1 h).1

theorem fill_store (w : World) (b d st k s n : Nat) (hm : GMtr w b d st k s n) : (storeCells ⟨b, 3, none⟩ (tabK 16).toList).run Try.prog (wtab2 w) = .ok () (wfill w b d st s n) := by
  have := run_storeCells_mid (P := Try.prog) b 58 3 (tabK 16).toList 0 (gcells d st k s n) (wtab2 w) ((wtab2_heap_lt w b hm.lt).trans hm) (by simp [gcells_size, tabK_size]) (tabK_one 16)
  rw [this, gcells_fill]
  rfl

set_option maxRecDepth 100000 in
set_option maxHeartbeats 1000000 in
theorem fill_any (b d st k s n : Nat) (pl : Addr) (w : World) (hpl : pl.block < w.heap.size) (hp : w.cell? pl = some (.pointer (some ⟨b, 0, none⟩))) (hm : GMtr w b d st k s n) :
    Calls Try.prog 17 #[.pointer (some pl)] w fun e w' => e = .returned (.tuple #[]) ∧ w' = wfill w.drew b d st s n := by
  have hp2 : (wtab2 w).cell? pl = some (.pointer (some ⟨b, 0, none⟩)) := by rw [wtab2_cell_lt w pl hpl]; exact hp
  have hp3 : (wtab2 w.drew).cell? pl = some (.pointer (some ⟨b, 0, none⟩)) := by rw [wtab2_cell_lt w.drew pl hpl]; exact hp
  have hst := fill_store w.drew b d st k s n hm
  have hsz := tabK_size 16
  clear hm
  go_enter Try.func17, Try.ntmps17
  go_wp2
  go_region_with (go_at_call 18; refine (makeTable_any _).mono ?_; rintro e w' ⟨rfl, rfl⟩)
  all_goals go_end0
  all_goals exact ⟨rfl, rfl⟩
end Go.Proofs.Ytjcfegjjdpembaa
