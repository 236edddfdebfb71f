/- Own texts, merged (5 of 42). -/
import Derived.Test.YtddnnhfffmhpmaaGreatDoorSm3
import Derived.Deep.RegionWith
import Derived.Lib.Hide
import Derived.Laws.IdiomStrings
import Derived.Lib.IndexBytes

/- The closure that makes the table; Do for the first time. -/
namespace Go.Proofs.YtddnnhfffmhpmaaGreatDoor
open Go.RowKit

theorem wtab2_cell_lt (w : World) (p : Addr) (h : p.block < w.heap.size) : (wtab2 w).cell? p = w.cell? p := by
  unfold wtab2
  rw [World.cell?_alloc_lt _ _ _ (by simp; omega), World.cell?_alloc_lt _ _ _ h]
theorem wtab2_heap_lt (w : World) (g : Nat) (h : g < w.heap.size) : (wtab2 w).heap[g]? = w.heap[g]? := by
  unfold wtab2
  rw [Below.heap_alloc _ _ _ (by simp; omega), Below.heap_alloc _ _ _ h]

theorem run_storeCells_mid {P : Program} (g : Nat) (t : TypeId) (o : Nat) : ∀ (vs : List Value) (i : Nat) (cur : Array Value) (w : World), w.heap[g]? = some (.cells cur t (0, 0)) → o + i + vs.length ≤ cur.size → (∀ v ∈ vs, v.oneCell' = true) →
    (storeCells ⟨g, o, none⟩ vs i).run P w = .ok () (w.setRow g (cur.toList.take (o + i) ++ (vs ++ cur.toList.drop (o + i + vs.length))).toArray)
  | [], i, cur, w, hg, hl, _ => by
    have hlt : g < w.heap.size := (Array.getElem?_eq_some_iff.1 hg).1
    have hv : w.heap[g] = .cells cur t (0, 0) := (Array.getElem?_eq_some_iff.1 hg).2
    simp only [storeCells, List.nil_append, List.length_nil, Nat.add_zero, List.take_append_drop, Array.toArray_toList]
    show Result.ok () w = _
    congr 1
    unfold World.setRow
    cases w with
    | mk heap tape drawn os output =>
      congr 1
      apply Array.ext
      · simp
      · intro k h1 h2
        simp only [Array.getElem_modify]
        split
        · rename_i hk; subst hk; simp at hv; simp [hv]
        · rfl
  | v :: rest, i, cur, w, hg, hl, h1 => by
    have hi : o + i < cur.size := by simp at hl; omega
    have hadd : (⟨g, o, none⟩ : Addr).add i = ⟨g, o + i, none⟩ := by unfold Addr.add; split <;> simp_all
    have hcell : w.cell? ⟨g, o + i, none⟩ = some cur[o + i] := by simp [World.cell?, hg, hi]
    have hfro : w.frozen? ⟨g, o + i, none⟩ = false := by simp [World.frozen?, hg]
    have hst : (store ((⟨g, o, none⟩ : Addr).add i) v).run P w = .ok () (w.setRow g (cur.setIfInBounds (o + i) v)) := by
      rw [hadd, run_store P w _ v _ (h1 v (by simp)), hcell]
      simp [hfro, setCell_eq_setRow w g (o + i) cur t (0, 0) v hg]
    have ih := run_storeCells_mid (P := P) g t o rest (i + 1) (cur.setIfInBounds (o + i) v) (w.setRow g (cur.setIfInBounds (o + i) v)) (setRow_heap w g cur _ t _ hg) (by simp at hl ⊢; omega) (fun x hx => h1 x (by simp [hx]))
    simp only [storeCells, Sem.run_bind, hst, Result.andThen_ok, ih, setRow_setRow]
    congr 3
    apply List.ext_getElem?
    intro k
    have e1 : o + (i + 1) = o + i + 1 := by omega
    simp only [Array.toList_setIfInBounds, List.getElem?_append, List.length_take, List.length_set, Array.length_toList, e1, List.length_cons, List.getElem?_drop, List.getElem?_set, List.getElem?_take]
    by_cases hk : k < o + i
    · simp [hk, show k < o + i + 1 by omega, show min (o + i + 1) cur.size = o + i + 1 by omega, show min (o + i) cur.size = o + i by omega, show o + i ≠ k by omega]
    · by_cases hk2 : k = o + i
      · subst hk2
        simp [show min (o + i + 1) cur.size = o + i + 1 by omega, show min (o + i) cur.size = o + i by omega, hi]
      · have a1 : min (o + i + 1) cur.size = o + i + 1 := by omega
        have a2 : min (o + i) cur.size = o + i := by omega
        have a3 : ¬ k < o + i + 1 := by omega
        have a4 : k - (o + i) = (k - (o + i + 1)) + 1 := by omega
        simp only [a1, a2, hk, a3, if_false, a4, List.getElem?_cons_succ]
        by_cases hr : k - (o + i + 1) < rest.length
        · have : k - (o + i + 1) + 1 < rest.length + 1 := by omega
          simp [hr]
        · have a5 : ¬ k - (o + i + 1) + 1 < rest.length + 1 := by omega
          have a6 : ¬ o + i = o + i + 1 + rest.length + (k - (o + i + 1) - rest.length) := by omega
          simp only [hr, a5, if_false, a6]
          congr 1
          omega

theorem gcells_size (d st k s n : Nat) : (gcells d st k s n).size = 21 := by simp [gcells, tabK_size]
theorem gcells_fill (d st k s n : Nat) : ((gcells d st k s n).toList.take (3 + 0) ++ ((tabK 16).toList ++ (gcells d st k s n).toList.drop (3 + 0 + (tabK 16).toList.length))).toArray = gcells d st 16 s n := by
  have h1 := tabK_size k
  have h2 := tabK_size 16
  generalize hA : tabK k = A at *
  generalize hB : tabK 16 = B at *
  apply Array.ext'
  simp [gcells, hA, hB, h1, h2, List.take_append]

/-- behind the closure -/
def wfill (w : World) (b d st s n : Nat) : World := (wtab2 w).setRow b (gcells d st 16 s n)

def GMtr (w : World) (b d st k s n : Nat) : Prop := w.heap[b]? = some (.cells (gcells d st k s n) 252 (0, 0))
theorem GMtr.lt {w : World} {b d st k s n : Nat} (h : GMtr w b d st k s n) : b < w.heap.size := (Array.getElem?_eq_some_iff.1 h).1

theorem fill_store (w : World) (b d st k s n : Nat) (hm : GMtr w b d st k s n) : (storeCells ⟨b, 3, none⟩ (tabK 16).toList).run Tryz.prog (wtab2 w) = .ok () (wfill w b d st s n) := by
  have := run_storeCells_mid (P := Tryz.prog) b 252 3 (tabK 16).toList 0 (gcells d st k s n) (wtab2 w) ((wtab2_heap_lt w b hm.lt).trans hm) (by simp [gcells_size, tabK_size]) (tabK_one 16)
  rw [this, gcells_fill]
  rfl

set_option maxRecDepth 100000 in
set_option maxHeartbeats 1000000 in
theorem fill_any (b d st k s n : Nat) (pl : Addr) (w : World) (hpl : pl.block < w.heap.size) (hp : w.cell? pl = some (.pointer (some ⟨b, 0, none⟩))) (hm : GMtr w b d st k s n) :
    Calls Tryz.prog 222 #[.pointer (some pl)] w fun e w' => e = .returned (.tuple #[]) ∧ w' = wfill w.drew b d st s n := by
  have hp2 : (wtab2 w).cell? pl = some (.pointer (some ⟨b, 0, none⟩)) := by rw [wtab2_cell_lt w pl hpl]; exact hp
  have hp3 : (wtab2 w.drew).cell? pl = some (.pointer (some ⟨b, 0, none⟩)) := by rw [wtab2_cell_lt w.drew pl hpl]; exact hp
  have hst := fill_store w.drew b d st k s n hm
  have hsz := tabK_size 16
  clear hm
  go_enter Tryz.func222, Tryz.ntmps222
  go_wp2
  go_region_with (go_at_call 223; refine (makeTable_any _).mono ?_; rintro e w' ⟨rfl, rfl⟩)
  all_goals go_end0
  all_goals exact ⟨rfl, rfl⟩
end Go.Proofs.YtddnnhfffmhpmaaGreatDoor

/- Do for the first time: the table is made, nothing else that was there has turned but the meter's own block. -/
namespace Go.Proofs.YtddnnhfffmhpmaaGreatDoor
open Go.RowKit

theorem gcells_0 (d st k s n : Nat) : (gcells d st k s n)[0]? = some (.int .u32 d) := by simp [gcells, Array.getElem?_append]
theorem gcells_1 (d st k s n : Nat) : (gcells d st k s n)[1]? = some (.int .i32 st) := by simp [gcells, Array.getElem?_append]
theorem gcells_19 (d st k s n : Nat) : (gcells d st k s n)[19]? = some (.int .u32 s) := by
  have h1 := tabK_size k
  simp [gcells, h1]
theorem gcells_20 (d st k s n : Nat) : (gcells d st k s n)[20]? = some (.int .i64 n) := by
  have h1 := tabK_size k
  simp [gcells, h1]
theorem gcells_tab (d st s n i : Nat) (h : i < 16) : (gcells d st 16 s n)[3 + i]? = some (.int .u32 (CrcM.mvn 4 i : Nat)) := by
  have h1 := tabK_size 16
  have h2 := tabK_at 16 i h
  rw [if_pos h] at h2
  simp only [gcells, Array.append_assoc]
  rw [Array.getElem?_append_right (by simp), Array.getElem?_append_left (by simp [h1]; omega)]
  simpa using h2
theorem gcells_set0 (d st k s n d' : Nat) : (gcells d st k s n).setIfInBounds 0 (.int .u32 d') = gcells d' st k s n := by
  apply Array.ext'
  simp [gcells]
theorem gcells_set1 (d st k s n d' : Nat) : (gcells d st k s n).setIfInBounds 1 (.int .i32 d') = gcells d d' k s n := by
  apply Array.ext'
  simp [gcells]
theorem gcells_set19 (d st k s n d' : Nat) : (gcells d st k s n).setIfInBounds 19 (.int .u32 d') = gcells d st k d' n := by
  have h1 := tabK_size k
  apply Array.ext'
  simp [gcells, h1]
theorem gcells_set20 (d st k s n d' : Nat) : (gcells d st k s n).setIfInBounds 20 (.int .i64 d') = gcells d st k s d' := by
  have h1 := tabK_size k
  apply Array.ext'
  simp [gcells, h1]


section
variable {w : World} {b d st k s n : Nat}
theorem GMtr.cell (h : GMtr w b d st k s n) (i : Nat) : w.cell? ⟨b, i, none⟩ = (gcells d st k s n)[i]? := cell_of_row w b i _ _ (0, 0) h
theorem GMtr.c0 (h : GMtr w b d st k s n) : w.cell? ⟨b, 0, none⟩ = some (.int .u32 d) := (h.cell 0).trans (gcells_0 ..)
theorem GMtr.c1 (h : GMtr w b d st k s n) : w.cell? ⟨b, 1, none⟩ = some (.int .i32 st) := (h.cell 1).trans (gcells_1 ..)
theorem GMtr.c19 (h : GMtr w b d st k s n) : w.cell? ⟨b, 19, none⟩ = some (.int .u32 s) := (h.cell 19).trans (gcells_19 ..)
theorem GMtr.c20 (h : GMtr w b d st k s n) : w.cell? ⟨b, 20, none⟩ = some (.int .i64 n) := (h.cell 20).trans (gcells_20 ..)
theorem GMtr.ctab (h : GMtr w b d st 16 s n) (i : Nat) (hi : i < 16) : w.cell? ⟨b, 3 + i, none⟩ = some (.int .u32 (CrcM.mvn 4 i : Nat)) := (h.cell (3 + i)).trans (gcells_tab _ _ _ _ i hi)
theorem GMtr.free (h : GMtr w b d st k s n) (i : Nat) : w.frozen? ⟨b, i, none⟩ = false := by
  unfold GMtr at h
  simp [World.frozen?, h]
theorem GMtr.set0 (h : GMtr w b d st k s n) (x : Nat) : GMtr (w.setCell ⟨b, 0, none⟩ (.int .u32 x)) b x st k s n := by
  unfold GMtr; rw [heap_setCell_row h, gcells_set0]
theorem GMtr.set1 (h : GMtr w b d st k s n) (x : Nat) : GMtr (w.setCell ⟨b, 1, none⟩ (.int .i32 x)) b d x k s n := by
  unfold GMtr; rw [heap_setCell_row h, gcells_set1]
theorem GMtr.set19 (h : GMtr w b d st k s n) (x : Nat) : GMtr (w.setCell ⟨b, 19, none⟩ (.int .u32 x)) b d st k x n := by
  unfold GMtr; rw [heap_setCell_row h, gcells_set19]
theorem GMtr.set20 (h : GMtr w b d st k s n) (x : Nat) : GMtr (w.setCell ⟨b, 20, none⟩ (.int .i64 x)) b d st k s x := by
  unfold GMtr; rw [heap_setCell_row h, gcells_set20]
theorem GMtr.drew (h : GMtr w b d st k s n) : GMtr w.drew b d st k s n := h
theorem GMtr.alloc (h : GMtr w b d st k s n) (o : Obj) : GMtr (w.alloc o) b d st k s n := (Below.heap_alloc w o b h.lt).trans h
theorem GMtr.fill (h : GMtr w b d st k s n) : GMtr (wfill w b d st s n) b d st 16 s n := setRow_heap (wtab2 w) b (gcells d st k s n) _ _ _ ((wtab2_heap_lt w b h.lt).trans h)
end

theorem only_fill {a w : World} {b d st s n : Nat} (h : a.grownBy w (some b)) : a.grownBy (wfill w b d st s n) (some b) := only_row (only_new (only_new h _) _) _

set_option maxRecDepth 100000 in
set_option maxHeartbeats 1600000 in
theorem slow_first (b s n : Nat) (pl : Addr) (w : World) (hpl : pl.block < w.heap.size) (hne : ¬ b = pl.block) (hp : w.cell? pl = some (.pointer (some ⟨b, 0, none⟩))) (hm : GMtr w b 0 0 0 s n) :
    Calls Tryz.prog 243 #[.pointer (some ⟨b, 0, none⟩), .func (.func 222) #[] #[.pointer (some pl)]] w fun e w' => e = .returned (.tuple #[]) ∧ GMtr w' b 1 0 16 s n ∧ w.grownBy w' (some b) := by
  have m1 : GMtr (w.setCell ⟨b, 1, none⟩ (.int .i32 1)) b 0 1 0 s n := hm.set1 1
  have c0 : (w.setCell ⟨b, 1, none⟩ (.int .i32 1)).cell? ⟨b, 0, none⟩ = some (.int .u32 0) := m1.c0
  have hl := run_call_load (P := Tryz.prog) Tryz.func252 (by kernel_rfl) (by kernel_rfl) (by kernel_rfl) .u32 (by kernel_rfl) c0
  have hp1 : (w.setCell ⟨b, 1, none⟩ (.int .i32 1)).cell? pl = some (.pointer (some ⟨b, 0, none⟩)) := (World.cell?_setCell_other _ ⟨b, 1, none⟩ pl _ (fun h => hne (by rw [← h]))).trans hp
  have hpl1 : pl.block < (w.setCell ⟨b, 1, none⟩ (.int .i32 1)).heap.size := by simpa [World.setCell] using hpl
  have hnot : ∀ (x : Bool) (w : World), (Op.unary .not (.bool x)).run Tryz.prog w = .ok (.bool (!x)) w := fun _ _ => rfl
  have L1 : w.cell? ⟨b, 1, none⟩ = some (.int .i32 0) := hm.c1
  have L2 := hm.free 1
  go_enter_defers Tryz.func243, Tryz.ntmps243
  go_wp2_with (first | (go_at_call 253; refine (lock_free ⟨b, 1, none⟩ _ L1 L2).mono ?_; rintro e w' ⟨rfl, rfl⟩) | (go_at_call 242; go_in) | (go_at_call 222; refine (fill_any b 0 1 0 s n pl _ hpl1 hp1 m1).mono ?_; rintro e w' ⟨rfl, rfl⟩))
  have m2 := (m1.drew).fill
  have g2 : w.grownBy (wfill (w.setCell ⟨b, 1, none⟩ (.int .i32 1)).drew b 0 1 s n) (some b) := only_fill (only_draw (only_set (World.grownBy.refl w _) _ _))
  generalize wfill (w.setCell ⟨b, 1, none⟩ (.int .i32 1)).drew b 0 1 s n = w2 at m2 g2 ⊢
  refine leaves_cons (f := 255) (args := #[.pointer (some ⟨b, 0, none⟩), .bool true]) (by simp) (by simp [go_sem]) ?_
  refine (store_deferred ⟨b, 0, none⟩ _ .returning _ m2.c0 (m2.free 0)).mono ?_
  rintro e u' w'' ⟨rfl, rfl, rfl⟩
  have m3 := (m2.drew).set0 1
  have g3 := only_set (only_draw g2) 0 (.int .u32 (1 : Nat))
  refine leaves_cons (f := 254) (args := #[.pointer (some ⟨b, 1, none⟩)]) (by simp [settle]) (by simp [go_sem]) ?_
  refine (unlock_deferred ⟨b, 1, none⟩ _ _ m3.c1 (m3.free 1)).mono ?_
  rintro e u' w'' ⟨rfl, rfl, rfl⟩
  have m4 := m3.set1 0
  have g4 := only_set g3 1 (.int .i32 (0 : Nat))
  simp only [Leaves, settle]
  exact ⟨_, results_none rfl _ _ _, rfl, m4, g4⟩

/-- Do, for the first time -/
theorem do_first (b s n : Nat) (pl : Addr) (w : World) (hpl : pl.block < w.heap.size) (hne : ¬ b = pl.block) (hp : w.cell? pl = some (.pointer (some ⟨b, 0, none⟩))) (hm : GMtr w b 0 0 0 s n) :
    Calls Tryz.prog 221 #[.pointer (some ⟨b, 0, none⟩), .func (.func 222) #[] #[.pointer (some pl)]] w fun e w' => e = .returned (.tuple #[]) ∧ GMtr w' b 1 0 16 s n ∧ w.grownBy w' (some b) := by
  have c0 : w.cell? ⟨b, 0, none⟩ = some (.int .u32 0) := hm.c0
  have hl := run_call_load (P := Tryz.prog) Tryz.func252 (by kernel_rfl) (by kernel_rfl) (by kernel_rfl) .u32 (by kernel_rfl) c0
  have hnot : ∀ (x : Bool) (w : World), (Op.unary .not (.bool x)).run Tryz.prog w = .ok (.bool (!x)) w := fun _ _ => rfl
  go_enter Tryz.func221, Tryz.ntmps221
  go_wp2_with (first | (go_at_call 243; refine (slow_first b s n pl _ hpl hne hp hm).mono ?_; rintro e w' ⟨rfl, hm', hg'⟩) | (go_at_call 242; go_in))
  go_end0
  exact ⟨rfl, hm', hg'⟩
end Go.Proofs.YtddnnhfffmhpmaaGreatDoor

/- Add's contract. -/
namespace Go.Proofs.YtddnnhfffmhpmaaGreatDoor
open Go.RowKit

theorem do_any (b d s n : Nat) (hd : d = 0 ∨ d = 1) (pl : Addr) (w : World) (hpl : pl.block < w.heap.size) (hne : ¬ b = pl.block) (hp : w.cell? pl = some (.pointer (some ⟨b, 0, none⟩))) (hm : GMtr w b d 0 (16 * d) s n) :
    Calls Tryz.prog 221 #[.pointer (some ⟨b, 0, none⟩), .func (.func 222) #[] #[.pointer (some pl)]] w fun e w' => e = .returned (.tuple #[]) ∧ GMtr w' b 1 0 16 s n ∧ w.grownBy w' (some b) := by
  rcases hd with rfl | rfl
  · exact do_first b s n pl w hpl hne hp hm
  · exact (do_done ⟨b, 0, none⟩ _ w hm.c0).mono fun e w' ⟨he, hw⟩ => ⟨he, by subst hw; exact hm, by subst hw; exact World.grownBy.refl _ _⟩


theorem not_u32 (s : Nat) (h : s < 4294967296) : bits .xor .u32 IntKind.u32.max (s : Int) = ((4294967295 - s : Nat) : Int) := by
  have := u32_xor_nat 4294967295 s (by decide) h
  rw [Nat.xor_comm, ← CrcM.xor_ones h] at this
  exact this
theorem and15 (c : Nat) (h : c < 4294967296) : bits .and .u32 (c : Int) 15 = ((c % 16 : Nat) : Int) := by
  have := u32_and_nat c 15 h (by decide)
  have e : c &&& 15 = c % 16 := Nat.and_two_pow_sub_one_eq_mod c 4
  rw [e] at this
  exact this
/-- one half byte, as the walk spells it -/
theorem half_step (x : Nat) (h : x < 4294967296) : ∃ i q m : Nat, i < 16 ∧ m = CrcM.mvn 4 i ∧ bits .and .u32 (x : Int) 15 = (i : Int) ∧ (x : Int) / 16 = (q : Int) ∧ bits .xor .u32 (m : Int) (q : Int) = ((CrcM.mvn 4 x : Nat) : Int) := by
  refine ⟨x % 16, x / 16, _, by omega, rfl, and15 x h, by omega, ?_⟩
  rw [u32_xor_nat _ _ (CrcM.mvn_lt 4 (by omega)) (by omega), ← CrcM.mvn_half]

set_option maxRecDepth 100000 in
set_option maxHeartbeats 1600000 in
theorem add_any (b d s n : Nat) (hd : d = 0 ∨ d = 1) (t : ByteArray) (w : World) (hs : s < 4294967296) (hn : n ≤ 100000000) (ht : t.size ≤ 100000000) (hm : GMtr w b d 0 (16 * d) s n) :
    Calls Tryz.prog 199 #[.pointer (some ⟨b, 0, none⟩), .string t] w fun e w' => e = .returned (.pointer (some ⟨b, 0, none⟩)) ∧ GMtr w' b 1 0 16 (4294967295 - CrcM.run (4294967295 - s) t.data.toList) (n + t.size) ∧ w.grownBy w' (some b) := by
  have hmf : ∀ (fn : Fn) (first cap : Array Value) (w : World), (Instr.makeFunc fn first cap).run Tryz.prog w = .ok (.func fn first cap) w := fun _ _ _ _ => rfl
  have hb := hm.lt
  obtain ⟨r0, hr0⟩ : ∃ r, r = 4294967295 - s := ⟨_, rfl⟩
  have hnt := not_u32 s hs
  rw [← hr0] at hnt
  rw [← hr0]
  have hr0lt : r0 < 4294967296 := by omega
  have HR := Lib.hid hr0
  clear hr0
  go_enter Tryz.func199, Tryz.ntmps199
  go_wp2_with (go_at_call 221; refine (do_any b d s n hd ⟨w.heap.size, 0, none⟩ _ (by simp) (by simp; omega) (by simp) (hm.alloc _)).mono ?_; rintro e w1 ⟨rfl, hm1, hg1⟩; have p1 := cell_of_grown hg1 (p := ⟨w.heap.size, 0, none⟩) (by simp) (by simp; omega); simp at p1; have c19 := hm1.c19)
  go_loop [5, 19] (fun c i => ∃ k : Nat, k ≤ t.size ∧ i = .int .i64 k ∧ c = .int .u32 (CrcM.run r0 (t.data.toList.take k) : Nat)) (fun _ i => t.size - (intOf i).toNat)
  case atStart => exact ⟨0, by omega, rfl, rfl⟩
  case round =>
    obtain ⟨k, hk, rfl, rfl⟩ := hrel
    by_cases hlt : k < t.size
    · have hc := CrcM.run_lt (t.data.toList.take k) hr0lt
      have hstep : CrcM.run r0 (t.data.toList.take (k + 1)) = CrcM.mvn 4 (CrcM.mvn 4 (CrcM.run r0 (t.data.toList.take k) ^^^ t[k].toNat)) := by
        rw [List.take_succ_eq_append_getElem (by simpa using hlt), CrcM.run_snoc, CrcM.up, ← CrcM.mvn_add]
        rfl
      have hby := t[k].toNat_lt
      have hx0 := u32_xor_nat (CrcM.run r0 (t.data.toList.take k)) t[k].toNat hc (by omega)
      have HS := Lib.hid hstep
      clear hstep
      obtain ⟨c, hcE⟩ : ∃ c, c = CrcM.run r0 (t.data.toList.take k) := ⟨_, rfl⟩
      rw [← hcE] at hx0 hc HS ⊢
      have HC := Lib.hid hcE
      clear hcE
      obtain ⟨x, hxE⟩ : ∃ x, x = c ^^^ t[k].toNat := ⟨_, rfl⟩
      have hxlt : x < 4294967296 := by rw [hxE]; exact Nat.xor_lt_two_pow (n := 32) hc (by omega)
      rw [← hxE] at hx0 HS
      clear hxE
      obtain ⟨i1, q1, m1, hi1, hm1E, ha1, hq1, hb1⟩ := half_step x hxlt
      have hct1 := hm1.ctab i1 hi1
      rw [← hm1E] at hct1
      clear hm1E
      have hylt := CrcM.mvn_lt 4 hxlt
      obtain ⟨y, hyE⟩ : ∃ y, y = CrcM.mvn 4 x := ⟨_, rfl⟩
      rw [← hyE] at hb1 hylt HS
      clear hyE
      obtain ⟨i2, q2, m2, hi2, hm2E, ha2, hq2, hb2⟩ := half_step y hylt
      have hct2 := hm1.ctab i2 hi2
      rw [← hm2E] at hct2
      clear hm2E
      go_wp2
      go_round
      case rel => exact ⟨k + 1, by omega, by go_num, by rw [HS.out]⟩
      case measure => simp [intOf]; omega
    · have hke : t.data.toList.take k = t.data.toList := List.take_of_length_le (by simp; omega)
      rw [hke]
      have hc := CrcM.run_lt t.data.toList hr0lt
      clear hke
      obtain ⟨c, hcE⟩ : ∃ c, c = CrcM.run r0 t.data.toList := ⟨_, rfl⟩
      rw [← hcE] at hc ⊢
      have HC := Lib.hid hcE
      clear hcE
      have hnc := not_u32 c hc
      obtain ⟨s2, hs2⟩ : ∃ r, r = 4294967295 - c := ⟨_, rfl⟩
      rw [← hs2] at hnc
      have HS2 := Lib.hid hs2
      clear hs2
      have f19 := hm1.free 19
      have hm2 := hm1.set19 s2
      have hg2 := only_set hg1 19 (.int .u32 (s2 : Nat))
      have p2 := cell_of_grown hg2 (p := ⟨w.heap.size, 0, none⟩) (by simp) (by simp; omega)
      simp at p2
      go_wp2_with (go_at_call 169; refine (iadd_any b n t.size _ (by omega) (by omega) hm2.c20 (hm2.free 20)).mono ?_; rintro e w3 ⟨rfl, rfl⟩; have hm3 := hm2.set20 (n + t.size); have hg3 := only_set hg2 20 (.int .i64 ((n + t.size : Nat) : Int)); have p3 := cell_of_grown hg3 (p := ⟨w.heap.size, 0, none⟩) (by simp) (by simp; omega); simp at p3)
      go_ret
      exact ⟨rfl, by rw [← HC.out, ← HS2.out]; exact hm3, (only_new (World.grownBy.refl w _) _).trans hg3⟩
end Go.Proofs.YtddnnhfffmhpmaaGreatDoor

/- Sum over any parts. -/
namespace Go.Proofs.YtddnnhfffmhpmaaGreatDoor
open Go.RowKit

/-- the slice value '.slice A n c' reads as the strings l -/
def Strs (w : World) (A : Option Addr) (n : Nat) (l : List ByteArray) : Prop :=
  l.length = n ∧ ∀ k (h : k < l.length), ∃ b o, A = some ⟨b, o, none⟩ ∧ b < w.heap.size ∧ w.cell? ⟨b, o + k, none⟩ = some (.string l[k])
def cat (l : List ByteArray) : List UInt8 := (l.map fun t => t.data.toList).flatten
theorem cat_snoc (l : List ByteArray) (t : ByteArray) : cat (l ++ [t]) = cat l ++ t.data.toList := by simp [cat]
theorem cat_take (l : List ByteArray) (k : Nat) (h : k < l.length) : cat (l.take (k + 1)) = cat (l.take k) ++ l[k].data.toList := by
  rw [List.take_succ_eq_append_getElem h, cat_snoc]
theorem cat_take_le (l : List ByteArray) (k : Nat) : (cat (l.take k)).length ≤ (cat l).length := by
  have h : cat l = cat (l.take k) ++ cat (l.drop k) := by
    unfold cat
    rw [← List.flatten_append, ← List.map_append, List.take_append_drop]
  rw [h, List.length_append]
  omega
theorem cat_part (l : List ByteArray) (k : Nat) (h : k < l.length) : (cat (l.take k)).length + l[k].size ≤ (cat l).length := by
  have h1 := cat_take_le l (k + 1)
  rw [cat_take l k h, List.length_append] at h1
  simpa using h1
theorem sum_more (m t : List UInt8) : 4294967295 - CrcM.run (4294967295 - CrcM.sum m) t = CrcM.sum (m ++ t) := by
  have h := CrcM.run_lt m (c := 4294967295) (by decide)
  unfold CrcM.sum
  rw [CrcM.run_append]
  congr 2
  omega


theorem sum_nil : CrcM.sum [] = 0 := by simp [CrcM.sum, CrcM.run]
theorem mtr_new (w : World) (l : List ByteArray) : GMtr (w.alloc (.cells (mcells 0 0 0) 252)) w.heap.size 0 0 (16 * 0) (CrcM.sum (cat (l.take 0))) (cat (l.take 0)).length := by
  have e : cat (l.take 0) = [] := by simp [cat]
  rw [e, sum_nil]
  exact heap_alloc_new w _

set_option maxRecDepth 100000 in
set_option maxHeartbeats 1600000 in
theorem sum_any (A : Option Addr) (n cp : Nat) (l : List ByteArray) (w : World) (hn : n ≤ 1000000) (hl : (cat l).length ≤ 100000000) (hS : Strs w A n l) :
    Calls Tryz.prog 171 #[.slice A n cp] w fun e w' => e = .returned (.int .u32 (CrcM.sum (cat l) : Nat)) ∧ Below w.heap.size w w' := by
  go_enter Tryz.func171, Tryz.ntmps171
  go_wp2_with (go_at_call 198; refine (new_any _).mono ?_; rintro e w' ⟨rfl, rfl⟩)
  go_loopw [9] (fun i wr => ∃ k d : Nat, k ≤ n ∧ i = .int .i64 k ∧ (d = 0 ∨ d = 1) ∧ GMtr wr w.heap.size d 0 (16 * d) (CrcM.sum (cat (l.take k))) (cat (l.take k)).length ∧ (w.alloc (.cells (mcells 0 0 0) 252)).grownBy wr (some w.heap.size)) (fun i _ => n - (intOf i).toNat)
  case atStart => exact ⟨0, 0, by omega, rfl, .inl rfl, mtr_new w l, World.grownBy.refl _ _⟩
  case round =>
    obtain ⟨k, d, hk, rfl, hd, hm, hg⟩ := hrel
    by_cases hlt : k < n
    · have hkl : k < l.length := by rw [hS.1]; exact hlt
      obtain ⟨b, o, rfl, hbl, hcb⟩ := hS.2 k hkl
      have hpart := cat_part l k hkl
      have hc1 : wr.cell? ⟨b, o + k, none⟩ = some (.string l[k]) := by
        rw [cell_of_grown hg (p := ⟨b, o + k, none⟩) (by simp; omega) (by simp; omega), World.cell?_alloc_lt _ _ _ hbl]
        exact hcb
      go_wp2_with (go_at_call 199; refine (add_any w.heap.size d _ _ hd _ _ (CrcM.sum_lt _) (by omega) (by omega) hm).mono ?_; rintro e w2 ⟨rfl, hm2, hg2⟩)
      go_roundw
      case rel =>
        refine ⟨k + 1, 1, by omega, by go_num, .inr rfl, ?_, hg.trans hg2⟩
        rw [cat_take l k hkl, ← sum_more, List.length_append]
        exact hm2
      case measure => simp [intOf]; omega
    · have hkE : l.take k = l := List.take_of_length_le (by rw [hS.1]; omega)
      rw [hkE] at hm
      clear hkE
      have hc := hm.c19
      go_wp2_with (go_at_call 200; refine (msum_any _ _ _ hc).mono ?_; rintro e w2 ⟨rfl, rfl⟩)
      go_ret
      exact ⟨rfl, below_of_new hg⟩
end Go.Proofs.YtddnnhfffmhpmaaGreatDoor

/- The document's own sum, by bits. -/
namespace Go.Proofs.YtddnnhfffmhpmaaGreatDoor
open Go.RowKit

end Go.Proofs.YtddnnhfffmhpmaaGreatDoor

/- The sum put behind the bytes, by the program and by the document. No condition but a bound on the length. -/
namespace Go.Proofs.YtddnnhfffmhpmaaGreatDoor
open Go.RowKit


theorem le4_size (c : Nat) : (ofBytes (CrcM.le4 c)).size ≤ 4 := by simp [ofBytes, CrcM.le4, ByteArray.size]

theorem conv4 (w : World) (a0 a1 a2 a3 : UInt8) : (convert 70 9 (.slice (some ⟨w.heap.size, 0, none⟩) 4 4)).run Tryz.prog (w.alloc (.cells #[.int .u8 (a0.toNat : Int), .int .u8 (a1.toNat : Int), .int .u8 (a2.toNat : Int), .int .u8 (a3.toNat : Int)] 5))
    = .ok (.string (ofBytes [a0, a1, a2, a3])) (w.alloc (.cells #[.int .u8 (a0.toNat : Int), .int .u8 (a1.toNat : Int), .int .u8 (a2.toNat : Int), .int .u8 (a3.toNat : Int)] 5)) :=
  run_convert_bytes_back _ 70 9 5 ⟨w.heap.size, 0, none⟩ 4 [a0, a1, a2, a3] Tryz.underlying70 Tryz.underlying5 Tryz.underlying9 (fun j hj => by
    have hj4 : j < 4 := hj
    have hrow := heap_alloc_new w (.cells #[.int .u8 (a0.toNat : Int), .int .u8 (a1.toNat : Int), .int .u8 (a2.toNat : Int), .int .u8 (a3.toNat : Int)] 5)
    have hadd : (⟨w.heap.size, 0, none⟩ : Addr).add j = ⟨w.heap.size, j, none⟩ := by unfold Addr.add; split <;> simp_all
    rw [hadd, cell_of_row _ _ _ _ _ _ hrow]
    match j, hj4 with
    | 0, _ => rfl
    | 1, _ => rfl
    | 2, _ => rfl
    | 3, _ => rfl)

theorem conv_le4 (w : World) (c : Nat) (h : c < 4294967296) : (convert 70 9 (.slice (some ⟨w.heap.size, 0, none⟩) 4 4)).run Tryz.prog (w.alloc (.cells #[.int .u8 ((c : Int) % 256), .int .u8 ((c : Int) / 256 % 256), .int .u8 ((c : Int) / 65536 % 256), .int .u8 ((c : Int) / 16777216)] 5))
    = .ok (.string (ofBytes (CrcM.le4 c))) (w.alloc (.cells #[.int .u8 ((c : Int) % 256), .int .u8 ((c : Int) / 256 % 256), .int .u8 ((c : Int) / 65536 % 256), .int .u8 ((c : Int) / 16777216)] 5)) := by
  have := conv4 w (UInt8.ofNat c) (UInt8.ofNat (c / 256)) (UInt8.ofNat (c / 65536)) (UInt8.ofNat (c / 16777216))
  have e0 : (((UInt8.ofNat c).toNat : Nat) : Int) = (c : Int) % 256 := by rw [UInt8.toNat_ofNat']; omega
  have e1 : (((UInt8.ofNat (c / 256)).toNat : Nat) : Int) = (c : Int) / 256 % 256 := by rw [UInt8.toNat_ofNat']; omega
  have e2 : (((UInt8.ofNat (c / 65536)).toNat : Nat) : Int) = (c : Int) / 65536 % 256 := by rw [UInt8.toNat_ofNat']; omega
  have e3 : (((UInt8.ofNat (c / 16777216)).toNat : Nat) : Int) = (c : Int) / 16777216 := by rw [UInt8.toNat_ofNat']; omega
  rw [e0, e1, e2, e3] at this
  exact this


set_option maxRecDepth 100000 in
set_option maxHeartbeats 1600000 in
theorem seal_any (t : ByteArray) (w : World) (ht : t.size ≤ 100000000) :
    Calls Tryz.prog 126 #[.string t] w fun e w' => e = .returned (.string (ofBytes (CrcM.le4 (CrcM.sum t.data.toList)))) ∧ Below w.heap.size w w' := by
  have hslt := CrcM.sum_lt t.data.toList
  obtain ⟨c, hcE⟩ : ∃ c, c = CrcM.sum t.data.toList := ⟨_, rfl⟩
  rw [← hcE] at hslt ⊢
  have hcat : cat [t] = t.data.toList := by simp [cat]
  rw [← hcat] at hcE
  have HC := Lib.hid hcE
  have hl1 : (cat [t]).length ≤ 100000000 := by rw [hcat]; simpa using ht
  clear hcE hcat
  go_enter Tryz.func126, Tryz.ntmps126
  go_wp2_with (fail)
  refine (sum_any _ 1 1 [t] _ (by omega) hl1 ?_).mono ?_
  · refine ⟨rfl, fun k hk => ?_⟩
    have hk0 : k = 0 := by simpa using hk
    subst hk0
    exact ⟨w.heap.size, 0, rfl, by simp, by simp⟩
  rintro e w1 ⟨rfl, hb1⟩
  rw [← HC.out]
  have hcv := conv_le4 w1 c hslt
  go_wp2
  go_ret
  exact ⟨rfl, ((((Below.refl _ _).alloc (Nat.le_refl _) _).trans (hb1.mono (by simp))).alloc (by have := hb1.size; simp at this; omega) _)⟩

set_option maxRecDepth 100000 in
set_option maxHeartbeats 1600000 in
theorem Seal_any (t : ByteArray) (w : World) (ht : t.size ≤ 100000000) :
    Calls Tryz.prog 85 #[.string t] w fun e w' => e = .returned (.string (ofBytes (CrcM.sealed t.data.toList))) ∧ Below w.heap.size w w' := by
  have hz4 := le4_size (CrcM.sum t.data.toList)
  go_enter Tryz.func85, Tryz.ntmps85
  go_wp2_with (go_at_call 126; refine (seal_any _ _ ht).mono ?_; rintro e w' ⟨rfl, hb⟩)
  go_ret
  exact ⟨ret_str (by rw [CrcM.sealed, ← ofBytes_app]), hb⟩
end Go.Proofs.YtddnnhfffmhpmaaGreatDoor

/- Open, and the document's. -/
namespace Go.Proofs.YtddnnhfffmhpmaaGreatDoor
open Go.RowKit

set_option maxHeartbeats 1000000 in
set_option maxRecDepth 100000 in
theorem open_short (s : ByteArray) (w : World) (h : s.size < 4) :
    Calls Tryz.prog 88 #[.string s] w fun e w' => e = .returned (.tuple #[.string ⟨#[]⟩, .int .i64 2]) ∧ w = w' := by
  go_enter Tryz.func88, Tryz.ntmps88
  go_wp2
  go_ret2
  exact ⟨rfl, rfl⟩

theorem tail_eq (s : ByteArray) (n : Nat) (h : s.size = n + 4) : ((s.extract n s.size).toList == (ofBytes (CrcM.le4 (CrcM.sum (List.take n s.data.toList)))).toList) = decide (s.data.toList = CrcM.sealed (s.data.toList.take n)) := by
  rw [Bool.eq_iff_iff, beq_iff_eq, decide_eq_true_iff]
  have e1 : (s.extract n s.size).toList = s.data.toList.drop n := by
    rw [ByteArray.toList_eq, Lib.extract_to_end]
  have e2 : (ofBytes (CrcM.le4 (CrcM.sum (List.take n s.data.toList)))).toList = CrcM.le4 (CrcM.sum (List.take n s.data.toList)) := by
    rw [ByteArray.toList_eq, ofBytes_list]
  rw [e1, e2]
  constructor
  · intro h1
    unfold CrcM.sealed
    rw [← h1, List.take_append_drop]
  · intro h1
    unfold CrcM.sealed at h1
    have hl : (s.data.toList.take n).length = n := by simp; omega
    have := congrArg (List.drop n) h1
    rw [List.drop_append_of_le_length (by omega)] at this
    rw [this, List.drop_of_length_le (by omega)]
    rfl

set_option maxHeartbeats 1000000 in
set_option maxRecDepth 100000 in
theorem open_bad (s : ByteArray) (n : Nat) (w : World) (h : s.size = n + 4) (hl : s.size ≤ 100000000) (hne : s.data.toList ≠ CrcM.sealed (s.data.toList.take n)) :
    Calls Tryz.prog 88 #[.string s] w fun e w' => e = .returned (.tuple #[.string ⟨#[]⟩, .int .i64 8]) ∧ Below w.heap.size w w' := by
  have hb := tail_eq s n h
  rw [decide_eq_false hne] at hb
  have hsub : (s.size : Int) - 4 = (n : Int) := by omega
  have hn1 : n + 4 ≤ s.size := by omega
  have hn2 : (s.extract 0 n).size ≤ 100000000 := by simp [ByteArray.size_extract]; omega
  have hnn : (n : Int) ≤ (s.size : Int) := by omega
  have hn0 : decide ((n : Int) < 0) = false := decide_eq_false (by omega)
  clear hne h
  go_enter Tryz.func88, Tryz.ntmps88
  go_wp2
  go_region_with (go_at_call 126; refine (seal_any _ _ hn2).mono ?_; rintro e w' ⟨rfl, hbw⟩)
  all_goals go_wp2
  all_goals go_ret2
  all_goals exact ⟨rfl, (Below.refl _ w).drew.trans hbw⟩

theorem extract_self (s : ByteArray) (n : Nat) : s.extract 0 n = ofBytes (s.data.toList.take n) := by
  apply ByteArray.ext
  apply Array.ext'
  simp [ofBytes, ByteArray.data_extract]

set_option maxHeartbeats 1000000 in
set_option maxRecDepth 100000 in
theorem open_good (s : ByteArray) (n : Nat) (w : World) (h : s.size = n + 4) (hl : s.size ≤ 100000000) (hne : s.data.toList = CrcM.sealed (s.data.toList.take n)) :
    Calls Tryz.prog 88 #[.string s] w fun e w' => e = .returned (.tuple #[.string (ofBytes (s.data.toList.take n)), .int .i64 0]) ∧ Below w.heap.size w w' := by
  have hb := tail_eq s n h
  rw [decide_eq_true hne] at hb
  have hsub : (s.size : Int) - 4 = (n : Int) := by omega
  have hn1 : n + 4 ≤ s.size := by omega
  have hn2 : (s.extract 0 n).size ≤ 100000000 := by simp [ByteArray.size_extract]; omega
  have hnn : (n : Int) ≤ (s.size : Int) := by omega
  have hn0 : decide ((n : Int) < 0) = false := decide_eq_false (by omega)
  rw [← extract_self]
  clear hne h
  go_enter Tryz.func88, Tryz.ntmps88
  go_wp2
  go_region_with (go_at_call 126; refine (seal_any _ _ hn2).mono ?_; rintro e w' ⟨rfl, hbw⟩)
  all_goals go_wp2_with (go_at_call 127; refine (clone_any _ _ hn2).mono ?_; rintro e w2 ⟨rfl, hbw2⟩)
  all_goals go_ret2
  all_goals exact ⟨rfl, (Below.refl _ w).drew.trans (hbw.trans (hbw2.mono hbw.size))⟩

end Go.Proofs.YtddnnhfffmhpmaaGreatDoor
