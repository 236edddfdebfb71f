/- Own texts, merged (2 of 42). -/
import Derived.Test.YtddnnhfffmhpmaaGreatDoorRows
import Derived.WalkKit
import Derived.WalkSpells
import Derived.WalkLawsBesides
import Derived.Lib.Hide
import Derived.KernelRfl
import Derived.Maps.RangeWalk

/- What every layer's walks use, whatever functions the seat holds: what turns of the world. -/
namespace Go.Proofs.YtddnnhfffmhpmaaGreatDoor
open Go.RowKit

theorem ret_int {k : IntKind} {a b : Int} (h : a = b) : Ending.returned (.int k a) = .returned (.int k b) := by rw [h]
theorem heap_setCell_row {w : World} {g : Nat} {t : TypeId} {cs : Array Value} (h : w.heap[g]? = some (.cells cs t (0, 0))) (i : Nat) (u : Value) :
    (w.setCell ⟨g, i, none⟩ u).heap[g]? = some (.cells (cs.setIfInBounds i u) t (0, 0)) := by
  simp [World.setCell, Array.getElem?_modify, h]
/-- nothing that was there has turned but block b -/
theorem only_set {a w : World} {b : Nat} (h : a.grownBy w (some b)) (i : Nat) (u : Value) : a.grownBy (w.setCell ⟨b, i, none⟩ u) (some b) :=
  ⟨h.os, h.tape, h.output, by simpa [World.setCell] using h.size, fun j hj hne => (Below.heap_setCell w _ u j (fun e => hne (by rw [e]))).trans (h.block j hj hne)⟩
theorem only_draw {a w : World} {r : Option Nat} (h : a.grownBy w r) : a.grownBy w.drew r := ⟨h.os, h.tape, h.output, h.size, h.block⟩
theorem only_new {a w : World} {r : Option Nat} (h : a.grownBy w r) (o : Obj) : a.grownBy (w.alloc o) r :=
  ⟨h.os, h.tape, h.output, Nat.le_trans h.size (by simp), fun i hi hne => (Below.heap_alloc w o i (Nat.lt_of_lt_of_le hi h.size)).trans (h.block i hi hne)⟩
theorem only_row {a w : World} {b : Nat} (h : a.grownBy w (some b)) (cs : Array Value) : a.grownBy (w.setRow b cs) (some b) :=
  ⟨h.os, h.tape, h.output, by simpa using h.size, fun j hj hne => by
    have e : b ≠ j := fun e => hne (by rw [e])
    have : (w.setRow b cs).heap[j]? = w.heap[j]? := by simp [World.setRow, Array.getElem?_modify, e]
    exact this.trans (h.block j hj hne)⟩
theorem cell_of_grown {a w : World} {r : Option Nat} (h : a.grownBy w r) {p : Addr} (hp : p.block < a.heap.size) (hr : some p.block ≠ r) : w.cell? p = a.cell? p := World.cell?_of_block (w := a) (h.block p.block hp hr)
theorem below_of_new {w w' : World} {o : Obj} (h : (w.alloc o).grownBy w' (some w.heap.size)) : Below w.heap.size w w' :=
  ⟨h.os, h.tape, h.output, Nat.le_trans (by simp) h.size, fun k hk => (h.block k (by simp; omega) (by simp; omega)).trans (Below.heap_alloc w o k hk)⟩
theorem add_none (b o j : Nat) : (⟨b, o, none⟩ : Addr).add j = ⟨b, o + j, none⟩ := by unfold Addr.add; split <;> simp_all
theorem int_info : (Tryz.prog.info? 3).map (fun i => (i.zero, i.size, i.bytes)) = some (some (.int .i64 0), 1, 8) := by kernel_rfl
end Go.Proofs.YtddnnhfffmhpmaaGreatDoor

/- A store at a key that is there, while the map is gone through: what is still to come stays the same. -/
namespace Go.Proofs.YtddnnhfffmhpmaaGreatDoor
open Go Go.RowKit Go.ChangeMaps Go.MapKept Go.WideShapes
open Go.WideElems (Fit rd rg pl rd_key rd_val rg_of other_key rd_mk)
open Go.Maps (Keyed)

theorem filter_born (p : Nat → Bool) : ∀ l l' : List MapEntry, l.map (·.born) = l'.map (·.born) → (l.filter fun e => p e.born).length = (l'.filter fun e => p e.born).length
  | [], [], _ => rfl
  | [], _ :: _, h => by cases h
  | _ :: _, [], h => by cases h
  | a :: t, a' :: t', h => by
    rw [List.map_cons, List.map_cons] at h
    injection h with h1 h2
    have ih := filter_born p t t' h2
    rw [List.filter_cons, List.filter_cons, h1]
    split
    · rw [List.length_cons, List.length_cons, ih]
    · exact ih
section
variable {H : Type} {P : Program} {k : TypeId} {R : Value → Option (DataW H × List MemPlace)} {w : World} {b r n : Nat} {D : DataW H} {left : Lit → Bool} {cnt : Nat}
theorem ranges_store {t e : TypeId} (h : w.ranges P k R b r n D left cnt) (K : Keyed P k) (ht : P.underlying t = some (.map k e)) (hn : n < maxLen) {key val : Value} {kl : Lit} {d : DataW H} {ps : List MemPlace}
    (hkey : keyOf P k key = some kl) (hv : R val = some (d, ps)) (hhas : Maps.has D kl = true) :
    ∃ w', (Instr.mapUpdate t (.map (some b)) key val).run P w = .ok () w' ∧ w'.ranges P k R b r n (D.put kl d) left cnt ∧ w.mapTurned w' b := by
  have hne := h.ne
  obtain ⟨es, clock, since, seen, c0, hb, F, hs, rfl, hr, hold, rfl, hl1, hl2, hsc, hsk⟩ := h
  obtain ⟨es', clock', hrun, F', hput, _, _, _⟩ := Maps.fit_store (R' := R) K ht hb F (Nat.lt_of_le_of_lt hs hn) (fun _ _ _ _ hz => hz) hkey hv
  rcases K.find w hkey es.toList F.keys with ⟨_, h2⟩ | ⟨j, e0, h1, h2, h3⟩
  · obtain ⟨p, hp, hpk⟩ := List.any_eq_true.1 hhas
    obtain ⟨x, hx, rfl⟩ := List.mem_map.1 (mem_sorted.1 hp)
    obtain ⟨y, hy⟩ := F.reads x hx
    have e1 := WideAt.sameKey_eq hpk
    rw [rg_of hy] at e1
    exact absurd (K.inj (rd_key hy) (e1 ▸ hkey)) (h2 x hx)
  · have hj : es[j]? = some e0 := by simpa using h2
    have hjl : j < es.toList.length := (List.getElem?_eq_some_iff.1 h2).1
    have hrun2 : (Instr.mapUpdate t (.map (some b)) key val).run P w = .ok () (setBlock w b (.map (es.modify j (fun e' => { e' with key := key, val := val })) clock)) := by
      simp [Instr.mapUpdate, run_underlying ht, MapKept.run_getObj_map hb, K.check w false hkey, h1, hj, h3, K.stays w hkey, MapKept.run_setObj_map _ hb, Result.andThen, setBlock]
    rw [hrun2] at hrun
    injection hrun with _ hw
    have ho : (setBlock w b (.map (es.modify j (fun e' => { e' with key := key, val := val })) clock)).heap[b]? = (setBlock w b (.map es' clock')).heap[b]? := by rw [hw]
    rw [heap_setBlock_same hb, heap_setBlock_same hb] at ho
    injection ho with ho
    injection ho with ho hc
    subst hc
    subst ho
    have hlist : (es.modify j (fun e' => { e' with key := key, val := val })).toList = es.toList.set j { e0 with key := key, val := val } := by rw [Array.toList_modify, modify_eq_set _ _ _ _ h2]
    have hborn : (es.modify j (fun e' => { e' with key := key, val := val })).toList.map (·.born) = es.toList.map (·.born) := by
      rw [hlist, List.map_set]
      apply List.ext_getElem (by simp)
      intro i h1 h2'
      rw [List.getElem_set]
      split
      · rename_i e1
        subst e1
        have : es.toList[j] = e0 := by rw [List.getElem?_eq_getElem hjl] at h2; injection h2
        simp only [List.getElem_map, this]
      · rfl
    have hmem : ∀ x ∈ (es.modify j (fun e' => { e' with key := key, val := val })).toList, ∃ z ∈ es.toList, z.born = x.born ∧ (rg P k R z).1 = (rg P k R x).1 := by
      intro x hx
      rw [hlist] at hx
      obtain ⟨i, hi, ex⟩ := List.getElem_of_mem hx
      have hi' : i < es.toList.length := by simpa using hi
      rw [List.getElem_set] at ex
      split at ex
      · refine ⟨e0, List.mem_of_getElem? h2, by rw [← ex], ?_⟩
        obtain ⟨y, hy⟩ := F.reads e0 (List.mem_of_getElem? h2)
        rw [← ex, rg_of hy, rg_of (rd_mk hkey hv)]
        have m1 := rd_key hy
        rw [h3, hkey] at m1
        injection m1 with m1
        exact m1.symm
      · exact ⟨x, ex ▸ List.getElem_mem hi', rfl, rfl⟩
    have hback : ∀ x ∈ es.toList, ∃ z ∈ (es.modify j (fun e' => { e' with key := key, val := val })).toList, (rg P k R z).1 = (rg P k R x).1 := by
      intro x hx
      obtain ⟨i, hi, ex⟩ := List.getElem_of_mem hx
      by_cases e1 : i = j
      · subst e1
        refine ⟨{ e0 with key := key, val := val }, ?_, ?_⟩
        · rw [hlist]
          exact List.mem_iff_getElem.2 ⟨i, by simpa using hi, by simp⟩
        · have e2 : x = e0 := by rw [List.getElem?_eq_getElem hi, ex] at h2; injection h2
          obtain ⟨y, hy⟩ := F.reads e0 (List.mem_of_getElem? h2)
          rw [e2, rg_of hy, rg_of (rd_mk hkey hv)]
          have m1 := rd_key hy
          rw [h3, hkey] at m1
          injection m1 with m1
      · refine ⟨x, ?_, rfl⟩
        rw [hlist]
        exact List.mem_iff_getElem.2 ⟨i, by simpa using hi, by rw [List.getElem_set, if_neg (fun e => e1 e.symm)]; exact ex⟩
    refine ⟨_, hrun2, ⟨_, clock, since, seen, c0, heap_setBlock_same hb _, F', by simpa using hs, by rw [DataW.put_eq, hput], (heap_setBlock_other hb _ hne).trans hr, fun x hx => ?_, ?_, fun x hx => ?_, fun kl' hkl' => ?_, hsc, hsk⟩, ⟨es, clock, _, clock, hb, rfl⟩⟩
    · obtain ⟨z, hz, e1, _⟩ := hmem x hx
      rw [← e1]
      exact hold z hz
    · have e1 : ∀ a : Array MapEntry, (leftOf a seen).size = (a.toList.filter fun e => !seen.contains e.born).length := fun a => by
        unfold leftOf
        rw [← Array.toList_filter, Array.length_toList]
      rw [e1, e1]
      exact filter_born (fun q => !seen.contains q) _ _ hborn
    · obtain ⟨z, hz, e1, e2⟩ := hmem x hx
      rw [← e2, ← e1]
      exact hl1 z hz
    · obtain ⟨x, hx, rfl⟩ := hl2 kl' hkl'
      exact hback x hx
end
end Go.Proofs.YtddnnhfffmhpmaaGreatDoor
