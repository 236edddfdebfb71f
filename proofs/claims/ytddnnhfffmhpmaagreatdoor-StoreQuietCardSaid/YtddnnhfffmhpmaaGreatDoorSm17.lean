/- Own texts, merged (17 of 42). -/
import Derived.Test.YtddnnhfffmhpmaaGreatDoorSm7
import Derived.Test.YtddnnhfffmhpmaaGreatDoorSm16
import Derived.CallsIn

/- The names of a map of files, sorted. -/
namespace Go.Proofs.YtddnnhfffmhpmaaGreatDoor.Vd
open Go.RowKit Go.Proofs.YtddnnhfffmhpmaaGreatDoor VdM Go.Maps Go.Sort Go.Shelf

theorem sorts_names (m : Nat) : AnyZ.SortsIn Tryz.prog sortedL_ren Fence.wide m :=
  ⟨fun blk off cap ss W hH hblk hsz => callsIn_wide.2 (AnyM.slices_Sort_string sortL blk off cap ss W hH hblk hsz),
   fun p cap W => callsIn_wide.2 (AnyM.slices_Sort_string_none sortL p cap W)⟩
theorem keys_any (mb : Option Nat) (W : World) : CallsIn Fence.wide 5 Tryz.prog 149 #[.map mb] W fun e w' => e = .returned (.func (.func 184) #[] #[.pointer (some ⟨W.heap.size, 0, none⟩)]) ∧ w' = W.alloc (.cells #[.map mb] 62) :=
  AnyZ.keys_in keysL Fence.wide 5 trivial rfl mb W
set_option maxHeartbeats 1000000 in
theorem sorted_any (b nn : Nat) (D0 : MD) (w : World) (hown : Own w b nn D0) (hmax : Maps.size D0 ≤ maxLen) (hbytes : Maps.size D0 * 16 ≤ 140737488355328) :
    CallsIn Fence.wide 5 Tryz.prog 148 #[.func (.func 184) #[] #[.pointer (some ⟨w.heap.size, 0, none⟩)]] (w.alloc (.cells #[.map (some b)] 62)) fun e w' => ∃ (v : Value) (ss : List (List UInt8)), e = .returned v ∧ ss.Perm (strKeys D0) ∧
      w'.ownsRow (w.alloc (.cells #[.map (some b)] 62)).heap.size 9 1 v ss.length ((ss.mergeSort (fun x y => decide (x ≤ y))).map encStr) ∧ (v = .slice none 0 0 ↔ ss = []) ∧ Below (w.alloc (.cells #[.map (some b)] 62)).heap.size (w.alloc (.cells #[.map (some b)] 62)) w' := by
  have hbl := World.ownsMap.lt hown
  have hseq : SeqGives Fence.wide 2 Tryz.prog 184 #[.pointer (some ⟨w.heap.size, 0, none⟩)] encStr (fun ss => ss.Perm (strKeys D0)) (Maps.size D0) (w.alloc (.cells #[.map (some b)] 62)) :=
    AnyZ.keys_gives (ρ := keysL_ren) { keysL with } Fence.wide _ trivial rfl (by omega) w.heap.size b nn D0 _ (by simp) (by simp) (by
      obtain ⟨es, clock, hb, Ft, hs, hD⟩ := hown
      exact ⟨es, clock, (Below.heap_alloc _ _ b hbl).trans hb, Ft, hs, hD⟩)
  exact AnyZ.sorted_in sortedL Fence.wide 5 trivial trivial trivial trivial rfl (by omega) (sorts_names _) (enters_of Tryz.func183 (by kernel_rfl) rfl) 184 #[.pointer (some ⟨w.heap.size, 0, none⟩)] trivial (enters_of Tryz.func184 (by kernel_rfl) rfl) _ _ hmax hbytes _ hseq
/-- the slice v is a row of names of its own -/
def NameRow (w : World) (base : Nat) (v : Value) (l : List Name) : Prop := w.ownsRow base 9 1 v l.length (l.map encStr)
set_option maxHeartbeats 1000000 in
set_option maxRecDepth 100000 in
theorem list_any (w : World) (F : Nat → Prop) (d : Nat) (s : Dsk) (h : Is w F d s) :
    Calls Tryz.prog 99 #[.pointer (some ⟨d, 0, none⟩)] w fun e w' => ∃ v, e = .returned v ∧ NameRow w' w.heap.size v (s.fs.map (·.1)) ∧ Below w.heap.size w w' := by
  obtain ⟨m, D, V, h⟩ := h
  have c1 := h.cells.2.1
  have hsz := size_rep h.own h.rep h.ok.rise
  have hms := h.ok.most
  have HP := Lib.hid (keys_perm h.own h.rep h.ok.rise)
  have HRI := Lib.hid h.ok.rise
  have HK := Lib.hid (keys_any (some m) w)
  have HS := Lib.hid (sorted_any m s.fs.length D w h.own (by unfold maxLen; omega) (by omega))
  clear h hsz hms
  refine (callsIn_wide (n := 6)).1 ?_
  have hfK : Fence.wide.fn 149 := trivial
  have hfS : Fence.wide.fn 148 := trivial
  refine callsIn_of_wp Tryz.func99 rfl trivial ?_ rfl
  simp only [Tryz.ntmps99, List.size_toArray, List.length_cons, List.length_nil, Nat.reduceAdd, Nat.reduceSub, Array.replicate_succ, Array.replicate_zero, List.push_toArray, List.append_toArray, List.nil_append, List.cons_append]
  gi_wp2_with (first
    | (gi_at_call 149; refine HK.out.mono ?_; rintro e w' ⟨rfl, rfl⟩)
    | (gi_at_call 148; refine HS.out.mono ?_; rintro e w' ⟨v, ss, rfl, hS, hrow, hnil, hb⟩))
  go_ret
  have hp := hS.trans HP.out.symm
  have hso := sorted_names HRI.out hp
  rw [hso, hp.length_eq, List.length_map] at hrow
  refine ⟨v, rfl, ?_, ((Below.refl _ w).alloc (Nat.le_refl _) _).trans (hb.mono (by simp))⟩
  unfold NameRow
  rw [List.length_map]
  exact ownsRow_base_a hrow (by simp)
end Go.Proofs.YtddnnhfffmhpmaaGreatDoor.Vd
