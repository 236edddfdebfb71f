
/- each: what a closure answers of all of a list. -/
import Derived.Test.YtdjbdhfellofoaaDocE
import Derived.Test.YtdjbdhfellofoaaPackN
namespace Go.Proofs.Ytdjbdhfellofoaa.Do
open Go.RowKit Go.Proofs.Ytdjbdhfellofoaa DocM

theorem fill_at {x : Int} {l1 : List Int} {k m : Nat} (h : l1.length = k) : (l1 ++ List.replicate (m + 1) 0).set k x = (l1 ++ [x]) ++ List.replicate m 0 := by
  rw [← h]
  exact set_fill l1 m x
set_option maxHeartbeats 4000000 in
set_option maxRecDepth 100000 in
theorem eachterm_any (A : Option Addr) (n cp : Nat) (l : List (Int × Int)) (F : FuncId) (f : Int × Int → Int) (w : World) (h : Pairs w A n l) (hn : n ≤ 1000000) (hcall : ∀ args w, (callFunc F args).run Try.prog w = .ok (.enter F args) w)
    (hF : ∀ p W, Calls Try.prog F #[sv p] W fun e w' => e = .returned (.int .i64 (f p)) ∧ Below W.heap.size W w') :
    Calls Try.prog 41 #[.slice A n cp, .func (.func F) #[] #[]] w fun e w' => ∃ g, e = .returned (.slice (some ⟨g, 0, none⟩) n n) ∧ w.heap.size ≤ g ∧ Ivs w' (some ⟨g, 0, none⟩) n (l.map f) ∧ Below w.heap.size w w' := by
  obtain ⟨M, hmk, hz⟩ := made_ints w n (by omega)
  have H := Lib.hid h
  have HL := Lib.hid h.1
  have HF := Lib.hid hF
  have HCALL := Lib.hid hcall
  obtain ⟨g, hg⟩ : ∃ g, g = w.heap.size := ⟨_, rfl⟩
  have HZ := Lib.hid hz
  have HG := Lib.hid hg
  clear h hz hF hcall hg
  go_enter Try.func41, Try.ntmps41
  go_wp2
  clear hmk
  go_loopw [13] (fun x wr => ∃ (k : Nat) (r : List Int), x = .int .i64 k ∧ k ≤ n ∧ r = (l.take k).map f ∧ IntsAt wr w.heap.size (r ++ List.replicate (n - k) 0) ∧ Below w.heap.size w wr ∧ w.heap.size < wr.heap.size) (fun x _ => n - (intOf x).toNat)
  case atStart => exact ⟨0, [], by go_num, Nat.zero_le _, rfl, by simpa using HZ.out, pl1 _ _, by simp⟩
  case round =>
    obtain ⟨k, r, rfl, hkn, hr, hI, hb, hlt0⟩ := hrel
    have hrl : r.length = k := by rw [hr, List.length_map, List.length_take, HL.out]; omega
    have HRL := Lib.hid hrl
    have HR := Lib.hid hr
    clear hr hrl
    by_cases hlt : k < n
    · have hmi : (k : Int) < (n : Int) := by omega
      have hkl : k < l.length := by rw [HL.out]; exact hlt
      obtain ⟨b, o, rfl, hbl, c0, c1⟩ := H.out.2 k hkl
      have q0 := (hb.cell (p := ⟨b, o + k * 2, none⟩) hbl).trans c0
      have q1 := (hb.cell (p := ⟨b, o + k * 2 + 1, none⟩) hbl).trans c1
      have hnx : (l.take (k + 1)).map f = (l.take k).map f ++ [f l[k]] := by rw [List.take_succ_eq_append_getElem hkl, List.map_append, List.map_singleton]
      have hst := HF.out l[k] (wr.alloc (.cells #[.int .i64 l[k].1, .int .i64 l[k].2] 56))
      obtain ⟨⟨p1, p2⟩, hp⟩ : ∃ x, x = l[k] := ⟨_, rfl⟩
      rw [← hp] at q0 q1 hst hnx
      obtain ⟨y, hy⟩ : ∃ y, y = f (p1, p2) := ⟨_, rfl⟩
      rw [← hy] at hst hnx
      unfold sv at hst
      simp only at q0 q1 hst
      have hc0 := (hI k (by rw [List.length_append, HRL.out, List.length_replicate]; omega))
      have hset := hI.set_ k y
      obtain ⟨m, hm⟩ : ∃ m, n - k = m + 1 := ⟨n - k - 1, by omega⟩
      have HST := Lib.hid hst
      have HNX := Lib.hid hnx
      have HI := Lib.hid hI
      have HB := Lib.hid hb
      have hw1 : Below wr.heap.size wr (wr.alloc (.cells #[.int .i64 p1, .int .i64 p2] 56)) := pl1 _ _
      have hx0 := cell_of_cells (i := 0) (heap_alloc_new wr (.cells #[.int .i64 p1, .int .i64 p2] 56)) rfl
      have hx1 := cell_of_cells (i := 1) (heap_alloc_new wr (.cells #[.int .i64 p1, .int .i64 p2] 56)) rfl
      have hsz : wr.heap.size < (wr.alloc (.cells #[.int .i64 p1, .int .i64 p2] 56)).heap.size := by simp
      have HW1 := Lib.hid hw1
      have HM := Lib.hid hm
      clear hst hnx hset hI hb c0 c1 hp hy hw1 hx0 hx1 hm hbl
      have hcall := HCALL.out
      go_wp2_with fail
      refine HST.out.mono ?_
      rintro e w2 ⟨rfl, hb2⟩
      have hb3 : Below wr.heap.size wr w2 := HW1.out.trans (hb2.mono HW1.out.size)
      have hI2 : IntsAt w2 w.heap.size (r ++ List.replicate (n - k) 0) := fun j hj => ⟨(hb3.cell (p := ⟨w.heap.size, j, none⟩) hlt0).trans (HI.out j hj).1, (hb3.frozen (p := ⟨w.heap.size, j, none⟩) hlt0).trans (HI.out j hj).2⟩
      have hk2 := hI2 k (by rw [List.length_append, HRL.out, List.length_replicate]; omega)
      have d0 := hk2.1
      have f0 := hk2.2
      have hset := hI2.set_ k y
      rw [HM.out, fill_at HRL.out] at hset
      have HSET := Lib.hid hset
      have HBZ : Hid (Below w.heap.size w (w2.setCell ⟨w.heap.size, k, none⟩ (.int .i64 y))) := Lib.hid ((HB.out.trans (hb3.mono HB.out.size)).setCell (Nat.le_refl _) _)
      have hsz2 : w.heap.size < (w2.setCell ⟨w.heap.size, k, none⟩ (.int .i64 y)).heap.size := by have := hb3.size; simp; omega
      have HS2 := Lib.hid hsz2
      clear hb2 hb3 hI2 hk2 hset hsz2 q0 q1
      go_wp2
      go_roundw
      case rel => exact ⟨k + 1, r ++ [y], by go_num, by omega, by rw [HNX.out, ← HR.out], by rw [show n - (k + 1) = m by have := HM.out; omega]; exact HSET.out, HBZ.out, HS2.out⟩
      case measure => simp [intOf]; omega
    · have hmi : ¬ (k : Int) < (n : Int) := by omega
      obtain rfl : k = n := by omega
      rw [Nat.sub_self, List.replicate_zero, List.append_nil] at hI
      have HI := Lib.hid hI
      have HB := Lib.hid hb
      have HE : Hid (r = l.map f) := Lib.hid (by rw [HR.out, List.take_of_length_le (by rw [HL.out]; exact Nat.le_refl _)])
      clear hI hb
      go_wp2
      go_ret
      refine ⟨w.heap.size, rfl, Nat.le_refl _, ?_, HB.out⟩
      rw [← HE.out]
      exact HI.out.ints hlt0 HRL.out
set_option maxHeartbeats 4000000 in
set_option maxRecDepth 100000 in
theorem eachint_any (A : Option Addr) (n cp : Nat) (l : List Int) (F : FuncId) (f : Int → Int) (w : World) (h : Ivs w A n l) (hn : n ≤ 1000000) (hcall : ∀ args w, (callFunc F args).run Try.prog w = .ok (.enter F args) w)
    (hF : ∀ p ∈ l, ∀ W, Calls Try.prog F #[.int .i64 p] W fun e w' => e = .returned (.int .i64 (f p)) ∧ Below W.heap.size W w') :
    Calls Try.prog 44 #[.slice A n cp, .func (.func F) #[] #[]] w fun e w' => ∃ g, e = .returned (.slice (some ⟨g, 0, none⟩) n n) ∧ w.heap.size ≤ g ∧ Ivs w' (some ⟨g, 0, none⟩) n (l.map f) ∧ Below w.heap.size w w' := by
  obtain ⟨M, hmk, hz⟩ := made_ints w n (by omega)
  have H := Lib.hid h
  have HL := Lib.hid h.1
  have HF := Lib.hid hF
  have HCALL := Lib.hid hcall
  obtain ⟨g, hg⟩ : ∃ g, g = w.heap.size := ⟨_, rfl⟩
  have HZ := Lib.hid hz
  have HG := Lib.hid hg
  clear h hz hF hcall hg
  go_enter Try.func44, Try.ntmps44
  go_wp2
  clear hmk
  go_loopw [13] (fun x wr => ∃ (k : Nat) (r : List Int), x = .int .i64 k ∧ k ≤ n ∧ r = (l.take k).map f ∧ IntsAt wr w.heap.size (r ++ List.replicate (n - k) 0) ∧ Below w.heap.size w wr ∧ w.heap.size < wr.heap.size) (fun x _ => n - (intOf x).toNat)
  case atStart => exact ⟨0, [], by go_num, Nat.zero_le _, rfl, by simpa using HZ.out, pl1 _ _, by simp⟩
  case round =>
    obtain ⟨k, r, rfl, hkn, hr, hI, hb, hlt0⟩ := hrel
    have hrl : r.length = k := by rw [hr, List.length_map, List.length_take, HL.out]; omega
    have HRL := Lib.hid hrl
    have HR := Lib.hid hr
    clear hr hrl
    by_cases hlt : k < n
    · have hmi : (k : Int) < (n : Int) := by omega
      have hkl : k < l.length := by rw [HL.out]; exact hlt
      obtain ⟨b, o, rfl, hbl, c0⟩ := H.out.2 k hkl
      have q0 := (hb.cell (p := ⟨b, o + k, none⟩) hbl).trans c0
      have hnx : (l.take (k + 1)).map f = (l.take k).map f ++ [f l[k]] := by rw [List.take_succ_eq_append_getElem hkl, List.map_append, List.map_singleton]
      have hst := HF.out l[k] (List.getElem_mem hkl) wr
      obtain ⟨p, hp⟩ : ∃ x, x = l[k] := ⟨_, rfl⟩
      rw [← hp] at q0 hst hnx
      obtain ⟨y, hy⟩ : ∃ y, y = f p := ⟨_, rfl⟩
      rw [← hy] at hst hnx
      have hc0 := (hI k (by rw [List.length_append, HRL.out, List.length_replicate]; omega))
      have hset := hI.set_ k y
      obtain ⟨m, hm⟩ : ∃ m, n - k = m + 1 := ⟨n - k - 1, by omega⟩
      have HST := Lib.hid hst
      have HNX := Lib.hid hnx
      have HI := Lib.hid hI
      have HB := Lib.hid hb
      have HM := Lib.hid hm
      clear hst hnx hset hI hb c0 hp hy hm hbl
      have hcall := HCALL.out
      go_wp2_with fail
      refine HST.out.mono ?_
      rintro e w2 ⟨rfl, hb2⟩
      have hb3 : Below wr.heap.size wr w2 := hb2
      have hI2 : IntsAt w2 w.heap.size (r ++ List.replicate (n - k) 0) := fun j hj => ⟨(hb3.cell (p := ⟨w.heap.size, j, none⟩) hlt0).trans (HI.out j hj).1, (hb3.frozen (p := ⟨w.heap.size, j, none⟩) hlt0).trans (HI.out j hj).2⟩
      have hk2 := hI2 k (by rw [List.length_append, HRL.out, List.length_replicate]; omega)
      have d0 := hk2.1
      have f0 := hk2.2
      have hset := hI2.set_ k y
      rw [HM.out, fill_at HRL.out] at hset
      have HSET := Lib.hid hset
      have HBZ : Hid (Below w.heap.size w (w2.setCell ⟨w.heap.size, k, none⟩ (.int .i64 y))) := Lib.hid ((HB.out.trans (hb3.mono HB.out.size)).setCell (Nat.le_refl _) _)
      have hsz2 : w.heap.size < (w2.setCell ⟨w.heap.size, k, none⟩ (.int .i64 y)).heap.size := by have := hb3.size; simp; omega
      have HS2 := Lib.hid hsz2
      clear hb2 hb3 hI2 hk2 hset hsz2 q0
      go_wp2
      go_roundw
      case rel => exact ⟨k + 1, r ++ [y], by go_num, by omega, by rw [HNX.out, ← HR.out], by rw [show n - (k + 1) = m by have := HM.out; omega]; exact HSET.out, HBZ.out, HS2.out⟩
      case measure => simp [intOf]; omega
    · have hmi : ¬ (k : Int) < (n : Int) := by omega
      obtain rfl : k = n := by omega
      rw [Nat.sub_self, List.replicate_zero, List.append_nil] at hI
      have HI := Lib.hid hI
      have HB := Lib.hid hb
      have HE : Hid (r = l.map f) := Lib.hid (by rw [HR.out, List.take_of_length_le (by rw [HL.out]; exact Nat.le_refl _)])
      clear hI hb
      go_wp2
      go_ret
      refine ⟨w.heap.size, rfl, Nat.le_refl _, ?_, HB.out⟩
      rw [← HE.out]
      exact HI.out.ints hlt0 HRL.out
end Go.Proofs.Ytdjbdhfellofoaa.Do
