/- Sum over any parts. -/
import Derived.Test.YtjcfegjjdpembaaCrcF
namespace Go.Proofs.Ytjcfegjjdpembaa
open Go.RowKit

/-- the slice value '.slice A n c' reads as the strings l -/
def Strs (w : World) (A : Option Addr) (n : Nat) (l : List ByteArray) : Prop :=
  l.length = n ∧ ∀ k (h : k < l.length), ∃ b o, A = some ⟨b, o, none⟩ ∧ b < w.heap.size ∧ w.cell? ⟨b, o + k, none⟩ = some (.string l[k])
def cat (l : List ByteArray) : List UInt8 := (l.map fun t => t.data.toList).flatten
theorem cat_snoc (l : List ByteArray) (t : ByteArray) : cat (l ++ [t]) = cat l ++ t.data.toList := by simp [cat]
theorem cat_take (l : List ByteArray) (k : Nat) (h : k < l.length) : cat (l.take (k + 1)) = cat (l.take k) ++ l[k].data.toList := by
  rw [List.take_succ_eq_append_getElem h, cat_snoc]
theorem cat_take_le (l : List ByteArray) (k : Nat) : (cat (l.take k)).length ≤ (cat l).length := by
  have h : cat l = cat (l.take k) ++ cat (l.drop k) := by
    unfold cat
    rw [← List.flatten_append, ← List.map_append, List.take_append_drop]
  rw [h, List.length_append]
  omega
theorem cat_part (l : List ByteArray) (k : Nat) (h : k < l.length) : (cat (l.take k)).length + l[k].size ≤ (cat l).length := by
  have h1 := cat_take_le l (k + 1)
  rw [cat_take l k h, List.length_append] at h1
  simpa using h1
theorem Strs.below {w w' : World} {A : Option Addr} {n : Nat} {l : List ByteArray} (h : Strs w A n l) (hb : Below w.heap.size w w') : Strs w' A n l :=
  ⟨h.1, fun k hk => by
    obtain ⟨b, o, e, hlt, hc⟩ := h.2 k hk
    exact ⟨b, o, e, Nat.lt_of_lt_of_le hlt hb.size, (hb.cell (p := ⟨b, o + k, none⟩) hlt).trans hc⟩⟩
theorem sum_more (m t : List UInt8) : 4294967295 - CrcM.run (4294967295 - CrcM.sum m) t = CrcM.sum (m ++ t) := by
  have h := CrcM.run_lt m (c := 4294967295) (by decide)
  unfold CrcM.sum
  rw [CrcM.run_append]
  congr 2
  omega

theorem below_of_new {w w' : World} {o : Obj} (h : (w.alloc o).grownBy w' (some w.heap.size)) : Below w.heap.size w w' :=
  ⟨h.os, h.tape, h.output, Nat.le_trans (by simp) h.size, fun k hk => (h.block k (by simp; omega) (by simp; omega)).trans (Below.heap_alloc w o k hk)⟩

theorem sum_nil : CrcM.sum [] = 0 := by simp [CrcM.sum, CrcM.run]
theorem mtr_new (w : World) (l : List ByteArray) : GMtr (w.alloc (.cells (mcells 0 0 0) 58)) w.heap.size 0 0 (16 * 0) (CrcM.sum (cat (l.take 0))) (cat (l.take 0)).length := by
  have e : cat (l.take 0) = [] := by simp [cat]
  rw [e, sum_nil]
  exact heap_alloc_new w _

set_option maxRecDepth 100000 in
set_option maxHeartbeats 1600000 in
theorem sum_any (A : Option Addr) (n cp : Nat) (l : List ByteArray) (w : World) (hn : n ≤ 1000000) (hl : (cat l).length ≤ 100000000) (hS : Strs w A n l) :
    Calls Try.prog 13 #[.slice A n cp] w fun e w' => e = .returned (.int .u32 (CrcM.sum (cat l) : Nat)) ∧ Below w.heap.size w w' := by
  go_enter Try.func13, Try.ntmps13
  go_wp2_with (go_at_call 6; refine (new_any _).mono ?_; rintro e w' ⟨rfl, rfl⟩)
  go_loopw [9] (fun i wr => ∃ k d : Nat, k ≤ n ∧ i = .int .i64 k ∧ (d = 0 ∨ d = 1) ∧ GMtr wr w.heap.size d 0 (16 * d) (CrcM.sum (cat (l.take k))) (cat (l.take k)).length ∧ (w.alloc (.cells (mcells 0 0 0) 58)).grownBy wr (some w.heap.size)) (fun i _ => n - (intOf i).toNat)
  case atStart => exact ⟨0, 0, by omega, rfl, .inl rfl, mtr_new w l, World.grownBy.refl _ _⟩
  case round =>
    obtain ⟨k, d, hk, rfl, hd, hm, hg⟩ := hrel
    by_cases hlt : k < n
    · have hkl : k < l.length := by rw [hS.1]; exact hlt
      obtain ⟨b, o, rfl, hbl, hcb⟩ := hS.2 k hkl
      have hpart := cat_part l k hkl
      have hc1 : wr.cell? ⟨b, o + k, none⟩ = some (.string l[k]) := by
        rw [cell_of_grown hg (p := ⟨b, o + k, none⟩) (by simp; omega) (by simp; omega), World.cell?_alloc_lt _ _ _ hbl]
        exact hcb
      go_wp2_with (go_at_call 7; refine (add_any w.heap.size d _ _ hd _ _ (CrcM.sum_lt _) (by omega) (by omega) hm).mono ?_; rintro e w2 ⟨rfl, hm2, hg2⟩)
      go_roundw
      case rel =>
        refine ⟨k + 1, 1, by omega, by go_num, .inr rfl, ?_, hg.trans hg2⟩
        rw [cat_take l k hkl, ← sum_more, List.length_append]
        exact hm2
      case measure => simp [intOf]; omega
    · have hkE : l.take k = l := List.take_of_length_le (by rw [hS.1]; omega)
      rw [hkE] at hm
      clear hkE
      have hc := hm.c19
      go_wp2_with (go_at_call 8; refine (msum_any _ _ _ hc).mono ?_; rintro e w2 ⟨rfl, rfl⟩)
      go_ret
      exact ⟨rfl, below_of_new hg⟩
end Go.Proofs.Ytjcfegjjdpembaa
