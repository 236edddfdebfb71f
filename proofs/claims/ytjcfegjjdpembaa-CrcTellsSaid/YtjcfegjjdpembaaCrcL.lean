/- awake answers true. -/
import Derived.Test.YtjcfegjjdpembaaCrcK
import Derived.LaidEqlPtr
import Derived.Lib.Builder
namespace Go.Proofs.Ytjcfegjjdpembaa
open Go.RowKit

theorem add_five (w : World) (b : Nat) (hm : GMtr w b 0 0 (16 * 0) 0 0) :
    Calls Try.prog 7 #[.pointer (some ⟨b, 0, none⟩), .string ⟨#[49, 50, 51, 52, 53]⟩] w fun e w' => e = .returned (.pointer (some ⟨b, 0, none⟩)) ∧ GMtr w' b 1 0 16 3421846044 5 ∧ w.grownBy w' (some b) := by
  refine (add_any b 0 0 0 (.inl rfl) ⟨#[49, 50, 51, 52, 53]⟩ w (by omega) (by omega) (by decide) hm).mono fun e w' ⟨h1, h2, h3⟩ => ⟨h1, ?_, h3⟩
  have e1 : 4294967295 - CrcM.run (4294967295 - 0) [49, 50, 51, 52, 53] = 3421846044 := by decide +kernel
  have e2 : (⟨#[49, 50, 51, 52, 53]⟩ : ByteArray).data.toList = [49, 50, 51, 52, 53] := rfl
  have e3 : 0 + (⟨#[49, 50, 51, 52, 53]⟩ : ByteArray).size = 5 := rfl
  rw [e2, e1, e3] at h2
  exact h2
theorem add_four (w : World) (b : Nat) (hm : GMtr w b 1 0 16 3421846044 5) :
    Calls Try.prog 7 #[.pointer (some ⟨b, 0, none⟩), .string ⟨#[54, 55, 56, 57]⟩] w fun e w' => e = .returned (.pointer (some ⟨b, 0, none⟩)) ∧ GMtr w' b 1 0 16 3421780262 9 ∧ w.grownBy w' (some b) := by
  refine (add_any b 1 3421846044 5 (.inr rfl) ⟨#[54, 55, 56, 57]⟩ w (by omega) (by omega) (by decide) hm).mono fun e w' ⟨h1, h2, h3⟩ => ⟨h1, ?_, h3⟩
  have e1 : 4294967295 - CrcM.run (4294967295 - 3421846044) [54, 55, 56, 57] = 3421780262 := by decide +kernel
  have e2 : (⟨#[54, 55, 56, 57]⟩ : ByteArray).data.toList = [54, 55, 56, 57] := rfl
  have e3 : 5 + (⟨#[54, 55, 56, 57]⟩ : ByteArray).size = 9 := rfl
  rw [e2, e1, e3] at h2
  exact h2
theorem seal_ab (w : World) : Calls Try.prog 14 #[.string ⟨#[97, 98]⟩] w fun e w' => e = .returned (.string (ofBytes (CrcM.sealed [97, 98]))) ∧ Below w.heap.size w w' :=
  Seal_any ⟨#[97, 98]⟩ w (by decide)
theorem open_ab (w : World) : Calls Try.prog 11 #[.string (ofBytes (CrcM.sealed [97, 98]))] w fun e w' => e = .returned (.tuple #[.string ⟨#[97, 98]⟩, .int .i64 0]) ∧ Below w.heap.size w w' := by
  refine (open_good (ofBytes (CrcM.sealed [97, 98])) 2 w rfl (by decide +kernel) (by rw [ofBytes_list]; rfl)).mono fun e w' ⟨h1, h2⟩ => ⟨?_, h2⟩
  rw [h1, ofBytes_list]
  rfl
theorem open_abc (w : World) : Calls Try.prog 11 #[.string ⟨#[97, 98, 99]⟩] w fun e w' => e = .returned (.tuple #[.string ⟨#[]⟩, .int .i64 2]) ∧ w = w' :=
  open_short ⟨#[97, 98, 99]⟩ w (by decide)
theorem open_abcd (w : World) : Calls Try.prog 11 #[.string ⟨#[97, 98, 99, 100]⟩] w fun e w' => e = .returned (.tuple #[.string ⟨#[]⟩, .int .i64 8]) ∧ Below w.heap.size w w' :=
  open_bad ⟨#[97, 98, 99, 100]⟩ 0 w rfl (by decide) (by
    have : ¬ ([97, 98, 99, 100] : List UInt8) = CrcM.sealed [] := by decide +kernel
    exact this)
theorem sum_parts (w : World) (g : Nat) (h : w.heap[g]? = some (.cells #[.string ⟨#[49, 50, 51, 52]⟩, .string ⟨#[53, 54, 55, 56, 57]⟩] 9 (0, 0))) :
    Calls Try.prog 13 #[.slice (some ⟨g, 0, none⟩) 2 2] w fun e w' => e = .returned (.int .u32 3421780262) ∧ Below w.heap.size w w' := by
  have hg : g < w.heap.size := (Array.getElem?_eq_some_iff.1 h).1
  refine (sum_any (some ⟨g, 0, none⟩) 2 2 [⟨#[49, 50, 51, 52]⟩, ⟨#[53, 54, 55, 56, 57]⟩] w (by omega) (by decide) ⟨rfl, fun k hk => ⟨g, 0, rfl, hg, ?_⟩⟩).mono fun e w' ⟨h1, h2⟩ => ⟨?_, h2⟩
  · rw [cell_of_row _ _ _ _ _ _ h]
    match k, hk with
    | 0, _ => rfl
    | 1, _ => rfl
  · have e1 : CrcM.sum [49, 50, 51, 52, 53, 54, 55, 56, 57] = 3421780262 := by decide +kernel
    have e2 : cat [⟨#[49, 50, 51, 52]⟩, ⟨#[53, 54, 55, 56, 57]⟩] = [49, 50, 51, 52, 53, 54, 55, 56, 57] := rfl
    rw [h1, e2, e1]
    rfl
theorem seal_none (w : World) : Calls Try.prog 14 #[.string ⟨#[]⟩] w fun e w' => e = .returned (.string ⟨#[0, 0, 0, 0]⟩) ∧ Below w.heap.size w w' := by
  refine (Seal_any ⟨#[]⟩ w (by decide)).mono fun e w' ⟨h1, h2⟩ => ⟨?_, h2⟩
  have e1 : CrcM.sealed [] = [0, 0, 0, 0] := by decide +kernel
  have e2 : (⟨#[]⟩ : ByteArray).data.toList = [] := rfl
  rw [h1, e2, e1]
  rfl

theorem meter_info : ∃ j, Try.prog.info? 58 = some j := by
  have h : (Try.prog.info? 58).isSome = true := by kernel_rfl
  exact Option.isSome_iff_exists.1 h

set_option maxHeartbeats 4000000 in
set_option maxRecDepth 100000 in
theorem awake_any (w : World) :
    Calls Try.prog 5 #[] w fun e w' => e = .returned (.bool true) ∧ Below w.heap.size w w' := by
  obtain ⟨mj, hmj⟩ := meter_info
  have hneq := fun W => Lib.run_neq_ptr_same (P := Try.prog) (w := W) ⟨w.heap.size, 0, none⟩ Try.underlying24 hmj
  go_enter Try.func5, Try.ntmps5
  go_wp2_with fail
  refine (new_any _).mono ?_
  rintro e w' ⟨rfl, rfl⟩
  have m0 : GMtr (w.alloc (.cells (mcells 0 0 0) 58)) w.heap.size 0 0 (16 * 0) 0 0 := heap_alloc_new w _
  go_wp2_with fail
  refine (add_five _ _ m0).mono ?_
  rintro e w1 ⟨rfl, m1, g1⟩
  clear m0
  go_wp2_with fail
  refine (add_four _ _ m1).mono ?_
  rintro e w2 ⟨rfl, m2, g2⟩
  have c19 : w2.cell? ⟨w.heap.size, 19, none⟩ = some (.int .u32 3421780262) := m2.c19
  have b2 : Below w.heap.size w w2 := below_of_new (g1.trans g2)
  clear m1 g1 g2
  go_wp2_with fail
  refine (msum_any _ _ _ c19).mono ?_
  rintro e w2' ⟨rfl, rfl⟩
  clear c19
  go_wp2_with fail
  refine (seal_ab _).mono ?_
  rintro e w3 ⟨rfl, b3⟩
  go_wp2_with fail
  refine (open_ab _).mono ?_
  rintro e w4 ⟨rfl, b4⟩
  go_wp2_with fail
  refine (open_abc _).mono ?_
  rintro e w4' ⟨rfl, rfl⟩
  go_wp2_with fail
  refine (open_abcd _).mono ?_
  rintro e w5 ⟨rfl, b5⟩
  have b25 : Below w2.heap.size w2 w5 := (b3.trans (b4.mono b3.size)).trans (b5.mono (Nat.le_trans b3.size b4.size))
  have m5 : GMtr w5 w.heap.size 1 0 16 3421780262 9 := (b25.block _ m2.lt).trans m2
  have c20 : w5.cell? ⟨w.heap.size, 20, none⟩ = some (.int .i64 9) := m5.c20
  have b05 : Below w.heap.size w w5 := b2.trans (b25.mono b2.size)
  clear b3 b4 b5 b25 m2 m5 b2
  go_wp2_with fail
  refine (mlen_any _ 9 _ c20).mono ?_
  rintro e w5' ⟨rfl, rfl⟩
  go_wp2_with fail
  refine (sum_parts _ _ (heap_alloc_new w5 _)).mono ?_
  rintro e w6 ⟨rfl, b6⟩
  have b06 : Below w.heap.size w w6 := (b05.alloc b05.size _).trans (b6.mono (by have := b05.size; simp; omega))
  clear b6 c20 hneq
  go_wp2_with fail
  refine (seal_none _).mono ?_
  rintro e w7 ⟨rfl, b7⟩
  go_wp2_with fail
  go_ret
  exact ⟨rfl, b06.trans (b7.mono b06.size)⟩
end Go.Proofs.Ytjcfegjjdpembaa
