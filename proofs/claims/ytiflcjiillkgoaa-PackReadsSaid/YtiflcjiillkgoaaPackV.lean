/- awake of layer 2 answers true: the walk. -/
import Derived.Test.YtiflcjiillkgoaaPackU
namespace Go.Proofs.Ytiflcjiillkgoaa
open Go.RowKit

set_option maxHeartbeats 4000000 in
set_option maxRecDepth 100000 in
theorem awake2_any (w : World) :
    Calls Try.prog 19 #[] w fun e w' => e = .returned (.bool true) ∧ Below w.heap.size w w' := by
  go_enter Try.func19, Try.ntmps19
  go_wp2_with fail
  refine (varint_300 _).mono ?_
  rintro e w1 ⟨rfl, b1⟩
  go_wp2_with fail
  refine (varint_low _).mono ?_
  rintro e w2 ⟨rfl, b2⟩
  have b02 : Below w.heap.size w w2 := b1.trans (b2.mono b1.size)
  clear b1 b2
  go_wp2_with fail
  refine (rising_35 _).mono ?_
  rintro e w3 ⟨rfl, b3⟩
  have b03 : Below w.heap.size w w3 := b02.trans (b3.mono b02.size)
  clear b3 b02
  go_wp2_with fail
  refine (fixed_527 _).mono ?_
  rintro e w4 ⟨rfl, b4⟩
  have b04 : Below w.heap.size w w4 := b03.trans (b4.mono b03.size)
  clear b4 b03
  go_wp2_with fail
  refine (zigzag_low _).mono ?_
  rintro e w5 ⟨rfl, b5⟩
  have b05 : Below w.heap.size w w5 := b04.trans (b5.mono b04.size)
  clear b5 b04
  go_wp2_with fail
  refine (new_awk _).mono ?_
  rintro e w6 ⟨b, rfl, hbw, r6, b6⟩
  have b06 : Below w.heap.size w w6 := b05.trans (b6.mono b05.size)
  have hbw0 : w.heap.size ≤ b := Nat.le_trans b05.size hbw
  clear b6 b05 hbw
  go_wp2_with fail
  refine (rv_awk _ _ r6).mono ?_
  rintro e w7 ⟨rfl, r7, g7⟩
  have b07 : Below w.heap.size w w7 := b06.grown g7 b06.size (fun j hj => by injection hj with hj; omega)
  clear r6 g7 b06
  go_wp2_with fail
  refine (rz_awk _ _ r7).mono ?_
  rintro e w8 ⟨rfl, r8, g8⟩
  have b08 : Below w.heap.size w w8 := b07.grown g8 b07.size (fun j hj => by injection hj with hj; omega)
  clear r7 g8 b07
  have hb8 := r8.lt
  go_wp2_with fail
  refine (rr_awk _ _ r8).mono ?_
  rintro e w9 ⟨⟨x1, x2, x3, rfl, hx1, hx2, cx⟩, r9, g9⟩
  have b09 : Below w.heap.size w w9 := b08.grown g9 b08.size (fun j hj => by injection hj with hj; omega)
  have hxb : x1 ≠ b := by omega
  clear r8 g9 b08 hx1 hb8
  have hb9 := r9.lt
  go_wp2_with fail
  refine (rf_awk _ _ r9).mono ?_
  rintro e wa ⟨⟨y1, y2, y3, rfl, hy1, hy2, cy, cy2⟩, ra, ga⟩
  have b0a : Below w.heap.size w wa := b09.grown ga b09.size (fun j hj => by injection hj with hj; omega)
  have cxa := (cell_of_grown ga (p := ⟨x1, x2 + 1, none⟩) hx2 (fun e => hxb (by injection e))).trans cx
  have hyb : y1 ≠ b := by omega
  have hx2a : x1 < wa.heap.size := Nat.lt_of_lt_of_le hx2 ga.size
  clear r9 ga b09 hy1 hb9 cx hx2
  go_wp2_with fail
  refine (rl_awk _ _ ra).mono ?_
  rintro e wa' ⟨rfl, rfl⟩
  go_wp2_with fail
  refine (rb_awk _ _ ra).mono ?_
  rintro e wb ⟨rfl, rb, gb⟩
  have b0b : Below w.heap.size w wb := b0a.grown gb b0a.size (fun j hj => by injection hj with hj; omega)
  have cxb := (cell_of_grown gb (p := ⟨x1, x2 + 1, none⟩) hx2a (fun e => hxb (by injection e))).trans cxa
  have cyb := (cell_of_grown gb (p := ⟨y1, y2, none⟩) hy2 (fun e => hyb (by injection e))).trans cy
  have cyb2 := (cell_of_grown gb (p := ⟨y1, y2 + 2, none⟩) hy2 (fun e => hyb (by injection e))).trans cy2
  clear ra gb b0a cxa cy cy2
  go_wp2_with fail
  refine (zigzag_low _).mono ?_
  rintro e wc ⟨rfl, bc⟩
  have b0c : Below w.heap.size w wc := b0b.trans (bc.mono b0b.size)
  have hx2b : x1 < wb.heap.size := World.block_lt_of_cell? _ _ cxb
  have hy2b : y1 < wb.heap.size := World.block_lt_of_cell? _ _ cyb
  have cxc := (bc.cell (p := ⟨x1, x2 + 1, none⟩) hx2b).trans cxb
  have cyc := (bc.cell (p := ⟨y1, y2, none⟩) hy2b).trans cyb
  have cyc2 := (bc.cell (p := ⟨y1, y2 + 2, none⟩) hy2b).trans cyb2
  have rc := rb.later bc
  clear cxb cyb cyb2 b0b bc rb
  go_wp2_with fail
  refine (rbad_any _ _ _ _ rc).mono ?_
  rintro e wc' ⟨rfl, rfl⟩
  go_wp2_with fail
  go_ret
  exact ⟨rfl, b0c⟩
end Go.Proofs.Ytiflcjiillkgoaa
