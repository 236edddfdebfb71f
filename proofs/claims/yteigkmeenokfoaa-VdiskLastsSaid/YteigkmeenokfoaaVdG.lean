
/- Bytes come behind a file's; a file comes into the map. -/
import Derived.Test.YteigkmeenokfoaaVdF
namespace Go.Proofs.Yteigkmeenokfoaa.Vd
open Go.RowKit Go.Proofs.Yteigkmeenokfoaa VdM Go.Maps

theorem strCells_bytes (s : ByteArray) : Lib.strCells s = s.data.toList.map byteV := rfl
set_option maxRecDepth 100000 in
theorem append_bytes (ty : TypeId) (w : World) (v : Value) (l : List UInt8) (s : ByteArray) (h : ByteRow w v l) (hlen : l.length + s.size ≤ 1000000000) :
    ∃ v' w', (Builtin.append_ #[54, 9] ty #[v, .string s]).run Try.prog w = .ok v' w' ∧ ByteRow w' v' (l ++ s.data.toList) ∧ w.grownBy w' v.ownBlock ∧ (v'.ownBlock = v.ownBlock ∨ v'.ownBlock = some w.heap.size) ∧ ByteRow w' v l := by
  obtain ⟨i0, hi, hz0, hz1, hz2⟩ := info_parts byte_info
  have hm : l.length + s.size ≤ maxLen := by unfold maxLen; omega
  obtain ⟨v', w', hr, hown', hg, hnil⟩ := Lib.run_append_own_string (P := Try.prog) w 0 54 9 ty 5 i0 Try.underlying54 Try.underlying9 hi hz0 hz1 hz2 v l.length (l.map byteV) h s hm (by omega) (Nat.zero_le _)
  refine ⟨v', w', hr, ?_, hg, ?_⟩
  · unfold ByteRow
    rw [List.length_append, List.map_append, size_list]
    exact hown'
  · rcases h.2 with ⟨rfl, hn⟩ | ⟨g, cap, cur, rfl, hbg, hgg, hnc, hcm, hcs, htake⟩
    · by_cases h0 : s.size = 0
      · refine ⟨.inl (by rw [hnil.2 ⟨rfl, h0⟩]), ?_⟩
        rw [List.eq_nil_of_length_eq_zero hn]
        exact ByteRow.nil_ _
      · have hl0 : l = [] := List.eq_nil_of_length_eq_zero hn
        have hr2 := run_append_nil_string (P := Try.prog) w 54 9 ty 5 i0 (.int .u8 0) Try.underlying54 Try.underlying9 hi hz0 s (by omega) (by omega) (by rw [hz2]; omega)
        rw [hr] at hr2
        injection hr2 with e1 _
        rw [e1, hl0]
        exact ⟨.inr rfl, ByteRow.nil_ _⟩
    · by_cases hroom : l.length + s.size ≤ cap
      · have hr2 := Lib.run_append_room_string (P := Try.prog) w 54 9 ty 5 i0 Try.underlying54 Try.underlying9 hi hz1 g l.length cap cur hgg s hroom (by omega)
        rw [hr] at hr2
        injection hr2 with e1 e2
        rw [e1, e2]
        refine ⟨.inl rfl, h.1, .inr ⟨g, cap, _, rfl, hbg, setRow_heap w g cur _ 5 _ hgg, hnc, hcm, ?_, ?_⟩⟩
        · simp only [List.size_toArray, List.length_append, List.length_take, List.length_drop, Array.length_toList, Lib.strCells_length]
          omega
        · rw [List.append_assoc, List.take_append_of_le_length (by simp; omega), List.take_take]
          rw [← htake]
          congr 1
          omega
      · have hr2 := Lib.run_append_grow_string (P := Try.prog) w 54 9 ty 5 i0 (.int .u8 0) Try.underlying54 Try.underlying9 hi hz0 ⟨g, 0, none⟩ l.length cap (l.map byteV) (by rw [hz1]; simp) (World.ownsRow.cells h rfl) s (by omega) (by omega) (by rw [hz2]; exact growslice_fits (by omega) (by omega))
        rw [hr] at hr2
        injection hr2 with e1 e2
        rw [e1, e2]
        exact ⟨.inr rfl, h.stay fun g' hg' => heap_alloc_old w.drew _ (h.lt hg')⟩
theorem wpList_append_bytes {w : World} {ops : Array Oper} {rest : List Oper} {o : Oper} {a : Act} {Q : Exit → Act → World → Prop} (hgd : o.guard = none) (sl x : Operand)
    (ho : o.op = .call { callee := .builtin .append, args := #[sl, x], argTypes := #[54, 9] })
    (v : Value) (l : List UInt8) (s : ByteArray) (hs : a.eval sl = v) (hx : a.eval x = .string s) (hown : ByteRow w v l) (hlen : l.length + s.size ≤ 1000000000)
    (h : ∀ p' n' c' w', ByteRow w' (.slice p' n' c') (l ++ s.data.toList) → w.grownBy w' v.ownBlock → ((Value.slice p' n' c').ownBlock = v.ownBlock ∨ (Value.slice p' n' c').ownBlock = some w.heap.size) → ByteRow w' v l → wpList Try.prog ops Q rest (a.put o.dst (.slice p' n' c')) w') : wpList Try.prog ops Q (o :: rest) a w := by
  refine wpList_plain hgd fun K hK => ?_
  obtain ⟨v', w', hr, h2, h3, h4, h5⟩ := append_bytes o.type w v l s hown hlen
  unfold Oper.wp execOp
  simp only [ho, resolve, invoke, builtin, Sem.run_bind, Sem.run_pure, Result.andThen_ok, List.map_toArray, List.map_cons, List.map_nil, hs, hx, hr]
  obtain ⟨p', c', rfl⟩ := h2.shape
  exact hK _ _ (h p' _ c' w' h2 h3 h4 h5)
/-- a file's block -/
abbrev FileAt (w : World) (R : Nat) (sl : Value) (sy : Int) : Prop := w.heap[R]? = some (.cells #[sl, .int .i64 sy] 56 (0, 0))
theorem file_cells {w : World} {R : Nat} {sl : Value} {sy : Int} (h : FileAt w R sl sy) : w.cell? ⟨R, 0, none⟩ = some sl ∧ w.cell? ⟨R, 1, none⟩ = some (.int .i64 sy) ∧ w.frozen? ⟨R, 0, none⟩ = false ∧ w.frozen? ⟨R, 1, none⟩ = false :=
  ⟨cell_of_cells h rfl, cell_of_cells h rfl, frozen_of_cells h, frozen_of_cells h⟩
theorem file_apart {w : World} {R : Nat} {sl sl' : Value} {sy : Int} {l : List UInt8} (hR : FileAt w R sl' sy) (hrow : ByteRow w sl l) : sl.ownBlock ≠ some R := fun e => by
  obtain ⟨cur, hc⟩ := hrow.blk e
  unfold FileAt at hR
  rw [hR] at hc
  injection hc with hc
  injection hc with _ hc
  cases hc
set_option maxHeartbeats 1000000 in
set_option maxRecDepth 100000 in
theorem add_any (w : World) (R : Nat) (p : Option Addr) (n c : Nat) (sy : Int) (l : List UInt8) (x : ByteArray) (hR : FileAt w R (.slice p n c) sy) (hrow : ByteRow w (.slice p n c) l) (hlen : l.length + x.size ≤ 1000000000) :
    Calls Try.prog 21 #[.pointer (some ⟨R, 0, none⟩), .string x] w fun e w' => e = .returned (.tuple #[]) ∧ ∃ p' n' c', FileAt w' R (.slice p' n' c') sy ∧ ByteRow w' (.slice p' n' c') (l ++ x.data.toList) ∧ ByteRow w' (.slice p n c) l ∧ Turned (fun b => b = R ∨ (Value.slice p n c).ownBlock = some b) w w' ∧ ((Value.slice p' n' c').ownBlock = (Value.slice p n c).ownBlock ∨ (Value.slice p' n' c').ownBlock = some w.heap.size) := by
  have hRl : R < w.heap.size := (Array.getElem?_eq_some_iff.1 hR).1
  obtain ⟨c0, -, -, -⟩ := file_cells hR
  have hap := file_apart hR hrow
  have HAP := Lib.hid hap
  have HR := Lib.hid hR
  have HROW := Lib.hid hrow
  clear hap hR hrow
  go_enter Try.func21, Try.ntmps21
  have HST : Hid (∀ W, w.grownBy W (Value.slice p n c).ownBlock → FileAt W R (.slice p n c) sy) := Lib.hid (fun W hg => (hg.block R hRl (fun e => HAP.out e.symm)).trans HR.out)
  go_wp2_with (at_builtin; refine wpList_append_bytes rfl _ _ rfl (.slice p n c) l x rfl rfl HROW.out hlen ?_; intro p' n' c' w1 hrow1 hg1 hat1 hold1; have HOLD1 := Lib.hid hold1; have hR1 := HST.out w1 hg1; obtain ⟨d0, -, f0, -⟩ := file_cells hR1; have HAP1 := Lib.hid (file_apart hR1 hrow1); have HROW1 := Lib.hid hrow1; have HG1 := Lib.hid hg1; have HAT1 := Lib.hid hat1; have HR1 := Lib.hid hR1; clear hrow1 hg1 hat1 hR1 hold1)
  go_end0
  refine ⟨rfl, p', n', c', ?_, HROW1.out.stay fun g hg => ?_, HOLD1.out.stay fun g hg => ?_, ?_, HAT1.out⟩
  · have := heap_setCell_row HR1.out 0 (.slice p' n' c')
    simpa using this
  · exact Below.heap_setCell w1 _ _ g (fun e => HAP1.out (by rw [hg, e]))
  · exact Below.heap_setCell w1 _ _ g (fun e => HAP.out (by rw [hg, e]))
  · refine Turned.set_ ?_ (.inl rfl) 0 _
    have hg := HG1.out
    exact ⟨hg.os, hg.tape, hg.output, hg.size, fun k hk hS => hg.block k hk (fun e => hS (.inr e.symm))⟩
end Go.Proofs.Yteigkmeenokfoaa.Vd
