
/- Reading a file; how many bytes there are; is there room. -/
import Derived.Test.YteigkmeenokfoaaVdC
namespace Go.Proofs.Yteigkmeenokfoaa.Vd
open Go.RowKit Go.Proofs.Yteigkmeenokfoaa VdM Go.Maps

theorem ByteRow.bytes_at {w : World} {g n c : Nat} {l : List UInt8} (h : ByteRow w (.slice (some ⟨g, 0, none⟩) n c) l) : BytesAt w g l := by
  rcases h.2 with ⟨e, _⟩ | ⟨g', cap, cur, e, _, hgg, hc, _, hsz, ht⟩
  · cases e
  · injection e with e1 e2 e3
    injection e1 with e1
    injection e1 with e1
    subst e1
    intro j hj
    refine ⟨?_, by simp [World.frozen?, hgg]⟩
    rw [cell_of_row _ _ _ _ _ _ hgg]
    have h1 : (cur.toList.take (l.length * 1))[j]? = (l.map byteV)[j]? := by rw [ht]
    rw [List.getElem?_take, if_pos (by omega)] at h1
    rw [← Array.getElem?_toList, h1, List.getElem?_map, List.getElem?_eq_getElem hj]
    rfl
theorem conv_nil (w : World) : (convert 54 9 (.slice none 0 0)).run Try.prog w = .ok (.string ⟨#[]⟩) w := by kernel_rfl
theorem conv_row {w : World} {v : Value} {l : List UInt8} (h : ByteRow w v l) : (convert 54 9 v).run Try.prog w = .ok (.string (ofBytes l)) w := by
  rcases h.2 with ⟨rfl, e⟩ | ⟨g', cap, cur, rfl, _⟩
  · obtain rfl := List.eq_nil_of_length_eq_zero e
    exact conv_nil w
  · exact conv_string w g' cap l h.bytes_at
theorem At.found {w : World} {F : Nat → Prop} {d m : Nat} {D : MD} {V : Name → Value} {s : Dsk} (h : At w F d m D V s) (n : Name) : ByteRow w (findV V s n) (getF s n).bytes ∧ findS s n = ((getF s n).syn : Int) ∧ ∀ g, (findV V s n).ownBlock = some g → F g := by
  unfold findV findS getF
  cases hd : s.down with
  | true => exact ⟨ByteRow.nil_ w, rfl, fun g hg => by simp [nilS, Value.ownBlock] at hg⟩
  | false =>
    cases hl : lkF s.fs n with
    | none => exact ⟨ByteRow.nil_ w, rfl, fun g hg => by simp [rowOf, nilS, Value.ownBlock] at hg⟩
    | some f => exact ⟨h.row n f hl, rfl, h.fv n f hl⟩
set_option maxHeartbeats 1000000 in
set_option maxRecDepth 100000 in
theorem read_any (w : World) (F : Nat → Prop) (d : Nat) (s : Dsk) (h : Is w F d s) (nm : ByteArray) (hn : nm.size ≤ 1000000000) :
    Calls Try.prog 10 #[.pointer (some ⟨d, 0, none⟩), .string nm] w fun e w' => e = .returned (.tuple #[.string (ofBytes (getF s nm.data.toList).bytes), .int .i64 (findE s nm.data.toList)]) ∧ Below w.heap.size w w' := by
  obtain ⟨m, D, V, h⟩ := h
  have HF := Lib.hid (find_any w F d m D V s h nm hn)
  obtain ⟨hrow, hs, hfg⟩ := h.found nm.data.toList
  obtain ⟨sp, sc, hsl⟩ := hrow.shape
  obtain ⟨sn, hsn⟩ : ∃ x, x = (getF s nm.data.toList).bytes.length := ⟨_, rfl⟩
  rw [← hsn] at hsl
  rw [hsl] at hrow HF
  obtain ⟨sy, hsy⟩ : ∃ x, x = findS s nm.data.toList := ⟨_, rfl⟩
  obtain ⟨en, hen⟩ : ∃ x, x = findE s nm.data.toList := ⟨_, rfl⟩
  obtain ⟨l, hl⟩ : ∃ x, x = (getF s nm.data.toList).bytes := ⟨_, rfl⟩
  rw [← hsy, ← hen] at HF
  rw [← hen, ← hl]
  rw [← hl] at hrow
  have HR := Lib.hid hrow
  clear hs hfg hsl hsn hsy hen hl hrow h
  go_enter Try.func10, Try.ntmps10
  go_wp2_with fail
  refine HF.out.mono ?_
  rintro e w1 ⟨rfl, hb1⟩
  have hr1 := HR.out.stay (w' := w1) fun g hg => hb1.block g (HR.out.lt hg)
  have hr2 := hr1.stay (w' := w1.alloc (.cells #[.slice sp sn sc, .int .i64 sy] 56)) fun g hg => (pl1 w1 _).block g (hr1.lt hg)
  have hcv := conv_row hr2
  have HB := Lib.hid (hb1.trans ((pl1 w1 (.cells #[.slice sp sn sc, .int .i64 sy] 56)).mono hb1.size))
  clear hr1 hr2 hb1
  go_wp2
  go_ret2
  exact ⟨rfl, HB.out⟩
end Go.Proofs.Yteigkmeenokfoaa.Vd
