/- Own texts, merged (37 of 42). -/
import Derived.Test.YtddnnhfffmhpmaaGreatDoorSm35
import Derived.Test.YtddnnhfffmhpmaaGreatDoorSm36
import Derived.Test.YtddnnhfffmhpmaaGreatDoorSm22
import Derived.Deep.Slices

/- Changes that came in, as the walks take them. -/
namespace Go.Proofs.YtddnnhfffmhpmaaGreatDoor.Do
open Go.ChangeShapes Go.WideShapes Go.ChangeAt Go.RowKit Go.Proofs.YtddnnhfffmhpmaaGreatDoor DocM

theorem cells_term : Tryz.prog.cellsOf 109 = 2 := by kernel_rfl
theorem cells_terms : Tryz.prog.cellsOf 30 = 1 := by kernel_rfl
theorem cells_int10 : Tryz.prog.cellsOf 3 = 1 := by kernel_rfl
theorem cells_ints10 : Tryz.prog.cellsOf 31 = 1 := by kernel_rfl
theorem cells_bool10 : Tryz.prog.cellsOf 4 = 1 := by kernel_rfl
theorem cells_rec : Tryz.prog.cellsOf 33 = 4 := by kernel_rfl
theorem cells_chg : Tryz.prog.cellsOf 35 = 5 := by kernel_rfl
set_option maxRecDepth 100000 in
theorem term_of_trod {H : Type} {enc : TypeId × Value → H} {W : World} {fuel : Nat} {cs : List Value} {x : DataW H × List MemPlace} (h : DataW.trod enc Tryz.prog W 0 (fun _ => true) true fuel 109 cs = some x) :
    ∃ a b : Int, cs = [.int .i64 a, .int .i64 b] := by
  obtain ⟨xs, n, _, _, hlen, hxl, hf⟩ := DataW.trod_struct Tryz.underlying109 h
  rw [cells_term] at hlen
  obtain ⟨v0, v1, rfl⟩ : ∃ v0 v1, cs = [v0, v1] := by
    match cs, hlen with
    | [v0, v1], _ => exact ⟨v0, v1, rfl⟩
  obtain ⟨y0, y1, rfl⟩ : ∃ y0 y1, xs = [y0, y1] := by
    match xs, hxl with
    | [y0, y1], _ => exact ⟨y0, y1, rfl⟩
  have f0 : DataW.trod enc Tryz.prog W 0 (fun _ => true) true n 3 (([v0, v1].drop 0).take (Tryz.prog.cellsOf 3)) = some y0 := hf 0 _ rfl
  have f1 : DataW.trod enc Tryz.prog W 0 (fun _ => true) true n 3 (([v0, v1].drop 1).take (Tryz.prog.cellsOf 3)) = some y1 := hf 1 _ rfl
  rw [cells_int10] at f0 f1
  obtain ⟨a, ea, _⟩ := DataW.trod_int Tryz.underlying3 f0
  obtain ⟨b, eb, _⟩ := DataW.trod_int Tryz.underlying3 f1
  simp at ea eb
  exact ⟨a, b, by rw [ea, eb]⟩
set_option maxRecDepth 100000 in
theorem terms_of_trod0 {H : Type} {enc : TypeId × Value → H} {W : World} {fuel : Nat} {cs : List Value} {x : DataW H × List MemPlace} (hf : DataW.trod enc Tryz.prog W 0 (fun _ => true) true fuel 30 cs = some x) :
    ∃ A n cp l, cs = [.slice A n cp] ∧ Pairs W A n l := by
  rcases Go.Deep.open_slice Tryz.underlying30 hf with ⟨hcs, _⟩ | ⟨a, len, cap, m, n, D, Pl, hcs, _, hl, _, hm, hx, hcell⟩
  · exact ⟨none, 0, 0, [], hcs, rfl, fun k hk => by simp at hk⟩
  · simp only [if_true] at hm
    rw [cells_term] at hcell hx
    have hone : ∀ i, i < len → ∃ t : Int × Int, W.cell? (a.add (i * 2)) = some (.int .i64 t.1) ∧ W.cell? (a.add (i * 2 + 1)) = some (.int .i64 t.2) := by
      intro i hi
      obtain ⟨cs', hc, ht⟩ := hcell i (by omega)
      obtain ⟨x, y, rfl⟩ := term_of_trod ht
      obtain ⟨_, _, hat⟩ := World.cells?_some hc
      have c0 := hat 0 (by omega)
      have c1 := hat 1 (by omega)
      rw [Go.Deep.add_add] at c0 c1
      exact ⟨(x, y), c0, c1⟩
    obtain ⟨f, hfE⟩ : ∃ f : Nat → Int × Int, ∀ i, i < len → W.cell? (a.add (i * 2)) = some (.int .i64 (f i).1) ∧ W.cell? (a.add (i * 2 + 1)) = some (.int .i64 (f i).2) :=
      ⟨fun i => if h : i < len then (hone i h).choose else (0, 0), fun i hi => by simp only [hi, dif_pos]; exact (hone i hi).choose_spec⟩
    refine ⟨some a, len, cap, (List.range len).map f, hcs, by simp, fun k hk => ?_⟩
    have hk' : k < len := by simpa using hk
    obtain ⟨c0, c1⟩ := hfE k hk'
    have c00 := (hfE 0 (by omega)).1
    obtain ⟨b, o, spot⟩ := a
    have hspot : spot = none := by simpa [Addr.add] using World.cell?_spot c00
    subst hspot
    rw [add_none] at c0 c1
    refine ⟨b, o, rfl, World.block_lt_of_cell? W _ c0, ?_⟩
    simp only [List.getElem_map, List.getElem_range]
    exact ⟨c0, c1⟩
theorem len2 {α : Type} {l : List α} (h : l.length = 2) : ∃ a b, l = [a, b] := by
  match l, h with
  | [a, b], _ => exact ⟨a, b, rfl⟩
theorem len4 {α : Type} {l : List α} (h : l.length = 4) : ∃ a b c d, l = [a, b, c, d] := by
  match l, h with
  | [a, b, c, d], _ => exact ⟨a, b, c, d, rfl⟩
end Go.Proofs.YtddnnhfffmhpmaaGreatDoor.Do
