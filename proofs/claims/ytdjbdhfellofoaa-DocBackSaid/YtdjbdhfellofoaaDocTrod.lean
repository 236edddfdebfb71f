
/- Changes that came in, as the walks take them. -/
import Derived.Test.YtdjbdhfellofoaaLawPost
import Derived.Test.YtdjbdhfellofoaaIvTrod
import Derived.Test.YtdjbdhfellofoaaDocE
import Derived.Deep.Slices
namespace Go.Proofs.Ytdjbdhfellofoaa.Do
open Go.ChangeShapes Go.WideShapes Go.ChangeAt Go.RowKit Go.Proofs.Ytdjbdhfellofoaa DocM

theorem cells_term : Try.prog.cellsOf 56 = 2 := by kernel_rfl
theorem cells_terms : Try.prog.cellsOf 22 = 1 := by kernel_rfl
theorem cells_int10 : Try.prog.cellsOf 3 = 1 := by kernel_rfl
theorem cells_ints10 : Try.prog.cellsOf 23 = 1 := by kernel_rfl
theorem cells_bool10 : Try.prog.cellsOf 4 = 1 := by kernel_rfl
theorem cells_rec : Try.prog.cellsOf 25 = 4 := by kernel_rfl
theorem cells_chg : Try.prog.cellsOf 27 = 5 := by kernel_rfl
set_option maxRecDepth 100000 in
theorem term_of_trod {H : Type} {enc : TypeId × Value → H} {W : World} {fuel : Nat} {cs : List Value} {x : DataW H × List MemPlace} (h : DataW.trod enc Try.prog W 0 (fun _ => true) true fuel 56 cs = some x) :
    ∃ a b : Int, cs = [.int .i64 a, .int .i64 b] := by
  obtain ⟨xs, n, _, _, hlen, hxl, hf⟩ := DataW.trod_struct Try.underlying56 h
  rw [cells_term] at hlen
  obtain ⟨v0, v1, rfl⟩ : ∃ v0 v1, cs = [v0, v1] := by
    match cs, hlen with
    | [v0, v1], _ => exact ⟨v0, v1, rfl⟩
  obtain ⟨y0, y1, rfl⟩ : ∃ y0 y1, xs = [y0, y1] := by
    match xs, hxl with
    | [y0, y1], _ => exact ⟨y0, y1, rfl⟩
  have f0 : DataW.trod enc Try.prog W 0 (fun _ => true) true n 3 (([v0, v1].drop 0).take (Try.prog.cellsOf 3)) = some y0 := hf 0 _ rfl
  have f1 : DataW.trod enc Try.prog W 0 (fun _ => true) true n 3 (([v0, v1].drop 1).take (Try.prog.cellsOf 3)) = some y1 := hf 1 _ rfl
  rw [cells_int10] at f0 f1
  obtain ⟨a, ea, _⟩ := DataW.trod_int Try.underlying3 f0
  obtain ⟨b, eb, _⟩ := DataW.trod_int Try.underlying3 f1
  simp at ea eb
  exact ⟨a, b, by rw [ea, eb]⟩
set_option maxRecDepth 100000 in
theorem terms_of_trod0 {H : Type} {enc : TypeId × Value → H} {W : World} {fuel : Nat} {cs : List Value} {x : DataW H × List MemPlace} (hf : DataW.trod enc Try.prog W 0 (fun _ => true) true fuel 22 cs = some x) :
    ∃ A n cp l, cs = [.slice A n cp] ∧ Pairs W A n l := by
  rcases Go.Deep.open_slice Try.underlying22 hf with ⟨hcs, _⟩ | ⟨a, len, cap, m, n, D, Pl, hcs, _, hl, _, hm, hx, hcell⟩
  · exact ⟨none, 0, 0, [], hcs, rfl, fun k hk => by simp at hk⟩
  · simp only [if_true] at hm
    rw [cells_term] at hcell hx
    have hone : ∀ i, i < len → ∃ t : Int × Int, W.cell? (a.add (i * 2)) = some (.int .i64 t.1) ∧ W.cell? (a.add (i * 2 + 1)) = some (.int .i64 t.2) := by
      intro i hi
      obtain ⟨cs', hc, ht⟩ := hcell i (by omega)
      obtain ⟨x, y, rfl⟩ := term_of_trod ht
      obtain ⟨_, _, hat⟩ := World.cells?_some hc
      have c0 := hat 0 (by omega)
      have c1 := hat 1 (by omega)
      rw [Go.Deep.add_add] at c0 c1
      exact ⟨(x, y), c0, c1⟩
    obtain ⟨f, hfE⟩ : ∃ f : Nat → Int × Int, ∀ i, i < len → W.cell? (a.add (i * 2)) = some (.int .i64 (f i).1) ∧ W.cell? (a.add (i * 2 + 1)) = some (.int .i64 (f i).2) :=
      ⟨fun i => if h : i < len then (hone i h).choose else (0, 0), fun i hi => by simp only [hi, dif_pos]; exact (hone i hi).choose_spec⟩
    refine ⟨some a, len, cap, (List.range len).map f, hcs, by simp, fun k hk => ?_⟩
    have hk' : k < len := by simpa using hk
    obtain ⟨c0, c1⟩ := hfE k hk'
    have c00 := (hfE 0 (by omega)).1
    obtain ⟨b, o, spot⟩ := a
    have hspot : spot = none := by simpa [Addr.add] using World.cell?_spot c00
    subst hspot
    rw [add_none] at c0 c1
    refine ⟨b, o, rfl, World.block_lt_of_cell? W _ c0, ?_⟩
    simp only [List.getElem_map, List.getElem_range]
    exact ⟨c0, c1⟩
theorem arr5 {cs : Array Value} (h : cs.size = 5) : ∃ a b c d e, cs = #[a, b, c, d, e] := by
  obtain ⟨l⟩ := cs
  match l, h with
  | [a, b, c, d, e], _ => exact ⟨a, b, c, d, e, rfl⟩
theorem len2 {α : Type} {l : List α} (h : l.length = 2) : ∃ a b, l = [a, b] := by
  match l, h with
  | [a, b], _ => exact ⟨a, b, rfl⟩
theorem len4 {α : Type} {l : List α} (h : l.length = 4) : ∃ a b c d, l = [a, b, c, d] := by
  match l, h with
  | [a, b, c, d], _ => exact ⟨a, b, c, d, rfl⟩
set_option maxRecDepth 100000 in
/-- a change that came in -/
theorem change_of_trod {H : Type} {enc : TypeId × Value → H} {W : World} {v : Value} {d : DataW H} {ps : List MemPlace} {base : Nat} (hv : Value.okWide Try.prog W .any base 27 v)
    (h : DataW.Trod enc Try.prog W 0 (fun _ => true) true 27 v d ps) : ∃ c A n cp A2 n2 cp2, v = chV c (.slice A n cp) (.slice A2 n2 cp2) ∧ Pairs W A n c.ts ∧ Ivs W A2 n2 c.v := by
  obtain ⟨cs, rfl, hsz⟩ := okWide_struct Try.underlying27 hv
  rw [cells_chg] at hsz
  obtain ⟨v0, v1, v2, v3, v4, rfl⟩ := arr5 hsz
  obtain ⟨fuel, hf⟩ := h
  obtain ⟨xs, n, _, _, _, hxl, hfs⟩ := DataW.trod_struct Try.underlying27 hf
  obtain ⟨y0, y1, rfl⟩ := len2 hxl
  have f0 : DataW.trod enc Try.prog W 0 (fun _ => true) true n 25 (((Value.cells (.agg #[v0, v1, v2, v3, v4])).toList.drop 0).take (Try.prog.cellsOf 25)) = some y0 := hfs 0 _ rfl
  have f1 : DataW.trod enc Try.prog W 0 (fun _ => true) true n 4 (((Value.cells (.agg #[v0, v1, v2, v3, v4])).toList.drop 4).take (Try.prog.cellsOf 4)) = some y1 := hfs 1 _ rfl
  rw [cells_rec] at f0
  rw [cells_bool10] at f1
  obtain ⟨b, eb, _⟩ := DataW.trod_bool Try.underlying4 f1
  obtain ⟨zs, n', _, _, _, hzl, hgs⟩ := DataW.trod_struct Try.underlying25 f0
  obtain ⟨z0, z1, z2, z3, rfl⟩ := len4 hzl
  have g0 : DataW.trod enc Try.prog W 0 (fun _ => true) true n' 3 (([v0, v1, v2, v3].drop 0).take (Try.prog.cellsOf 3)) = some z0 := hgs 0 _ rfl
  have g1 : DataW.trod enc Try.prog W 0 (fun _ => true) true n' 22 (([v0, v1, v2, v3].drop 1).take (Try.prog.cellsOf 22)) = some z1 := hgs 1 _ rfl
  have g2 : DataW.trod enc Try.prog W 0 (fun _ => true) true n' 23 (([v0, v1, v2, v3].drop 2).take (Try.prog.cellsOf 23)) = some z2 := hgs 2 _ rfl
  have g3 : DataW.trod enc Try.prog W 0 (fun _ => true) true n' 3 (([v0, v1, v2, v3].drop 3).take (Try.prog.cellsOf 3)) = some z3 := hgs 3 _ rfl
  rw [cells_int10] at g0 g3
  rw [cells_terms] at g1
  rw [cells_ints10] at g2
  obtain ⟨di, e0, _⟩ := DataW.trod_int Try.underlying3 g0
  obtain ⟨A, m, cp, ts, e1, hP⟩ := terms_of_trod0 g1
  obtain ⟨A2, m2, cp2, vs, e2, hI⟩ := ivs_of_trod0 g2
  obtain ⟨ti, e3, _⟩ := DataW.trod_int Try.underlying3 g3
  simp at e0 e1 e2 e3
  simp [Value.cells] at eb
  subst e0; subst e1; subst e2; subst e3; subst eb
  exact ⟨⟨di, ts, vs, ti, b⟩, A, m, cp, A2, m2, cp2, rfl, hP, hI⟩
end Go.Proofs.Ytdjbdhfellofoaa.Do
