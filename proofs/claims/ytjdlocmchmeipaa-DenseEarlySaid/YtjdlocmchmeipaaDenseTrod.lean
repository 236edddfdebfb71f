
/- Vectors and rows that came in, as the walks take them. -/
import Derived.Test.YtjdlocmchmeipaaLawPost
import Derived.Test.YtjdlocmchmeipaaDenseD
import Derived.Deep.Slices
namespace Go.Proofs.Ytjdlocmchmeipaa
open Go.ChangeShapes Go.WideShapes Go.ChangeAt Go.RowKit

theorem cells_row7 : Try.prog.cellsOf 52 = 2 := by kernel_rfl
theorem cells_int7 : Try.prog.cellsOf 3 = 1 := by kernel_rfl
theorem cells_ints7 : Try.prog.cellsOf 22 = 1 := by kernel_rfl
set_option maxRecDepth 100000 in
theorem ivs_of_trod0 {H : Type} {enc : TypeId × Value → H} {W : World} {fuel : Nat} {cs : List Value} {x : DataW H × List MemPlace} (hf : DataW.trod enc Try.prog W 0 (fun _ => true) true fuel 22 cs = some x) :
    ∃ A n cp l, cs = [.slice A n cp] ∧ Ivs W A n l := by
  rcases open_ints Try.underlying22 Try.underlying3 cells_int7 hf with ⟨hcs, _⟩ | ⟨a, len, cap, zs, hcs, _, hl, _, hz, hx, hcell, hwf⟩
  · exact ⟨none, 0, 0, [], hcs, rfl, fun k hk => by simp at hk⟩
  · simp only [if_true] at hz
    refine ⟨some a, len, cap, zs.take len, hcs, by rw [List.length_take]; omega, fun k hk => ?_⟩
    have hk' : k < len := by rw [List.length_take] at hk; omega
    have hc := hcell k (by omega)
    have h00 := hcell 0 (by omega)
    obtain ⟨b, o, spot⟩ := a
    have hspot : spot = none := by simpa [Addr.add] using World.cell?_spot h00
    subst hspot
    rw [add_none] at hc
    refine ⟨b, o, rfl, World.block_lt_of_cell? W _ hc, ?_⟩
    rw [hc]
    have hss : k < zs.length := by omega
    simp [List.getD, hss]
set_option maxRecDepth 100000 in
theorem ivs_of_trod {H : Type} {enc : TypeId × Value → H} {W : World} {v : Value} {d : DataW H} {ps : List MemPlace} {base : Nat} (hv : Value.okWide Try.prog W .any base 22 v)
    (h : DataW.Trod enc Try.prog W 0 (fun _ => true) true 22 v d ps) : ∃ A n cp l, v = .slice A n cp ∧ Ivs W A n l := by
  obtain ⟨a0, len, cap, rfl⟩ := okWide_slice Try.underlying22 hv
  obtain ⟨fuel, hf⟩ := h
  obtain ⟨A, n, cp, l, hcs, hI⟩ := ivs_of_trod0 hf
  have e : a0 = A ∧ len = n ∧ cap = cp := by simpa [Value.cells] using hcs
  obtain ⟨rfl, rfl, rfl⟩ := e
  exact ⟨a0, len, cap, l, rfl, hI⟩
set_option maxRecDepth 100000 in
theorem row7_of_trod {H : Type} {enc : TypeId × Value → H} {W : World} {fuel : Nat} {cs : List Value} {x : DataW H × List MemPlace} (h : DataW.trod enc Try.prog W 0 (fun _ => true) true fuel 52 cs = some x) :
    ∃ (d : Int) (A : Option Addr) (n cp : Nat) (l : List Int), cs = [.int .i64 d, .slice A n cp] ∧ Ivs W A n l := by
  obtain ⟨xs, n, _, _, hlen, hxl, hf⟩ := DataW.trod_struct Try.underlying52 h
  rw [cells_row7] at hlen
  obtain ⟨v0, v1, rfl⟩ : ∃ v0 v1, cs = [v0, v1] := by
    match cs, hlen with
    | [v0, v1], _ => exact ⟨v0, v1, rfl⟩
  obtain ⟨y0, y1, rfl⟩ : ∃ y0 y1, xs = [y0, y1] := by
    match xs, hxl with
    | [y0, y1], _ => exact ⟨y0, y1, rfl⟩
  have f0 : DataW.trod enc Try.prog W 0 (fun _ => true) true n 3 (([v0, v1].drop 0).take (Try.prog.cellsOf 3)) = some y0 := hf 0 _ rfl
  have f1 : DataW.trod enc Try.prog W 0 (fun _ => true) true n 22 (([v0, v1].drop 1).take (Try.prog.cellsOf 22)) = some y1 := hf 1 _ rfl
  rw [cells_int7] at f0
  rw [cells_ints7] at f1
  obtain ⟨a, ea, _⟩ := DataW.trod_int Try.underlying3 f0
  obtain ⟨A, n2, cp, l, eb, hI⟩ := ivs_of_trod0 f1
  simp at ea eb
  exact ⟨a, A, n2, cp, l, by rw [ea, eb], hI⟩
set_option maxRecDepth 100000 in
theorem rws_of_trod {H : Type} {enc : TypeId × Value → H} {W : World} {v : Value} {d : DataW H} {ps : List MemPlace} {base : Nat} (hv : Value.okWide Try.prog W .any base 23 v)
    (h : DataW.Trod enc Try.prog W 0 (fun _ => true) true 23 v d ps) : ∃ A n cp l, v = .slice A n cp ∧ Rws W A n l := by
  obtain ⟨a0, len, cap, rfl⟩ := okWide_slice Try.underlying23 hv
  obtain ⟨fuel, hf⟩ := h
  rcases Go.Deep.open_slice Try.underlying23 hf with ⟨hcs, _⟩ | ⟨a, len', cap', m, n, D, Pl, hcs, _, hl, _, hm, hx, hcell⟩
  · have e : a0 = none ∧ len = 0 ∧ cap = 0 := by simpa [Value.cells] using hcs
    obtain ⟨rfl, rfl, rfl⟩ := e
    exact ⟨none, 0, 0, [], rfl, rfl, fun k hk => by simp at hk⟩
  · have e : a0 = some a ∧ len = len' ∧ cap = cap' := by simpa [Value.cells] using hcs
    obtain ⟨rfl, rfl, rfl⟩ := e
    simp only [if_true] at hm
    rw [cells_row7] at hcell
    have hone : ∀ i, i < len → ∃ t : Int × List Int, ∃ A2 n2 c2, W.cell? (a.add (i * 2)) = some (.int .i64 t.1) ∧ W.cell? (a.add (i * 2 + 1)) = some (.slice A2 n2 c2) ∧ Ivs W A2 n2 t.2 := by
      intro i hi
      obtain ⟨cs', hc, ht⟩ := hcell i (by omega)
      obtain ⟨x, A2, n2, c2, l2, rfl, hI⟩ := row7_of_trod ht
      obtain ⟨_, _, hat⟩ := World.cells?_some hc
      have c0 := hat 0 (by omega)
      have c1 := hat 1 (by omega)
      rw [Go.Deep.add_add] at c0 c1
      exact ⟨(x, l2), A2, n2, c2, c0, c1, hI⟩
    obtain ⟨f, hfE⟩ : ∃ f : Nat → Int × List Int, ∀ i, i < len → ∃ A2 n2 c2, W.cell? (a.add (i * 2)) = some (.int .i64 (f i).1) ∧ W.cell? (a.add (i * 2 + 1)) = some (.slice A2 n2 c2) ∧ Ivs W A2 n2 (f i).2 :=
      ⟨fun i => if h : i < len then (hone i h).choose else (0, []), fun i hi => by simp only [hi, dif_pos]; exact (hone i hi).choose_spec⟩
    refine ⟨some a, len, cap, (List.range len).map f, rfl, by simp, fun k hk => ?_⟩
    have hk' : k < len := by simpa using hk
    obtain ⟨A2, n2, c2, c0, c1, hI⟩ := hfE k hk'
    obtain ⟨_, _, _, c00, _, _⟩ := hfE 0 (by omega)
    obtain ⟨b, o, spot⟩ := a
    have hspot : spot = none := by simpa [Addr.add] using World.cell?_spot c00
    subst hspot
    rw [add_none] at c0 c1
    refine ⟨b, o, A2, n2, c2, rfl, World.block_lt_of_cell? W _ c0, ?_⟩
    simp only [List.getElem_map, List.getElem_range]
    exact ⟨c0, c1, hI⟩
end Go.Proofs.Ytjdlocmchmeipaa
