
/- Slices of ints that came in, as the walks take them. -/
import Derived.Test.YtdjbdhfellofoaaLawPost
import Derived.Test.YtdjbdhfellofoaaIvs
import Derived.Deep.Slices
namespace Go.Proofs.Ytdjbdhfellofoaa
open Go.ChangeShapes Go.WideShapes Go.ChangeAt Go.RowKit

theorem cells_int7 : Try.prog.cellsOf 3 = 1 := by kernel_rfl
theorem cells_ints7 : Try.prog.cellsOf 23 = 1 := by kernel_rfl
set_option maxRecDepth 100000 in
theorem ivs_of_trod0 {H : Type} {enc : TypeId × Value → H} {W : World} {fuel : Nat} {cs : List Value} {x : DataW H × List MemPlace} (hf : DataW.trod enc Try.prog W 0 (fun _ => true) true fuel 23 cs = some x) :
    ∃ A n cp l, cs = [.slice A n cp] ∧ Ivs W A n l := by
  rcases open_ints Try.underlying23 Try.underlying3 cells_int7 hf with ⟨hcs, _⟩ | ⟨a, len, cap, zs, hcs, _, hl, _, hz, hx, hcell, hwf⟩
  · exact ⟨none, 0, 0, [], hcs, rfl, fun k hk => by simp at hk⟩
  · simp only [if_true] at hz
    refine ⟨some a, len, cap, zs.take len, hcs, by rw [List.length_take]; omega, fun k hk => ?_⟩
    have hk' : k < len := by rw [List.length_take] at hk; omega
    have hc := hcell k (by omega)
    have h00 := hcell 0 (by omega)
    obtain ⟨b, o, spot⟩ := a
    have hspot : spot = none := by simpa [Addr.add] using World.cell?_spot h00
    subst hspot
    rw [add_none] at hc
    refine ⟨b, o, rfl, World.block_lt_of_cell? W _ hc, ?_⟩
    rw [hc]
    have hss : k < zs.length := by omega
    simp [List.getD, hss]
set_option maxRecDepth 100000 in
theorem ivs_of_trod {H : Type} {enc : TypeId × Value → H} {W : World} {v : Value} {d : DataW H} {ps : List MemPlace} {base : Nat} (hv : Value.okWide Try.prog W .any base 23 v)
    (h : DataW.Trod enc Try.prog W 0 (fun _ => true) true 23 v d ps) : ∃ A n cp l, v = .slice A n cp ∧ Ivs W A n l := by
  obtain ⟨a0, len, cap, rfl⟩ := okWide_slice Try.underlying23 hv
  obtain ⟨fuel, hf⟩ := h
  obtain ⟨A, n, cp, l, hcs, hI⟩ := ivs_of_trod0 hf
  have e : a0 = A ∧ len = n ∧ cap = cp := by simpa [Value.cells] using hcs
  obtain ⟨rfl, rfl, rfl⟩ := e
  exact ⟨a0, len, cap, l, rfl, hI⟩
end Go.Proofs.Ytdjbdhfellofoaa
