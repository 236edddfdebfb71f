/- Own texts, merged (36 of 42). -/
import Derived.Test.YtddnnhfffmhpmaaGreatDoorSm35
import Derived.Test.YtddnnhfffmhpmaaGreatDoorSm13
import Derived.Deep.Slices

/- Slices of ints that came in, as the walks take them. -/
namespace Go.Proofs.YtddnnhfffmhpmaaGreatDoor
open Go.ChangeShapes Go.WideShapes Go.ChangeAt Go.RowKit

theorem cells_int7 : Tryz.prog.cellsOf 3 = 1 := by kernel_rfl
set_option maxRecDepth 100000 in
theorem ivs_of_trod0 {H : Type} {enc : TypeId × Value → H} {W : World} {fuel : Nat} {cs : List Value} {x : DataW H × List MemPlace} (hf : DataW.trod enc Tryz.prog W 0 (fun _ => true) true fuel 31 cs = some x) :
    ∃ A n cp l, cs = [.slice A n cp] ∧ Ivs W A n l := by
  rcases open_ints Tryz.underlying31 Tryz.underlying3 cells_int7 hf with ⟨hcs, _⟩ | ⟨a, len, cap, zs, hcs, _, hl, _, hz, hx, hcell, hwf⟩
  · exact ⟨none, 0, 0, [], hcs, rfl, fun k hk => by simp at hk⟩
  · simp only [if_true] at hz
    refine ⟨some a, len, cap, zs.take len, hcs, by rw [List.length_take]; omega, fun k hk => ?_⟩
    have hk' : k < len := by rw [List.length_take] at hk; omega
    have hc := hcell k (by omega)
    have h00 := hcell 0 (by omega)
    obtain ⟨b, o, spot⟩ := a
    have hspot : spot = none := by simpa [Addr.add] using World.cell?_spot h00
    subst hspot
    rw [add_none] at hc
    refine ⟨b, o, rfl, World.block_lt_of_cell? W _ hc, ?_⟩
    rw [hc]
    have hss : k < zs.length := by omega
    simp [List.getD, hss]
end Go.Proofs.YtddnnhfffmhpmaaGreatDoor
