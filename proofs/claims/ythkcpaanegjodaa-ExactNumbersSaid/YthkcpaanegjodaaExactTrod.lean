
/- A rational, as it comes in. -/
import Derived.Test.YthkcpaanegjodaaLawPost
import Derived.Test.YthkcpaanegjodaaExactH
import Derived.Lib.SmallJoins
namespace Go.Proofs.Ythkcpaanegjodaa
open Go.ChangeShapes Go.WideShapes Go.ChangeAt Go.RowKit

theorem cells_ratio : Try.prog.cellsOf 37 = 2 := by kernel_rfl
set_option maxRecDepth 100000 in
/-- a rational that came in -/
theorem ratio_of_trod {H : Type} {enc : TypeId × Value → H} {W : World} {v : Value} {d : DataW H} {ps : List MemPlace} {base : Nat} (hv : Value.okWide Try.prog W .any base 37 v)
    (h : DataW.Trod enc Try.prog W 0 (fun _ => true) true 37 v d ps) : ∃ p : Int × Int, v = rv p ∧ R64 p := by
  obtain ⟨c0, c1, y0, y1, m, rfl, rfl, rfl, hy0, hy1⟩ := Joins.open_agg2 Try.underlying37 (by kernel_rfl) cells_ratio hv h
  obtain ⟨a, e0, rfl, wa⟩ := DataW.trod_int Try.underlying2 hy0
  obtain ⟨b, e1, rfl, wb⟩ := DataW.trod_int Try.underlying2 hy1
  simp at e0 e1
  subst e0 e1
  exact ⟨(a, b), rfl, bounds_i64 wa, bounds_i64 wb⟩
end Go.Proofs.Ythkcpaanegjodaa
