
/- A map[int]struct{} of one's own: which numbers it holds. -/
import Derived.Test.YtdjbdhfellofoaaBaseW
import Derived.Test.YtdjbdhfellofoaaLin
import Derived.Maps.OwnSet
import Derived.Maps.RangeWalk
namespace Go.Proofs.Ytdjbdhfellofoaa.Ks
open Go.RowKit Go.Proofs.Ytdjbdhfellofoaa Go.Maps

abbrev KD := DataW Unit
def keyL (d : Int) : Lit := .int .i64 d
theorem keyL_ne {d e : Int} (h : d ≠ e) : keyL d ≠ keyL e := fun k => by
  unfold keyL at k
  injection k with _ k
  exact h k
theorem key_law : Keyed Try.prog 3 := int_keyed Try.underlying3
theorem key_is {d : Int} (h : -9223372036854775808 ≤ d ∧ d ≤ 9223372036854775807) : keyOf Try.prog 3 (.int .i64 d) = some (keyL d) := keyOf_int_mk Try.underlying3 (WalkArith.wf_i64 (by omega))
theorem mk_hint (n : Nat) (w : World) : (Instr.makeMap 101 (some (.int .i64 (n : Int)))).run Try.prog w = .ok (.map (some w.heap.size)) (w.alloc (.map #[] 0)) := by
  simp [Instr.makeMap, run_underlying Try.underlying101, asInt, asIntOf, Result.andThen]
theorem zero_unit (w : World) : (zeroValue 102).run Try.prog w = .ok (.agg #[]) w := by kernel_rfl
abbrev OwnU (w : World) (b n : Nat) (D : KD) : Prop := w.ownsMap Try.prog 3 (unitElem (H := Unit)) b n D
theorem OwnU.later {w w' : World} {b n : Nat} {D : KD} (h : OwnU w b n D) (hb : Below w.heap.size w w') : OwnU w' b n D := by
  have hg : w.grownBy w' none := ⟨hb.os, hb.tape, hb.output, hb.size, fun k hk _ => hb.block k hk⟩
  exact h.kept hg (by simp)
/-- the map's datum D is the set S -/
structure RepU (D : KD) (S : List Int) : Prop where
  map : IsMap D
  has : ∀ d, Maps.has D (keyL d) = decide (d ∈ S)
theorem RepU.none_ : RepU (.map [] : KD) [] := ⟨⟨[], rfl⟩, fun _ => rfl⟩
theorem RepU.put {D : KD} {S : List Int} (h : RepU D S) (d : Int) : RepU (D.put (keyL d) (.agg [])) (S ++ [d]) := by
  refine ⟨h.map.put _ _, fun e => ?_⟩
  by_cases c : e = d
  · subst c
    rw [has_put_same h.map (show WideAt.IsKeyLit (keyL e) from trivial)]
    simp
  · rw [has_put_other (keyL_ne c), h.has e]
    simp [c]
end Go.Proofs.Ytdjbdhfellofoaa.Ks
