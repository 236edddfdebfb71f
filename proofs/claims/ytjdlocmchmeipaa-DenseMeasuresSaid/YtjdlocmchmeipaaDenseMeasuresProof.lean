
/- DenseMeasures: called with any two slices of ints it returns true, and the arguments read behind the call as they read before. No condition. -/
import Derived.Test.YtjdlocmchmeipaaDenseTrod
import Derived.Test.YtjdlocmchmeipaaDenseN
namespace Go.Proofs.Ytjdlocmchmeipaa
open Go.ChangeShapes Go.WideShapes Go.ChangeAt Go.RowKit

set_option maxRecDepth 100000 in
theorem densemeasures_lifted (os : Os) (started : os.Started) (H : Type) (enc : TypeId × Value → H) :
    ReturnsInHanded {} Try.checked os 5 .any (Rows.denseMeasuresSpec.pre6 enc Try.prog Try.f5 Rows.denseMeasuresRow.domain false) (Rows.denseMeasuresSpec.post enc Try.prog Try.f5 false true false false) := by
  refine returnsInHanded_of_change (C := Try.checked) knob started (by kernel_rfl) Try.func5
    (ChangeSpec.witness6 (enc := enc) (C := Try.checked) false ⟨#[], #[.slice none 0 0, .slice none 0 0], []⟩ 8 (by kernel_rfl) (by kernel_rfl) (by kernel_rfl) (by kernel_rfl)) ?_
  intro W base args ds gs before hval0 hW hcnd _
  have hval : ∀ (j : Nat) t v, Try.f5.params[j]? = some t → args[j]? = some v → Value.okWide Try.prog W .any base t v := hval0
  have hW' := hW
  obtain ⟨p, q, hA0, hV, rfl, hfz, hnd⟩ := hW
  have hA : DataW.TrodAll enc Try.prog W 0 (fun _ => true) true Try.f5.params.toList args.toList ds p := hA0
  rw [Try.params5] at hA hval
  obtain ⟨v0, vs0, d0, ds0, p0, q0, hargs, rfl, rfl, h0, r0⟩ := trodAll_cons hA
  obtain ⟨v1, vs1, d1, ds1, p1, q1, rfl, rfl, rfl, h1, r1⟩ := trodAll_cons r0
  obtain ⟨rfl, rfl, rfl⟩ := trodAll_nil r1
  obtain rfl : args = #[v0, v1] := by cases args; simp_all
  obtain ⟨rfl, rfl⟩ := trodVars_none hV
  obtain ⟨A1, n1, c1, a, rfl, hI1⟩ := ivs_of_trod (hval 0 22 v0 rfl rfl) h0
  obtain ⟨A2, n2, c2, b, rfl, hI2⟩ := ivs_of_trod (hval 1 22 v1 rfl rfl) h1
  have walk : Calls Try.prog 5 #[.slice A1 n1 c1, .slice A2 n2 c2] W fun e w' => e = .returned (.bool true) ∧ Below W.heap.size W w' := by
    by_cases hv : (DenM.vec a && DenM.vec b) = true
    · rw [Bool.and_eq_true] at hv
      obtain rfl : n1 = 8 := by rw [← hI1.1]; exact ((DenM.vec_iff a).1 hv.1).1
      obtain rfl : n2 = 8 := by rw [← hI2.1]; exact ((DenM.vec_iff b).1 hv.2).1
      exact measures_main A1 A2 c1 c2 a b W hI1 hI2 hv.1 hv.2
    · exact measures_out A1 A2 n1 n2 c1 c2 a b W hI1 hI2 (by simpa using hv)
  refine walk.mono fun e W' ⟨he, hg⟩ => ?_
  subst he
  exact ⟨_, rfl, law_post (s := Rows.denseMeasuresSpec) hW' rfl rfl rfl rfl (by kernel_rfl) (by kernel_rfl) hg⟩

theorem densemeasures_holds : Rows.DenseMeasuresSaid :=
  OpenClaim.holds_of_wide 5 Try.f5 rfl rfl rfl rfl rfl rfl rfl ⟨rfl, rfl, rfl, rfl, rfl⟩ rfl rfl rfl rfl rfl (by kernel_rfl) Try.func5 (by kernel_rfl)
    (of_decide_eq_true (by kernel_rfl)) (by unfold Func.isWrapper; first | (rw [if_pos (by decide +kernel)]; kernel_rfl) | (rw [if_neg (by decide +kernel)]; exact ⟨rfl, rfl⟩))
    (fun os started H enc _ => densemeasures_lifted os started H enc)
end Go.Proofs.Ytjdlocmchmeipaa
