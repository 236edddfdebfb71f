
/- VdiskLasts: called with any two slices of acts and any number it returns true, and the arguments read behind the call as they read before. No condition. -/
import Derived.Test.YteigkmeenokfoaaVdTrod
import Derived.Test.YteigkmeenokfoaaVdS
namespace Go.Proofs.Yteigkmeenokfoaa.Vd
open Go.ChangeShapes Go.WideShapes Go.ChangeAt Go.RowKit Go.Proofs.Yteigkmeenokfoaa

set_option maxRecDepth 100000 in
theorem vdisklasts_lifted (os : Os) (started : os.Started) (H : Type) (enc : TypeId × Value → H) :
    ReturnsInHanded {} Try.checked os 3 .any (Rows.vdiskLastsSpec.pre6 enc Try.prog Try.f3 Rows.vdiskLastsRow.domain false) (Rows.vdiskLastsSpec.post enc Try.prog Try.f3 false true false false) := by
  refine returnsInHanded_of_change_sized (C := Try.checked) knob started (by kernel_rfl) Try.func3
    (ChangeSpec.witness6 (enc := enc) (C := Try.checked) false ⟨#[], #[.slice none 0 0, .slice none 0 0, .int .i64 0], []⟩ 8 (by kernel_rfl) (by kernel_rfl) (by kernel_rfl) (by kernel_rfl)) ?_
  intro W base args ds gs before hval0 hW hcnd hsz0 _
  have hval : ∀ (j : Nat) t v, Try.f3.params[j]? = some t → args[j]? = some v → Value.okWide Try.prog W .any base t v := hval0
  have hsz : (DataW.weightsEach Try.prog (Try.f3.params.toList ++ Rows.vdiskLastsSpec.plain.varTypes Try.prog) (ds ++ gs)).all (· ≤ reachBytes) = true := hsz0
  have hW' := hW
  obtain ⟨p, q, hA0, hV, rfl, hfz, hnd⟩ := hW
  have hA : DataW.TrodAll enc Try.prog W 0 (fun _ => true) true Try.f3.params.toList args.toList ds p := hA0
  rw [Try.params3] at hA hval hsz
  obtain ⟨v0, vs0, d0, ds0, p0, q0, hargs, rfl, rfl, h0, r0⟩ := trodAll_cons hA
  obtain ⟨v1, vs1, d1, ds1, p1, q1, rfl, rfl, rfl, h1, r1⟩ := trodAll_cons r0
  obtain ⟨v2, vs2, d2, ds2, p2, q2, rfl, rfl, rfl, h2, r2⟩ := trodAll_cons r1
  obtain ⟨rfl, rfl, rfl⟩ := trodAll_nil r2
  obtain rfl : args = #[v0, v1, v2] := by cases args; simp_all
  obtain ⟨rfl, rfl⟩ := trodVars_none hV
  obtain ⟨A1, n1, c1, l1, rfl, a1, z1⟩ := acts9_of_trod (hval 0 22 v0 rfl rfl) h0
  obtain ⟨A2, n2, c2, l2, rfl, a2, z2⟩ := acts9_of_trod (hval 1 22 v1 rfl rfl) h1
  obtain ⟨k, rfl, rfl, rfl, _⟩ := open_int Try.underlying3 (hval 2 3 v2 rfl rfl) h2
  have s1 := acts9_short hsz (j := 0) rfl rfl a1.1 z1
  have s2 := acts9_short hsz (j := 1) rfl rfl a2.1 z2
  have walk : Calls Try.prog 3 #[.slice A1 n1 c1, .slice A2 n2 c2, .int .i64 k] W fun e w' => e = .returned (.bool true) ∧ Below W.heap.size W w' := by
    by_cases hc : fewB l1 = true ∧ fewB l2 = true
    · exact lasts_main A1 A2 n1 n2 c1 c2 k l1 l2 W a1 a2 s1.1 s2.1 (by have := s1.2; omega) (by have := s2.2; omega) hc.1 hc.2
    · exact lasts_out A1 A2 n1 n2 c1 c2 k l1 l2 W a1 a2 s1.1 s2.1 (by have := s1.2; omega) (by have := s2.2; omega) hc
  refine walk.mono fun e W' ⟨he, hg⟩ => ?_
  subst he
  exact ⟨_, rfl, law_post (s := Rows.vdiskLastsSpec) hW' rfl rfl rfl rfl (by kernel_rfl) (by kernel_rfl) hg⟩
end Go.Proofs.Yteigkmeenokfoaa.Vd
namespace Go.Proofs.Yteigkmeenokfoaa
open Go.ChangeShapes Go.WideShapes Go.ChangeAt Go.RowKit
theorem vdisklasts_holds : Rows.VdiskLastsSaid :=
  OpenClaim.holds_of_wide 3 Try.f3 rfl rfl rfl rfl rfl rfl rfl ⟨rfl, rfl, rfl, rfl, rfl⟩ rfl rfl rfl rfl rfl (by kernel_rfl) Try.func3 (by kernel_rfl)
    (of_decide_eq_true (by kernel_rfl)) (by unfold Func.isWrapper; first | (rw [if_pos (by decide +kernel)]; kernel_rfl) | (rw [if_neg (by decide +kernel)]; exact ⟨rfl, rfl⟩))
    (fun os started H enc _ => Vd.vdisklasts_lifted os started H enc)
end Go.Proofs.Yteigkmeenokfoaa
