/- StoreQuiet: called with any acts it returns true, and the arguments read behind the call as they read before. The condition is the card's own: five of Go's tables are laid as the program's text lays them. -/
import Derived.Test.YtddnnhfffmhpmaaGreatDoorSm38
import Derived.Test.YtddnnhfffmhpmaaGreatDoorSm34
import Derived.Test.YtddnnhfffmhpmaaGreatDoorSm35
import Derived.Test.YtddnnhfffmhpmaaGreatDoorTie
import Derived.Test.YtddnnhfffmhpmaaGreatDoorCards
import Derived.LaidMore
import Derived.Lay
import Derived.SevenTiedAt
import Derived.Stop.Joined

namespace Go.Proofs.YtddnnhfffmhpmaaGreatDoor.St
open Go.ChangeShapes Go.WideShapes Go.ChangeAt Go.RowKit Go.Proofs.YtddnnhfffmhpmaaGreatDoor DocM StoM Do

set_option maxRecDepth 100000 in
theorem storeQuiet_lifted (os : Os) (started : os.Started) (H : Type) (enc : TypeId × Value → H) :
    ReturnsInHanded {} Tryz.checked os 5 .any (fun w args => (Rows.storeQuietSpec.pre enc Tryz.prog Tryz.f5 Rows.storeQuietRow.domain false w args ∧ laidMetH Tryz.prog Rows.storeQuietRow.laid w) ∧ sizedMet enc Tryz.prog Tryz.f5 (OpenSpec.ofChange Rows.storeQuietSpec) false w args) (Rows.storeQuietSpec.post enc Tryz.prog Tryz.f5 false true false false) := by
  refine returnsInHanded_of_change_and (C := Tryz.checked) (X := fun w _ => laidMetH Tryz.prog Rows.storeQuietRow.laid w) (fun _ _ _ hh h => h.of_heap hh) knob started (by kernel_rfl) Tryz.func5
    (ChangeSpec.witness_shaped (enc := enc) (C := Tryz.checked) (os := os) (X := fun w _ => laidMetH Tryz.prog Rows.storeQuietRow.laid w) false (World.laidAll Tryz.prog os Rows.storeQuietRow.laid) #[.slice none 0 0] 8 (World.laidAll_os _ _ _)
      (World.shaped_of_ZipB (by kernel_rfl) (by kernel_rfl)) (by kernel_rfl) (by kernel_rfl) (by kernel_rfl)
      (by rw [MakeChecks.laidMetH_plain _ _ _ (by kernel_rfl)]; exact laidMet_laidAll _ (by kernel_rfl) (by kernel_rfl))) ?_
  intro W base args ds gs before hval0 hW _ _ _ _
  have hval : ∀ (j : Nat) t v, Tryz.f5.params[j]? = some t → args[j]? = some v → Value.okWide Tryz.prog W .any base t v := hval0
  have hW' := hW
  obtain ⟨p, q, hA0, hV, rfl, hfz, hnd⟩ := hW
  have hA : DataW.TrodAll enc Tryz.prog W 0 (fun _ => true) true Tryz.f5.params.toList args.toList ds p := hA0
  rw [Tryz.params5] at hA hval
  obtain ⟨v0, d0, rfl, rfl, h0⟩ := trodAll_one hA
  obtain ⟨rfl, rfl⟩ := trodVars_none hV
  obtain ⟨A, m, cp, l, rfl, hacts, _⟩ := acts11_of_trod (hval 0 22 v0 rfl rfl) h0
  have walk : Calls Tryz.prog 5 #[.slice A m cp] W fun e w' => e = .returned (.bool true) ∧ Below W.heap.size W w' := quiet_main W A m cp l hacts
  refine walk.mono fun e W' ⟨he, hg⟩ => ?_
  subst he
  exact ⟨_, rfl, law_post (s := Rows.storeQuietSpec) hW' rfl rfl rfl rfl (by kernel_rfl) (by kernel_rfl) hg⟩
end Go.Proofs.YtddnnhfffmhpmaaGreatDoor.St
namespace Go.Proofs.YtddnnhfffmhpmaaGreatDoor
open Go.ChangeShapes Go.WideShapes Go.ChangeAt Go.RowKit
theorem storeQuiet_row : Rows.StoreQuietSaid :=
  OpenClaim.holds_of_wide 5 Tryz.f5 rfl rfl rfl rfl rfl rfl rfl ⟨rfl, rfl, rfl, rfl, rfl⟩ rfl rfl rfl rfl rfl (by kernel_rfl) Tryz.func5 (by kernel_rfl)
    (of_decide_eq_true (by kernel_rfl)) (by unfold Func.isWrapper; first | (rw [if_pos (by decide +kernel)]; kernel_rfl) | (rw [if_neg (by decide +kernel)]; exact ⟨rfl, rfl⟩))
    (fun os started H enc _ => St.storeQuiet_lifted os started H enc)
theorem storeQuiet_card : Rows.StoreQuietCardSaid :=
  Claim7.holds_tied_plain_at .later [] _ _ _ _ storeQuiet_row (fun _ h => by cases h) (by kernel_rfl) (fun _ h => by cases h) storeQuiet_row_tie rfl ⟨rfl, rfl⟩ (by kernel_rfl) rfl
    (fun f fn hf hfn => by
      obtain rfl : f = 5 := Option.some.inj ((show Tryz.prog.funcNamed "rankloft/rankloftlaw11.StoreQuiet" = some 5 by kernel_rfl).symm.trans hf) |>.symm
      obtain rfl : fn = Tryz.f5 := (Option.some.inj (Tryz.func5.symm.trans hfn)).symm
      exact ⟨by kernel_rfl, fun j t ht => by
        rw [Tryz.params5] at ht
        have hm : t ∈ [22] := by simpa using Array.mem_of_getElem? ht
        have hall : ([22].all fun u => !Tryz.prog.wantsStandIn u) = true := by kernel_rfl
        exact (show Tryz.prog.wantsStandIn t = false by simpa using List.all_eq_true.1 hall t hm)⟩)
    (by kernel_rfl)
end Go.Proofs.YtddnnhfffmhpmaaGreatDoor
