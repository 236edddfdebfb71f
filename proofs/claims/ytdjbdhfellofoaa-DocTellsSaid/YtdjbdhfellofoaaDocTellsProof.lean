
/- DocTells: called with any change and any string it returns true, and the arguments read behind the call as they read before. No condition. -/
import Derived.Test.YtdjbdhfellofoaaDocV
import Derived.Test.YtdjbdhfellofoaaDocTrod
namespace Go.Proofs.Ytdjbdhfellofoaa.Do
open Go.ChangeShapes Go.WideShapes Go.ChangeAt Go.RowKit Go.Proofs.Ytdjbdhfellofoaa DocM
open Go.ChangeMaps (open_string)

set_option maxHeartbeats 4000000 in
set_option maxRecDepth 100000 in
theorem doctells_out (c : Ch) (A A2 : Option Addr) (n cp n2 cp2 : Nat) (str : ByteArray) (w : World) (hno : ¬ (fewB n n2 = true ∧ str.size ≤ 1000)) :
    Calls Try.prog 3 #[chV c (.slice A n cp) (.slice A2 n2 cp2), .string str] w fun e w' => e = .returned (.bool true) ∧ Below w.heap.size w w' := by
  have FW := Lib.hid (fun W => few_any c A A2 n n2 cp cp2 W)
  obtain ⟨fw, hfw⟩ : ∃ b, b = fewB n n2 := ⟨_, rfl⟩
  rw [← hfw] at FW hno
  unfold chV at FW ⊢
  obtain ⟨d, ts, v, tg, gn⟩ := c
  simp only at FW ⊢
  have BB := Lib.hid (pl1 w (.cells #[.int .i64 d, .slice A n cp, .slice A2 n2 cp2, .int .i64 tg, .bool gn] 27))
  have HQ := Lib.hid (box5 w 27 (.int .i64 d) (.slice A n cp) (.slice A2 n2 cp2) (.int .i64 tg) (.bool gn))
  clear hfw
  cases fw with
  | false =>
    clear hno
    go_enter Try.func3, Try.ntmps3
    go_wp2_with fail
    refine (awake10_any _).mono ?_
    rintro e w1 ⟨rfl, hb⟩
    obtain ⟨q0, q1, q2, q3, q4⟩ := HQ.out w1 hb
    have BB := Lib.hid (BB.out.trans (hb.mono BB.out.size))
    clear hb
    go_wp2_with fail
    refine (FW.out _).mono ?_
    rintro e w2 ⟨rfl, hb⟩
    have BB := Lib.hid (BB.out.trans (hb.mono BB.out.size))
    clear hb q0 q1 q2 q3 q4
    go_wp2
    go_ret
    exact ⟨rfl, BB.out⟩
  | true =>
    obtain ⟨N, hN⟩ : ∃ N, N = str.size := ⟨_, rfl⟩
    have hsz : str.size = N := hN.symm
    have hd : decide ((1000 : Int) < (N : Int)) = true := decide_eq_true (by
      rcases Nat.lt_or_ge 1000 N with h | h
      · omega
      · exact absurd ⟨rfl, by omega⟩ hno)
    clear hno hN
    go_enter Try.func3, Try.ntmps3
    go_wp2_with fail
    refine (awake10_any _).mono ?_
    rintro e w1 ⟨rfl, hb⟩
    obtain ⟨q0, q1, q2, q3, q4⟩ := HQ.out w1 hb
    have BB := Lib.hid (BB.out.trans (hb.mono BB.out.size))
    clear hb
    go_wp2_with fail
    refine (FW.out _).mono ?_
    rintro e w2 ⟨rfl, hb⟩
    have BB := Lib.hid (BB.out.trans (hb.mono BB.out.size))
    clear hb q0 q1 q2 q3 q4
    go_wp2
    go_ret
    exact ⟨rfl, BB.out⟩
set_option maxRecDepth 100000 in
theorem doctells_lifted (os : Os) (started : os.Started) (H : Type) (enc : TypeId × Value → H) :
    ReturnsInHanded {} Try.checked os 3 .any (Rows.docTellsSpec.pre6 enc Try.prog Try.f3 Rows.docTellsRow.domain false) (Rows.docTellsSpec.post enc Try.prog Try.f3 false true false false) := by
  refine returnsInHanded_of_change (C := Try.checked) knob started (by kernel_rfl) Try.func3
    (ChangeSpec.witness6 (enc := enc) (C := Try.checked) false ⟨#[], #[.agg #[.int .i64 0, .slice none 0 0, .slice none 0 0, .int .i64 0, .bool false], .string ByteArray.empty], []⟩ 8 (by kernel_rfl) (by kernel_rfl) (by kernel_rfl) (by kernel_rfl)) ?_
  intro W base args ds gs before hval0 hW hcnd _
  have hval : ∀ (j : Nat) t v, Try.f3.params[j]? = some t → args[j]? = some v → Value.okWide Try.prog W .any base t v := hval0
  have hW' := hW
  obtain ⟨p, q, hA0, hV, rfl, hfz, hnd⟩ := hW
  have hA : DataW.TrodAll enc Try.prog W 0 (fun _ => true) true Try.f3.params.toList args.toList ds p := hA0
  rw [Try.params3] at hA hval
  obtain ⟨v0, vs0, d0, ds0, p0, q0, hargs, rfl, rfl, h0, r0⟩ := trodAll_cons hA
  obtain ⟨v1, vs1, d1, ds1, p1, q1, rfl, rfl, rfl, h1, r1⟩ := trodAll_cons r0
  obtain ⟨rfl, rfl, rfl⟩ := trodAll_nil r1
  obtain rfl : args = #[v0, v1] := by cases args; simp_all
  obtain ⟨rfl, rfl⟩ := trodVars_none hV
  obtain ⟨c, A, n, cp, A2, n2, cp2, rfl, hP, hI⟩ := change_of_trod (hval 0 27 v0 rfl rfl) h0
  obtain ⟨a3, rfl, rfl, rfl, w3⟩ := open_string Try.underlying9 (hval 1 9 v1 rfl rfl) h1
  obtain ⟨s, rfl⟩ : ∃ s, a3 = ofBytes s := ⟨a3.data.toList, (ofBytes_self a3).symm⟩
  have walk : Calls Try.prog 3 #[chV c (.slice A n cp) (.slice A2 n2 cp2), .string (ofBytes s)] W fun e w' => e = .returned (.bool true) ∧ Below W.heap.size W w' := by
    by_cases hn : fewB n n2 = true ∧ s.length ≤ 1000
    · have hf := hn.1
      unfold fewB at hf
      simp only [Bool.and_eq_true, decide_eq_true_eq] at hf
      exact doctells_main c A A2 n cp n2 cp2 s W hP hI hf.1 hf.2 hn.2
    · exact doctells_out c A A2 n cp n2 cp2 (ofBytes s) W (by rw [size_ofBytes]; exact hn)
  refine walk.mono fun e W' ⟨he, hg⟩ => ?_
  subst he
  exact ⟨_, rfl, law_post (s := Rows.docTellsSpec) hW' rfl rfl rfl rfl (by kernel_rfl) (by kernel_rfl) hg⟩
end Go.Proofs.Ytdjbdhfellofoaa.Do
namespace Go.Proofs.Ytdjbdhfellofoaa
open Go.ChangeShapes Go.WideShapes Go.ChangeAt Go.RowKit
theorem doctells_holds : Rows.DocTellsSaid :=
  OpenClaim.holds_of_wide 3 Try.f3 rfl rfl rfl rfl rfl rfl rfl ⟨rfl, rfl, rfl, rfl, rfl⟩ rfl rfl rfl rfl rfl (by kernel_rfl) Try.func3 (by kernel_rfl)
    (of_decide_eq_true (by kernel_rfl)) (by unfold Func.isWrapper; first | (rw [if_pos (by decide +kernel)]; kernel_rfl) | (rw [if_neg (by decide +kernel)]; exact ⟨rfl, rfl⟩))
    (fun os started H enc _ => Do.doctells_lifted os started H enc)
end Go.Proofs.Ytdjbdhfellofoaa
