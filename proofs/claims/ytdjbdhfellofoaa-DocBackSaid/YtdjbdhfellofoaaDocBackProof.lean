
/- DocBack: called with any two changes and any string it returns true, and the arguments read behind the call as they read before. No condition. -/
import Derived.Test.YtdjbdhfellofoaaDocW
import Derived.Test.YtdjbdhfellofoaaDocTrod
namespace Go.Proofs.Ytdjbdhfellofoaa.Do
open Go.ChangeShapes Go.WideShapes Go.ChangeAt Go.RowKit Go.Proofs.Ytdjbdhfellofoaa DocM
open Go.ChangeMaps (open_string)

set_option maxHeartbeats 4000000 in
set_option maxRecDepth 100000 in
theorem docback_out (c d : Ch) (A A2 D D2 : Option Addr) (n cp n2 cp2 m dp m2 dp2 : Nat) (str : ByteArray) (w : World) (hno : ¬ (fewB n n2 = true ∧ fewB m m2 = true ∧ str.size ≤ 1000)) :
    Calls Try.prog 4 #[chV c (.slice A n cp) (.slice A2 n2 cp2), chV d (.slice D m dp) (.slice D2 m2 dp2), .string str] w fun e w' => e = .returned (.bool true) ∧ Below w.heap.size w w' := by
  have FC := Lib.hid (fun W => few_any c A A2 n n2 cp cp2 W)
  have FD := Lib.hid (fun W => few_any d D D2 m m2 dp dp2 W)
  obtain ⟨fw, hfw⟩ : ∃ b, b = fewB n n2 := ⟨_, rfl⟩
  obtain ⟨fx, hfx⟩ : ∃ b, b = fewB m m2 := ⟨_, rfl⟩
  rw [← hfw, ← hfx] at hno
  rw [← hfw] at FC
  rw [← hfx] at FD
  obtain ⟨N, hN⟩ : ∃ N, N = str.size := ⟨_, rfl⟩
  have hsz : str.size = N := hN.symm
  rw [← hN] at hno
  have HNO := Lib.hid hno
  unfold chV at FC FD ⊢
  obtain ⟨c0, ts, v, c3, c4⟩ := c
  obtain ⟨d0, ts', v', d3, d4⟩ := d
  simp only at FC FD ⊢
  clear hfw hfx hN hno
  go_enter Try.func4, Try.ntmps4
  go_wp2_with fail
  have hC : (w.alloc (.cells #[.int .i64 c0, .slice A n cp, .slice A2 n2 cp2, .int .i64 c3, .bool c4] 27)).heap.size = w.heap.size + 1 := by simp
  obtain ⟨B3, hB3⟩ : ∃ B, B = w.heap.size := ⟨_, rfl⟩
  obtain ⟨B4, hB4⟩ : ∃ B, B = w.heap.size + 1 := ⟨_, rfl⟩
  rw [← hB4, ← hB3]
  have CX : Hid (Bx ((w.alloc (.cells #[.int .i64 c0, .slice A n cp, .slice A2 n2 cp2, .int .i64 c3, .bool c4] 27)).alloc (.cells #[.int .i64 d0, .slice D m dp, .slice D2 m2 dp2, .int .i64 d3, .bool d4] 27)) B3 #[.int .i64 c0, .slice A n cp, .slice A2 n2 cp2, .int .i64 c3, .bool c4]) := Lib.hid (by
    subst hB3
    have q : Bx (w.alloc (.cells #[.int .i64 c0, .slice A n cp, .slice A2 n2 cp2, .int .i64 c3, .bool c4] 27)) w.heap.size #[.int .i64 c0, .slice A n cp, .slice A2 n2 cp2, .int .i64 c3, .bool c4] := heap_alloc_new w _
    exact q.later (pl1 _ _))
  have DX : Hid (Bx ((w.alloc (.cells #[.int .i64 c0, .slice A n cp, .slice A2 n2 cp2, .int .i64 c3, .bool c4] 27)).alloc (.cells #[.int .i64 d0, .slice D m dp, .slice D2 m2 dp2, .int .i64 d3, .bool d4] 27)) B4 #[.int .i64 d0, .slice D m dp, .slice D2 m2 dp2, .int .i64 d3, .bool d4]) := Lib.hid (by
    have q : Bx ((w.alloc (.cells #[.int .i64 c0, .slice A n cp, .slice A2 n2 cp2, .int .i64 c3, .bool c4] 27)).alloc (.cells #[.int .i64 d0, .slice D m dp, .slice D2 m2 dp2, .int .i64 d3, .bool d4] 27)) (w.alloc (.cells #[.int .i64 c0, .slice A n cp, .slice A2 n2 cp2, .int .i64 c3, .bool c4] 27)).heap.size #[.int .i64 d0, .slice D m dp, .slice D2 m2 dp2, .int .i64 d3, .bool d4] := heap_alloc_new _ _
    rw [hC, ← hB4] at q
    exact q)
  have BB : Hid (Below w.heap.size w ((w.alloc (.cells #[.int .i64 c0, .slice A n cp, .slice A2 n2 cp2, .int .i64 c3, .bool c4] 27)).alloc (.cells #[.int .i64 d0, .slice D m dp, .slice D2 m2 dp2, .int .i64 d3, .bool d4] 27))) := Lib.hid ((pl1 w _).trans ((pl1 _ _).mono (by simp)))
  clear hB3 hB4 hC
  generalize ((w.alloc (.cells #[.int .i64 c0, .slice A n cp, .slice A2 n2 cp2, .int .i64 c3, .bool c4] 27)).alloc (.cells #[.int .i64 d0, .slice D m dp, .slice D2 m2 dp2, .int .i64 d3, .bool d4] 27)) = w0 at CX DX BB ⊢
  refine (awake10_any _).mono ?_
  rintro e w1 ⟨rfl, hb⟩
  have CX := Lib.hid (CX.out.later hb)
  have DX := Lib.hid (DX.out.later hb)
  have BB := Lib.hid (BB.out.trans (hb.mono BB.out.size))
  clear hb
  have q0 := CX.out.at_ 0 rfl
  have q1 := CX.out.at_ 1 rfl
  have q2 := CX.out.at_ 2 rfl
  have q3 := CX.out.at_ 3 rfl
  have q4 := CX.out.at_ 4 rfl
  go_wp2_with fail
  refine (FC.out _).mono ?_
  rintro e w2 ⟨rfl, hb⟩
  have DX := Lib.hid (DX.out.later hb)
  have BB := Lib.hid (BB.out.trans (hb.mono BB.out.size))
  clear hb q0 q1 q2 q3 q4 FC
  cases fw with
  | false =>
    clear hsz
    go_wp2
    go_ret
    exact ⟨rfl, BB.out⟩
  | true =>
    have q0 := DX.out.at_ 0 rfl
    have q1 := DX.out.at_ 1 rfl
    have q2 := DX.out.at_ 2 rfl
    have q3 := DX.out.at_ 3 rfl
    have q4 := DX.out.at_ 4 rfl
    go_wp2_with fail
    refine (FD.out _).mono ?_
    rintro e w3 ⟨rfl, hb⟩
    have BB := Lib.hid (BB.out.trans (hb.mono BB.out.size))
    clear hb q0 q1 q2 q3 q4 FD
    cases fx with
    | false =>
      clear hsz
      go_wp2
      go_ret
      exact ⟨rfl, BB.out⟩
    | true =>
      have hd : decide ((1000 : Int) < (N : Int)) = true := decide_eq_true (by
        rcases Nat.lt_or_ge 1000 N with h | h
        · omega
        · exact absurd (by simp; omega) HNO.out)
      go_wp2
      go_ret
      exact ⟨rfl, BB.out⟩
set_option maxRecDepth 100000 in
theorem docback_lifted (os : Os) (started : os.Started) (H : Type) (enc : TypeId × Value → H) :
    ReturnsInHanded {} Try.checked os 4 .any (Rows.docBackSpec.pre6 enc Try.prog Try.f4 Rows.docBackRow.domain false) (Rows.docBackSpec.post enc Try.prog Try.f4 false true false false) := by
  refine returnsInHanded_of_change (C := Try.checked) knob started (by kernel_rfl) Try.func4
    (ChangeSpec.witness6 (enc := enc) (C := Try.checked) false ⟨#[], #[.agg #[.int .i64 0, .slice none 0 0, .slice none 0 0, .int .i64 0, .bool false], .agg #[.int .i64 0, .slice none 0 0, .slice none 0 0, .int .i64 0, .bool false], .string ByteArray.empty], []⟩ 8 (by kernel_rfl) (by kernel_rfl) (by kernel_rfl) (by kernel_rfl)) ?_
  intro W base args ds gs before hval0 hW hcnd _
  have hval : ∀ (j : Nat) t v, Try.f4.params[j]? = some t → args[j]? = some v → Value.okWide Try.prog W .any base t v := hval0
  have hW' := hW
  obtain ⟨p, q, hA0, hV, rfl, hfz, hnd⟩ := hW
  have hA : DataW.TrodAll enc Try.prog W 0 (fun _ => true) true Try.f4.params.toList args.toList ds p := hA0
  rw [Try.params4] at hA hval
  obtain ⟨v0, vs0, d0, ds0, p0, q0, hargs, rfl, rfl, h0, r0⟩ := trodAll_cons hA
  obtain ⟨v1, vs1, d1, ds1, p1, q1, rfl, rfl, rfl, h1, r1⟩ := trodAll_cons r0
  obtain ⟨v2, vs2, d2, ds2, p2, q2, rfl, rfl, rfl, h2, r2⟩ := trodAll_cons r1
  obtain ⟨rfl, rfl, rfl⟩ := trodAll_nil r2
  obtain rfl : args = #[v0, v1, v2] := by cases args; simp_all
  obtain ⟨rfl, rfl⟩ := trodVars_none hV
  obtain ⟨c, A, n, cp, A2, n2, cp2, rfl, hP, hI⟩ := change_of_trod (hval 0 27 v0 rfl rfl) h0
  obtain ⟨d, D, m, dp, D2, m2, dp2, rfl, gP, gI⟩ := change_of_trod (hval 1 27 v1 rfl rfl) h1
  obtain ⟨a3, rfl, rfl, rfl, w3⟩ := open_string Try.underlying9 (hval 2 9 v2 rfl rfl) h2
  obtain ⟨s, rfl⟩ : ∃ s, a3 = ofBytes s := ⟨a3.data.toList, (ofBytes_self a3).symm⟩
  have walk : Calls Try.prog 4 #[chV c (.slice A n cp) (.slice A2 n2 cp2), chV d (.slice D m dp) (.slice D2 m2 dp2), .string (ofBytes s)] W fun e w' => e = .returned (.bool true) ∧ Below W.heap.size W w' := by
    by_cases hn : fewB n n2 = true ∧ fewB m m2 = true ∧ s.length ≤ 1000
    · have hf := hn.1
      have hg := hn.2.1
      unfold fewB at hf hg
      simp only [Bool.and_eq_true, decide_eq_true_eq] at hf hg
      exact docback_main c d A A2 D D2 n cp n2 cp2 m dp m2 dp2 s W hP hI gP gI hf.1 hf.2 hg.1 hg.2 hn.2.2
    · exact docback_out c d A A2 D D2 n cp n2 cp2 m dp m2 dp2 (ofBytes s) W (by rw [size_ofBytes]; exact hn)
  refine walk.mono fun e W' ⟨he, hg⟩ => ?_
  subst he
  exact ⟨_, rfl, law_post (s := Rows.docBackSpec) hW' rfl rfl rfl rfl (by kernel_rfl) (by kernel_rfl) hg⟩
end Go.Proofs.Ytdjbdhfellofoaa.Do
namespace Go.Proofs.Ytdjbdhfellofoaa
open Go.ChangeShapes Go.WideShapes Go.ChangeAt Go.RowKit
theorem docback_holds : Rows.DocBackSaid :=
  OpenClaim.holds_of_wide 4 Try.f4 rfl rfl rfl rfl rfl rfl rfl ⟨rfl, rfl, rfl, rfl, rfl⟩ rfl rfl rfl rfl rfl (by kernel_rfl) Try.func4 (by kernel_rfl)
    (of_decide_eq_true (by kernel_rfl)) (by unfold Func.isWrapper; first | (rw [if_pos (by decide +kernel)]; kernel_rfl) | (rw [if_neg (by decide +kernel)]; exact ⟨rfl, rfl⟩))
    (fun os started H enc _ => Do.docback_lifted os started H enc)
end Go.Proofs.Ytdjbdhfellofoaa
