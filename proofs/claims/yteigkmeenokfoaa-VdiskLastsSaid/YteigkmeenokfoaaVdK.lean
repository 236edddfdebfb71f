
/- An effect is done, or the power fails ahead of it. -/
import Derived.Test.YteigkmeenokfoaaVdJ
namespace Go.Proofs.Yteigkmeenokfoaa.Vd
open Go.RowKit Go.Proofs.Yteigkmeenokfoaa VdM Go.Maps

/-- as Went; variables of the caller's, X, may turn besides -/
def WentX (w w' : World) (F X : Nat → Prop) (d : Nat) (s' : Dsk) : Prop := Turned (fun b => F b ∨ X b) w w' ∧ ∃ F', Is w' F' d s' ∧ ∀ b, F' b → F b ∨ w.heap.size ≤ b
theorem Went.x {w w' : World} {F : Nat → Prop} {d : Nat} {s' : Dsk} (h : Went w w' F d s') (X : Nat → Prop) : WentX w w' F X d s' := ⟨h.1.wide fun _ => .inl, h.2⟩
theorem WentX.went {w0 w w' : World} {F X : Nat → Prop} {d : Nat} {s' : Dsk} (h : WentX w w' F X d s') (hT : Turned F w0 w) (hX : ∀ b, X b → w0.heap.size ≤ b) : Went w0 w' F d s' := by
  obtain ⟨h1, F', h2, h3⟩ := h
  exact ⟨hT.from_new (h1.wide fun b hb => hb.elim .inl (fun x => .inr (hX b x))), F', h2, fun b hb => (h3 b hb).elim .inl (fun x => .inr (Nat.le_trans hT.size x))⟩
/-- what a closure does to the disk's files -/
def Does (w : World) (F X : Nat → Prop) (d m : Nat) (D : MD) (V : Name → Value) (s : Dsk) (f : FuncId) (B : Array Value) (fs' : Fils) : Prop :=
  (∀ args w, (callFunc f args).run Try.prog w = .ok (.enter f args) w) ∧ ∀ W s1, Turned F w W → At W F d m D V s1 → s1.fs = s.fs → s1.quota = s.quota → Calls Try.prog f B W fun e W' => e = .returned (.tuple #[]) ∧ WentX W W' F X d { s1 with fs := fs' }
theorem Went.on {w w1 w' : World} {F : Nat → Prop} {d : Nat} {s' : Dsk} (hT : Turned F w w1) (h : Went w1 w' F d s') : Went w w' F d s' := by
  obtain ⟨h1, F', h2, h3⟩ := h
  exact ⟨hT.trans h1, F', h2, fun b hb => (h3 b hb).elim .inl (fun x => .inr (Nat.le_trans hT.size x))⟩
theorem WentX.on {w w1 w' : World} {F X : Nat → Prop} {d : Nat} {s' : Dsk} (hT : Turned F w w1) (h : WentX w1 w' F X d s') : WentX w w' F X d s' := by
  obtain ⟨h1, F', h2, h3⟩ := h
  exact ⟨(hT.wide fun _ => .inl).trans h1, F', h2, fun b hb => (h3 b hb).elim .inl (fun x => .inr (Nat.le_trans hT.size x))⟩
set_option maxHeartbeats 4000000 in
set_option maxRecDepth 100000 in
theorem do_any (w : World) (F X : Nat → Prop) (d m : Nat) (D : MD) (V : Name → Value) (s : Dsk) (h : At w F d m D V s) (f1 f2 : FuncId) (B1 B2 : Array Value) (wf ef : Fils) (h1 : Does w F X d m D V s f1 B1 wf) (h2 : s.at_ = 1 → Does w F X d m D V s f2 B2 ef) (he : s.eff + 1 ≤ 1000000000) :
    Calls Try.prog 23 #[.pointer (some ⟨d, 0, none⟩), .func (.func f1) #[] B1, .func (.func f2) #[] B2] w fun e w' => e = .returned (.int .i64 (effE s)) ∧ WentX w w' F X d (eff s { s with fs := wf } { s with fs := ef }) := by
  have hIs := h
  obtain ⟨c0, c1, c2, c3, c4, c5⟩ := h.cells
  have f3 := h.free 3
  have hat := h.ok.at0
  obtain ⟨a, ha⟩ : ∃ a, a = s.at_ := ⟨_, rfl⟩
  rw [← ha] at c3 hat
  by_cases hc : a = 1
  · have hE : effE s = 7 := by unfold effE; rw [← ha, if_pos hc]
    have hS : eff s { s with fs := wf } { s with fs := ef } = crash { s with fs := ef } s.keep := by unfold eff; rw [← ha, if_pos hc]
    rw [hE, hS]
    have hb : ((a : Int) == 1) = true := by rw [hc]; rfl
    obtain ⟨eg, hcall⟩ := h2 (by rw [← ha]; exact hc)
    have HC := Lib.hid (hcall w s (Turned.refl _ _) hIs rfl rfl)
    have HIS := Lib.hid hIs
    obtain ⟨kp, hkp⟩ : ∃ x, x = s.keep := ⟨_, rfl⟩
    rw [← hkp]
    have HKP := Lib.hid hkp
    clear hE hS hc ha hat hcall h1 h2 h hIs c0 c1 c2 c4 c5 f3 he hkp
    go_enter Try.func23, Try.ntmps23
    go_wp2_with fail
    refine HC.out.mono ?_
    rintro e w1 ⟨rfl, hw⟩
    obtain ⟨hT, F', hI, hF⟩ := hw
    have HCR := Lib.hid (crash_any w1 F' d _ hI kp)
    obtain ⟨m', D', V', hA⟩ := hI
    have k4 := hA.cells.2.2.2.2.1
    simp only at k4
    rw [← HKP.out] at k4
    have HT := Lib.hid hT
    have HF := Lib.hid hF
    clear hT hF hA eg
    go_wp2_with fail
    refine HCR.out.mono ?_
    rintro e w2 ⟨rfl, hT2, hI2⟩
    have HW := Lib.hid (show WentX w w2 F X d (crash { s with fs := ef } kp) from ⟨HT.out.from_new (hT2.wide fun b hb => (HF.out b hb).elim (fun x => .inl (.inl x)) .inr), F', hI2, HF.out⟩)
    clear hT2 hI2
    go_wp2
    go_ret
    exact ⟨rfl, by have hh := HW.out; rw [HKP.out] at hh ⊢; exact hh⟩
  · have hE : effE s = 0 := by unfold effE; rw [← ha, if_neg hc]
    have hS : eff s { s with fs := wf } { s with fs := ef } = { s with fs := wf, at_ := max (a - 1) 0, eff := s.eff + 1 } := by unfold eff; rw [← ha, if_neg hc]
    rw [hE, hS]
    have hb : ((a : Int) == 1) = false := by simpa using hc
    obtain ⟨eg, hcall⟩ := h1
    obtain ⟨a1, ha1⟩ : ∃ x, x = a - 1 := ⟨_, rfl⟩
    obtain ⟨a2, ha2⟩ : ∃ x, x = max (a - 1) 0 := ⟨_, rfl⟩
    rw [← ha2]
    have hw1 : IntKind.i64.wrap (a - 1) = a1 := by rw [IntKind.wrap_i64]; omega
    have hw2 : (if a1 < 0 then 0 else a1) = a2 := by split <;> omega
    have hok := h.ok
    have hA3 := h.set 3 (.int .i64 a2) { s with at_ := a2 } rfl ⟨hok.q1, hok.q2, hok.rise, hok.names, hok.syn, hok.fits, hok.most, by show 0 ≤ a2 ∧ a2 ≤ _; omega⟩ rfl
    have hT3 : Turned F w (w.setCell ⟨d, 3, none⟩ (.int .i64 a2)) := Turned.setc h.fd 3 _
    have HC := Lib.hid (hcall _ { s with at_ := a2 } hT3 hA3 rfl rfl)
    have HT3 := Lib.hid hT3
    have HE := Lib.hid he
    clear hE hS hc hat hcall h2 h hIs c0 c1 c2 c4 c5 he ha ha1 ha2 hok hA3 hT3
    go_enter Try.func23, Try.ntmps23
    go_wp2_with fail
    refine HC.out.mono ?_
    rintro e w1 ⟨rfl, hw⟩
    obtain ⟨hT, F', hI, hF⟩ := hw
    obtain ⟨m', D', V', hA⟩ := hI
    have HI := Lib.hid (iadd9_any d 5 s.eff w1 HE.out hA.cells.2.2.2.2.2 (hA.free 5))
    have hok := hA.ok
    have hA5 := hA.set 5 (.int .i64 ((s.eff + 1 : Nat) : Int)) { s with fs := wf, at_ := a2, eff := s.eff + 1 } rfl ⟨hok.q1, hok.q2, hok.rise, hok.names, hok.syn, hok.fits, hok.most, hok.at0⟩ rfl
    have hT5 : Turned F' w1 (w1.setCell ⟨d, 5, none⟩ (.int .i64 ((s.eff + 1 : Nat) : Int))) := Turned.setc hA.fd 5 _
    have HW := Lib.hid (WentX.on HT3.out (show WentX (w.setCell ⟨d, 3, none⟩ (.int .i64 a2)) (w1.setCell ⟨d, 5, none⟩ (.int .i64 ((s.eff + 1 : Nat) : Int))) F X d { s with fs := wf, at_ := a2, eff := s.eff + 1 } from ⟨hT.from_new (hT5.wide fun b hb => (hF b hb).elim (fun x => .inl (.inl x)) .inr), F', ⟨m', D', V', hA5⟩, hF⟩))
    clear hT hF hA hok hA5 hT5 eg
    go_wp2_with fail
    refine HI.out.mono ?_
    rintro e w2 ⟨rfl, rfl⟩
    go_wp2
    go_ret
    exact ⟨rfl, HW.out⟩
end Go.Proofs.Yteigkmeenokfoaa.Vd
