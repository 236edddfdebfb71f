
/- Same: two changes held against each other (the program's). -/
import Derived.Test.YtdjbdhfellofoaaDocM
namespace Go.Proofs.Ytdjbdhfellofoaa.DocM
def sameC (a b : Ch) : Bool := decide (a.doc = b.doc) && decide (a.tags = b.tags) && (a.gone == b.gone) && decide (a.ts = b.ts) && decide (a.v = b.v)
theorem same_iff (a b : Ch) : sameC a b = true ↔ a = b := by
  unfold sameC
  obtain ⟨a1, a2, a3, a4, a5⟩ := a
  obtain ⟨b1, b2, b3, b4, b5⟩ := b
  simp only [Bool.and_eq_true, decide_eq_true_eq, beq_iff_eq, Ch.mk.injEq]
  constructor
  · rintro ⟨⟨⟨⟨h1, h2⟩, h3⟩, h4⟩, h5⟩
    exact ⟨h1, h4, h5, h2, h3⟩
  · rintro ⟨h1, h2, h3, h4, h5⟩
    exact ⟨⟨⟨⟨h1, h4⟩, h5⟩, h2⟩, h3⟩
end Go.Proofs.Ytdjbdhfellofoaa.DocM
namespace Go.Proofs.Ytdjbdhfellofoaa.Do
open Go.RowKit Go.Proofs.Ytdjbdhfellofoaa DocM

theorem i_eq (a b : Int) : (a == b) = decide (a = b) := by
  by_cases h : a = b
  · subst h; simp
  · rw [decide_eq_false h]; simpa using h
set_option maxHeartbeats 4000000 in
set_option maxRecDepth 100000 in
theorem dsame_any (c d : Ch) (A1 A2 A3 A4 : Option Addr) (n1 n2 n3 n4 p1 p2 p3 p4 : Nat) (w : World) (h1 : Pairs w A1 n1 c.ts) (h2 : Ivs w A2 n2 c.v) (h3 : Pairs w A3 n3 d.ts) (h4 : Ivs w A4 n4 d.v) (l1 : n1 ≤ 1000000) (l2 : n2 ≤ 1000000) (l3 : n3 ≤ 1000000) (l4 : n4 ≤ 1000000) :
    Calls Try.prog 19 #[chV c (.slice A1 n1 p1) (.slice A2 n2 p2), chV d (.slice A3 n3 p3) (.slice A4 n4 p4)] w fun e w' => e = .returned (.bool (sameC c d)) ∧ Below w.heap.size w w' := by
  have H1 := Lib.hid h1
  have H2 := Lib.hid h2
  have H3 := Lib.hid h3
  have H4 := Lib.hid h4
  obtain ⟨cd, ct, cv, cg, cn⟩ := c
  obtain ⟨dd, dt, dv, dg, dn⟩ := d
  unfold chV sameC
  simp only at H1 H2 H3 H4 ⊢
  have e1 := i_eq cd dd
  have e2 := i_eq cg dg
  obtain ⟨b1, hb1⟩ : ∃ b, b = decide (cd = dd) := ⟨_, rfl⟩
  obtain ⟨b2, hb2⟩ : ∃ b, b = decide (cg = dg) := ⟨_, rfl⟩
  obtain ⟨b3, hb3⟩ : ∃ b, b = (cn == dn) := ⟨_, rfl⟩
  rw [← hb1] at e1 ⊢
  rw [← hb2] at e2 ⊢
  rw [← hb3]
  have e3 := hb3.symm
  have Q1 := Lib.hid (fun W (hW : Below w.heap.size w W) => eqterms_any A1 A3 n1 n3 p1 p3 ct dt W (H1.out.later hW) (H3.out.later hW) l1 l3)
  have Q2 := Lib.hid (fun W (hW : Below w.heap.size w W) => eqints_any A2 A4 n2 n4 p2 p4 cv dv W (H2.out.later hW) (H4.out.later hW) l2 l4)
  obtain ⟨b4, hb4⟩ : ∃ b, b = decide (ct = dt) := ⟨_, rfl⟩
  obtain ⟨b5, hb5⟩ : ∃ b, b = decide (cv = dv) := ⟨_, rfl⟩
  rw [← hb4] at Q1 ⊢
  rw [← hb5] at Q2 ⊢
  have B0 : Hid (∀ o1 o2, Below w.heap.size w ((w.alloc o1).alloc o2)) := Lib.hid (fun o1 o2 => (pl1 w o1).trans ((pl1 _ o2).mono (by simp)))
  clear h1 h2 h3 h4 hb1 hb2 hb3 hb4 hb5 H1 H2 H3 H4
  cases b1 with
  | false =>
    go_enter Try.func19, Try.ntmps19
    go_wp2
    go_ret
    exact ⟨by simp, B0.out _ _⟩
  | true =>
    cases b2 with
    | false =>
      go_enter Try.func19, Try.ntmps19
      go_wp2
      go_ret
      exact ⟨by simp, B0.out _ _⟩
    | true =>
      cases b3 with
      | false =>
        go_enter Try.func19, Try.ntmps19
        go_wp2
        go_ret
        exact ⟨by simp, B0.out _ _⟩
      | true =>
        go_enter Try.func19, Try.ntmps19
        go_wp2_with fail
        refine (Q1.out _ (B0.out _ _)).mono ?_
        rintro e w1 ⟨rfl, q, rfl⟩
        have B1 := Lib.hid ((B0.out (.cells #[.int .i64 cd, .slice A1 n1 p1, .slice A2 n2 p2, .int .i64 cg, .bool cn] 27) (.cells #[.int .i64 dd, .slice A3 n3 p3, .slice A4 n4 p4, .int .i64 dg, .bool dn] 27)).trans ((below_drewN q).mono (by simp; omega)))
        cases b4 with
        | false =>
          go_wp2
          go_ret
          exact ⟨by simp, B1.out⟩
        | true =>
          go_wp2_with fail
          refine (Q2.out _ B1.out).mono ?_
          rintro e w1 ⟨rfl, q2, rfl⟩
          have B2 := Lib.hid (B1.out.trans ((below_drewN q2).mono B1.out.size))
          go_wp2
          go_ret
          exact ⟨by simp, by have h := B2.out; rw [World.drewN_drewN] at h; exact h⟩
end Go.Proofs.Ytdjbdhfellofoaa.Do
