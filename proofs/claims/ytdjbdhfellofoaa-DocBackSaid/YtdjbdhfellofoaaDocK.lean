
/- A change taken off a reader: take, Read, Parse (the program's). -/
import Derived.Test.YtdjbdhfellofoaaDocJ
namespace Go.Proofs.Ytdjbdhfellofoaa.Do
open Go.RowKit Go.Proofs.Ytdjbdhfellofoaa DocM

/-- the slice v reads as numbers -/
def Vrd (w : World) (v : Value) (l : List Int) : Prop := ∃ A cp, v = .slice A l.length cp ∧ Ivs w A l.length l
theorem Vrd.later {w w' : World} {v : Value} {l : List Int} (h : Vrd w v l) (hb : Below w.heap.size w w') : Vrd w' v l := by
  obtain ⟨A, cp, e, hI⟩ := h
  exact ⟨A, cp, e, hI.later hb⟩
theorem Vrd.nil_ (w : World) : Vrd w (.slice none 0 0) [] := ⟨none, 0, rfl, ivs_nil _ _⟩
theorem prd_nil (w : World) : Prd w (.slice none 0 0) [] := ⟨none, 0, rfl, Nat.le_refl _, (fun _ => rfl), rfl, fun k hk => by simp at hk⟩
/-- a variable of a change's type -/
def Bx (w : World) (B : Nat) (vs : Array Value) : Prop := w.heap[B]? = some (.cells vs 27 (0, 0))
section
variable {w w' : World} {B : Nat} {vs : Array Value}
theorem Bx.lt (h : Bx w B vs) : B < w.heap.size := (Array.getElem?_eq_some_iff.1 h).1
theorem Bx.at_ (h : Bx w B vs) (i : Nat) {v : Value} (hv : vs[i]? = some v) : w.cell? ⟨B, i, none⟩ = some v := (cell_of_row w B i _ _ (0, 0) h).trans hv
theorem Bx.free (h : Bx w B vs) (i : Nat) : w.frozen? ⟨B, i, none⟩ = false := by
  unfold Bx at h
  simp [World.frozen?, h]
theorem Bx.kept (h : Bx w B vs) (hb : w'.heap[B]? = w.heap[B]?) : Bx w' B vs := hb.trans h
theorem Bx.later (h : Bx w B vs) (hb : Below w.heap.size w w') : Bx w' B vs := (hb.block B h.lt).trans h
theorem Bx.grown {b : Nat} (h : Bx w B vs) (hg : w.grownBy w' (some b)) (hne : B ≠ b) : Bx w' B vs := (hg.block B h.lt (fun e => hne (by injection e))).trans h
theorem Bx.set_ (h : Bx w B vs) (i : Nat) (u : Value) : Bx (w.setCell ⟨B, i, none⟩ u) B (vs.setIfInBounds i u) := by
  unfold Bx
  rw [heap_setCell_row h]
theorem Bx.away (h : Bx w B vs) {C : Nat} (hne : B ≠ C) (i : Nat) (u : Value) : Bx (w.setCell ⟨C, i, none⟩ u) B vs := h.kept (Below.heap_setCell w _ u B (fun e => hne e))
end
theorem Bx.fill {w : World} {B : Nat} {v0 v1 v2 v3 v4 : Value} (h : Bx w B #[v0, v1, v2, v3, v4]) (a0 a1 a2 a3 a4 : Value) :
    Bx (((((w.setCell ⟨B, 0, none⟩ a0).setCell ⟨B, 1, none⟩ a1).setCell ⟨B, 2, none⟩ a2).setCell ⟨B, 3, none⟩ a3).setCell ⟨B, 4, none⟩ a4) B #[a0, a1, a2, a3, a4] := by
  have := ((((h.set_ 0 a0).set_ 1 a1).set_ 2 a2).set_ 3 a3).set_ 4 a4
  simpa using this
theorem grown_put {a w : World} {r : Option Nat} (h : a.grownBy w r) {B : Nat} (hB : a.heap.size ≤ B) (i : Nat) (u : Value) : a.grownBy (w.setCell ⟨B, i, none⟩ u) r :=
  ⟨h.os, h.tape, h.output, by simpa [World.setCell] using h.size, fun j hj hne => (Below.heap_setCell w _ u j (fun e => by
    have e' : j = B := e
    omega)).trans (h.block j hj hne)⟩
theorem rd_away {w : World} {b : Nat} {s : List UInt8} {bad : Bool} (h : RD w b s bad) {C : Nat} (hne : b ≠ C) (i : Nat) (u : Value) : RD (w.setCell ⟨C, i, none⟩ u) b s bad := h.kept (Below.heap_setCell w _ u b (fun e => hne e))
/-- a slice that lies in new memory, or nowhere -/
def NewS (N : Nat) (v : Value) : Prop := ∀ A n cp, v = .slice A n cp → ∀ ad, A = some ad → N ≤ ad.block
theorem NewS.nil_ (N : Nat) : NewS N (.slice none 0 0) := fun A n cp e ad e2 => by
  injection e with e
  subst e
  cases e2
theorem NewS.row {e : TypeId} {w : World} {base N : Nat} {A : Option Addr} {n cp : Nat} {l : List (Int × Int)} (h : PRow e w base (.slice A n cp) l) (hN : N ≤ base) : NewS N (.slice A n cp) := fun A' n' cp' e1 ad e2 => by
  injection e1 with e1
  subst e1
  rcases h.2 with ⟨e3, _⟩ | ⟨g, cap, cur, e3, hbg, _⟩
  · injection e3 with e3
    rw [e2] at e3
    cases e3
  · injection e3 with e3
    rw [e2] at e3
    injection e3 with e3
    subst e3
    exact Nat.le_trans hN hbg
theorem NewS.at_ {N g n cp : Nat} (h : N ≤ g) : NewS N (.slice (some ⟨g, 0, none⟩) n cp) := fun A n cp e ad e2 => by
  injection e with e
  subst e
  injection e2 with e2
  subst e2
  exact h
/-- what take answers, and leaves of the reader -/
def TakeEnd (N b : Nat) (s : List UInt8) (e : Ending) (w' : World) : Prop :=
  ∃ c T V ok s' bad', e = .returned (.tuple #[chV c T V, .bool ok]) ∧ Prd w' T c.ts ∧ Vrd w' V c.v ∧ RD w' b s' bad' ∧ (rawC s = if ok = true ∧ bad' = false then some (c, s') else none) ∧ NewS N T ∧ NewS N V
set_option maxHeartbeats 8000000 in
set_option maxRecDepth 100000 in
theorem take_any' (w : World) (b : Nat) (s : List UInt8) (hl : s.length ≤ 100000000) (h : RD w b s false) :
    Calls Try.prog 28 #[.pointer (some ⟨b, 0, none⟩)] w fun e w' => TakeEnd w.heap.size b s e w' ∧ w.grownBy w' (some b) := by
  have st0 : StK 100000000 s false := ⟨(fun e => by cases e), hl⟩
  have hth := raw_thread s
  have st1 := st0.num (most := PackM.MAXI)
  have st2 := st1.num (most := PackM.MAXI)
  have V1 := Lib.hid (fun W (hW : RD W b s false) => rvarint_any W b s false hl hW)
  obtain ⟨x, hx⟩ : ∃ x, x = nV PackM.MAXI s := ⟨_, rfl⟩
  obtain ⟨s1, hs1⟩ : ∃ x, x = nS PackM.MAXI s := ⟨_, rfl⟩
  obtain ⟨b1, hb1⟩ : ∃ x, x = nB PackM.MAXI s false := ⟨_, rfl⟩
  rw [← hx, ← hs1, ← hb1] at V1
  rw [← hs1, ← hb1] at st1 st2
  simp only [← hx, ← hs1, ← hb1] at hth
  have V2 := Lib.hid (fun W (hW : RD W b s1 b1) => rvarint_any W b s1 b1 st1.len hW)
  obtain ⟨y, hy⟩ : ∃ x, x = nV PackM.MAXI s1 := ⟨_, rfl⟩
  obtain ⟨s2, hs2⟩ : ∃ x, x = nS PackM.MAXI s1 := ⟨_, rfl⟩
  obtain ⟨b2, hb2⟩ : ∃ x, x = nB PackM.MAXI s1 b1 := ⟨_, rfl⟩
  rw [← hy, ← hs2, ← hb2] at V2
  rw [← hs2, ← hb2] at st2
  simp only [← hy, ← hs2, ← hb2] at hth
  have HTH := Lib.hid hth
  have ST2 := Lib.hid st2
  have H := Lib.hid h
  clear hx hs1 hb1 hy hs2 hb2 hth st0 st1 st2 h
  go_enter Try.func28, Try.ntmps28
  go_wp2_with fail
  obtain ⟨R, hR⟩ : ∃ R, R = w.heap.size := ⟨_, rfl⟩
  rw [← hR]
  obtain ⟨C, hC⟩ : ∃ C, C = R + 1 := ⟨_, rfl⟩
  rw [← hC]
  have hbw := H.out.lt
  have RB : Hid (R ≠ b) := Lib.hid (by omega)
  have CB : Hid (C ≠ b) := Lib.hid (by omega)
  have RC : Hid (R ≠ C) := Lib.hid (by omega)
  have HRw : Hid (w.heap.size ≤ R) := Lib.hid (by omega)
  have HCw : Hid (w.heap.size ≤ C) := Lib.hid (by omega)
  have A0 : Hid (Bx ((w.alloc (.cells #[.int .i64 0, .slice none 0 0, .slice none 0 0, .int .i64 0, .bool false] 27)).alloc (.cells #[.int .i64 0, .slice none 0 0, .slice none 0 0, .int .i64 0, .bool false] 27)) R #[.int .i64 0, .slice none 0 0, .slice none 0 0, .int .i64 0, .bool false]) := Lib.hid (by
    subst hR
    exact Bx.later (heap_alloc_new w _) (pl1 _ _))
  have A1 : Hid (Bx ((w.alloc (.cells #[.int .i64 0, .slice none 0 0, .slice none 0 0, .int .i64 0, .bool false] 27)).alloc (.cells #[.int .i64 0, .slice none 0 0, .slice none 0 0, .int .i64 0, .bool false] 27)) C #[.int .i64 0, .slice none 0 0, .slice none 0 0, .int .i64 0, .bool false]) := Lib.hid (by
    have e : C = (w.alloc (.cells #[.int .i64 0, .slice none 0 0, .slice none 0 0, .int .i64 0, .bool false] 27)).heap.size := by simp [hC, hR]
    rw [e]
    exact heap_alloc_new _ _)
  have A2 : Hid (RD ((w.alloc (.cells #[.int .i64 0, .slice none 0 0, .slice none 0 0, .int .i64 0, .bool false] 27)).alloc (.cells #[.int .i64 0, .slice none 0 0, .slice none 0 0, .int .i64 0, .bool false] 27)) b s false) := Lib.hid ((H.out.alloc _).alloc _)
  have A3 : Hid (w.grownBy ((w.alloc (.cells #[.int .i64 0, .slice none 0 0, .slice none 0 0, .int .i64 0, .bool false] 27)).alloc (.cells #[.int .i64 0, .slice none 0 0, .slice none 0 0, .int .i64 0, .bool false] 27)) (some b)) := Lib.hid (only_new (only_new (World.grownBy.refl w _) _) _)
  clear hR hC hbw H
  generalize ((w.alloc (.cells #[.int .i64 0, .slice none 0 0, .slice none 0 0, .int .i64 0, .bool false] 27)).alloc (.cells #[.int .i64 0, .slice none 0 0, .slice none 0 0, .int .i64 0, .bool false] 27)) = wA at A0 A1 A2 A3 ⊢
  refine (V1.out _ A2.out).mono ?_
  rintro e w1 ⟨rfl, rd, gr⟩
  have B0 := Lib.hid (A0.out.grown gr RB.out)
  have B1 := Lib.hid (A1.out.grown gr CB.out)
  have B3 := Lib.hid (A3.out.trans gr)
  have D2 := Lib.hid (rd_away rd (Ne.symm CB.out) 0 (.int .i64 (x : Int)))
  have c0 := B1.out.at_ 0 rfl
  have f0 := B1.out.free 0
  have D0 := Lib.hid (B0.out.away RC.out 0 (.int .i64 (x : Int)))
  have D1 := Lib.hid (B1.out.set_ 0 (.int .i64 (x : Int)))
  have D3 := Lib.hid (grown_put B3.out HCw.out 0 (.int .i64 (x : Int)))
  clear rd gr A0 A1 A2 A3 B0 B1 B3 V1
  go_wp2_with fail
  generalize w1.setCell ⟨C, 0, none⟩ (.int .i64 (x : Int)) = wB at D0 D1 D2 D3 ⊢
  clear c0 f0
  refine (V2.out _ D2.out).mono ?_
  rintro e w2 ⟨rfl, rd, gr⟩
  have E0 := Lib.hid (D0.out.grown gr RB.out)
  have E1 : Hid (Bx w2 C #[.int .i64 (x : Int), .slice none 0 0, .slice none 0 0, .int .i64 0, .bool false]) := Lib.hid (D1.out.grown gr CB.out)
  have E2 := Lib.hid rd
  have E3 := Lib.hid (D3.out.trans gr)
  clear rd gr D0 D1 D2 D3 V2
  have e0 := E0.out.at_ 0 rfl
  have e1 := E0.out.at_ 1 rfl
  have e2 := E0.out.at_ 2 rfl
  have e3 := E0.out.at_ 3 rfl
  have e4 := E0.out.at_ 4 rfl
  have k0 := E0.out.free 0
  have k1 := E0.out.free 1
  have k2 := E0.out.free 2
  have k3 := E0.out.free 3
  have k4 := E0.out.free 4
  have CE : ∀ W (a0 a1 a2 a3 a4 : Value) bad' s', Bx W R #[.int .i64 0, .slice none 0 0, .slice none 0 0, .int .i64 0, .bool false] → RD W b s' bad' → w.grownBy W (some b) →
      Bx (((((W.setCell ⟨R, 0, none⟩ a0).setCell ⟨R, 1, none⟩ a1).setCell ⟨R, 2, none⟩ a2).setCell ⟨R, 3, none⟩ a3).setCell ⟨R, 4, none⟩ a4) R #[a0, a1, a2, a3, a4] ∧
      RD (((((W.setCell ⟨R, 0, none⟩ a0).setCell ⟨R, 1, none⟩ a1).setCell ⟨R, 2, none⟩ a2).setCell ⟨R, 3, none⟩ a3).setCell ⟨R, 4, none⟩ a4) b s' bad' ∧
      w.grownBy (((((W.setCell ⟨R, 0, none⟩ a0).setCell ⟨R, 1, none⟩ a1).setCell ⟨R, 2, none⟩ a2).setCell ⟨R, 3, none⟩ a3).setCell ⟨R, 4, none⟩ a4) (some b) := fun W a0 a1 a2 a3 a4 bad' s' h1 h2 h3 =>
    have n := Ne.symm RB.out
    ⟨h1.fill a0 a1 a2 a3 a4, rd_away (rd_away (rd_away (rd_away (rd_away h2 n 0 a0) n 1 a1) n 2 a2) n 3 a3) n 4 a4,
      grown_put (grown_put (grown_put (grown_put (grown_put h3 HRw.out 0 a0) HRw.out 1 a1) HRw.out 2 a2) HRw.out 3 a3) HRw.out 4 a4⟩
  have HCE := Lib.hid CE
  clear CE
  have H2W : Hid (w.heap.size ≤ w2.heap.size) := Lib.hid E3.out.size
  by_cases hy0 : y = 0
  · subst hy0
    have hbs := HTH.out.2.1 rfl
    rw [body_state _ _ _ ST2.out.nil_] at hbs
    have TT := Lib.hid (fun W hW => taketerms_any W b s2 b2 ST2.out hW)
    have st4 := (ST2.out.ris (most := 64)).fix (m := 16) (n := (rsV 64 s2).length)
    obtain ⟨ts, hts⟩ : ∃ x, x = (rsV 64 s2).zip (fxV 16 (rsV 64 s2).length (rsS 64 s2) (rsB 64 s2 b2)) := ⟨_, rfl⟩
    obtain ⟨s4, hs4⟩ : ∃ x, x = fxS 16 (rsV 64 s2).length (rsS 64 s2) (rsB 64 s2 b2) := ⟨_, rfl⟩
    obtain ⟨b4, hb4⟩ : ∃ x, x = fxB 16 (rsV 64 s2).length (rsS 64 s2) (rsB 64 s2 b2) := ⟨_, rfl⟩
    rw [← hts, ← hs4, ← hb4] at TT hbs
    rw [← hs4, ← hb4] at st4
    clear hts hs4 hb4
    have TV := Lib.hid (fun W hW => takevector_any W b s4 b4 st4 hW)
    have st5 := st4.fix (m := 8) (n := 8)
    obtain ⟨vv, hvv⟩ : ∃ x, x = fxV 8 8 s4 b4 := ⟨_, rfl⟩
    obtain ⟨s5, hs5⟩ : ∃ x, x = fxS 8 8 s4 b4 := ⟨_, rfl⟩
    obtain ⟨b5, hb5⟩ : ∃ x, x = fxB 8 8 s4 b4 := ⟨_, rfl⟩
    rw [← hvv, ← hs5, ← hb5] at TV hbs
    rw [← hs5, ← hb5] at st5
    clear hvv hs5 hb5
    have TG := Lib.hid (fun W hW => taketags_any W b s5 b5 st5 hW)
    obtain ⟨tg, htg⟩ : ∃ x, x = (fxV 8 1 s5 b5).getD 0 0 := ⟨_, rfl⟩
    obtain ⟨s6, hs6⟩ : ∃ x, x = fxS 8 1 s5 b5 := ⟨_, rfl⟩
    obtain ⟨b6, hb6⟩ : ∃ x, x = fxB 8 1 s5 b5 := ⟨_, rfl⟩
    rw [← htg, ← hs6, ← hb6] at TG hbs
    have HBS := Lib.hid hbs
    clear htg hs6 hb6 hbs st4 st5 HTH
    go_wp2_with fail
    refine (TT.out _ E2.out).mono ?_
    rintro e w3 ⟨⟨T, rfl, hrow⟩, rd, gr⟩
    obtain ⟨AT, cT, rfl, hcT, _⟩ := hrow.form
    have LB : Hid (b < w2.heap.size) := Lib.hid E2.out.lt
    have LR : Hid (R < w2.heap.size ∧ C < w2.heap.size) := Lib.hid ⟨E0.out.lt, E1.out.lt⟩
    have E0 := Lib.hid (E0.out.grown gr RB.out)
    have E1 := Lib.hid (E1.out.grown gr CB.out)
    have E2 := Lib.hid rd
    have GG := Lib.hid gr
    have E3 := Lib.hid (E3.out.trans gr)
    have ROW := Lib.hid hrow
    clear hrow rd gr TT
    go_wp2_with fail
    refine (TV.out _ E2.out).mono ?_
    rintro e w4 ⟨⟨gV, rfl, hgV, hiv⟩, rd, gr⟩
    have ROW := Lib.hid (ROW.out.kept (w' := w4) (fun g hg => gr.block g (World.ownsRow.lt ROW.out g hg).2 (fun e => by
      injection e with e
      have h1 := (World.ownsRow.lt ROW.out g hg).1
      have h2 := LB.out
      omega)))
    have HV2 := Lib.hid (show w2.heap.size ≤ gV ∧ Ivs w4 (some ⟨gV, 0, none⟩) vv.length (vv.map (· - 128)) from ⟨Nat.le_trans GG.out.size hgV, hiv⟩)
    have E0 := Lib.hid (E0.out.grown gr RB.out)
    have E1 := Lib.hid (E1.out.grown gr CB.out)
    have E2 := Lib.hid rd
    have E3 := Lib.hid (E3.out.trans gr)
    clear hgV hiv rd gr TV GG
    go_wp2_with fail
    refine (TG.out _ E2.out).mono ?_
    rintro e w5 ⟨rfl, rd, gr⟩
    have ROW := Lib.hid (ROW.out.kept (w' := w5) (fun g hg => gr.block g (World.ownsRow.lt ROW.out g hg).2 (fun e => by
      injection e with e
      have h1 := (World.ownsRow.lt ROW.out g hg).1
      have h2 := LB.out
      omega)))
    have hgv2 : vv.length = 0 ∨ gV < w4.heap.size := by
      rcases Nat.eq_zero_or_pos vv.length with e | e
      · exact .inl e
      · obtain ⟨b', o', e1, h1, _⟩ := HV2.out.2.2 0 (by rw [List.length_map]; exact e)
        injection e1 with e1
        injection e1 with e1 _ _
        rw [e1]
        exact .inr h1
    have HV3 : Hid (Ivs w5 (some ⟨gV, 0, none⟩) vv.length (vv.map (· - 128))) := Lib.hid (by
      refine HV2.out.2.turned (Turned.of_grown (S := fun k => k = b) gr rfl) (fun ad e => ?_)
      injection e with e
      subst e
      have h1 := HV2.out.1
      have h2 := LB.out
      show ¬ gV = b
      omega)
    have E0 := Lib.hid (E0.out.grown gr RB.out)
    have E1 : Hid (Bx w5 C #[.int .i64 (x : Int), .slice none 0 0, .slice none 0 0, .int .i64 0, .bool false]) := Lib.hid (E1.out.grown gr CB.out)
    have E2 := Lib.hid rd
    have E3 := Lib.hid (E3.out.trans gr)
    clear rd gr TG hgv2 e0 e1 e2 e3 e4 k0 k1 k2 k3 k4
    have e0 := E0.out.at_ 0 rfl
    have e1 := E0.out.at_ 1 rfl
    have e2 := E0.out.at_ 2 rfl
    have e3 := E0.out.at_ 3 rfl
    have e4 := E0.out.at_ 4 rfl
    have k0 := E0.out.free 0
    have k1 := E0.out.free 1
    have k2 := E0.out.free 2
    have k3 := E0.out.free 3
    have k4 := E0.out.free 4
    have c0 := E1.out.at_ 0 rfl
    have c1 := E1.out.at_ 1 rfl
    have c2 := E1.out.at_ 2 rfl
    have c3 := E1.out.at_ 3 rfl
    have c4 := E1.out.at_ 4 rfl
    have l1 := E1.out.free 1
    have l2 := E1.out.free 2
    have l3 := E1.out.free 3
    have hRC := RC.out
    have n := Ne.symm CB.out
    have G0 := Lib.hid (((E0.out.away RC.out 1 (.slice AT ts.length cT)).away RC.out 2 (.slice (some ⟨gV, 0, none⟩) vv.length vv.length)).away RC.out 3 (.int .i64 tg))
    have G2 := Lib.hid (rd_away (rd_away (rd_away E2.out n 1 (.slice AT ts.length cT)) n 2 (.slice (some ⟨gV, 0, none⟩) vv.length vv.length)) n 3 (.int .i64 tg))
    have G3 := Lib.hid (grown_put (grown_put (grown_put E3.out HCw.out 1 (.slice AT ts.length cT)) HCw.out 2 (.slice (some ⟨gV, 0, none⟩) vv.length vv.length)) HCw.out 3 (.int .i64 tg))
    have HF := Lib.hid (HCE.out _ (.int .i64 (x : Int)) (.slice AT ts.length cT) (.slice (some ⟨gV, 0, none⟩) vv.length vv.length) (.int .i64 tg) (.bool false) b6 s6 G0.out G2.out G3.out)
    have HK : Hid (∀ g, w2.heap.size ≤ g → ((((((((w5.setCell ⟨C, 1, none⟩ (.slice AT ts.length cT)).setCell ⟨C, 2, none⟩ (.slice (some ⟨gV, 0, none⟩) vv.length vv.length)).setCell ⟨C, 3, none⟩ (.int .i64 tg)).setCell ⟨R, 0, none⟩ (.int .i64 (x : Int))).setCell ⟨R, 1, none⟩ (.slice AT ts.length cT)).setCell ⟨R, 2, none⟩ (.slice (some ⟨gV, 0, none⟩) vv.length vv.length)).setCell ⟨R, 3, none⟩ (.int .i64 tg)).setCell ⟨R, 4, none⟩ (.bool false)).heap[g]? = w5.heap[g]?) := Lib.hid (fun g hg => by
      have h1 := LR.out.1
      have h2 := LR.out.2
      have q : ∀ (W : World) (B i : Nat) (u : Value), B < w2.heap.size → (W.setCell ⟨B, i, none⟩ u).heap[g]? = W.heap[g]? := fun W B i u hB => Below.heap_setCell W _ u g (fun e => by
        have e' : g = B := e
        omega)
      rw [q _ R 4 _ h1, q _ R 3 _ h1, q _ R 2 _ h1, q _ R 1 _ h1, q _ R 0 _ h1, q _ C 3 _ h2, q _ C 2 _ h2, q _ C 1 _ h2])
    clear G0 G2 G3 n
    go_wp2
    have HS : Hid (w5.heap.size ≤ ((((((((w5.setCell ⟨C, 1, none⟩ (.slice AT ts.length cT)).setCell ⟨C, 2, none⟩ (.slice (some ⟨gV, 0, none⟩) vv.length vv.length)).setCell ⟨C, 3, none⟩ (.int .i64 tg)).setCell ⟨R, 0, none⟩ (.int .i64 (x : Int))).setCell ⟨R, 1, none⟩ (.slice AT ts.length cT)).setCell ⟨R, 2, none⟩ (.slice (some ⟨gV, 0, none⟩) vv.length vv.length)).setCell ⟨R, 3, none⟩ (.int .i64 tg)).setCell ⟨R, 4, none⟩ (.bool false)).heap.size) := Lib.hid (by simp)
    generalize ((((((((w5.setCell ⟨C, 1, none⟩ (.slice AT ts.length cT)).setCell ⟨C, 2, none⟩ (.slice (some ⟨gV, 0, none⟩) vv.length vv.length)).setCell ⟨C, 3, none⟩ (.int .i64 tg)).setCell ⟨R, 0, none⟩ (.int .i64 (x : Int))).setCell ⟨R, 1, none⟩ (.slice AT ts.length cT)).setCell ⟨R, 2, none⟩ (.slice (some ⟨gV, 0, none⟩) vv.length vv.length)).setCell ⟨R, 3, none⟩ (.int .i64 tg)).setCell ⟨R, 4, none⟩ (.bool false)) = WZ at HF HK HS ⊢
    have z0 := HF.out.1.at_ 0 rfl
    have z1 := HF.out.1.at_ 1 rfl
    have z2 := HF.out.1.at_ 2 rfl
    have z3 := HF.out.1.at_ 3 rfl
    have z4 := HF.out.1.at_ 4 rfl
    have HP : Prd WZ (.slice AT ts.length cT) ts := (ROW.out.kept (w' := WZ) (fun g hg => HK.out g (Nat.le_trans (Nat.le_refl _) (World.ownsRow.lt ROW.out g hg).1))).prd
    have HQ : Ivs WZ (some ⟨gV, 0, none⟩) vv.length (vv.map (· - 128)) := ivs_kept HV3.out (HK.out gV HV2.out.1) HS.out
    exact bodyPost_ret (v := .tuple #[chV ⟨x, ts, vv.map (· - 128), tg, false⟩ (.slice AT ts.length cT) (.slice (some ⟨gV, 0, none⟩) vv.length vv.length), .bool true]) (by simp [results, Try.results28, go_sem, z0, z1, z2, z3, z4, chV]) rfl ⟨⟨⟨x, ts, vv.map (· - 128), tg, false⟩, _, _, true, s6, b6, rfl, HP, ⟨_, vv.length, by rw [List.length_map], by rw [List.length_map]; exact HQ⟩, HF.out.2.1, by have := HBS.out; simpa using this, NewS.row ROW.out H2W.out, NewS.at_ (Nat.le_trans H2W.out HV2.out.1)⟩, HF.out.2.2⟩
  · have hn0 : ((y : Int) == 0) = false := by simp; omega
    by_cases hy1 : y = 1
    · subst hy1
      have HH := Lib.hid (HTH.out.1 rfl)
      clear HTH
      have c0 := E1.out.at_ 0 rfl
      have c1 := E1.out.at_ 1 rfl
      have c2 := E1.out.at_ 2 rfl
      have c3 := E1.out.at_ 3 rfl
      have c4 := E1.out.at_ 4 rfl
      have l4 := E1.out.free 4
      have G0 := Lib.hid (E0.out.away RC.out 4 (.bool true))
      have G2 := Lib.hid (rd_away E2.out (Ne.symm CB.out) 4 (.bool true))
      have G3 := Lib.hid (grown_put E3.out HCw.out 4 (.bool true))
      have HF := Lib.hid (HCE.out (w2.setCell ⟨C, 4, none⟩ (.bool true)) (.int .i64 (x : Int)) (.slice none 0 0) (.slice none 0 0) (.int .i64 0) (.bool true) b2 s2 G0.out G2.out G3.out)
      have hRC := RC.out
      clear G0 G2 G3
      go_wp2
      generalize ((((((w2.setCell ⟨C, 4, none⟩ (.bool true)).setCell ⟨R, 0, none⟩ (.int .i64 (x : Int))).setCell ⟨R, 1, none⟩ (.slice none 0 0)).setCell ⟨R, 2, none⟩ (.slice none 0 0)).setCell ⟨R, 3, none⟩ (.int .i64 0)).setCell ⟨R, 4, none⟩ (.bool true)) = WZ at HF ⊢
      have z0 := HF.out.1.at_ 0 rfl
      have z1 := HF.out.1.at_ 1 rfl
      have z2 := HF.out.1.at_ 2 rfl
      have z3 := HF.out.1.at_ 3 rfl
      have z4 := HF.out.1.at_ 4 rfl
      exact bodyPost_ret (v := .tuple #[chV ⟨x, [], [], 0, true⟩ (.slice none 0 0) (.slice none 0 0), .bool true]) (by simp [results, Try.results28, go_sem, z0, z1, z2, z3, z4, chV]) rfl ⟨⟨⟨x, [], [], 0, true⟩, _, _, true, s2, b2, rfl, prd_nil _, Vrd.nil_ _, HF.out.2.1, by rw [HH.out.2, HH.out.1]; simp, NewS.nil_ _, NewS.nil_ _⟩, HF.out.2.2⟩
    · have hn1 : ((y : Int) == 1) = false := by simp; omega
      have HN := Lib.hid (HTH.out.2.2 hy0 hy1)
      clear HTH
      have HF := Lib.hid (HCE.out w2 (.int .i64 0) (.slice none 0 0) (.slice none 0 0) (.int .i64 0) (.bool false) b2 s2 E0.out E2.out E3.out)
      go_wp2
      generalize (((((w2.setCell ⟨R, 0, none⟩ (.int .i64 0)).setCell ⟨R, 1, none⟩ (.slice none 0 0)).setCell ⟨R, 2, none⟩ (.slice none 0 0)).setCell ⟨R, 3, none⟩ (.int .i64 0)).setCell ⟨R, 4, none⟩ (.bool false)) = WZ at HF ⊢
      have z0 := HF.out.1.at_ 0 rfl
      have z1 := HF.out.1.at_ 1 rfl
      have z2 := HF.out.1.at_ 2 rfl
      have z3 := HF.out.1.at_ 3 rfl
      have z4 := HF.out.1.at_ 4 rfl
      exact bodyPost_ret (v := .tuple #[chV ch0 (.slice none 0 0) (.slice none 0 0), .bool false]) (by simp [results, Try.results28, go_sem, z0, z1, z2, z3, z4, chV, ch0]) rfl ⟨⟨ch0, _, _, false, s2, b2, rfl, prd_nil _, Vrd.nil_ _, HF.out.2.1, by rw [HN.out]; simp, NewS.nil_ _, NewS.nil_ _⟩, HF.out.2.2⟩
end Go.Proofs.Ytdjbdhfellofoaa.Do
