
/- Print: a change's bytes, or Right's error (the program's). -/
import Derived.Test.YtdjbdhfellofoaaDocG
import Derived.Deep.DeepCutAuto
namespace Go.Proofs.Ytdjbdhfellofoaa.Do
open Go.RowKit Go.Proofs.Ytdjbdhfellofoaa DocM

/-- what Print answers -/
def prA (c : Ch) : Value := .tuple #[.string (ofBytes (if rightC c = 0 then prB c else [])), .int .i64 (rightC c)]
theorem k4C {U X w1 : World} {p0 p1 p2 p3 : Addr} {v0 v1 v2 v3 : Value} (hb : Below X.heap.size X w1) (h : X.cell? p0 = some v0 ∧ X.cell? p1 = some v1 ∧ X.cell? p2 = some v2 ∧ X.cell? p3 = some v3 ∧ Below U.heap.size U X) : w1.cell? p0 = some v0 ∧ w1.cell? p1 = some v1 ∧ w1.cell? p2 = some v2 ∧ w1.cell? p3 = some v3 ∧ Below U.heap.size U w1 :=
  have k : ∀ {p v}, X.cell? p = some v → w1.cell? p = some v := fun {p _} e => (hb.cell (World.block_lt_of_cell? X p e)).trans e
  ⟨k h.1, k h.2.1, k h.2.2.1, k h.2.2.2.1, h.2.2.2.2.trans (hb.mono h.2.2.2.2.size)⟩
theorem k4D {U : World} {p0 p1 p2 p3 : Addr} {v0 v1 v2 v3 : Value} (h0 : U.cell? p0 = some v0) (h1 : U.cell? p1 = some v1) (h2 : U.cell? p2 = some v2) (h3 : U.cell? p3 = some v3) : U.drew.cell? p0 = some v0 ∧ U.drew.cell? p1 = some v1 ∧ U.drew.cell? p2 = some v2 ∧ U.drew.cell? p3 = some v3 ∧ Below U.heap.size U U.drew := ⟨h0, h1, h2, h3, (Below.refl _ _).drew⟩
theorem nought_any (w : World) : Calls Try.prog 22 #[.int .i64 0] w fun e w' => e = .returned (.tuple #[.string (ofBytes [0]), .int .i64 0]) ∧ Below w.heap.size w w' := by
  refine (varint_any 0 w (by omega) (by omega)).mono fun e w' ⟨h1, h2⟩ => ⟨?_, h2⟩
  rw [h1, var_nought]
  rfl
theorem one_any (w : World) : Calls Try.prog 22 #[.int .i64 1] w fun e w' => e = .returned (.tuple #[.string (ofBytes [1]), .int .i64 0]) ∧ Below w.heap.size w w' := by
  refine (varint_any 1 w (by omega) (by omega)).mono fun e w' ⟨h1, h2⟩ => ⟨?_, h2⟩
  rw [h1, var_one]
  rfl
theorem cont_len {c : Ch} (h : Rgt c) (hg : c.gone = false) : (cont c).length ≤ 50000 := by
  have hvec := (DenM.vec_iff _).1 (h.there hg)
  have s1 := risS_len (tms c.ts) (by rw [tms_len]; have := h.len; omega) (fun v hv => by
    unfold tms at hv
    obtain ⟨p, hp, rfl⟩ := List.mem_map.1 hv
    have := (h.ts p hp).1
    omega)
  have s2 := fixS_len 16 (wts c.ts) (by rw [wts_len]; have := h.len; omega)
  have s3 := fixS_len 8 (c.v.map (· + 128)) (by rw [List.length_map]; omega)
  have s4 := fixS_len 8 [c.tags] (by simp)
  unfold cont
  simp only [List.length_append]
  omega
theorem prB_len {c : Ch} (h : rightC c = 0) : (prB c).length ≤ 60000 := by
  have g := rgt_of h
  have h1 := varB_len c.doc (by have := g.doc; omega)
  have h2 := varB_len 1 (by omega)
  have h3 := varB_len 0 (by omega)
  unfold prB
  cases hg : c.gone with
  | true => rw [if_pos rfl, List.length_append]; omega
  | false =>
    have := cont_len g hg
    rw [if_neg (by simp), List.length_append, List.length_append]
    omega
set_option maxHeartbeats 8000000 in
set_option maxRecDepth 100000 in
theorem print_any (c : Ch) (A A2 : Option Addr) (n cp n2 cp2 : Nat) (w : World) (h : Pairs w A n c.ts) (hv : Ivs w A2 n2 c.v) (hn : n ≤ 1000000000) :
    Calls Try.prog 7 #[chV c (.slice A n cp) (.slice A2 n2 cp2)] w fun e w' => e = .returned (prA c) ∧ Below w.heap.size w w' := by
  have H := Lib.hid h
  have HV := Lib.hid hv
  have HR := Lib.hid (fun W hW hX => right_any c A A2 n cp n2 cp2 W hW hX hn)
  unfold prA
  obtain ⟨rc, hrc⟩ : ∃ x, x = rightC c := ⟨_, rfl⟩
  rw [← hrc] at HR ⊢
  obtain ⟨pa, hpa⟩ : ∃ x, x = if rc = 0 then prB c else [] := ⟨_, rfl⟩
  rw [← hpa]
  have HPA := Lib.hid hpa
  have HRC := Lib.hid hrc
  clear h hv hrc hpa
  unfold chV at HR ⊢
  have HX : Hid (∃ d ts v tags gone, c = ⟨d, ts, v, tags, gone⟩) := Lib.hid ⟨_, _, _, _, _, rfl⟩
  obtain ⟨d, ts, v, tags, gone⟩ := c
  simp only at H HV HR ⊢
  clear HX
  have B0 := Lib.hid (pl1 w (.cells #[.int .i64 d, .slice A n cp, .slice A2 n2 cp2, .int .i64 tags, .bool gone] 27))
  go_enter Try.func7, Try.ntmps7
  go_wp2_with fail
  refine (HR.out _ (H.out.later B0.out) (HV.out.later B0.out)).mono ?_
  rintro e w1 ⟨rfl, hb⟩
  have q0 := cell_of_cells (i := 0) (heap_alloc_new w (.cells #[.int .i64 d, .slice A n cp, .slice A2 n2 cp2, .int .i64 tags, .bool gone] 27)) rfl
  have q1 := cell_of_cells (i := 1) (heap_alloc_new w (.cells #[.int .i64 d, .slice A n cp, .slice A2 n2 cp2, .int .i64 tags, .bool gone] 27)) rfl
  have q2 := cell_of_cells (i := 2) (heap_alloc_new w (.cells #[.int .i64 d, .slice A n cp, .slice A2 n2 cp2, .int .i64 tags, .bool gone] 27)) rfl
  have q3 := cell_of_cells (i := 3) (heap_alloc_new w (.cells #[.int .i64 d, .slice A n cp, .slice A2 n2 cp2, .int .i64 tags, .bool gone] 27)) rfl
  have q4 := cell_of_cells (i := 4) (heap_alloc_new w (.cells #[.int .i64 d, .slice A n cp, .slice A2 n2 cp2, .int .i64 tags, .bool gone] 27)) rfl
  have hl : w.heap.size < (w.alloc (.cells #[.int .i64 d, .slice A n cp, .slice A2 n2 cp2, .int .i64 tags, .bool gone] 27)).heap.size := by simp
  replace q0 := (hb.cell (p := ⟨w.heap.size, 0, none⟩) hl).trans q0
  replace q1 := (hb.cell (p := ⟨w.heap.size, 1, none⟩) hl).trans q1
  replace q2 := (hb.cell (p := ⟨w.heap.size, 2, none⟩) hl).trans q2
  replace q3 := (hb.cell (p := ⟨w.heap.size, 3, none⟩) hl).trans q3
  replace q4 := (hb.cell (p := ⟨w.heap.size, 4, none⟩) hl).trans q4
  have HB := Lib.hid (B0.out.trans (hb.mono B0.out.size))
  have hl1 : w.heap.size < w1.heap.size := World.block_lt_of_cell? w1 _ q0
  clear hb hl HR B0
  by_cases hz : rc = 0
  · subst hz
    have g := rgt_of HRC.out.symm
    have hd := g.doc
    simp only at hd
    have G := Lib.hid g
    have hvar := fun W => varint_any d W (by omega) (by omega)
    have hvl := varB_len d (by omega)
    have HVL := Lib.hid hvl
    obtain ⟨s0, hs0⟩ : ∃ s, s = varB d := ⟨_, rfl⟩
    rw [← hs0] at hvar HVL
    have HS0 := Lib.hid hs0
    have HVAR := Lib.hid hvar
    clear g hvar hvl hs0
    go_wp2_with fail
    refine (HVAR.out _).mono ?_
    rintro e w2 ⟨rfl, hb⟩
    replace q0 := (hb.cell (p := ⟨w.heap.size, 0, none⟩) hl1).trans q0
    replace q1 := (hb.cell (p := ⟨w.heap.size, 1, none⟩) hl1).trans q1
    replace q2 := (hb.cell (p := ⟨w.heap.size, 2, none⟩) hl1).trans q2
    replace q3 := (hb.cell (p := ⟨w.heap.size, 3, none⟩) hl1).trans q3
    replace q4 := (hb.cell (p := ⟨w.heap.size, 4, none⟩) hl1).trans q4
    have HB2 := Lib.hid (HB.out.trans (hb.mono HB.out.size))
    clear hb HVAR
    go_wp2_with fail
    refine (sure_any _ _ _).mono ?_
    rintro e w2 ⟨rfl, rfl⟩
    cases gone with
    | true =>
      have HP : Hid (prB ⟨d, ts, v, tags, true⟩ = s0 ++ [1]) := Lib.hid (by unfold prB; rw [if_pos rfl, var_one, HS0.out])
      have a1 := fun W => str_add (P := Try.prog) s0 [1] (by have := HVL.out; omega) (by simp) W
      rw [← HP.out] at a1
      obtain ⟨x, hx⟩ : ∃ x, x = prB ⟨d, ts, v, tags, true⟩ := ⟨_, rfl⟩
      rw [← hx] at a1
      have HPX : Hid (pa = x) := Lib.hid (by rw [HPA.out, if_pos trivial, hx])
      clear hx
      go_wp2_with fail
      refine (one_any _).mono ?_
      rintro e w3 ⟨rfl, hb⟩
      have HB3 := Lib.hid (HB2.out.trans (hb.mono HB2.out.size))
      clear hb
      go_wp2_with fail
      refine (sure_any _ _ _).mono ?_
      rintro e w3 ⟨rfl, rfl⟩
      go_wp2
      go_ret2
      exact ⟨by rw [HPX.out]; rfl, HB3.out⟩
    | false =>
      have hcl := cont_len G.out rfl
      have HCT := Lib.hid (fun W hW hX => contents_any ⟨d, ts, v, tags, false⟩ A A2 n cp n2 cp2 W hW hX G.out rfl)
      have HP : Hid (prB ⟨d, ts, v, tags, false⟩ = s0 ++ [0] ++ cont ⟨d, ts, v, tags, false⟩) := Lib.hid (by unfold prB; rw [if_neg (by simp), var_nought, HS0.out])
      obtain ⟨t, ht⟩ : ∃ t, t = cont ⟨d, ts, v, tags, false⟩ := ⟨_, rfl⟩
      rw [← ht] at hcl HCT HP
      have a1 := fun W => str_add (P := Try.prog) s0 [0] (by have := HVL.out; omega) (by simp) W
      have a2 := fun W => str_add (P := Try.prog) (s0 ++ [0]) t (by rw [List.length_append]; have := HVL.out; simp; omega) (by omega) W
      rw [← HP.out] at a2
      generalize s0 ++ [0] = x1 at a1 a2
      obtain ⟨x, hx⟩ : ∃ x, x = prB ⟨d, ts, v, tags, false⟩ := ⟨_, rfl⟩
      rw [← hx] at a2
      have HPX : Hid (pa = x) := Lib.hid (by rw [HPA.out, if_pos trivial, hx])
      have HCT2 := Lib.hid (fun W (hS : W.cell? ⟨w.heap.size, 0, none⟩ = some (.int .i64 d) ∧ W.cell? ⟨w.heap.size, 1, none⟩ = some (.slice A n cp) ∧ W.cell? ⟨w.heap.size, 2, none⟩ = some (.slice A2 n2 cp2) ∧ W.cell? ⟨w.heap.size, 3, none⟩ = some (.int .i64 tags) ∧ Below w2.heap.size w2 W) => HCT.out W (H.out.later (HB2.out.trans (hS.2.2.2.2.mono HB2.out.size))) (HV.out.later (HB2.out.trans (hS.2.2.2.2.mono HB2.out.size))))
      simp only at HCT2
      clear hx ht hcl HCT
      go_upto_region 7 with fail
      go_region_held3 (fun W => W.cell? ⟨w.heap.size, 0, none⟩ = some (.int .i64 d) ∧ W.cell? ⟨w.heap.size, 1, none⟩ = some (.slice A n cp) ∧ W.cell? ⟨w.heap.size, 2, none⟩ = some (.slice A2 n2 cp2) ∧ W.cell? ⟨w.heap.size, 3, none⟩ = some (.int .i64 tags) ∧ Below w2.heap.size w2 W)
        ((first | exact k4C hb (by assumption) | exact k4D q0 q1 q2 q3 | go_keep))
        (first
          | (go_at_call 21; ((with_reducible refine (sure_any _ _ _).mono ?_); rintro e ws ⟨rfl, rfl⟩))
          | (go_at_call 22; ((with_reducible refine (nought_any _).mono ?_); rintro e wa ⟨rfl, hb⟩))
          | (go_at_call 23; ((with_reducible refine (HCT2.out _ (by assumption)).mono ?_); rintro e wz ⟨rfl, hb⟩)))
      all_goals
        have hzw : wz.cell? ⟨w.heap.size, 0, none⟩ = some (.int .i64 d) ∧ wz.cell? ⟨w.heap.size, 1, none⟩ = some (.slice A n cp) ∧ wz.cell? ⟨w.heap.size, 2, none⟩ = some (.slice A2 n2 cp2) ∧ wz.cell? ⟨w.heap.size, 3, none⟩ = some (.int .i64 tags) ∧ Below w2.heap.size w2 wz := by assumption
        have hZ := Lib.hid (HB2.out.trans (hzw.2.2.2.2.mono HB2.out.size))
        clear hzw hb
        go_wp2
        go_ret2
        exact ⟨by rw [HPX.out]; rfl, hZ.out⟩
  · have hzz : (rc != 0) = true := by simpa using hz
    have HPX : Hid (pa = []) := Lib.hid (by rw [HPA.out, if_neg hz])
    go_wp2
    go_ret2
    exact ⟨by rw [HPX.out]; rfl, HB.out⟩
end Go.Proofs.Ytdjbdhfellofoaa.Do
