/- Own texts, merged (23 of 42). -/
import Derived.Test.YtddnnhfffmhpmaaGreatDoorSm22
import Derived.Deep.DeepCutAuto
import Derived.Test.YtddnnhfffmhpmaaGreatDoorSm15
import Derived.Laws.StructEq
import Derived.Deep.QuietTactic
import Derived.BigQuiet

/- Print: a change's bytes, or Right's error (the program's). -/
namespace Go.Proofs.YtddnnhfffmhpmaaGreatDoor.Do
open Go.RowKit Go.Proofs.YtddnnhfffmhpmaaGreatDoor DocM

/-- what Print answers -/
def prA (c : Ch) : Value := .tuple #[.string (ofBytes (if rightC c = 0 then prB c else [])), .int .i64 (rightC c)]
theorem k4C {U X w1 : World} {p0 p1 p2 p3 : Addr} {v0 v1 v2 v3 : Value} (hb : Below X.heap.size X w1) (h : X.cell? p0 = some v0 ∧ X.cell? p1 = some v1 ∧ X.cell? p2 = some v2 ∧ X.cell? p3 = some v3 ∧ Below U.heap.size U X) : w1.cell? p0 = some v0 ∧ w1.cell? p1 = some v1 ∧ w1.cell? p2 = some v2 ∧ w1.cell? p3 = some v3 ∧ Below U.heap.size U w1 :=
  have k : ∀ {p v}, X.cell? p = some v → w1.cell? p = some v := fun {p _} e => (hb.cell (World.block_lt_of_cell? X p e)).trans e
  ⟨k h.1, k h.2.1, k h.2.2.1, k h.2.2.2.1, h.2.2.2.2.trans (hb.mono h.2.2.2.2.size)⟩
theorem k4D {U : World} {p0 p1 p2 p3 : Addr} {v0 v1 v2 v3 : Value} (h0 : U.cell? p0 = some v0) (h1 : U.cell? p1 = some v1) (h2 : U.cell? p2 = some v2) (h3 : U.cell? p3 = some v3) : U.drew.cell? p0 = some v0 ∧ U.drew.cell? p1 = some v1 ∧ U.drew.cell? p2 = some v2 ∧ U.drew.cell? p3 = some v3 ∧ Below U.heap.size U U.drew := ⟨h0, h1, h2, h3, (Below.refl _ _).drew⟩
theorem nought_any (w : World) : Calls Tryz.prog 77 #[.int .i64 0] w fun e w' => e = .returned (.tuple #[.string (ofBytes [0]), .int .i64 0]) ∧ Below w.heap.size w w' := by
  refine (varint_any 0 w (by omega) (by omega)).mono fun e w' ⟨h1, h2⟩ => ⟨?_, h2⟩
  rw [h1, var_nought]
  rfl
theorem one_any (w : World) : Calls Tryz.prog 77 #[.int .i64 1] w fun e w' => e = .returned (.tuple #[.string (ofBytes [1]), .int .i64 0]) ∧ Below w.heap.size w w' := by
  refine (varint_any 1 w (by omega) (by omega)).mono fun e w' ⟨h1, h2⟩ => ⟨?_, h2⟩
  rw [h1, var_one]
  rfl
theorem cont_len {c : Ch} (h : Rgt c) (hg : c.gone = false) : (cont c).length ≤ 50000 := by
  have hvec := (DenM.vec_iff _).1 (h.there hg)
  have s1 := risS_len (tms c.ts) (by rw [tms_len]; have := h.len; omega) (fun v hv => by
    unfold tms at hv
    obtain ⟨p, hp, rfl⟩ := List.mem_map.1 hv
    have := (h.ts p hp).1
    omega)
  have s2 := fixS_len 16 (wts c.ts) (by rw [wts_len]; have := h.len; omega)
  have s3 := fixS_len 8 (c.v.map (· + 128)) (by rw [List.length_map]; omega)
  have s4 := fixS_len 8 [c.tags] (by simp)
  unfold cont
  simp only [List.length_append]
  omega
theorem prB_len {c : Ch} (h : rightC c = 0) : (prB c).length ≤ 60000 := by
  have g := rgt_of h
  have h1 := varB_len c.doc (by have := g.doc; omega)
  have h2 := varB_len 1 (by omega)
  have h3 := varB_len 0 (by omega)
  unfold prB
  cases hg : c.gone with
  | true => rw [if_pos rfl, List.length_append]; omega
  | false =>
    have := cont_len g hg
    rw [if_neg (by simp), List.length_append, List.length_append]
    omega
set_option maxHeartbeats 8000000 in
set_option maxRecDepth 100000 in
theorem print_any (c : Ch) (A A2 : Option Addr) (n cp n2 cp2 : Nat) (w : World) (h : Pairs w A n c.ts) (hv : Ivs w A2 n2 c.v) (hn : n ≤ 1000000000) :
    Calls Tryz.prog 45 #[chV c (.slice A n cp) (.slice A2 n2 cp2)] w fun e w' => e = .returned (prA c) ∧ Below w.heap.size w w' := by
  have H := Lib.hid h
  have HV := Lib.hid hv
  have HR := Lib.hid (fun W hW hX => right_any c A A2 n cp n2 cp2 W hW hX hn)
  unfold prA
  obtain ⟨rc, hrc⟩ : ∃ x, x = rightC c := ⟨_, rfl⟩
  rw [← hrc] at HR ⊢
  obtain ⟨pa, hpa⟩ : ∃ x, x = if rc = 0 then prB c else [] := ⟨_, rfl⟩
  rw [← hpa]
  have HPA := Lib.hid hpa
  have HRC := Lib.hid hrc
  clear h hv hrc hpa
  unfold chV at HR ⊢
  have HX : Hid (∃ d ts v tags gone, c = ⟨d, ts, v, tags, gone⟩) := Lib.hid ⟨_, _, _, _, _, rfl⟩
  obtain ⟨d, ts, v, tags, gone⟩ := c
  simp only at H HV HR ⊢
  clear HX
  have B0 := Lib.hid (pl1 w (.cells #[.int .i64 d, .slice A n cp, .slice A2 n2 cp2, .int .i64 tags, .bool gone] 35))
  go_enter Tryz.func45, Tryz.ntmps45
  go_wp2_with fail
  refine (HR.out _ (H.out.later B0.out) (HV.out.later B0.out)).mono ?_
  rintro e w1 ⟨rfl, hb⟩
  have q0 := cell_of_cells (i := 0) (heap_alloc_new w (.cells #[.int .i64 d, .slice A n cp, .slice A2 n2 cp2, .int .i64 tags, .bool gone] 35)) rfl
  have q1 := cell_of_cells (i := 1) (heap_alloc_new w (.cells #[.int .i64 d, .slice A n cp, .slice A2 n2 cp2, .int .i64 tags, .bool gone] 35)) rfl
  have q2 := cell_of_cells (i := 2) (heap_alloc_new w (.cells #[.int .i64 d, .slice A n cp, .slice A2 n2 cp2, .int .i64 tags, .bool gone] 35)) rfl
  have q3 := cell_of_cells (i := 3) (heap_alloc_new w (.cells #[.int .i64 d, .slice A n cp, .slice A2 n2 cp2, .int .i64 tags, .bool gone] 35)) rfl
  have q4 := cell_of_cells (i := 4) (heap_alloc_new w (.cells #[.int .i64 d, .slice A n cp, .slice A2 n2 cp2, .int .i64 tags, .bool gone] 35)) rfl
  have hl : w.heap.size < (w.alloc (.cells #[.int .i64 d, .slice A n cp, .slice A2 n2 cp2, .int .i64 tags, .bool gone] 35)).heap.size := by simp
  replace q0 := (hb.cell (p := ⟨w.heap.size, 0, none⟩) hl).trans q0
  replace q1 := (hb.cell (p := ⟨w.heap.size, 1, none⟩) hl).trans q1
  replace q2 := (hb.cell (p := ⟨w.heap.size, 2, none⟩) hl).trans q2
  replace q3 := (hb.cell (p := ⟨w.heap.size, 3, none⟩) hl).trans q3
  replace q4 := (hb.cell (p := ⟨w.heap.size, 4, none⟩) hl).trans q4
  have HB := Lib.hid (B0.out.trans (hb.mono B0.out.size))
  have hl1 : w.heap.size < w1.heap.size := World.block_lt_of_cell? w1 _ q0
  clear hb hl HR B0
  by_cases hz : rc = 0
  · subst hz
    have g := rgt_of HRC.out.symm
    have hd := g.doc
    simp only at hd
    have G := Lib.hid g
    have hvar := fun W => varint_any d W (by omega) (by omega)
    have hvl := varB_len d (by omega)
    have HVL := Lib.hid hvl
    obtain ⟨s0, hs0⟩ : ∃ s, s = varB d := ⟨_, rfl⟩
    rw [← hs0] at hvar HVL
    have HS0 := Lib.hid hs0
    have HVAR := Lib.hid hvar
    clear g hvar hvl hs0
    go_wp2_with fail
    refine (HVAR.out _).mono ?_
    rintro e w2 ⟨rfl, hb⟩
    replace q0 := (hb.cell (p := ⟨w.heap.size, 0, none⟩) hl1).trans q0
    replace q1 := (hb.cell (p := ⟨w.heap.size, 1, none⟩) hl1).trans q1
    replace q2 := (hb.cell (p := ⟨w.heap.size, 2, none⟩) hl1).trans q2
    replace q3 := (hb.cell (p := ⟨w.heap.size, 3, none⟩) hl1).trans q3
    replace q4 := (hb.cell (p := ⟨w.heap.size, 4, none⟩) hl1).trans q4
    have HB2 := Lib.hid (HB.out.trans (hb.mono HB.out.size))
    clear hb HVAR
    go_wp2_with fail
    refine (sure_any _ _ _).mono ?_
    rintro e w2 ⟨rfl, rfl⟩
    cases gone with
    | true =>
      have HP : Hid (prB ⟨d, ts, v, tags, true⟩ = s0 ++ [1]) := Lib.hid (by unfold prB; rw [if_pos rfl, var_one, HS0.out])
      have a1 := fun W => str_add (P := Tryz.prog) s0 [1] (by have := HVL.out; omega) (by simp) W
      rw [← HP.out] at a1
      obtain ⟨x, hx⟩ : ∃ x, x = prB ⟨d, ts, v, tags, true⟩ := ⟨_, rfl⟩
      rw [← hx] at a1
      have HPX : Hid (pa = x) := Lib.hid (by rw [HPA.out, if_pos trivial, hx])
      clear hx
      go_wp2_with fail
      refine (one_any _).mono ?_
      rintro e w3 ⟨rfl, hb⟩
      have HB3 := Lib.hid (HB2.out.trans (hb.mono HB2.out.size))
      clear hb
      go_wp2_with fail
      refine (sure_any _ _ _).mono ?_
      rintro e w3 ⟨rfl, rfl⟩
      go_wp2
      go_ret2
      exact ⟨by rw [HPX.out]; rfl, HB3.out⟩
    | false =>
      have hcl := cont_len G.out rfl
      have HCT := Lib.hid (fun W hW hX => contents_any ⟨d, ts, v, tags, false⟩ A A2 n cp n2 cp2 W hW hX G.out rfl)
      have HP : Hid (prB ⟨d, ts, v, tags, false⟩ = s0 ++ [0] ++ cont ⟨d, ts, v, tags, false⟩) := Lib.hid (by unfold prB; rw [if_neg (by simp), var_nought, HS0.out])
      obtain ⟨t, ht⟩ : ∃ t, t = cont ⟨d, ts, v, tags, false⟩ := ⟨_, rfl⟩
      rw [← ht] at hcl HCT HP
      have a1 := fun W => str_add (P := Tryz.prog) s0 [0] (by have := HVL.out; omega) (by simp) W
      have a2 := fun W => str_add (P := Tryz.prog) (s0 ++ [0]) t (by rw [List.length_append]; have := HVL.out; simp; omega) (by omega) W
      rw [← HP.out] at a2
      generalize s0 ++ [0] = x1 at a1 a2
      obtain ⟨x, hx⟩ : ∃ x, x = prB ⟨d, ts, v, tags, false⟩ := ⟨_, rfl⟩
      rw [← hx] at a2
      have HPX : Hid (pa = x) := Lib.hid (by rw [HPA.out, if_pos trivial, hx])
      have HCT2 := Lib.hid (fun W (hS : W.cell? ⟨w.heap.size, 0, none⟩ = some (.int .i64 d) ∧ W.cell? ⟨w.heap.size, 1, none⟩ = some (.slice A n cp) ∧ W.cell? ⟨w.heap.size, 2, none⟩ = some (.slice A2 n2 cp2) ∧ W.cell? ⟨w.heap.size, 3, none⟩ = some (.int .i64 tags) ∧ Below w2.heap.size w2 W) => HCT.out W (H.out.later (HB2.out.trans (hS.2.2.2.2.mono HB2.out.size))) (HV.out.later (HB2.out.trans (hS.2.2.2.2.mono HB2.out.size))))
      simp only at HCT2
      clear hx ht hcl HCT
      go_upto_region 7 with fail
      go_region_held3 (fun W => W.cell? ⟨w.heap.size, 0, none⟩ = some (.int .i64 d) ∧ W.cell? ⟨w.heap.size, 1, none⟩ = some (.slice A n cp) ∧ W.cell? ⟨w.heap.size, 2, none⟩ = some (.slice A2 n2 cp2) ∧ W.cell? ⟨w.heap.size, 3, none⟩ = some (.int .i64 tags) ∧ Below w2.heap.size w2 W)
        ((first | exact k4C hb (by assumption) | exact k4D q0 q1 q2 q3 | go_keep))
        (first
          | (go_at_call 76; ((with_reducible refine (sure_any _ _ _).mono ?_); rintro e ws ⟨rfl, rfl⟩))
          | (go_at_call 77; ((with_reducible refine (nought_any _).mono ?_); rintro e wa ⟨rfl, hb⟩))
          | (go_at_call 78; ((with_reducible refine (HCT2.out _ (by assumption)).mono ?_); rintro e wz ⟨rfl, hb⟩)))
      all_goals
        have hzw : wz.cell? ⟨w.heap.size, 0, none⟩ = some (.int .i64 d) ∧ wz.cell? ⟨w.heap.size, 1, none⟩ = some (.slice A n cp) ∧ wz.cell? ⟨w.heap.size, 2, none⟩ = some (.slice A2 n2 cp2) ∧ wz.cell? ⟨w.heap.size, 3, none⟩ = some (.int .i64 tags) ∧ Below w2.heap.size w2 wz := by assumption
        have hZ := Lib.hid (HB2.out.trans (hzw.2.2.2.2.mono HB2.out.size))
        clear hzw hb
        go_wp2
        go_ret2
        exact ⟨by rw [HPX.out]; rfl, hZ.out⟩
  · have hzz : (rc != 0) = true := by simpa using hz
    have HPX : Hid (pa = []) := Lib.hid (by rw [HPA.out, if_neg hz])
    go_wp2
    go_ret2
    exact ⟨by rw [HPX.out]; rfl, HB.out⟩
end Go.Proofs.YtddnnhfffmhpmaaGreatDoor.Do

/- Terms, a vector, tags, taken off a reader (the program's). -/
namespace Go.Proofs.YtddnnhfffmhpmaaGreatDoor.Do
open Go.RowKit Go.Proofs.YtddnnhfffmhpmaaGreatDoor DocM

theorem term_ty : PairTy 109 30 := ⟨by kernel_rfl, Tryz.underlying30⟩
theorem down128_any (n : Int) (w : World) (h : -1000000 ≤ n ∧ n ≤ 1000000) : Calls Tryz.prog 202 #[.int .i64 n] w fun e w' => e = .returned (.int .i64 (n - 128)) ∧ Below w.heap.size w w' := by
  have hw : IntKind.i64.wrap (n - 128) = n - 128 := by rw [IntKind.wrap_i64]; omega
  obtain ⟨m, hm⟩ : ∃ m, m = n - 128 := ⟨_, rfl⟩
  rw [← hm]
  have hw2 : IntKind.i64.wrap (n - 128) = m := by rw [hw, hm]
  clear hw hm
  go_enter Tryz.func202, Tryz.ntmps202
  go_wp2
  go_ret
  exact ⟨rfl, Below.refl _ _⟩
theorem rfixed16_any (w : World) (b : Nat) (s : List UInt8) (bad : Bool) (n : Nat) (hl : s.length ≤ 100000000) (hbad : bad = true → s = []) (h : RD w b s bad) (hn : n ≤ 65536) :
    Calls Tryz.prog 201 #[.pointer (some ⟨b, 0, none⟩), .int .i64 16, .int .i64 (n : Int)] w fun e w' => RowEnd w.heap.size b (fxV 16 n s bad) (fxS 16 n s bad) (fxB 16 n s bad) e w' ∧ w.grownBy w' (some b) := rfixed_in w b s bad 16 n hl hbad h (by omega) hn
theorem rfixed8_any (w : World) (b : Nat) (s : List UInt8) (bad : Bool) (hl : s.length ≤ 100000000) (hbad : bad = true → s = []) (h : RD w b s bad) :
    Calls Tryz.prog 201 #[.pointer (some ⟨b, 0, none⟩), .int .i64 8, .int .i64 8] w fun e w' => RowEnd w.heap.size b (fxV 8 8 s bad) (fxS 8 8 s bad) (fxB 8 8 s bad) e w' ∧ w.grownBy w' (some b) := rfixed_in w b s bad 8 8 hl hbad h (by omega) (by omega)
theorem rfixed1_any (w : World) (b : Nat) (s : List UInt8) (bad : Bool) (hl : s.length ≤ 100000000) (hbad : bad = true → s = []) (h : RD w b s bad) :
    Calls Tryz.prog 201 #[.pointer (some ⟨b, 0, none⟩), .int .i64 8, .int .i64 1] w fun e w' => RowEnd w.heap.size b (fxV 8 1 s bad) (fxS 8 1 s bad) (fxB 8 1 s bad) e w' ∧ w.grownBy w' (some b) := rfixed_in w b s bad 8 1 hl hbad h (by omega) (by omega)
set_option maxHeartbeats 2000000 in
set_option maxRecDepth 100000 in
theorem taketags_any (w : World) (b : Nat) (s : List UInt8) (bad : Bool) (hst : StK 100000000 s bad) (h : RD w b s bad) :
    Calls Tryz.prog 175 #[.pointer (some ⟨b, 0, none⟩)] w fun e w' => e = .returned (.int .i64 ((fxV 8 1 s bad).getD 0 0)) ∧ RD w' b (fxS 8 1 s bad) (fxB 8 1 s bad) ∧ w.grownBy w' (some b) := by
  have HF := Lib.hid (rfixed1_any w b s bad hst.len hst.nil_ h)
  obtain ⟨hfo, _⟩ := fx_form 8 1 s bad
  obtain ⟨l, hl⟩ : ∃ l, l = fxV 8 1 s bad := ⟨_, rfl⟩
  have hfo : l = [] ∨ l.length = 1 := by rw [hl]; exact hfo
  rw [← hl] at HF ⊢
  clear hst h hl
  rcases hfo with rfl | hfo
  · go_enter Tryz.func175, Tryz.ntmps175
    go_wp2_with fail
    refine HF.out.mono ?_
    rintro e w1 ⟨⟨A, cp, rfl, _, hI, hrd⟩, hgr⟩
    have HRD := Lib.hid hrd
    have HGR := Lib.hid hgr
    clear hrd hgr HF hI
    go_wp2
    go_ret
    exact ⟨rfl, HRD.out, HGR.out⟩
  · obtain ⟨t, rfl⟩ : ∃ t, l = [t] := List.length_eq_one_iff.1 hfo
    clear hfo
    go_enter Tryz.func175, Tryz.ntmps175
    go_wp2_with fail
    refine HF.out.mono ?_
    rintro e w1 ⟨⟨A, cp, rfl, _, hI, hrd⟩, hgr⟩
    have HRD := Lib.hid hrd
    have HGR := Lib.hid hgr
    obtain ⟨g, o, rfl, hgl, hc⟩ := hI.2 0 (by simp)
    rw [Nat.add_zero] at hc
    simp only [List.getElem_cons_zero] at hc
    clear hI hrd hgr HF
    go_wp2
    go_ret
    exact ⟨rfl, HRD.out, HGR.out⟩
set_option maxHeartbeats 2000000 in
set_option maxRecDepth 100000 in
theorem takevector_any (w : World) (b : Nat) (s : List UInt8) (bad : Bool) (hst : StK 100000000 s bad) (h : RD w b s bad) :
    Calls Tryz.prog 174 #[.pointer (some ⟨b, 0, none⟩)] w fun e w' => (∃ g, e = .returned (.slice (some ⟨g, 0, none⟩) (fxV 8 8 s bad).length (fxV 8 8 s bad).length) ∧ w.heap.size ≤ g ∧ Ivs w' (some ⟨g, 0, none⟩) (fxV 8 8 s bad).length ((fxV 8 8 s bad).map (· - 128))) ∧ RD w' b (fxS 8 8 s bad) (fxB 8 8 s bad) ∧ w.grownBy w' (some b) := by
  have HF := Lib.hid (rfixed8_any w b s bad hst.len hst.nil_ h)
  obtain ⟨hfo, hrg⟩ := fx_form 8 8 s bad
  obtain ⟨l, hl⟩ : ∃ l, l = fxV 8 8 s bad := ⟨_, rfl⟩
  have hfo : l.length ≤ 8 := by
    rw [hl]
    rcases hfo with e | e
    · rw [show fxV 8 8 s bad = [] from e]; simp
    · exact Nat.le_of_eq e
  have hrg : ∀ v ∈ l, 0 ≤ v ∧ v < 256 := by rw [hl]; exact hrg
  rw [← hl] at HF ⊢
  have HRG := Lib.hid hrg
  have HB := Lib.hid h.lt
  clear hst h hl hrg
  go_enter Tryz.func174, Tryz.ntmps174
  go_wp2_with fail
  refine HF.out.mono ?_
  rintro e w1 ⟨⟨A, cp, rfl, _, hI, hrd⟩, hgr⟩
  have HRD := Lib.hid hrd
  have HGR := Lib.hid hgr
  have HI : Hid (Ivs w1 A l.length l) := Lib.hid hI
  clear hrd hgr HF hI
  go_wp2_with fail
  refine (eachint_any A l.length cp l _ (fun n => n - 128) _ HI.out (by omega) (fun _ _ => rfl) (fun p hp W => down128_any p W (by have := HRG.out p hp; omega))).mono ?_
  rintro e w2 ⟨g, rfl, hg, hiv, hb⟩
  have HX : Hid (w.heap.size ≤ g ∧ Ivs w2 (some ⟨g, 0, none⟩) l.length (l.map (fun n => n - 128)) ∧ RD w2 b (fxS 8 8 s bad) (fxB 8 8 s bad) ∧ w.grownBy w2 (some b)) := Lib.hid ⟨Nat.le_trans HGR.out.size hg, hiv, HRD.out.later hb, only_below HGR.out hb⟩
  clear hg hiv hb
  go_wp2
  go_ret
  exact ⟨⟨g, rfl, HX.out.1, HX.out.2.1⟩, HX.out.2.2⟩
set_option maxHeartbeats 4000000 in
set_option maxRecDepth 100000 in
theorem taketerms_any (w : World) (b : Nat) (s : List UInt8) (bad : Bool) (hst : StK 100000000 s bad) (h : RD w b s bad) :
    Calls Tryz.prog 173 #[.pointer (some ⟨b, 0, none⟩)] w fun e w' => (∃ v, e = .returned v ∧ PRow 109 w' w.heap.size v ((rsV 64 s).zip (fxV 16 (rsV 64 s).length (rsS 64 s) (rsB 64 s bad)))) ∧ RD w' b (fxS 16 (rsV 64 s).length (rsS 64 s) (rsB 64 s bad)) (fxB 16 (rsV 64 s).length (rsS 64 s) (rsB 64 s bad)) ∧ w.grownBy w' (some b) := by
  have HF := Lib.hid (rrising_any w b s bad 64 hst.len hst.nil_ h)
  have hst1 := hst.ris (most := 64)
  have hl64 := rs_len (most := 64) (s := s) (by omega)
  obtain ⟨l, hl⟩ : ∃ l, l = rsV 64 s := ⟨_, rfl⟩
  obtain ⟨s1, hs1⟩ : ∃ x, x = rsS 64 s := ⟨_, rfl⟩
  obtain ⟨b1, hb1⟩ : ∃ x, x = rsB 64 s bad := ⟨_, rfl⟩
  rw [← hl, ← hs1, ← hb1] at HF
  rw [← hl, ← hs1, ← hb1]
  rw [← hs1, ← hb1] at hst1
  rw [← hl] at hl64
  obtain ⟨n, hn⟩ : ∃ n, n = l.length := ⟨_, rfl⟩
  have hn64 : n ≤ 64 := by omega
  have HF2 := Lib.hid (fun W hW => rfixed16_any W b s1 b1 n hst1.len hst1.nil_ hW (by omega))
  obtain ⟨hfo, _⟩ := fx_form 16 n s1 b1
  rw [← hn]
  obtain ⟨z, hz⟩ : ∃ z, z = fxV 16 n s1 b1 := ⟨_, rfl⟩
  have hzn : z.length ≤ n := by
    rw [hz]
    rcases hfo with e | e
    · rw [show fxV 16 n s1 b1 = [] from e]; simp
    · exact Nat.le_of_eq e
  rw [← hz] at HF2 ⊢
  have HB := Lib.hid h.lt
  have HN := Lib.hid hn
  clear hst h hl hs1 hb1 hst1 hl64 hfo hz hn
  go_enter Tryz.func173, Tryz.ntmps173
  go_wp2_with fail
  refine HF.out.mono ?_
  rintro e w1 ⟨⟨A, cp, rfl, hA, hI, hrd⟩, hgr⟩
  rw [← HN.out] at hI ⊢
  have HGR := Lib.hid hgr
  have HI : Hid (Ivs w1 A n l) := Lib.hid hI
  have HA := Lib.hid hA
  have HRD := Lib.hid hrd
  clear hgr HF hI hA hrd
  go_wp2_with fail
  refine (HF2.out _ HRD.out).mono ?_
  rintro e w2 ⟨⟨A2, cp2, rfl, hA2, hI2, hrd⟩, hgr⟩
  have HI1 : Hid (Ivs w2 A n l) := Lib.hid (HI.out.turned (Turned.of_grown (S := fun k => k = b) hgr rfl) (fun ad e => by have h1 := HA.out ad e; have h2 := HB.out; omega))
  have HI2 : Hid (Ivs w2 A2 z.length z) := Lib.hid hI2
  have HG2 : Hid (w.grownBy w2 (some b)) := Lib.hid (HGR.out.trans hgr)
  have HRD2 := Lib.hid hrd
  clear hrd hgr hI2 hA2 HF2 HI HA HRD HGR
  obtain ⟨m, hm⟩ : ∃ m, m = z.length := ⟨_, rfl⟩
  rw [← hm] at HI2 hzn ⊢
  have HM := Lib.hid hm
  clear hm
  go_wp2
  go_loopw [3, 14] (fun t x wr => ∃ k : Nat, x = .int .i64 k ∧ k ≤ m ∧ PRow 109 wr w2.heap.size t ((l.zip z).take k) ∧ Below w2.heap.size w2 wr) (fun _ x _ => m - (intOf x).toNat)
  case atStart => exact ⟨0, by go_num, Nat.zero_le _, by rw [List.take_zero]; exact PRow.nil_ _ _, Below.refl _ _⟩
  case round =>
    obtain ⟨k, rfl, hkm, hrow, hb⟩ := hrel
    by_cases hlt : k < m
    · have hmi : (k : Int) < (m : Int) := by omega
      have hni : (k : Int) < (n : Int) := by omega
      have hkz : k < z.length := by rw [← HM.out]; exact hlt
      have hkl : k < l.length := by rw [← HN.out]; omega
      obtain ⟨g1, o1, rfl, hg1, c1⟩ := HI1.out.2 k hkl
      obtain ⟨g2, o2, rfl, hg2, c2⟩ := HI2.out.2 k hkz
      have q1 := (hb.cell (p := ⟨g1, o1 + k, none⟩) hg1).trans c1
      have q2 := (hb.cell (p := ⟨g2, o2 + k, none⟩) hg2).trans c2
      have hnx : (l.zip z).take (k + 1) = (l.zip z).take k ++ [(l[k], z[k])] := by
        rw [List.take_succ_eq_append_getElem (by rw [List.length_zip]; omega), List.getElem_zip]
      obtain ⟨x, hx⟩ : ∃ x, x = l[k] := ⟨_, rfl⟩
      obtain ⟨y, hy⟩ : ∃ y, y = z[k] := ⟨_, rfl⟩
      rw [← hx] at q1 hnx
      rw [← hy] at q2 hnx
      have hrl : ((l.zip z).take k).length = k := by rw [List.length_take, List.length_zip]; omega
      have HROW := Lib.hid (hrow.later (pl1 wr (.cells #[.int .i64 x, .int .i64 y] 109)))
      have HB2 := Lib.hid (hb.trans ((pl1 wr (.cells #[.int .i64 x, .int .i64 y] 109)).mono hb.size))
      have x0 := cell_of_cells (i := 0) (heap_alloc_new wr (.cells #[.int .i64 x, .int .i64 y] 109)) rfl
      have x1 := cell_of_cells (i := 1) (heap_alloc_new wr (.cells #[.int .i64 x, .int .i64 y] 109)) rfl
      have HX0 := Lib.hid x0
      have HX1 := Lib.hid x1
      have HNX := Lib.hid hnx
      have HRL := Lib.hid hrl
      have hbs : w2.heap.size ≤ (wr.alloc (.cells #[.int .i64 x, .int .i64 y] 109)).heap.size := HB2.out.size
      have HBS := Lib.hid hbs
      clear hrow hb c1 c2 hnx hx hy hrl x0 x1 hbs hg1 hg2
      go_wp2_with (at_builtin; refine wpList_append_p term_ty rfl _ _ rfl w2.heap.size _ _ rfl HROW.out wr.heap.size _ (x, y) rfl HX0.out HX1.out HBS.out (by rw [HRL.out]; omega) ?_; intro v' w5 hown5 hgrow5)
      have HN5 : Hid (PRow 109 w5 w2.heap.size v' ((l.zip z).take (k + 1)) ∧ Below w2.heap.size w2 w5) := Lib.hid ⟨by rw [HNX.out]; exact hown5, HB2.out.grown hgrow5 HB2.out.size (fun q hq => (World.ownsRow.lt HROW.out q hq).1)⟩
      clear hown5 hgrow5
      go_wp2
      go_roundw
      case rel => exact ⟨k + 1, by go_num, by omega, HN5.out.1, HN5.out.2⟩
      case measure => simp [intOf]; omega
    · have hmi : ¬ (k : Int) < (m : Int) := by omega
      obtain rfl : k = m := by omega
      have HE : Hid ((l.zip z).take k = l.zip z) := Lib.hid (List.take_of_length_le (by rw [List.length_zip, ← HM.out]; omega))
      rw [HE.out] at hrow
      have HX : Hid (PRow 109 wr w.heap.size u3 (l.zip z) ∧ RD wr b (fxS 16 n s1 b1) (fxB 16 n s1 b1) ∧ w.grownBy wr (some b)) := Lib.hid ⟨hrow.base_mono HG2.out.size, HRD2.out.later hb, only_below HG2.out hb⟩
      clear hrow hb
      go_wp2
      go_ret
      exact ⟨⟨_, rfl, HX.out.1⟩, HX.out.2⟩
end Go.Proofs.YtddnnhfffmhpmaaGreatDoor.Do

/- A change taken off a reader: take, Read, Parse (the program's). -/
namespace Go.Proofs.YtddnnhfffmhpmaaGreatDoor.Do
open Go.RowKit Go.Proofs.YtddnnhfffmhpmaaGreatDoor DocM

/-- the slice v reads as numbers -/
def Vrd (w : World) (v : Value) (l : List Int) : Prop := ∃ A cp, v = .slice A l.length cp ∧ Ivs w A l.length l
theorem Vrd.later {w w' : World} {v : Value} {l : List Int} (h : Vrd w v l) (hb : Below w.heap.size w w') : Vrd w' v l := by
  obtain ⟨A, cp, e, hI⟩ := h
  exact ⟨A, cp, e, hI.later hb⟩
theorem Vrd.nil_ (w : World) : Vrd w (.slice none 0 0) [] := ⟨none, 0, rfl, ivs_nil _ _⟩
theorem prd_nil (w : World) : Prd w (.slice none 0 0) [] := ⟨none, 0, rfl, Nat.le_refl _, (fun _ => rfl), rfl, fun k hk => by simp at hk⟩
/-- a variable of a change's type -/
def Bx (w : World) (B : Nat) (vs : Array Value) : Prop := w.heap[B]? = some (.cells vs 35 (0, 0))
section
variable {w w' : World} {B : Nat} {vs : Array Value}
theorem Bx.lt (h : Bx w B vs) : B < w.heap.size := (Array.getElem?_eq_some_iff.1 h).1
theorem Bx.at_ (h : Bx w B vs) (i : Nat) {v : Value} (hv : vs[i]? = some v) : w.cell? ⟨B, i, none⟩ = some v := (cell_of_row w B i _ _ (0, 0) h).trans hv
theorem Bx.free (h : Bx w B vs) (i : Nat) : w.frozen? ⟨B, i, none⟩ = false := by
  unfold Bx at h
  simp [World.frozen?, h]
theorem Bx.kept (h : Bx w B vs) (hb : w'.heap[B]? = w.heap[B]?) : Bx w' B vs := hb.trans h
theorem Bx.later (h : Bx w B vs) (hb : Below w.heap.size w w') : Bx w' B vs := (hb.block B h.lt).trans h
theorem Bx.grown {b : Nat} (h : Bx w B vs) (hg : w.grownBy w' (some b)) (hne : B ≠ b) : Bx w' B vs := (hg.block B h.lt (fun e => hne (by injection e))).trans h
theorem Bx.set_ (h : Bx w B vs) (i : Nat) (u : Value) : Bx (w.setCell ⟨B, i, none⟩ u) B (vs.setIfInBounds i u) := by
  unfold Bx
  rw [heap_setCell_row h]
theorem Bx.away (h : Bx w B vs) {C : Nat} (hne : B ≠ C) (i : Nat) (u : Value) : Bx (w.setCell ⟨C, i, none⟩ u) B vs := h.kept (Below.heap_setCell w _ u B (fun e => hne e))
end
theorem Bx.fill {w : World} {B : Nat} {v0 v1 v2 v3 v4 : Value} (h : Bx w B #[v0, v1, v2, v3, v4]) (a0 a1 a2 a3 a4 : Value) :
    Bx (((((w.setCell ⟨B, 0, none⟩ a0).setCell ⟨B, 1, none⟩ a1).setCell ⟨B, 2, none⟩ a2).setCell ⟨B, 3, none⟩ a3).setCell ⟨B, 4, none⟩ a4) B #[a0, a1, a2, a3, a4] := by
  have := ((((h.set_ 0 a0).set_ 1 a1).set_ 2 a2).set_ 3 a3).set_ 4 a4
  simpa using this
theorem grown_put {a w : World} {r : Option Nat} (h : a.grownBy w r) {B : Nat} (hB : a.heap.size ≤ B) (i : Nat) (u : Value) : a.grownBy (w.setCell ⟨B, i, none⟩ u) r :=
  ⟨h.os, h.tape, h.output, by simpa [World.setCell] using h.size, fun j hj hne => (Below.heap_setCell w _ u j (fun e => by
    have e' : j = B := e
    omega)).trans (h.block j hj hne)⟩
theorem rd_away {w : World} {b : Nat} {s : List UInt8} {bad : Bool} (h : RD w b s bad) {C : Nat} (hne : b ≠ C) (i : Nat) (u : Value) : RD (w.setCell ⟨C, i, none⟩ u) b s bad := h.kept (Below.heap_setCell w _ u b (fun e => hne e))
/-- a slice that lies in new memory, or nowhere -/
def NewS (N : Nat) (v : Value) : Prop := ∀ A n cp, v = .slice A n cp → ∀ ad, A = some ad → N ≤ ad.block
theorem NewS.nil_ (N : Nat) : NewS N (.slice none 0 0) := fun A n cp e ad e2 => by
  injection e with e
  subst e
  cases e2
theorem NewS.row {e : TypeId} {w : World} {base N : Nat} {A : Option Addr} {n cp : Nat} {l : List (Int × Int)} (h : PRow e w base (.slice A n cp) l) (hN : N ≤ base) : NewS N (.slice A n cp) := fun A' n' cp' e1 ad e2 => by
  injection e1 with e1
  subst e1
  rcases h.2 with ⟨e3, _⟩ | ⟨g, cap, cur, e3, hbg, _⟩
  · injection e3 with e3
    rw [e2] at e3
    cases e3
  · injection e3 with e3
    rw [e2] at e3
    injection e3 with e3
    subst e3
    exact Nat.le_trans hN hbg
theorem NewS.at_ {N g n cp : Nat} (h : N ≤ g) : NewS N (.slice (some ⟨g, 0, none⟩) n cp) := fun A n cp e ad e2 => by
  injection e with e
  subst e
  injection e2 with e2
  subst e2
  exact h
/-- what take answers, and leaves of the reader -/
def TakeEnd (N b : Nat) (s : List UInt8) (e : Ending) (w' : World) : Prop :=
  ∃ c T V ok s' bad', e = .returned (.tuple #[chV c T V, .bool ok]) ∧ Prd w' T c.ts ∧ Vrd w' V c.v ∧ RD w' b s' bad' ∧ (rawC s = if ok = true ∧ bad' = false then some (c, s') else none) ∧ NewS N T ∧ NewS N V
set_option maxHeartbeats 8000000 in
set_option maxRecDepth 100000 in
theorem take_any' (w : World) (b : Nat) (s : List UInt8) (hl : s.length ≤ 100000000) (h : RD w b s false) :
    Calls Tryz.prog 134 #[.pointer (some ⟨b, 0, none⟩)] w fun e w' => TakeEnd w.heap.size b s e w' ∧ w.grownBy w' (some b) := by
  have st0 : StK 100000000 s false := ⟨(fun e => by cases e), hl⟩
  have hth := raw_thread s
  have st1 := st0.num (most := PackM.MAXI)
  have st2 := st1.num (most := PackM.MAXI)
  have V1 := Lib.hid (fun W (hW : RD W b s false) => rvarint_any W b s false hl hW)
  obtain ⟨x, hx⟩ : ∃ x, x = nV PackM.MAXI s := ⟨_, rfl⟩
  obtain ⟨s1, hs1⟩ : ∃ x, x = nS PackM.MAXI s := ⟨_, rfl⟩
  obtain ⟨b1, hb1⟩ : ∃ x, x = nB PackM.MAXI s false := ⟨_, rfl⟩
  rw [← hx, ← hs1, ← hb1] at V1
  rw [← hs1, ← hb1] at st1 st2
  simp only [← hx, ← hs1, ← hb1] at hth
  have V2 := Lib.hid (fun W (hW : RD W b s1 b1) => rvarint_any W b s1 b1 st1.len hW)
  obtain ⟨y, hy⟩ : ∃ x, x = nV PackM.MAXI s1 := ⟨_, rfl⟩
  obtain ⟨s2, hs2⟩ : ∃ x, x = nS PackM.MAXI s1 := ⟨_, rfl⟩
  obtain ⟨b2, hb2⟩ : ∃ x, x = nB PackM.MAXI s1 b1 := ⟨_, rfl⟩
  rw [← hy, ← hs2, ← hb2] at V2
  rw [← hs2, ← hb2] at st2
  simp only [← hy, ← hs2, ← hb2] at hth
  have HTH := Lib.hid hth
  have ST2 := Lib.hid st2
  have H := Lib.hid h
  clear hx hs1 hb1 hy hs2 hb2 hth st0 st1 st2 h
  go_enter Tryz.func134, Tryz.ntmps134
  go_wp2_with fail
  obtain ⟨R, hR⟩ : ∃ R, R = w.heap.size := ⟨_, rfl⟩
  rw [← hR]
  obtain ⟨C, hC⟩ : ∃ C, C = R + 1 := ⟨_, rfl⟩
  rw [← hC]
  have hbw := H.out.lt
  have RB : Hid (R ≠ b) := Lib.hid (by omega)
  have CB : Hid (C ≠ b) := Lib.hid (by omega)
  have RC : Hid (R ≠ C) := Lib.hid (by omega)
  have HRw : Hid (w.heap.size ≤ R) := Lib.hid (by omega)
  have HCw : Hid (w.heap.size ≤ C) := Lib.hid (by omega)
  have A0 : Hid (Bx ((w.alloc (.cells #[.int .i64 0, .slice none 0 0, .slice none 0 0, .int .i64 0, .bool false] 35)).alloc (.cells #[.int .i64 0, .slice none 0 0, .slice none 0 0, .int .i64 0, .bool false] 35)) R #[.int .i64 0, .slice none 0 0, .slice none 0 0, .int .i64 0, .bool false]) := Lib.hid (by
    subst hR
    exact Bx.later (heap_alloc_new w _) (pl1 _ _))
  have A1 : Hid (Bx ((w.alloc (.cells #[.int .i64 0, .slice none 0 0, .slice none 0 0, .int .i64 0, .bool false] 35)).alloc (.cells #[.int .i64 0, .slice none 0 0, .slice none 0 0, .int .i64 0, .bool false] 35)) C #[.int .i64 0, .slice none 0 0, .slice none 0 0, .int .i64 0, .bool false]) := Lib.hid (by
    have e : C = (w.alloc (.cells #[.int .i64 0, .slice none 0 0, .slice none 0 0, .int .i64 0, .bool false] 35)).heap.size := by simp [hC, hR]
    rw [e]
    exact heap_alloc_new _ _)
  have A2 : Hid (RD ((w.alloc (.cells #[.int .i64 0, .slice none 0 0, .slice none 0 0, .int .i64 0, .bool false] 35)).alloc (.cells #[.int .i64 0, .slice none 0 0, .slice none 0 0, .int .i64 0, .bool false] 35)) b s false) := Lib.hid ((H.out.alloc _).alloc _)
  have A3 : Hid (w.grownBy ((w.alloc (.cells #[.int .i64 0, .slice none 0 0, .slice none 0 0, .int .i64 0, .bool false] 35)).alloc (.cells #[.int .i64 0, .slice none 0 0, .slice none 0 0, .int .i64 0, .bool false] 35)) (some b)) := Lib.hid (only_new (only_new (World.grownBy.refl w _) _) _)
  clear hR hC hbw H
  generalize ((w.alloc (.cells #[.int .i64 0, .slice none 0 0, .slice none 0 0, .int .i64 0, .bool false] 35)).alloc (.cells #[.int .i64 0, .slice none 0 0, .slice none 0 0, .int .i64 0, .bool false] 35)) = wA at A0 A1 A2 A3 ⊢
  refine (V1.out _ A2.out).mono ?_
  rintro e w1 ⟨rfl, rd, gr⟩
  have B0 := Lib.hid (A0.out.grown gr RB.out)
  have B1 := Lib.hid (A1.out.grown gr CB.out)
  have B3 := Lib.hid (A3.out.trans gr)
  have D2 := Lib.hid (rd_away rd (Ne.symm CB.out) 0 (.int .i64 (x : Int)))
  have c0 := B1.out.at_ 0 rfl
  have f0 := B1.out.free 0
  have D0 := Lib.hid (B0.out.away RC.out 0 (.int .i64 (x : Int)))
  have D1 := Lib.hid (B1.out.set_ 0 (.int .i64 (x : Int)))
  have D3 := Lib.hid (grown_put B3.out HCw.out 0 (.int .i64 (x : Int)))
  clear rd gr A0 A1 A2 A3 B0 B1 B3 V1
  go_wp2_with fail
  generalize w1.setCell ⟨C, 0, none⟩ (.int .i64 (x : Int)) = wB at D0 D1 D2 D3 ⊢
  clear c0 f0
  refine (V2.out _ D2.out).mono ?_
  rintro e w2 ⟨rfl, rd, gr⟩
  have E0 := Lib.hid (D0.out.grown gr RB.out)
  have E1 : Hid (Bx w2 C #[.int .i64 (x : Int), .slice none 0 0, .slice none 0 0, .int .i64 0, .bool false]) := Lib.hid (D1.out.grown gr CB.out)
  have E2 := Lib.hid rd
  have E3 := Lib.hid (D3.out.trans gr)
  clear rd gr D0 D1 D2 D3 V2
  have e0 := E0.out.at_ 0 rfl
  have e1 := E0.out.at_ 1 rfl
  have e2 := E0.out.at_ 2 rfl
  have e3 := E0.out.at_ 3 rfl
  have e4 := E0.out.at_ 4 rfl
  have k0 := E0.out.free 0
  have k1 := E0.out.free 1
  have k2 := E0.out.free 2
  have k3 := E0.out.free 3
  have k4 := E0.out.free 4
  have CE : ∀ W (a0 a1 a2 a3 a4 : Value) bad' s', Bx W R #[.int .i64 0, .slice none 0 0, .slice none 0 0, .int .i64 0, .bool false] → RD W b s' bad' → w.grownBy W (some b) →
      Bx (((((W.setCell ⟨R, 0, none⟩ a0).setCell ⟨R, 1, none⟩ a1).setCell ⟨R, 2, none⟩ a2).setCell ⟨R, 3, none⟩ a3).setCell ⟨R, 4, none⟩ a4) R #[a0, a1, a2, a3, a4] ∧
      RD (((((W.setCell ⟨R, 0, none⟩ a0).setCell ⟨R, 1, none⟩ a1).setCell ⟨R, 2, none⟩ a2).setCell ⟨R, 3, none⟩ a3).setCell ⟨R, 4, none⟩ a4) b s' bad' ∧
      w.grownBy (((((W.setCell ⟨R, 0, none⟩ a0).setCell ⟨R, 1, none⟩ a1).setCell ⟨R, 2, none⟩ a2).setCell ⟨R, 3, none⟩ a3).setCell ⟨R, 4, none⟩ a4) (some b) := fun W a0 a1 a2 a3 a4 bad' s' h1 h2 h3 =>
    have n := Ne.symm RB.out
    ⟨h1.fill a0 a1 a2 a3 a4, rd_away (rd_away (rd_away (rd_away (rd_away h2 n 0 a0) n 1 a1) n 2 a2) n 3 a3) n 4 a4,
      grown_put (grown_put (grown_put (grown_put (grown_put h3 HRw.out 0 a0) HRw.out 1 a1) HRw.out 2 a2) HRw.out 3 a3) HRw.out 4 a4⟩
  have HCE := Lib.hid CE
  clear CE
  have H2W : Hid (w.heap.size ≤ w2.heap.size) := Lib.hid E3.out.size
  by_cases hy0 : y = 0
  · subst hy0
    have hbs := HTH.out.2.1 rfl
    rw [body_state _ _ _ ST2.out.nil_] at hbs
    have TT := Lib.hid (fun W hW => taketerms_any W b s2 b2 ST2.out hW)
    have st4 := (ST2.out.ris (most := 64)).fix (m := 16) (n := (rsV 64 s2).length)
    obtain ⟨ts, hts⟩ : ∃ x, x = (rsV 64 s2).zip (fxV 16 (rsV 64 s2).length (rsS 64 s2) (rsB 64 s2 b2)) := ⟨_, rfl⟩
    obtain ⟨s4, hs4⟩ : ∃ x, x = fxS 16 (rsV 64 s2).length (rsS 64 s2) (rsB 64 s2 b2) := ⟨_, rfl⟩
    obtain ⟨b4, hb4⟩ : ∃ x, x = fxB 16 (rsV 64 s2).length (rsS 64 s2) (rsB 64 s2 b2) := ⟨_, rfl⟩
    rw [← hts, ← hs4, ← hb4] at TT hbs
    rw [← hs4, ← hb4] at st4
    clear hts hs4 hb4
    have TV := Lib.hid (fun W hW => takevector_any W b s4 b4 st4 hW)
    have st5 := st4.fix (m := 8) (n := 8)
    obtain ⟨vv, hvv⟩ : ∃ x, x = fxV 8 8 s4 b4 := ⟨_, rfl⟩
    obtain ⟨s5, hs5⟩ : ∃ x, x = fxS 8 8 s4 b4 := ⟨_, rfl⟩
    obtain ⟨b5, hb5⟩ : ∃ x, x = fxB 8 8 s4 b4 := ⟨_, rfl⟩
    rw [← hvv, ← hs5, ← hb5] at TV hbs
    rw [← hs5, ← hb5] at st5
    clear hvv hs5 hb5
    have TG := Lib.hid (fun W hW => taketags_any W b s5 b5 st5 hW)
    obtain ⟨tg, htg⟩ : ∃ x, x = (fxV 8 1 s5 b5).getD 0 0 := ⟨_, rfl⟩
    obtain ⟨s6, hs6⟩ : ∃ x, x = fxS 8 1 s5 b5 := ⟨_, rfl⟩
    obtain ⟨b6, hb6⟩ : ∃ x, x = fxB 8 1 s5 b5 := ⟨_, rfl⟩
    rw [← htg, ← hs6, ← hb6] at TG hbs
    have HBS := Lib.hid hbs
    clear htg hs6 hb6 hbs st4 st5 HTH
    go_wp2_with fail
    refine (TT.out _ E2.out).mono ?_
    rintro e w3 ⟨⟨T, rfl, hrow⟩, rd, gr⟩
    obtain ⟨AT, cT, rfl, hcT, _⟩ := hrow.form
    have LB : Hid (b < w2.heap.size) := Lib.hid E2.out.lt
    have LR : Hid (R < w2.heap.size ∧ C < w2.heap.size) := Lib.hid ⟨E0.out.lt, E1.out.lt⟩
    have E0 := Lib.hid (E0.out.grown gr RB.out)
    have E1 := Lib.hid (E1.out.grown gr CB.out)
    have E2 := Lib.hid rd
    have GG := Lib.hid gr
    have E3 := Lib.hid (E3.out.trans gr)
    have ROW := Lib.hid hrow
    clear hrow rd gr TT
    go_wp2_with fail
    refine (TV.out _ E2.out).mono ?_
    rintro e w4 ⟨⟨gV, rfl, hgV, hiv⟩, rd, gr⟩
    have ROW := Lib.hid (ROW.out.kept (w' := w4) (fun g hg => gr.block g (World.ownsRow.lt ROW.out g hg).2 (fun e => by
      injection e with e
      have h1 := (World.ownsRow.lt ROW.out g hg).1
      have h2 := LB.out
      omega)))
    have HV2 := Lib.hid (show w2.heap.size ≤ gV ∧ Ivs w4 (some ⟨gV, 0, none⟩) vv.length (vv.map (· - 128)) from ⟨Nat.le_trans GG.out.size hgV, hiv⟩)
    have E0 := Lib.hid (E0.out.grown gr RB.out)
    have E1 := Lib.hid (E1.out.grown gr CB.out)
    have E2 := Lib.hid rd
    have E3 := Lib.hid (E3.out.trans gr)
    clear hgV hiv rd gr TV GG
    go_wp2_with fail
    refine (TG.out _ E2.out).mono ?_
    rintro e w5 ⟨rfl, rd, gr⟩
    have ROW := Lib.hid (ROW.out.kept (w' := w5) (fun g hg => gr.block g (World.ownsRow.lt ROW.out g hg).2 (fun e => by
      injection e with e
      have h1 := (World.ownsRow.lt ROW.out g hg).1
      have h2 := LB.out
      omega)))
    have hgv2 : vv.length = 0 ∨ gV < w4.heap.size := by
      rcases Nat.eq_zero_or_pos vv.length with e | e
      · exact .inl e
      · obtain ⟨b', o', e1, h1, _⟩ := HV2.out.2.2 0 (by rw [List.length_map]; exact e)
        injection e1 with e1
        injection e1 with e1 _ _
        rw [e1]
        exact .inr h1
    have HV3 : Hid (Ivs w5 (some ⟨gV, 0, none⟩) vv.length (vv.map (· - 128))) := Lib.hid (by
      refine HV2.out.2.turned (Turned.of_grown (S := fun k => k = b) gr rfl) (fun ad e => ?_)
      injection e with e
      subst e
      have h1 := HV2.out.1
      have h2 := LB.out
      show ¬ gV = b
      omega)
    have E0 := Lib.hid (E0.out.grown gr RB.out)
    have E1 : Hid (Bx w5 C #[.int .i64 (x : Int), .slice none 0 0, .slice none 0 0, .int .i64 0, .bool false]) := Lib.hid (E1.out.grown gr CB.out)
    have E2 := Lib.hid rd
    have E3 := Lib.hid (E3.out.trans gr)
    clear rd gr TG hgv2 e0 e1 e2 e3 e4 k0 k1 k2 k3 k4
    have e0 := E0.out.at_ 0 rfl
    have e1 := E0.out.at_ 1 rfl
    have e2 := E0.out.at_ 2 rfl
    have e3 := E0.out.at_ 3 rfl
    have e4 := E0.out.at_ 4 rfl
    have k0 := E0.out.free 0
    have k1 := E0.out.free 1
    have k2 := E0.out.free 2
    have k3 := E0.out.free 3
    have k4 := E0.out.free 4
    have c0 := E1.out.at_ 0 rfl
    have c1 := E1.out.at_ 1 rfl
    have c2 := E1.out.at_ 2 rfl
    have c3 := E1.out.at_ 3 rfl
    have c4 := E1.out.at_ 4 rfl
    have l1 := E1.out.free 1
    have l2 := E1.out.free 2
    have l3 := E1.out.free 3
    have hRC := RC.out
    have n := Ne.symm CB.out
    have G0 := Lib.hid (((E0.out.away RC.out 1 (.slice AT ts.length cT)).away RC.out 2 (.slice (some ⟨gV, 0, none⟩) vv.length vv.length)).away RC.out 3 (.int .i64 tg))
    have G2 := Lib.hid (rd_away (rd_away (rd_away E2.out n 1 (.slice AT ts.length cT)) n 2 (.slice (some ⟨gV, 0, none⟩) vv.length vv.length)) n 3 (.int .i64 tg))
    have G3 := Lib.hid (grown_put (grown_put (grown_put E3.out HCw.out 1 (.slice AT ts.length cT)) HCw.out 2 (.slice (some ⟨gV, 0, none⟩) vv.length vv.length)) HCw.out 3 (.int .i64 tg))
    have HF := Lib.hid (HCE.out _ (.int .i64 (x : Int)) (.slice AT ts.length cT) (.slice (some ⟨gV, 0, none⟩) vv.length vv.length) (.int .i64 tg) (.bool false) b6 s6 G0.out G2.out G3.out)
    have HK : Hid (∀ g, w2.heap.size ≤ g → ((((((((w5.setCell ⟨C, 1, none⟩ (.slice AT ts.length cT)).setCell ⟨C, 2, none⟩ (.slice (some ⟨gV, 0, none⟩) vv.length vv.length)).setCell ⟨C, 3, none⟩ (.int .i64 tg)).setCell ⟨R, 0, none⟩ (.int .i64 (x : Int))).setCell ⟨R, 1, none⟩ (.slice AT ts.length cT)).setCell ⟨R, 2, none⟩ (.slice (some ⟨gV, 0, none⟩) vv.length vv.length)).setCell ⟨R, 3, none⟩ (.int .i64 tg)).setCell ⟨R, 4, none⟩ (.bool false)).heap[g]? = w5.heap[g]?) := Lib.hid (fun g hg => by
      have h1 := LR.out.1
      have h2 := LR.out.2
      have q : ∀ (W : World) (B i : Nat) (u : Value), B < w2.heap.size → (W.setCell ⟨B, i, none⟩ u).heap[g]? = W.heap[g]? := fun W B i u hB => Below.heap_setCell W _ u g (fun e => by
        have e' : g = B := e
        omega)
      rw [q _ R 4 _ h1, q _ R 3 _ h1, q _ R 2 _ h1, q _ R 1 _ h1, q _ R 0 _ h1, q _ C 3 _ h2, q _ C 2 _ h2, q _ C 1 _ h2])
    clear G0 G2 G3 n
    go_wp2
    have HS : Hid (w5.heap.size ≤ ((((((((w5.setCell ⟨C, 1, none⟩ (.slice AT ts.length cT)).setCell ⟨C, 2, none⟩ (.slice (some ⟨gV, 0, none⟩) vv.length vv.length)).setCell ⟨C, 3, none⟩ (.int .i64 tg)).setCell ⟨R, 0, none⟩ (.int .i64 (x : Int))).setCell ⟨R, 1, none⟩ (.slice AT ts.length cT)).setCell ⟨R, 2, none⟩ (.slice (some ⟨gV, 0, none⟩) vv.length vv.length)).setCell ⟨R, 3, none⟩ (.int .i64 tg)).setCell ⟨R, 4, none⟩ (.bool false)).heap.size) := Lib.hid (by simp)
    generalize ((((((((w5.setCell ⟨C, 1, none⟩ (.slice AT ts.length cT)).setCell ⟨C, 2, none⟩ (.slice (some ⟨gV, 0, none⟩) vv.length vv.length)).setCell ⟨C, 3, none⟩ (.int .i64 tg)).setCell ⟨R, 0, none⟩ (.int .i64 (x : Int))).setCell ⟨R, 1, none⟩ (.slice AT ts.length cT)).setCell ⟨R, 2, none⟩ (.slice (some ⟨gV, 0, none⟩) vv.length vv.length)).setCell ⟨R, 3, none⟩ (.int .i64 tg)).setCell ⟨R, 4, none⟩ (.bool false)) = WZ at HF HK HS ⊢
    have z0 := HF.out.1.at_ 0 rfl
    have z1 := HF.out.1.at_ 1 rfl
    have z2 := HF.out.1.at_ 2 rfl
    have z3 := HF.out.1.at_ 3 rfl
    have z4 := HF.out.1.at_ 4 rfl
    have HP : Prd WZ (.slice AT ts.length cT) ts := (ROW.out.kept (w' := WZ) (fun g hg => HK.out g (Nat.le_trans (Nat.le_refl _) (World.ownsRow.lt ROW.out g hg).1))).prd
    have HQ : Ivs WZ (some ⟨gV, 0, none⟩) vv.length (vv.map (· - 128)) := ivs_kept HV3.out (HK.out gV HV2.out.1) HS.out
    exact bodyPost_ret (v := .tuple #[chV ⟨x, ts, vv.map (· - 128), tg, false⟩ (.slice AT ts.length cT) (.slice (some ⟨gV, 0, none⟩) vv.length vv.length), .bool true]) (by simp [results, Tryz.results134, go_sem, z0, z1, z2, z3, z4, chV]) rfl ⟨⟨⟨x, ts, vv.map (· - 128), tg, false⟩, _, _, true, s6, b6, rfl, HP, ⟨_, vv.length, by rw [List.length_map], by rw [List.length_map]; exact HQ⟩, HF.out.2.1, by have := HBS.out; simpa using this, NewS.row ROW.out H2W.out, NewS.at_ (Nat.le_trans H2W.out HV2.out.1)⟩, HF.out.2.2⟩
  · have hn0 : ((y : Int) == 0) = false := by simp; omega
    by_cases hy1 : y = 1
    · subst hy1
      have HH := Lib.hid (HTH.out.1 rfl)
      clear HTH
      have c0 := E1.out.at_ 0 rfl
      have c1 := E1.out.at_ 1 rfl
      have c2 := E1.out.at_ 2 rfl
      have c3 := E1.out.at_ 3 rfl
      have c4 := E1.out.at_ 4 rfl
      have l4 := E1.out.free 4
      have G0 := Lib.hid (E0.out.away RC.out 4 (.bool true))
      have G2 := Lib.hid (rd_away E2.out (Ne.symm CB.out) 4 (.bool true))
      have G3 := Lib.hid (grown_put E3.out HCw.out 4 (.bool true))
      have HF := Lib.hid (HCE.out (w2.setCell ⟨C, 4, none⟩ (.bool true)) (.int .i64 (x : Int)) (.slice none 0 0) (.slice none 0 0) (.int .i64 0) (.bool true) b2 s2 G0.out G2.out G3.out)
      have hRC := RC.out
      clear G0 G2 G3
      go_wp2
      generalize ((((((w2.setCell ⟨C, 4, none⟩ (.bool true)).setCell ⟨R, 0, none⟩ (.int .i64 (x : Int))).setCell ⟨R, 1, none⟩ (.slice none 0 0)).setCell ⟨R, 2, none⟩ (.slice none 0 0)).setCell ⟨R, 3, none⟩ (.int .i64 0)).setCell ⟨R, 4, none⟩ (.bool true)) = WZ at HF ⊢
      have z0 := HF.out.1.at_ 0 rfl
      have z1 := HF.out.1.at_ 1 rfl
      have z2 := HF.out.1.at_ 2 rfl
      have z3 := HF.out.1.at_ 3 rfl
      have z4 := HF.out.1.at_ 4 rfl
      exact bodyPost_ret (v := .tuple #[chV ⟨x, [], [], 0, true⟩ (.slice none 0 0) (.slice none 0 0), .bool true]) (by simp [results, Tryz.results134, go_sem, z0, z1, z2, z3, z4, chV]) rfl ⟨⟨⟨x, [], [], 0, true⟩, _, _, true, s2, b2, rfl, prd_nil _, Vrd.nil_ _, HF.out.2.1, by rw [HH.out.2, HH.out.1]; simp, NewS.nil_ _, NewS.nil_ _⟩, HF.out.2.2⟩
    · have hn1 : ((y : Int) == 1) = false := by simp; omega
      have HN := Lib.hid (HTH.out.2.2 hy0 hy1)
      clear HTH
      have HF := Lib.hid (HCE.out w2 (.int .i64 0) (.slice none 0 0) (.slice none 0 0) (.int .i64 0) (.bool false) b2 s2 E0.out E2.out E3.out)
      go_wp2
      generalize (((((w2.setCell ⟨R, 0, none⟩ (.int .i64 0)).setCell ⟨R, 1, none⟩ (.slice none 0 0)).setCell ⟨R, 2, none⟩ (.slice none 0 0)).setCell ⟨R, 3, none⟩ (.int .i64 0)).setCell ⟨R, 4, none⟩ (.bool false)) = WZ at HF ⊢
      have z0 := HF.out.1.at_ 0 rfl
      have z1 := HF.out.1.at_ 1 rfl
      have z2 := HF.out.1.at_ 2 rfl
      have z3 := HF.out.1.at_ 3 rfl
      have z4 := HF.out.1.at_ 4 rfl
      exact bodyPost_ret (v := .tuple #[chV ch0 (.slice none 0 0) (.slice none 0 0), .bool false]) (by simp [results, Tryz.results134, go_sem, z0, z1, z2, z3, z4, chV, ch0]) rfl ⟨⟨ch0, _, _, false, s2, b2, rfl, prd_nil _, Vrd.nil_ _, HF.out.2.1, by rw [HN.out]; simp, NewS.nil_ _, NewS.nil_ _⟩, HF.out.2.2⟩
end Go.Proofs.YtddnnhfffmhpmaaGreatDoor.Do

/- Read and Parse (the program's). -/
namespace Go.Proofs.YtddnnhfffmhpmaaGreatDoor.DocM
/-- the change that bytes tell, and is there one -/
def rdV (s : List UInt8) : Ch := match rdC s with | none => ch0 | some x => x.1
def rdK (s : List UInt8) : Bool := (rdC s).isSome
def rdS (s : List UInt8) : List UInt8 := match rdC s with | none => [] | some x => x.2
theorem rd_none {s : List UInt8} (h : rdC s = none) : rdV s = ch0 ∧ rdK s = false ∧ rdS s = [] := by unfold rdV rdK rdS; rw [h]; exact ⟨rfl, rfl, rfl⟩
theorem rd_some {s : List UInt8} {c : Ch} {t : List UInt8} (h : rdC s = some (c, t)) : rdV s = c ∧ rdK s = true ∧ rdS s = t := by unfold rdV rdK rdS; rw [h]; exact ⟨rfl, rfl, rfl⟩
/-- Parse's answer -/
def paK (s : List UInt8) : Bool := rdK s && decide (rdS s = [])
def paV (s : List UInt8) : Ch := if paK s = true then rdV s else ch0
def paC (s : List UInt8) : Int := if paK s = true then 0 else 2
end Go.Proofs.YtddnnhfffmhpmaaGreatDoor.DocM
namespace Go.Proofs.YtddnnhfffmhpmaaGreatDoor.Do
open Go.RowKit Go.Proofs.YtddnnhfffmhpmaaGreatDoor DocM

/-- what Read answers -/
def ReadEnd (N b : Nat) (s : List UInt8) (e : Ending) (w' : World) : Prop :=
  ∃ T V s' bad', e = .returned (.tuple #[chV (rdV s) T V, .bool (rdK s)]) ∧ Prd w' T (rdV s).ts ∧ Vrd w' V (rdV s).v ∧ RD w' b s' bad' ∧ (rdK s = true → s' = rdS s ∧ bad' = false) ∧ NewS N T ∧ NewS N V
theorem bx_fill2 {w : World} {R b : Nat} {v0 v1 v2 v3 v4 : Value} (h : Bx w R #[v0, v1, v2, v3, v4]) (hne : R ≠ b) (u : World) (hu : u.heap.size ≤ R) {s : List UInt8} {bad : Bool} (hrd : RD w b s bad) (hg : u.grownBy w (some b)) (a0 a1 a2 a3 a4 : Value) :
    Bx (((((w.setCell ⟨R, 0, none⟩ a0).setCell ⟨R, 1, none⟩ a1).setCell ⟨R, 2, none⟩ a2).setCell ⟨R, 3, none⟩ a3).setCell ⟨R, 4, none⟩ a4) R #[a0, a1, a2, a3, a4] ∧
    RD (((((w.setCell ⟨R, 0, none⟩ a0).setCell ⟨R, 1, none⟩ a1).setCell ⟨R, 2, none⟩ a2).setCell ⟨R, 3, none⟩ a3).setCell ⟨R, 4, none⟩ a4) b s bad ∧
    u.grownBy (((((w.setCell ⟨R, 0, none⟩ a0).setCell ⟨R, 1, none⟩ a1).setCell ⟨R, 2, none⟩ a2).setCell ⟨R, 3, none⟩ a3).setCell ⟨R, 4, none⟩ a4) (some b) ∧
    ∀ g, g ≠ R → (((((w.setCell ⟨R, 0, none⟩ a0).setCell ⟨R, 1, none⟩ a1).setCell ⟨R, 2, none⟩ a2).setCell ⟨R, 3, none⟩ a3).setCell ⟨R, 4, none⟩ a4).heap[g]? = w.heap[g]? := by
  have n := Ne.symm hne
  refine ⟨h.fill a0 a1 a2 a3 a4, rd_away (rd_away (rd_away (rd_away (rd_away hrd n 0 a0) n 1 a1) n 2 a2) n 3 a3) n 4 a4, grown_put (grown_put (grown_put (grown_put (grown_put hg hu 0 a0) hu 1 a1) hu 2 a2) hu 3 a3) hu 4 a4, fun g hg => ?_⟩
  have q : ∀ (W : World) (i : Nat) (u : Value), (W.setCell ⟨R, i, none⟩ u).heap[g]? = W.heap[g]? := fun W i u => Below.heap_setCell W _ u g (fun e => hg e)
  rw [q, q, q, q, q]
set_option maxHeartbeats 8000000 in
set_option maxRecDepth 100000 in
theorem read_any' (w : World) (b : Nat) (s : List UInt8) (hl : s.length ≤ 100000000) (h : RD w b s false) :
    Calls Tryz.prog 93 #[.pointer (some ⟨b, 0, none⟩)] w fun e w' => ReadEnd w.heap.size b s e w' ∧ w.grownBy w' (some b) := by
  have TK := Lib.hid (fun W hW => take_any' W b s hl hW)
  have H := Lib.hid h
  clear h
  go_enter Tryz.func93, Tryz.ntmps93
  go_wp2_with fail
  obtain ⟨R, hR⟩ : ∃ R, R = w.heap.size := ⟨_, rfl⟩
  rw [← hR]
  have hbw := H.out.lt
  have RB : Hid (R ≠ b) := Lib.hid (by omega)
  have HRw : Hid (w.heap.size ≤ R) := Lib.hid (by omega)
  have A0 : Hid (Bx (w.alloc (.cells #[.int .i64 0, .slice none 0 0, .slice none 0 0, .int .i64 0, .bool false] 35)) R #[.int .i64 0, .slice none 0 0, .slice none 0 0, .int .i64 0, .bool false]) := Lib.hid (by
    subst hR
    exact heap_alloc_new w _)
  have A2 : Hid (RD (w.alloc (.cells #[.int .i64 0, .slice none 0 0, .slice none 0 0, .int .i64 0, .bool false] 35)) b s false) := Lib.hid (H.out.alloc _)
  have A3 : Hid (w.grownBy (w.alloc (.cells #[.int .i64 0, .slice none 0 0, .slice none 0 0, .int .i64 0, .bool false] 35)) (some b)) := Lib.hid (only_new (World.grownBy.refl w _) _)
  clear hR hbw H
  generalize (w.alloc (.cells #[.int .i64 0, .slice none 0 0, .slice none 0 0, .int .i64 0, .bool false] 35)) = wA at A0 A2 A3 ⊢
  refine (TK.out _ A2.out).mono ?_
  rintro e w1 ⟨⟨c, T, V, ok, s', bad', rfl, hT, hV, rd, hraw, hNT, hNV⟩, gr⟩
  have HR0 : Hid (R < wA.heap.size) := Lib.hid A0.out.lt
  have HAw : Hid (w.heap.size ≤ wA.heap.size) := Lib.hid A3.out.size
  have B0 := Lib.hid (A0.out.grown gr RB.out)
  have B2 := Lib.hid rd
  have B3 := Lib.hid (A3.out.trans gr)
  obtain ⟨AT, cT, eT, hcT, hAT, hPT⟩ := hT
  obtain ⟨AV, cV, eV, hIV⟩ := hV
  have HRAW := Lib.hid hraw
  obtain ⟨nT, hnT⟩ : ∃ n, n = c.ts.length := ⟨_, rfl⟩
  obtain ⟨nV, hnV⟩ : ∃ n, n = c.v.length := ⟨_, rfl⟩
  rw [← hnT] at eT hPT hcT
  rw [← hnV] at eV hIV
  subst eT
  subst eV
  have FAR : Hid ((∀ ad, AT = some ad → ad.block ≠ R) ∧ ∀ ad, AV = some ad → ad.block ≠ R) := Lib.hid ⟨fun ad e => by
      have h1 := hNT _ _ _ rfl ad e
      have h2 := HR0.out
      omega, fun ad e => by
      have h1 := hNV _ _ _ rfl ad e
      have h2 := HR0.out
      omega⟩
  have NEW : Hid (NewS w.heap.size (.slice AT nT cT) ∧ NewS w.heap.size (.slice AV nV cV)) := Lib.hid ⟨fun A n cp e ad e2 => Nat.le_trans HAw.out (hNT A n cp e ad e2), fun A n cp e ad e2 => Nat.le_trans HAw.out (hNV A n cp e ad e2)⟩
  clear hNT hNV HR0
  have HPT := Lib.hid hPT
  have HIV := Lib.hid hIV
  have HAT := Lib.hid (show nT ≤ cT ∧ (AT = none → cT = 0) from ⟨hcT, hAT⟩)
  have HNT := Lib.hid hnT
  have HNV := Lib.hid hnV
  clear rd gr A0 A2 A3 TK hraw hPT hIV hnT hnV hcT hAT
  have RR := Lib.hid (fun W hW hX hn => right_any c AT AV nT cT nV cV W hW hX hn)
  have HC0 : Hid (∀ x, x = c → True) := Lib.hid (fun _ _ => trivial)
  unfold chV at RR ⊢
  obtain ⟨d, hd⟩ : ∃ d, d = c.doc := ⟨_, rfl⟩
  obtain ⟨tg, htg⟩ : ∃ d, d = c.tags := ⟨_, rfl⟩
  obtain ⟨gn, hgn⟩ : ∃ d, d = c.gone := ⟨_, rfl⟩
  rw [← hd, ← htg, ← hgn] at RR ⊢
  have HD := Lib.hid (show d = c.doc ∧ tg = c.tags ∧ gn = c.gone from ⟨hd, htg, hgn⟩)
  clear hd htg hgn HC0
  have e0 := B0.out.at_ 0 rfl
  have e1 := B0.out.at_ 1 rfl
  have e2 := B0.out.at_ 2 rfl
  have e3 := B0.out.at_ 3 rfl
  have e4 := B0.out.at_ 4 rfl
  have k0 := B0.out.free 0
  have k1 := B0.out.free 1
  have k2 := B0.out.free 2
  have k3 := B0.out.free 3
  have k4 := B0.out.free 4
  have hRl := B0.out.lt
  cases ok with
  | false =>
    have HN : Hid (rdC s = none) := Lib.hid (by unfold rdC; rw [HRAW.out]; rfl)
    have F0 := bx_fill2 B0.out RB.out w HRw.out B2.out B3.out (.int .i64 0) (.slice none 0 0) (.slice none 0 0) (.int .i64 0) (.bool false)
    have HF : Hid (Bx ((((((w1.setCell ⟨R, 0, none⟩ (.int .i64 0)).setCell ⟨R, 1, none⟩ (.slice none 0 0)).setCell ⟨R, 2, none⟩ (.slice none 0 0)).setCell ⟨R, 3, none⟩ (.int .i64 0)).setCell ⟨R, 4, none⟩ (.bool false)).alloc (.cells #[.int .i64 d, .slice AT nT cT, .slice AV nV cV, .int .i64 tg, .bool gn] 35)) R #[.int .i64 0, .slice none 0 0, .slice none 0 0, .int .i64 0, .bool false] ∧ RD ((((((w1.setCell ⟨R, 0, none⟩ (.int .i64 0)).setCell ⟨R, 1, none⟩ (.slice none 0 0)).setCell ⟨R, 2, none⟩ (.slice none 0 0)).setCell ⟨R, 3, none⟩ (.int .i64 0)).setCell ⟨R, 4, none⟩ (.bool false)).alloc (.cells #[.int .i64 d, .slice AT nT cT, .slice AV nV cV, .int .i64 tg, .bool gn] 35)) b s' bad' ∧ w.grownBy ((((((w1.setCell ⟨R, 0, none⟩ (.int .i64 0)).setCell ⟨R, 1, none⟩ (.slice none 0 0)).setCell ⟨R, 2, none⟩ (.slice none 0 0)).setCell ⟨R, 3, none⟩ (.int .i64 0)).setCell ⟨R, 4, none⟩ (.bool false)).alloc (.cells #[.int .i64 d, .slice AT nT cT, .slice AV nV cV, .int .i64 tg, .bool gn] 35)) (some b)) := Lib.hid ⟨F0.1.later (pl1 _ _), F0.2.1.alloc _, only_new F0.2.2.1 _⟩
    clear F0
    go_wp2
    generalize ((((((w1.setCell ⟨R, 0, none⟩ (.int .i64 0)).setCell ⟨R, 1, none⟩ (.slice none 0 0)).setCell ⟨R, 2, none⟩ (.slice none 0 0)).setCell ⟨R, 3, none⟩ (.int .i64 0)).setCell ⟨R, 4, none⟩ (.bool false)).alloc (.cells #[.int .i64 d, .slice AT nT cT, .slice AV nV cV, .int .i64 tg, .bool gn] 35)) = WZ at HF ⊢
    have z0 := HF.out.1.at_ 0 rfl
    have z1 := HF.out.1.at_ 1 rfl
    have z2 := HF.out.1.at_ 2 rfl
    have z3 := HF.out.1.at_ 3 rfl
    have z4 := HF.out.1.at_ 4 rfl
    obtain ⟨n1, n2, n3⟩ := rd_none HN.out
    exact bodyPost_ret (v := .tuple #[chV ch0 (.slice none 0 0) (.slice none 0 0), .bool false]) (by simp [results, Tryz.results93, go_sem, z0, z1, z2, z3, z4, chV, ch0]) rfl ⟨⟨_, _, _, _, by rw [n1, n2], by rw [n1]; exact prd_nil _, by rw [n1]; exact Vrd.nil_ _, HF.out.2.1, (fun e => by rw [n2] at e; cases e), NewS.nil_ _, NewS.nil_ _⟩, HF.out.2.2⟩
  | true =>
    go_wp2_with fail
    obtain ⟨C, hC⟩ : ∃ C, C = w1.heap.size := ⟨_, rfl⟩
    rw [← hC]
    have RC : Hid (R ≠ C) := Lib.hid (by have := B0.out.lt; omega)
    have PL := pl1 w1 (.cells #[.int .i64 d, .slice AT nT cT, .slice AV nV cV, .int .i64 tg, .bool gn] 35)
    have C0 : Hid (Bx (w1.alloc (.cells #[.int .i64 d, .slice AT nT cT, .slice AV nV cV, .int .i64 tg, .bool gn] 35)) C #[.int .i64 d, .slice AT nT cT, .slice AV nV cV, .int .i64 tg, .bool gn]) := Lib.hid (by
      subst hC
      exact heap_alloc_new w1 _)
    have B0 := Lib.hid (B0.out.later PL)
    have B2 := Lib.hid (B2.out.later PL)
    have B3 := Lib.hid (only_below B3.out PL)
    have HPT := Lib.hid (HPT.out.later PL)
    have HIV := Lib.hid (HIV.out.later PL)
    clear PL e0 e1 e2 e3 e4 k0 k1 k2 k3 k4 hRl hC
    generalize (w1.alloc (.cells #[.int .i64 d, .slice AT nT cT, .slice AV nV cV, .int .i64 tg, .bool gn] 35)) = w2 at C0 B0 B2 B3 HPT HIV ⊢
    have e0 := B0.out.at_ 0 rfl
    have e1 := B0.out.at_ 1 rfl
    have e2 := B0.out.at_ 2 rfl
    have e3 := B0.out.at_ 3 rfl
    have e4 := B0.out.at_ 4 rfl
    have k0 := B0.out.free 0
    have k1 := B0.out.free 1
    have k2 := B0.out.free 2
    have k3 := B0.out.free 3
    have k4 := B0.out.free 4
    have c0 := C0.out.at_ 0 rfl
    have c1 := C0.out.at_ 1 rfl
    have c2 := C0.out.at_ 2 rfl
    have c3 := C0.out.at_ 3 rfl
    have c4 := C0.out.at_ 4 rfl
    refine (rbad_any _ b s' bad' B2.out).mono ?_
    rintro e w2 ⟨rfl, rfl⟩
    cases bad' with
    | true =>
      have HN : Hid (rdC s = none) := Lib.hid (by unfold rdC; rw [HRAW.out]; rfl)
      have F0 := bx_fill2 B0.out RB.out w HRw.out B2.out B3.out (.int .i64 0) (.slice none 0 0) (.slice none 0 0) (.int .i64 0) (.bool false)
      have HF := Lib.hid (show _ ∧ _ ∧ _ from ⟨F0.1, F0.2.1, F0.2.2.1⟩)
      clear F0
      go_wp2
      generalize (((((w2.setCell ⟨R, 0, none⟩ (.int .i64 0)).setCell ⟨R, 1, none⟩ (.slice none 0 0)).setCell ⟨R, 2, none⟩ (.slice none 0 0)).setCell ⟨R, 3, none⟩ (.int .i64 0)).setCell ⟨R, 4, none⟩ (.bool false)) = WZ at HF ⊢
      have z0 := HF.out.1.at_ 0 rfl
      have z1 := HF.out.1.at_ 1 rfl
      have z2 := HF.out.1.at_ 2 rfl
      have z3 := HF.out.1.at_ 3 rfl
      have z4 := HF.out.1.at_ 4 rfl
      obtain ⟨n1, n2, n3⟩ := rd_none HN.out
      exact bodyPost_ret (v := .tuple #[chV ch0 (.slice none 0 0) (.slice none 0 0), .bool false]) (by simp [results, Tryz.results93, go_sem, z0, z1, z2, z3, z4, chV, ch0]) rfl ⟨⟨_, _, _, _, by rw [n1, n2], by rw [n1]; exact prd_nil _, by rw [n1]; exact Vrd.nil_ _, HF.out.2.1, (fun e => by rw [n2] at e; cases e), NewS.nil_ _, NewS.nil_ _⟩, HF.out.2.2⟩
    | false =>
      have hr : rawC s = some (c, s') := by rw [HRAW.out]; rfl
      have hlen : nT ≤ 1000000000 := by have := (raw_here hr).2.1; have := HNT.out; omega
      have HR := Lib.hid hr
      clear hr HRAW
      go_wp2_with fail
      refine (RR.out _ HPT.out HIV.out hlen).mono ?_
      rintro e w3 ⟨rfl, hb⟩
      obtain ⟨rc, hrc⟩ : ∃ x, x = rightC c := ⟨_, rfl⟩
      rw [← hrc]
      have HRC := Lib.hid hrc
      have C0 := Lib.hid (C0.out.later hb)
      have B0 := Lib.hid (B0.out.later hb)
      have B2 := Lib.hid (B2.out.later hb)
      have B3 := Lib.hid (only_below B3.out hb)
      have HPT := Lib.hid (HPT.out.later hb)
      have HIV := Lib.hid (HIV.out.later hb)
      clear hb e0 e1 e2 e3 e4 k0 k1 k2 k3 k4 c0 c1 c2 c3 c4 hrc RR
      have e0 := B0.out.at_ 0 rfl
      have e1 := B0.out.at_ 1 rfl
      have e2 := B0.out.at_ 2 rfl
      have e3 := B0.out.at_ 3 rfl
      have e4 := B0.out.at_ 4 rfl
      have k0 := B0.out.free 0
      have k1 := B0.out.free 1
      have k2 := B0.out.free 2
      have k3 := B0.out.free 3
      have k4 := B0.out.free 4
      have c0 := C0.out.at_ 0 rfl
      have c1 := C0.out.at_ 1 rfl
      have c2 := C0.out.at_ 2 rfl
      have c3 := C0.out.at_ 3 rfl
      have c4 := C0.out.at_ 4 rfl
      by_cases hz : rc = 0
      · have hz2 : (rc != 0) = false := by subst hz; rfl
        have HY : Hid (rdC s = some (c, s')) := Lib.hid (by
          unfold rdC
          rw [HR.out]
          simp only [Option.bind_some]
          rw [if_pos (by rw [← HRC.out]; exact hz)])
        have F0 := bx_fill2 B0.out RB.out w HRw.out B2.out B3.out (.int .i64 d) (.slice AT nT cT) (.slice AV nV cV) (.int .i64 tg) (.bool gn)
        have HF := Lib.hid F0
        have hRC := RC.out
        clear F0
        go_wp2
        have HS : Hid (w3.heap.size ≤ (((((w3.setCell ⟨R, 0, none⟩ (.int .i64 d)).setCell ⟨R, 1, none⟩ (.slice AT nT cT)).setCell ⟨R, 2, none⟩ (.slice AV nV cV)).setCell ⟨R, 3, none⟩ (.int .i64 tg)).setCell ⟨R, 4, none⟩ (.bool gn)).heap.size) := Lib.hid (by simp)
        generalize (((((w3.setCell ⟨R, 0, none⟩ (.int .i64 d)).setCell ⟨R, 1, none⟩ (.slice AT nT cT)).setCell ⟨R, 2, none⟩ (.slice AV nV cV)).setCell ⟨R, 3, none⟩ (.int .i64 tg)).setCell ⟨R, 4, none⟩ (.bool gn)) = WZ at HF HS ⊢
        have z0 := HF.out.1.at_ 0 rfl
        have z1 := HF.out.1.at_ 1 rfl
        have z2 := HF.out.1.at_ 2 rfl
        have z3 := HF.out.1.at_ 3 rfl
        have z4 := HF.out.1.at_ 4 rfl
        obtain ⟨n1, n2, n3⟩ := rd_some HY.out
        have HP : Pairs WZ AT nT c.ts := ⟨HPT.out.1, fun k hk => by
          obtain ⟨g, o, e, hg, q0, q1⟩ := HPT.out.2 k hk
          have hne : g ≠ R := FAR.out.1 _ e
          have hk' := HF.out.2.2.2 g hne
          exact ⟨g, o, e, Nat.lt_of_lt_of_le hg HS.out, (World.cell?_of_block (a := ⟨g, _, none⟩) hk').trans q0, (World.cell?_of_block (a := ⟨g, _, none⟩) hk').trans q1⟩⟩
        have HQ : Ivs WZ AV nV c.v := ⟨HIV.out.1, fun k hk => by
          obtain ⟨g, o, e, hg, q0⟩ := HIV.out.2 k hk
          have hne : g ≠ R := FAR.out.2 _ e
          have hk' := HF.out.2.2.2 g hne
          exact ⟨g, o, e, Nat.lt_of_lt_of_le hg HS.out, (World.cell?_of_block (a := ⟨g, _, none⟩) hk').trans q0⟩⟩
        have e1 : chV c (.slice AT nT cT) (.slice AV nV cV) = .agg #[.int .i64 d, .slice AT nT cT, .slice AV nV cV, .int .i64 tg, .bool gn] := by
          unfold chV
          rw [← HD.out.1, ← HD.out.2.1, ← HD.out.2.2]
        refine bodyPost_ret (v := .tuple #[.agg #[.int .i64 d, .slice AT nT cT, .slice AV nV cV, .int .i64 tg, .bool gn], .bool true]) (by simp [results, Tryz.results93, go_sem, z0, z1, z2, z3, z4]) rfl ⟨⟨.slice AT nT cT, .slice AV nV cV, s', false, by rw [n1, n2, e1], ?_, ?_, HF.out.2.1, (fun _ => ⟨n3.symm, rfl⟩), NEW.out.1, NEW.out.2⟩, HF.out.2.2.1⟩
        · rw [n1]
          exact ⟨AT, cT, by rw [HNT.out], by rw [← HNT.out]; exact HAT.out.1, HAT.out.2, by rw [← HNT.out]; exact HP⟩
        · rw [n1]
          exact ⟨AV, cV, by rw [HNV.out], by rw [← HNV.out]; exact HQ⟩
      · have hz2 : (rc != 0) = true := by simpa using hz
        have HN : Hid (rdC s = none) := Lib.hid (by
          unfold rdC
          rw [HR.out]
          simp only [Option.bind_some]
          rw [if_neg (by rw [← HRC.out]; exact hz)])
        have F0 := bx_fill2 B0.out RB.out w HRw.out B2.out B3.out (.int .i64 0) (.slice none 0 0) (.slice none 0 0) (.int .i64 0) (.bool false)
        have HF := Lib.hid (show _ ∧ _ ∧ _ from ⟨F0.1, F0.2.1, F0.2.2.1⟩)
        clear F0
        go_wp2
        generalize (((((w3.setCell ⟨R, 0, none⟩ (.int .i64 0)).setCell ⟨R, 1, none⟩ (.slice none 0 0)).setCell ⟨R, 2, none⟩ (.slice none 0 0)).setCell ⟨R, 3, none⟩ (.int .i64 0)).setCell ⟨R, 4, none⟩ (.bool false)) = WZ at HF ⊢
        have z0 := HF.out.1.at_ 0 rfl
        have z1 := HF.out.1.at_ 1 rfl
        have z2 := HF.out.1.at_ 2 rfl
        have z3 := HF.out.1.at_ 3 rfl
        have z4 := HF.out.1.at_ 4 rfl
        obtain ⟨n1, n2, n3⟩ := rd_none HN.out
        exact bodyPost_ret (v := .tuple #[chV ch0 (.slice none 0 0) (.slice none 0 0), .bool false]) (by simp [results, Tryz.results93, go_sem, z0, z1, z2, z3, z4, chV, ch0]) rfl ⟨⟨_, _, _, _, by rw [n1, n2], by rw [n1]; exact prd_nil _, by rw [n1]; exact Vrd.nil_ _, HF.out.2.1, (fun e => by rw [n2] at e; cases e), NewS.nil_ _, NewS.nil_ _⟩, HF.out.2.2⟩
theorem below_rd {w w1 w2 : World} {b : Nat} (h : Below w.heap.size w w1) (hb : w.heap.size ≤ b) (hg : w1.grownBy w2 (some b)) : Below w.heap.size w w2 := h.grown hg h.size (fun j hj => by
  have e : b = j := Option.some.inj hj
  omega)
theorem pa_no {s : List UInt8} (h : paK s = false) : paV s = ch0 ∧ paC s = 2 := by unfold paV paC; rw [h]; exact ⟨rfl, rfl⟩
theorem pa_yes {s : List UInt8} (h : paK s = true) : paV s = rdV s ∧ paC s = 0 := by unfold paV paC; rw [h]; exact ⟨rfl, rfl⟩
/-- a store into a block that is new -/
theorem below_fill {n R : Nat} {w w1 : World} (h : Below n w w1) (hR : n ≤ R) (a0 a1 a2 a3 a4 : Value) : Below n w (((((w1.setCell ⟨R, 0, none⟩ a0).setCell ⟨R, 1, none⟩ a1).setCell ⟨R, 2, none⟩ a2).setCell ⟨R, 3, none⟩ a3).setCell ⟨R, 4, none⟩ a4) :=
  ((((h.setCell (by exact hR) _).setCell (by exact hR) _).setCell (by exact hR) _).setCell (by exact hR) _).setCell (by exact hR) _
set_option maxHeartbeats 8000000 in
set_option maxRecDepth 100000 in
theorem parse_any' (w : World) (s : List UInt8) (hl : s.length ≤ 100000000) :
    Calls Tryz.prog 136 #[.string (ofBytes s)] w fun e w' => (∃ T V, e = .returned (.tuple #[chV (paV s) T V, .int .i64 (paC s)]) ∧ Prd w' T (paV s).ts ∧ Vrd w' V (paV s).v ∧ NewS w.heap.size T ∧ NewS w.heap.size V) ∧ Below w.heap.size w w' := by
  have RE := Lib.hid (fun W b hW => read_any' W b s hl hW)
  go_enter Tryz.func136, Tryz.ntmps136
  go_wp2_with fail
  obtain ⟨R, hR⟩ : ∃ R, R = w.heap.size := ⟨_, rfl⟩
  rw [← hR]
  have HRw : Hid (w.heap.size ≤ R) := Lib.hid (by omega)
  have A0 : Hid (Bx (w.alloc (.cells #[.int .i64 0, .slice none 0 0, .slice none 0 0, .int .i64 0, .bool false] 35)) R #[.int .i64 0, .slice none 0 0, .slice none 0 0, .int .i64 0, .bool false]) := Lib.hid (by
    subst hR
    exact heap_alloc_new w _)
  have A3 := Lib.hid (pl1 w (.cells #[.int .i64 0, .slice none 0 0, .slice none 0 0, .int .i64 0, .bool false] 35))
  clear hR
  generalize (w.alloc (.cells #[.int .i64 0, .slice none 0 0, .slice none 0 0, .int .i64 0, .bool false] 35)) = wA at A0 A3 ⊢
  refine (rnew_any _ s hl).mono ?_
  rintro e w0 ⟨b, rfl, hbn, rd, hb⟩
  have RB : Hid (R ≠ b) := Lib.hid (by have := A0.out.lt; omega)
  have HBw : Hid (w.heap.size ≤ b) := Lib.hid (Nat.le_trans A3.out.size hbn)
  have A0 := Lib.hid (A0.out.later hb)
  have A2 := Lib.hid rd
  have A3 := Lib.hid (A3.out.trans (hb.mono A3.out.size))
  clear rd hb hbn
  go_wp2_with fail
  refine (RE.out _ _ A2.out).mono ?_
  rintro e w1 ⟨⟨T, V, s', bad', rfl, hT, hV, rd, hs', hNT, hNV⟩, gr⟩
  have HR0 : Hid (R < w0.heap.size) := Lib.hid A0.out.lt
  have HAw : Hid (w.heap.size ≤ w0.heap.size) := Lib.hid A3.out.size
  have B0 := Lib.hid (A0.out.grown gr RB.out)
  have B2 := Lib.hid rd
  have B3 := Lib.hid (below_rd A3.out HBw.out gr)
  have HS' : Hid (rdK s = true → s' = rdS s) := Lib.hid (fun e => (hs' e).1)
  obtain ⟨c, hc⟩ : ∃ c, c = rdV s := ⟨_, rfl⟩
  obtain ⟨ok, hok⟩ : ∃ c, c = rdK s := ⟨_, rfl⟩
  rw [← hc] at hT hV ⊢
  rw [← hok] at HS' ⊢
  have HCV := Lib.hid hc
  have HOK := Lib.hid hok
  obtain ⟨AT, cT, eT, hcT, hAT, hPT⟩ := hT
  obtain ⟨AV, cV, eV, hIV⟩ := hV
  obtain ⟨nT, hnT⟩ : ∃ n, n = c.ts.length := ⟨_, rfl⟩
  obtain ⟨nV, hnV⟩ : ∃ n, n = c.v.length := ⟨_, rfl⟩
  rw [← hnT] at eT hPT hcT
  rw [← hnV] at eV hIV
  subst eT
  subst eV
  have FAR : Hid ((∀ ad, AT = some ad → ad.block ≠ R) ∧ ∀ ad, AV = some ad → ad.block ≠ R) := Lib.hid ⟨fun ad e => by
      have h1 := hNT _ _ _ rfl ad e
      have h2 := HR0.out
      omega, fun ad e => by
      have h1 := hNV _ _ _ rfl ad e
      have h2 := HR0.out
      omega⟩
  have HPT := Lib.hid hPT
  have HIV := Lib.hid hIV
  have HAT := Lib.hid (show nT ≤ cT ∧ (AT = none → cT = 0) from ⟨hcT, hAT⟩)
  have HNT := Lib.hid hnT
  have HNV := Lib.hid hnV
  have NEW : Hid (NewS w.heap.size (.slice AT nT cT) ∧ NewS w.heap.size (.slice AV nV cV)) := Lib.hid ⟨fun A n cp e ad e2 => Nat.le_trans HAw.out (hNT A n cp e ad e2), fun A n cp e ad e2 => Nat.le_trans HAw.out (hNV A n cp e ad e2)⟩
  clear hNT hNV HR0 rd gr A0 A2 A3 RE hPT hIV hnT hnV hcT hAT hc hok hs'
  unfold chV
  obtain ⟨d, hd⟩ : ∃ d, d = c.doc := ⟨_, rfl⟩
  obtain ⟨tg, htg⟩ : ∃ d, d = c.tags := ⟨_, rfl⟩
  obtain ⟨gn, hgn⟩ : ∃ d, d = c.gone := ⟨_, rfl⟩
  rw [← hd, ← htg, ← hgn]
  have HD := Lib.hid (show d = c.doc ∧ tg = c.tags ∧ gn = c.gone from ⟨hd, htg, hgn⟩)
  clear hd htg hgn
  have e0 := B0.out.at_ 0 rfl
  have e1 := B0.out.at_ 1 rfl
  have e2 := B0.out.at_ 2 rfl
  have e3 := B0.out.at_ 3 rfl
  have e4 := B0.out.at_ 4 rfl
  have k0 := B0.out.free 0
  have k1 := B0.out.free 1
  have k2 := B0.out.free 2
  have k3 := B0.out.free 3
  have k4 := B0.out.free 4
  have hRl := B0.out.lt
  cases ok with
  | false =>
    have HN : Hid (paK s = false) := Lib.hid (by unfold paK; rw [← HOK.out]; rfl)
    have F0 := B0.out.fill (.int .i64 0) (.slice none 0 0) (.slice none 0 0) (.int .i64 0) (.bool false)
    have HF : Hid (Bx ((((((w1.setCell ⟨R, 0, none⟩ (.int .i64 0)).setCell ⟨R, 1, none⟩ (.slice none 0 0)).setCell ⟨R, 2, none⟩ (.slice none 0 0)).setCell ⟨R, 3, none⟩ (.int .i64 0)).setCell ⟨R, 4, none⟩ (.bool false)).alloc (.cells #[.int .i64 d, .slice AT nT cT, .slice AV nV cV, .int .i64 tg, .bool gn] 35)) R #[.int .i64 0, .slice none 0 0, .slice none 0 0, .int .i64 0, .bool false] ∧ Below w.heap.size w ((((((w1.setCell ⟨R, 0, none⟩ (.int .i64 0)).setCell ⟨R, 1, none⟩ (.slice none 0 0)).setCell ⟨R, 2, none⟩ (.slice none 0 0)).setCell ⟨R, 3, none⟩ (.int .i64 0)).setCell ⟨R, 4, none⟩ (.bool false)).alloc (.cells #[.int .i64 d, .slice AT nT cT, .slice AV nV cV, .int .i64 tg, .bool gn] 35))) := Lib.hid ⟨F0.later (pl1 _ _), by
      have h1 := below_fill B3.out HRw.out (.int .i64 0) (.slice none 0 0) (.slice none 0 0) (.int .i64 0) (.bool false)
      exact h1.trans ((pl1 _ _).mono h1.size)⟩
    clear F0
    go_wp2
    generalize ((((((w1.setCell ⟨R, 0, none⟩ (.int .i64 0)).setCell ⟨R, 1, none⟩ (.slice none 0 0)).setCell ⟨R, 2, none⟩ (.slice none 0 0)).setCell ⟨R, 3, none⟩ (.int .i64 0)).setCell ⟨R, 4, none⟩ (.bool false)).alloc (.cells #[.int .i64 d, .slice AT nT cT, .slice AV nV cV, .int .i64 tg, .bool gn] 35)) = WZ at HF ⊢
    have z0 := HF.out.1.at_ 0 rfl
    have z1 := HF.out.1.at_ 1 rfl
    have z2 := HF.out.1.at_ 2 rfl
    have z3 := HF.out.1.at_ 3 rfl
    have z4 := HF.out.1.at_ 4 rfl
    obtain ⟨n1, n2⟩ := pa_no HN.out
    exact bodyPost_ret (v := .tuple #[chV ch0 (.slice none 0 0) (.slice none 0 0), .int .i64 2]) (by simp [results, Tryz.results136, go_sem, z0, z1, z2, z3, z4, chV, ch0]) rfl ⟨⟨_, _, by rw [n1, n2], by rw [n1]; exact prd_nil _, by rw [n1]; exact Vrd.nil_ _, NewS.nil_ _, NewS.nil_ _⟩, HF.out.2⟩
  | true =>
    go_wp2_with fail
    obtain ⟨C, hC⟩ : ∃ C, C = w1.heap.size := ⟨_, rfl⟩
    rw [← hC]
    have RC : Hid (R ≠ C) := Lib.hid (by have := B0.out.lt; omega)
    have PL := pl1 w1 (.cells #[.int .i64 d, .slice AT nT cT, .slice AV nV cV, .int .i64 tg, .bool gn] 35)
    have C0 : Hid (Bx (w1.alloc (.cells #[.int .i64 d, .slice AT nT cT, .slice AV nV cV, .int .i64 tg, .bool gn] 35)) C #[.int .i64 d, .slice AT nT cT, .slice AV nV cV, .int .i64 tg, .bool gn]) := Lib.hid (by
      subst hC
      exact heap_alloc_new w1 _)
    have B0 := Lib.hid (B0.out.later PL)
    have B2 := Lib.hid (B2.out.later PL)
    have B3 := Lib.hid (B3.out.trans (PL.mono B3.out.size))
    have HPT := Lib.hid (HPT.out.later PL)
    have HIV := Lib.hid (HIV.out.later PL)
    clear PL e0 e1 e2 e3 e4 k0 k1 k2 k3 k4 hRl hC
    generalize (w1.alloc (.cells #[.int .i64 d, .slice AT nT cT, .slice AV nV cV, .int .i64 tg, .bool gn] 35)) = w2 at C0 B0 B2 B3 HPT HIV ⊢
    have e0 := B0.out.at_ 0 rfl
    have e1 := B0.out.at_ 1 rfl
    have e2 := B0.out.at_ 2 rfl
    have e3 := B0.out.at_ 3 rfl
    have e4 := B0.out.at_ 4 rfl
    have k0 := B0.out.free 0
    have k1 := B0.out.free 1
    have k2 := B0.out.free 2
    have k3 := B0.out.free 3
    have k4 := B0.out.free 4
    have c0 := C0.out.at_ 0 rfl
    have c1 := C0.out.at_ 1 rfl
    have c2 := C0.out.at_ 2 rfl
    have c3 := C0.out.at_ 3 rfl
    have c4 := C0.out.at_ 4 rfl
    refine (rleft_any _ b s' bad' B2.out).mono ?_
    rintro e w2 ⟨rfl, rfl⟩
    obtain ⟨m, hm⟩ : ∃ m, m = s'.length := ⟨_, rfl⟩
    rw [← hm]
    have HM : Hid (paK s = decide (m = 0)) := Lib.hid (by
      unfold paK
      rw [← HOK.out, ← HS'.out trivial, hm, Bool.true_and]
      exact decide_eq_decide.2 List.length_eq_zero_iff.symm)
    clear hm
    by_cases hz : m = 0
    · have hd2 : decide ((0 : Int) < (m : Int)) = false := decide_eq_false (by omega)
      have HY : Hid (paK s = true) := Lib.hid (by rw [HM.out, decide_eq_true hz])
      have F0 := B0.out.fill (.int .i64 d) (.slice AT nT cT) (.slice AV nV cV) (.int .i64 tg) (.bool gn)
      have HF : Hid (Bx (((((w2.setCell ⟨R, 0, none⟩ (.int .i64 d)).setCell ⟨R, 1, none⟩ (.slice AT nT cT)).setCell ⟨R, 2, none⟩ (.slice AV nV cV)).setCell ⟨R, 3, none⟩ (.int .i64 tg)).setCell ⟨R, 4, none⟩ (.bool gn)) R #[.int .i64 d, .slice AT nT cT, .slice AV nV cV, .int .i64 tg, .bool gn] ∧ Below w.heap.size w (((((w2.setCell ⟨R, 0, none⟩ (.int .i64 d)).setCell ⟨R, 1, none⟩ (.slice AT nT cT)).setCell ⟨R, 2, none⟩ (.slice AV nV cV)).setCell ⟨R, 3, none⟩ (.int .i64 tg)).setCell ⟨R, 4, none⟩ (.bool gn))) := Lib.hid ⟨F0, below_fill B3.out HRw.out (.int .i64 d) (.slice AT nT cT) (.slice AV nV cV) (.int .i64 tg) (.bool gn)⟩
      have HK : Hid (∀ g, g ≠ R → (((((w2.setCell ⟨R, 0, none⟩ (.int .i64 d)).setCell ⟨R, 1, none⟩ (.slice AT nT cT)).setCell ⟨R, 2, none⟩ (.slice AV nV cV)).setCell ⟨R, 3, none⟩ (.int .i64 tg)).setCell ⟨R, 4, none⟩ (.bool gn)).heap[g]? = w2.heap[g]?) := Lib.hid (fun g hg => by
        have q : ∀ (W : World) (i : Nat) (u : Value), (W.setCell ⟨R, i, none⟩ u).heap[g]? = W.heap[g]? := fun W i u => Below.heap_setCell W _ u g (fun e => hg e)
        rw [q, q, q, q, q])
      have hRC := RC.out
      clear F0
      go_wp2
      have HS : Hid (w2.heap.size ≤ (((((w2.setCell ⟨R, 0, none⟩ (.int .i64 d)).setCell ⟨R, 1, none⟩ (.slice AT nT cT)).setCell ⟨R, 2, none⟩ (.slice AV nV cV)).setCell ⟨R, 3, none⟩ (.int .i64 tg)).setCell ⟨R, 4, none⟩ (.bool gn)).heap.size) := Lib.hid (by simp)
      generalize (((((w2.setCell ⟨R, 0, none⟩ (.int .i64 d)).setCell ⟨R, 1, none⟩ (.slice AT nT cT)).setCell ⟨R, 2, none⟩ (.slice AV nV cV)).setCell ⟨R, 3, none⟩ (.int .i64 tg)).setCell ⟨R, 4, none⟩ (.bool gn)) = WZ at HF HS HK ⊢
      have z0 := HF.out.1.at_ 0 rfl
      have z1 := HF.out.1.at_ 1 rfl
      have z2 := HF.out.1.at_ 2 rfl
      have z3 := HF.out.1.at_ 3 rfl
      have z4 := HF.out.1.at_ 4 rfl
      obtain ⟨n1, n2⟩ := pa_yes HY.out
      have HP : Pairs WZ AT nT c.ts := ⟨HPT.out.1, fun k hk => by
        obtain ⟨g, o, e, hg, q0, q1⟩ := HPT.out.2 k hk
        have hk' := HK.out g (FAR.out.1 _ e)
        exact ⟨g, o, e, Nat.lt_of_lt_of_le hg HS.out, (World.cell?_of_block (a := ⟨g, _, none⟩) hk').trans q0, (World.cell?_of_block (a := ⟨g, _, none⟩) hk').trans q1⟩⟩
      have HQ : Ivs WZ AV nV c.v := ⟨HIV.out.1, fun k hk => by
        obtain ⟨g, o, e, hg, q0⟩ := HIV.out.2 k hk
        have hk' := HK.out g (FAR.out.2 _ e)
        exact ⟨g, o, e, Nat.lt_of_lt_of_le hg HS.out, (World.cell?_of_block (a := ⟨g, _, none⟩) hk').trans q0⟩⟩
      have e1 : chV c (.slice AT nT cT) (.slice AV nV cV) = .agg #[.int .i64 d, .slice AT nT cT, .slice AV nV cV, .int .i64 tg, .bool gn] := by
        unfold chV
        rw [← HD.out.1, ← HD.out.2.1, ← HD.out.2.2]
      refine bodyPost_ret (v := .tuple #[.agg #[.int .i64 d, .slice AT nT cT, .slice AV nV cV, .int .i64 tg, .bool gn], .int .i64 0]) (by simp [results, Tryz.results136, go_sem, z0, z1, z2, z3, z4]) rfl ⟨⟨.slice AT nT cT, .slice AV nV cV, by rw [n1, n2, ← HCV.out, e1], ?_, ?_, NEW.out.1, NEW.out.2⟩, HF.out.2⟩
      · rw [n1, ← HCV.out]
        exact ⟨AT, cT, by rw [HNT.out], by rw [← HNT.out]; exact HAT.out.1, HAT.out.2, by rw [← HNT.out]; exact HP⟩
      · rw [n1, ← HCV.out]
        exact ⟨AV, cV, by rw [HNV.out], by rw [← HNV.out]; exact HQ⟩
    · have hd2 : decide ((0 : Int) < (m : Int)) = true := decide_eq_true (by omega)
      have HN : Hid (paK s = false) := Lib.hid (by rw [HM.out, decide_eq_false hz])
      have F0 := B0.out.fill (.int .i64 0) (.slice none 0 0) (.slice none 0 0) (.int .i64 0) (.bool false)
      have HF : Hid (Bx (((((w2.setCell ⟨R, 0, none⟩ (.int .i64 0)).setCell ⟨R, 1, none⟩ (.slice none 0 0)).setCell ⟨R, 2, none⟩ (.slice none 0 0)).setCell ⟨R, 3, none⟩ (.int .i64 0)).setCell ⟨R, 4, none⟩ (.bool false)) R #[.int .i64 0, .slice none 0 0, .slice none 0 0, .int .i64 0, .bool false] ∧ Below w.heap.size w (((((w2.setCell ⟨R, 0, none⟩ (.int .i64 0)).setCell ⟨R, 1, none⟩ (.slice none 0 0)).setCell ⟨R, 2, none⟩ (.slice none 0 0)).setCell ⟨R, 3, none⟩ (.int .i64 0)).setCell ⟨R, 4, none⟩ (.bool false))) := Lib.hid ⟨F0, below_fill B3.out HRw.out (.int .i64 0) (.slice none 0 0) (.slice none 0 0) (.int .i64 0) (.bool false)⟩
      clear F0
      go_wp2
      generalize (((((w2.setCell ⟨R, 0, none⟩ (.int .i64 0)).setCell ⟨R, 1, none⟩ (.slice none 0 0)).setCell ⟨R, 2, none⟩ (.slice none 0 0)).setCell ⟨R, 3, none⟩ (.int .i64 0)).setCell ⟨R, 4, none⟩ (.bool false)) = WZ at HF ⊢
      have z0 := HF.out.1.at_ 0 rfl
      have z1 := HF.out.1.at_ 1 rfl
      have z2 := HF.out.1.at_ 2 rfl
      have z3 := HF.out.1.at_ 3 rfl
      have z4 := HF.out.1.at_ 4 rfl
      obtain ⟨n1, n2⟩ := pa_no HN.out
      exact bodyPost_ret (v := .tuple #[chV ch0 (.slice none 0 0) (.slice none 0 0), .int .i64 2]) (by simp [results, Tryz.results136, go_sem, z0, z1, z2, z3, z4, chV, ch0]) rfl ⟨⟨_, _, by rw [n1, n2], by rw [n1]; exact prd_nil _, by rw [n1]; exact Vrd.nil_ _, NewS.nil_ _, NewS.nil_ _⟩, HF.out.2⟩
end Go.Proofs.YtddnnhfffmhpmaaGreatDoor.Do

/- Two lists held against each other, number by number (the program's and the document's). -/
namespace Go.Proofs.YtddnnhfffmhpmaaGreatDoor.Do
open Go.RowKit Go.Proofs.YtddnnhfffmhpmaaGreatDoor DocM

set_option maxHeartbeats 4000000 in
set_option maxRecDepth 100000 in
theorem rsame_any (A1 A2 : Option Addr) (n m cp1 cp2 : Nat) (l1 l2 : List Int) (w : World) (h1 : Ivs w A1 n l1) (h2 : Ivs w A2 m l2) (hl : n ≤ 1000000) (hl2 : m ≤ 1000000) :
    Calls Tryz.prog 61 #[.slice A1 n cp1, .slice A2 m cp2] w fun e w' => e = .returned (.bool (decide (l1 = l2))) ∧ ∃ q, w' = w.drewN q := by
  have HP1 := Lib.hid h1
  have HP2 := Lib.hid h2
  have HN := Lib.hid h1.1
  have HM := Lib.hid h2.1
  by_cases hnm : n = m
  · subst hnm
    have hd : ((n : Int) != (n : Int)) = false := by simp
    clear h1 h2
    go_enter Tryz.func61, Tryz.ntmps61
    go_wp2
    go_loopw [5] (fun x wr => ∃ i : Nat, x = .int .i64 i ∧ i ≤ n ∧ l1.take i = l2.take i ∧ ∃ q, wr = w.drewN q) (fun x _ => n - (intOf x).toNat)
    case atStart => exact ⟨0, by go_num, Nat.zero_le _, rfl, 0, rfl⟩
    case round =>
      obtain ⟨i, rfl, hi, htk, q, rfl⟩ := hrel
      have HTK := Lib.hid htk
      clear htk
      by_cases hlt : i < n
      · have hd1 : decide ((i : Int) < (n : Int)) = true := decide_eq_true (by omega)
        have hd2 : decide (i < n) = true := decide_eq_true hlt
        have hi1 : i < l1.length := by rw [HN.out]; exact hlt
        have hi2 : i < l2.length := by rw [HM.out]; exact hlt
        obtain ⟨b1, o1, rfl, _, c0⟩ := HP1.out.2 i hi1
        obtain ⟨b2, o2, rfl, _, e0⟩ := HP2.out.2 i hi2
        obtain ⟨x1, hx⟩ : ∃ x, x = l1[i] := ⟨_, rfl⟩
        obtain ⟨y1, hy⟩ : ∃ y, y = l2[i] := ⟨_, rfl⟩
        rw [← hx] at c0
        rw [← hy] at e0
        have hi0 : (0 : Int) ≤ (i : Int) := by omega
        have hin : (i : Int) < (n : Int) := by omega
        by_cases hxy : x1 = y1
        · have hT : Hid (l1.take (i + 1) = l2.take (i + 1)) := Lib.hid (by rw [List.take_succ_eq_append_getElem hi1, List.take_succ_eq_append_getElem hi2, HTK.out, ← hx, ← hy, hxy])
          subst hxy
          have hb0 : (x1 != x1) = false := by simp
          clear hx hy
          go_wp2
          go_quiet (fail)
          go_wp2
          exact ⟨⟨i + 1, by go_num, by omega, hT.out, _, rfl⟩, by simp [intOf]; omega⟩
        · have hne : decide (l1 = l2) = false := decide_eq_false (fun e => hxy (by rw [hx, hy]; simp [e]))
          have HNE := Lib.hid hne
          clear hx hy hne
          have hb1 : (x1 != y1) = true := by simpa using hxy
          clear hxy
          go_wp2
          go_quiet (fail)
          go_wp2
          go_ret
          exact ⟨by rw [HNE.out]; rfl, _, World.drewN_drewN _ _ _⟩
      · have hin : i = n := by omega
        subst hin
        have hd1 : decide ((i : Int) < (i : Int)) = false := by simp
        have hd2 : decide (i < i) = false := by simp
        have heq : decide (l1 = l2) = true := decide_eq_true (by
          have := HTK.out
          rwa [List.take_of_length_le (by rw [HN.out]; exact Nat.le_refl _), List.take_of_length_le (by rw [HM.out]; exact Nat.le_refl _)] at this)
        have HE := Lib.hid heq
        clear heq
        go_wp2
        go_ret
        exact ⟨by rw [HE.out]; rfl, q, rfl⟩
  · have hd : ((n : Int) != (m : Int)) = true := by simp; omega
    have hne : decide (l1 = l2) = false := decide_eq_false (fun e => hnm (by rw [← HN.out, ← HM.out, e]))
    have HNE := Lib.hid hne
    clear h1 h2 hne
    go_enter Tryz.func61, Tryz.ntmps61
    go_wp2
    go_ret
    exact ⟨by rw [HNE.out]; rfl, 0, rfl⟩
end Go.Proofs.YtddnnhfffmhpmaaGreatDoor.Do

/- Same: two changes held against each other (the program's). -/
namespace Go.Proofs.YtddnnhfffmhpmaaGreatDoor.DocM
end Go.Proofs.YtddnnhfffmhpmaaGreatDoor.DocM
namespace Go.Proofs.YtddnnhfffmhpmaaGreatDoor.Do
open Go.RowKit Go.Proofs.YtddnnhfffmhpmaaGreatDoor DocM

end Go.Proofs.YtddnnhfffmhpmaaGreatDoor.Do
