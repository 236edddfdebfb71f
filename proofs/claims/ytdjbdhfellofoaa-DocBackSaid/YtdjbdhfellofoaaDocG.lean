
/- A change's bytes (the program's). -/
import Derived.Test.YtdjbdhfellofoaaDocF
import Derived.Deep.RegionHeld3
import Derived.Laws.Concat
namespace Go.Proofs.Ytdjbdhfellofoaa.Do
open Go.RowKit Go.Proofs.Ytdjbdhfellofoaa DocM

theorem term1_any (p : Int × Int) (w : World) : Calls Try.prog 42 #[sv p] w fun e w' => e = .returned (.int .i64 p.1) ∧ Below w.heap.size w w' := by
  obtain ⟨p1, p2⟩ := p
  unfold sv
  go_enter Try.func42, Try.ntmps42
  go_wp2
  go_ret
  exact ⟨rfl, pl1 _ _⟩
theorem term2_any (p : Int × Int) (w : World) : Calls Try.prog 43 #[sv p] w fun e w' => e = .returned (.int .i64 p.2) ∧ Below w.heap.size w w' := by
  obtain ⟨p1, p2⟩ := p
  unfold sv
  go_enter Try.func43, Try.ntmps43
  go_wp2
  go_ret
  exact ⟨rfl, pl1 _ _⟩
theorem up128_any (n : Int) (w : World) (h : -1000000 ≤ n ∧ n ≤ 1000000) : Calls Try.prog 45 #[.int .i64 n] w fun e w' => e = .returned (.int .i64 (n + 128)) ∧ Below w.heap.size w w' := by
  have hw : IntKind.i64.wrap (n + 128) = n + 128 := by rw [IntKind.wrap_i64]; omega
  obtain ⟨m, hm⟩ : ∃ m, m = n + 128 := ⟨_, rfl⟩
  rw [← hm] at hw ⊢
  rw [hm] at hw
  have hw2 : IntKind.i64.wrap (n + 128) = m := by rw [hw, hm]
  clear hw hm
  go_enter Try.func45, Try.ntmps45
  go_wp2
  go_ret
  exact ⟨rfl, Below.refl _ _⟩
theorem sure_any (s : ByteArray) (c : Value) (w : World) : Calls Try.prog 21 #[.string s, c] w fun e w' => e = .returned (.string s) ∧ w' = w := by
  go_enter Try.func21, Try.ntmps21
  go_wp2
  go_ret
  exact ⟨rfl, rfl⟩
theorem fixed16_any (A : Option Addr) (n cp : Nat) (l : List Int) (W : World) (hn : n ≤ 1000000) (hI : Ivs W A n l) (h64 : I64 l) :
    Calls Try.prog 47 #[.int .i64 16, .slice A n cp] W fun e W' => e = .returned (.tuple #[.string (ofBytes (fixS 16 l)), .int .i64 (fixC 16 l)]) ∧ Below W.heap.size W W' := fixed_any A n cp 16 l W (by omega) hn hI h64
theorem fixed8_any (A : Option Addr) (n cp : Nat) (l : List Int) (W : World) (hn : n ≤ 1000000) (hI : Ivs W A n l) (h64 : I64 l) :
    Calls Try.prog 47 #[.int .i64 8, .slice A n cp] W fun e W' => e = .returned (.tuple #[.string (ofBytes (fixS 8 l)), .int .i64 (fixC 8 l)]) ∧ Below W.heap.size W W' := fixed_any A n cp 8 l W (by omega) hn hI h64
theorem str_add {P : Program} (x y : List UInt8) (hx : x.length ≤ 1000000) (hy : y.length ≤ 1000000) (w : World) : (Op.stringOp .add (ofBytes x) (ofBytes y)).run P w = .ok (.string (ofBytes (x ++ y))) w := by
  rw [run_string_add_sum w _ _ (by rw [size_ofBytes, size_ofBytes]; omega), cat2]
theorem kC {U X w1 : World} {p : Addr} {v : Value} (hb : Below X.heap.size X w1) (h : X.cell? p = some v ∧ Below U.heap.size U X) : w1.cell? p = some v ∧ Below U.heap.size U w1 := ⟨(hb.cell (World.block_lt_of_cell? X p h.1)).trans h.1, h.2.trans (hb.mono h.2.size)⟩
theorem kA {U X : World} {p : Addr} {v : Value} {o : Obj} (h : X.cell? p = some v ∧ Below U.heap.size U X) : (X.alloc o).cell? p = some v ∧ Below U.heap.size U (X.alloc o) := kC (pl1 X o) h
theorem kD {U : World} {p : Addr} {v : Value} (h : U.cell? p = some v) : U.drew.cell? p = some v ∧ Below U.heap.size U U.drew := ⟨h, (Below.refl _ _).drew⟩
theorem ivs_new1d (w : World) (x : Int) : Ivs (w.alloc (.cells #[.int .i64 x] 3)).drew (some ⟨w.heap.size, 0, none⟩) 1 [x] := (ivs_new1 w x).later (Below.refl _ _).drew
set_option maxHeartbeats 8000000 in
set_option maxRecDepth 100000 in
theorem contents_any (c : Ch) (A A2 : Option Addr) (n cp n2 cp2 : Nat) (w : World) (h : Pairs w A n c.ts) (hv : Ivs w A2 n2 c.v) (hr : Rgt c) (hg : c.gone = false) :
    Calls Try.prog 23 #[.agg #[.int .i64 c.doc, .slice A n cp, .slice A2 n2 cp2, .int .i64 c.tags]] w fun e w' => e = .returned (.string (ofBytes (cont c))) ∧ Below w.heap.size w w' := by
  have H := Lib.hid h
  have HV := Lib.hid hv
  have HL := Lib.hid h.1
  have hvec := (DenM.vec_iff _).1 (hr.there hg)
  have hn64 : n ≤ 64 := by rw [← HL.out]; exact hr.len
  have hn8 : n2 ≤ 8 := by rw [← hv.1]; exact Nat.le_of_eq hvec.1
  have I1 : I64 (c.ts.map (fun p => p.1)) := fun v hv => by
    obtain ⟨p, hp, rfl⟩ := List.mem_map.1 hv
    have := (hr.ts p hp).1
    show -9223372036854775808 ≤ p.1 ∧ p.1 ≤ 9223372036854775807
    omega
  have I2 : I64 (c.ts.map (fun p => p.2)) := fun v hv => by
    obtain ⟨p, hp, rfl⟩ := List.mem_map.1 hv
    have := (hr.ts p hp).2
    show -9223372036854775808 ≤ p.2 ∧ p.2 ≤ 9223372036854775807
    omega
  have I3 : I64 (c.v.map (fun n => n + 128)) := fun v hv => by
    obtain ⟨p, hp, rfl⟩ := List.mem_map.1 hv
    have := hvec.2 p hp
    show -9223372036854775808 ≤ p + 128 ∧ p + 128 ≤ 9223372036854775807
    omega
  have I4 : I64 [c.tags] := fun v hv => by
    simp at hv
    subst hv
    have := hr.tags
    omega
  have HU := Lib.hid (fun p hp W => up128_any p W (by have := hvec.2 p hp; omega))
  have S1 := Lib.hid (risS_len (c.ts.map (fun p => p.1)) (by rw [List.length_map, HL.out]; omega) I1)
  have S2 := Lib.hid (fixS_len 16 (c.ts.map (fun p => p.2)) (by rw [List.length_map, HL.out]; omega))
  have S3 := Lib.hid (fixS_len 8 (c.v.map (fun n => n + 128)) (by rw [List.length_map]; omega))
  have S4 := Lib.hid (fixS_len 8 [c.tags] (by simp))
  have hcont : cont c = risS (c.ts.map (fun p => p.1)) ++ fixS 16 (c.ts.map (fun p => p.2)) ++ fixS 8 (c.v.map (fun n => n + 128)) ++ fixS 8 [c.tags] := rfl
  obtain ⟨x4, hx4⟩ : ∃ x, x = cont c := ⟨_, rfl⟩
  rw [← hx4]
  rw [← hx4] at hcont
  have a1234 := fun W => str_add (P := Try.prog) (risS (c.ts.map (fun p => p.1)) ++ fixS 16 (c.ts.map (fun p => p.2)) ++ fixS 8 (c.v.map (fun n => n + 128))) (fixS 8 [c.tags]) (by rw [List.length_append, List.length_append]; have := S1.out; have := S2.out; have := S3.out; omega) (by have := S4.out; omega) W
  simp only [← hcont] at a1234
  have A1234 := Lib.hid a1234
  have HI1 := Lib.hid I1
  have HI2 := Lib.hid I2
  have HI3 := Lib.hid I3
  have HI4 := Lib.hid I4
  clear h hv hvec hcont hx4 a1234 I1 I2 I3 I4 hr hg
  obtain ⟨d, ts, v, tags, gone⟩ := c
  simp only at *
  go_enter Try.func23, Try.ntmps23
  go_wp2_with fail
  have q1 := cell_of_cells (i := 1) (heap_alloc_new w (.cells #[.int .i64 d, .slice A n cp, .slice A2 n2 cp2, .int .i64 tags] 25)) rfl
  have q2 := cell_of_cells (i := 2) (heap_alloc_new w (.cells #[.int .i64 d, .slice A n cp, .slice A2 n2 cp2, .int .i64 tags] 25)) rfl
  have q3 := cell_of_cells (i := 3) (heap_alloc_new w (.cells #[.int .i64 d, .slice A n cp, .slice A2 n2 cp2, .int .i64 tags] 25)) rfl
  have B0 := Lib.hid (pl1 w (.cells #[.int .i64 d, .slice A n cp, .slice A2 n2 cp2, .int .i64 tags] 25))
  refine (eachterm_any A n cp ts _ (fun p => p.1) _ (H.out.later B0.out) (by omega) (fun _ _ => rfl) term1_any).mono ?_
  rintro e w1 ⟨g1, rfl, hg1, i1, hb⟩
  have hl : w.heap.size < (w.alloc (.cells #[.int .i64 d, .slice A n cp, .slice A2 n2 cp2, .int .i64 tags] 25)).heap.size := by simp
  replace q1 := (hb.cell (p := ⟨w.heap.size, 1, none⟩) hl).trans q1
  replace q2 := (hb.cell (p := ⟨w.heap.size, 2, none⟩) hl).trans q2
  replace q3 := (hb.cell (p := ⟨w.heap.size, 3, none⟩) hl).trans q3
  have B1 := Lib.hid (B0.out.trans (hb.mono B0.out.size))
  have J1 := Lib.hid i1
  clear hb hl i1
  go_wp2_with fail
  refine (eachterm_any A n cp ts _ (fun p => p.2) _ (H.out.later B1.out) (by omega) (fun _ _ => rfl) term2_any).mono ?_
  rintro e w2 ⟨g2, rfl, hg2, i2, hb⟩
  have hl := World.block_lt_of_cell? w1 _ q1
  replace q1 := (hb.cell (p := ⟨w.heap.size, 1, none⟩) hl).trans q1
  replace q2 := (hb.cell (p := ⟨w.heap.size, 2, none⟩) hl).trans q2
  replace q3 := (hb.cell (p := ⟨w.heap.size, 3, none⟩) hl).trans q3
  have B2 := Lib.hid (B1.out.trans (hb.mono B1.out.size))
  have J1 := Lib.hid (J1.out.later hb)
  have J2 := Lib.hid i2
  clear hb hl i2
  go_wp2_with fail
  refine (eachint_any A2 n2 cp2 v _ (fun n => n + 128) _ (HV.out.later B2.out) (by omega) (fun _ _ => rfl) HU.out).mono ?_
  rintro e w3 ⟨g3, rfl, hg3, i3, hb⟩
  have hl := World.block_lt_of_cell? w2 _ q1
  replace q3 := (hb.cell (p := ⟨w.heap.size, 3, none⟩) hl).trans q3
  have B3 := Lib.hid (B2.out.trans (hb.mono B2.out.size))
  have J1 := Lib.hid (J1.out.later hb)
  have J2 := Lib.hid (J2.out.later hb)
  have J3 := Lib.hid i3
  clear hb hl i3 q1 q2
  generalize ts.map (fun p => p.1) = L1 at J1 S1 HI1 A1234
  generalize ts.map (fun p => p.2) = L2 at J2 S2 HI2 A1234
  generalize v.map (fun n => n + 128) = L3 at J3 S3 HI3 A1234
  have R1 := Lib.hid (fun W (hS : W.cell? ⟨w.heap.size, 3, none⟩ = some (.int .i64 tags) ∧ Below w3.heap.size w3 W) => rising_any (some ⟨g1, 0, none⟩) n n L1 W (by omega) (J1.out.later hS.2) HI1.out)
  have R2 := Lib.hid (fun W (hS : W.cell? ⟨w.heap.size, 3, none⟩ = some (.int .i64 tags) ∧ Below w3.heap.size w3 W) => fixed16_any (some ⟨g2, 0, none⟩) n n L2 W (by omega) (J2.out.later hS.2) HI2.out)
  have R3 := Lib.hid (fun W (hS : W.cell? ⟨w.heap.size, 3, none⟩ = some (.int .i64 tags) ∧ Below w3.heap.size w3 W) => fixed8_any (some ⟨g3, 0, none⟩) n2 n2 L3 W (by omega) (J3.out.later hS.2) HI3.out)
  have R4 := Lib.hid (fun k W (hW : Ivs W (some ⟨k, 0, none⟩) 1 [tags]) => fixed8_any (some ⟨k, 0, none⟩) 1 1 [tags] W (by omega) hW HI4.out)
  generalize risS L1 = s1 at R1 S1 A1234
  generalize fixS 16 L2 = s2 at R2 S2 A1234
  generalize fixS 8 L3 = s3 at R3 S3 A1234
  generalize fixS 8 [tags] = s4 at R4 S4 A1234
  generalize risC L1 = k1 at R1
  generalize fixC 16 L2 = k2 at R2
  generalize fixC 8 L3 = k3 at R3
  generalize fixC 8 [tags] = k4 at R4
  clear HI1 HI2 HI3 HI4 J1 J2 J3 H HV HL HU
  have a12 := fun W => str_add (P := Try.prog) s1 s2 (by have := S1.out; omega) (by have := S2.out; omega) W
  have a123 := fun W => str_add (P := Try.prog) (s1 ++ s2) s3 (by rw [List.length_append]; have := S1.out; have := S2.out; omega) (by have := S3.out; omega) W
  have a1234 := A1234.out
  clear A1234
  generalize s1 ++ s2 = x2 at a12 a123 a1234
  generalize x2 ++ s3 = x3 at a123 a1234
  clear S1 S2 S3 S4 hg1 hg2 hg3 B0 B1 B2
  go_wp2
  go_region_held3 (fun w' => w'.cell? ⟨w.heap.size, 3, none⟩ = some (.int .i64 tags) ∧ Below w3.heap.size w3 w')
    ((first | exact kC hb (by assumption) | exact kA (by assumption) | exact kD q3 | go_keep))
    (first
      | (go_at_call 21; ((with_reducible refine (sure_any _ _ _).mono ?_); rintro e ws ⟨rfl, rfl⟩))
      | (go_at_call 46; ((with_reducible refine (R1.out _ (by assumption)).mono ?_); rintro e wa ⟨rfl, hb⟩))
      | (go_at_call 47; first
          | ((with_reducible refine (R2.out _ (by assumption)).mono ?_); rintro e wb ⟨rfl, hb⟩)
          | ((with_reducible refine (R3.out _ (by assumption)).mono ?_); rintro e wc ⟨rfl, hb⟩)
          | ((with_reducible refine (R4.out _ _ ?_).mono ?_); (first | exact (ivs_new1 _ _) | exact (ivs_new1 _ _).later hb | exact ((ivs_new1 _ _).later (by assumption)).later hb | exact (((ivs_new1 _ _).later (by assumption)).later (by assumption)).later hb | exact (ivs_new1d _ _) | exact (ivs_new1d _ _).later hb | exact ((ivs_new1d _ _).later (by assumption)).later hb | exact (((ivs_new1d _ _).later (by assumption)).later (by assumption)).later hb); rintro e wd ⟨rfl, hb⟩)))
  all_goals
    have hz : ws.cell? ⟨w.heap.size, 3, none⟩ = some (.int .i64 tags) ∧ Below w3.heap.size w3 ws := by assumption
    have hZ := Lib.hid (B3.out.trans (hz.2.mono B3.out.size))
    clear hz hb
    go_wp2
    go_ret
    exact ⟨rfl, hZ.out⟩
end Go.Proofs.Ytdjbdhfellofoaa.Do
