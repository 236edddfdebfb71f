
/- A change's bytes (the document's). -/
import Derived.Test.YtdjbdhfellofoaaDocO
import Derived.Test.YtdjbdhfellofoaaPackH
import Derived.Deep.AppendLies
namespace Go.Proofs.Ytdjbdhfellofoaa.DocM
open Go.Proofs.Ytdjbdhfellofoaa
theorem fix_tag {t : Int} (h : 0 ≤ t ∧ t ≤ 255) : fixS 8 [t] = [UInt8.ofNat t.toNat] := by
  have := fix_of (w := 8) (by omega) (l := [t]) (fun v hv => by
    simp at hv
    subst hv
    omega)
  refine this.trans ?_
  show PackM.fixB 8 [t.toNat] = _
  exact PackM.fixB_one _ (by omega)
theorem tms_more (l : List (Int × Int)) (k : Nat) (h : k < l.length) : (tms l).take (k + 1) = (tms l).take k ++ [l[k].1] := by
  unfold tms
  rw [List.take_succ_eq_append_getElem (by rw [List.length_map]; exact h)]
  simp
theorem wts_more (l : List (Int × Int)) (k : Nat) (h : k < l.length) : (wts l).take (k + 1) = (wts l).take k ++ [l[k].2] := by
  unfold wts
  rw [List.take_succ_eq_append_getElem (by rw [List.length_map]; exact h)]
  simp
theorem up_more (l : List Int) (k : Nat) (h : k < l.length) : (l.map (· + 128)).take (k + 1) = (l.map (· + 128)).take k ++ [l[k] + 128] := by
  rw [List.take_succ_eq_append_getElem (by rw [List.length_map]; exact h)]
  simp
theorem tms_64 {c : Ch} (h : Rgt c) : I64 (tms c.ts) := fun v hv => by
  unfold tms at hv
  obtain ⟨p, hp, rfl⟩ := List.mem_map.1 hv
  have := (h.ts p hp).1
  omega
theorem wts_64 {c : Ch} (h : Rgt c) : I64 (wts c.ts) := fun v hv => by
  unfold wts at hv
  obtain ⟨p, hp, rfl⟩ := List.mem_map.1 hv
  have := (h.ts p hp).2
  omega
theorem up_64 {l : List Int} (h : ∀ n ∈ l, -127 ≤ n ∧ n ≤ 127) : I64 (l.map (· + 128)) := fun v hv => by
  obtain ⟨p, hp, rfl⟩ := List.mem_map.1 hv
  have := h p hp
  show -9223372036854775808 ≤ p + 128 ∧ p + 128 ≤ 9223372036854775807
  omega
end Go.Proofs.Ytdjbdhfellofoaa.DocM
namespace Go.Proofs.Ytdjbdhfellofoaa.Do
open Go.RowKit Go.Proofs.Ytdjbdhfellofoaa DocM

/-- two rows of one's own, apart -/
structure Twin (w : World) (base : Nat) (v1 : Value) (l1 : List Int) (v2 : Value) (l2 : List Int) : Prop where
  a : IntRow w base v1 l1
  b : IntRow w base v2 l2
  ne : ∀ g, v1.ownBlock = some g → v2.ownBlock ≠ some g
theorem Twin.symm {w : World} {base : Nat} {v1 v2 : Value} {l1 l2 : List Int} (h : Twin w base v1 l1 v2 l2) : Twin w base v2 l2 v1 l1 := ⟨h.b, h.a, fun g h2 h1 => h.ne g h1 h2⟩
theorem introw_alloc {w : World} {base : Nat} {v : Value} {l : List Int} (h : IntRow w base v l) (o : Obj) : IntRow (w.alloc o) base v l := World.ownsRow.alloc h o
theorem Twin.alloc {w : World} {base : Nat} {v1 v2 : Value} {l1 l2 : List Int} (h : Twin w base v1 l1 v2 l2) (o : Obj) : Twin (w.alloc o) base v1 l1 v2 l2 := ⟨introw_alloc h.a o, introw_alloc h.b o, h.ne⟩
theorem Twin.nil_ (w : World) (base : Nat) : Twin w base (.slice none 0 0) [] (.slice none 0 0) [] := ⟨IntRow.nil_ _ _, IntRow.nil_ _ _, fun g h => by simp [Value.ownBlock] at h⟩
theorem wpList_append_twin {w : World} {ops : Array Oper} {rest : List Oper} {o : Oper} {a : Act} {Q : Exit → Act → World → Prop} (hgd : o.guard = none) (s x : Operand)
    (ho : o.op = .call { callee := .builtin .append, args := #[s, x], argTypes := #[23, 23] })
    (base : Nat) (v1 : Value) (l1 : List Int) (v2 : Value) (l2 : List Int) (hs : a.eval s = v1) (hT : Twin w base v1 l1 v2 l2)
    (g c : Nat) (b : Int) (hx : a.eval x = .slice (some ⟨g, 0, none⟩) 1 c) (hc : w.cell? ⟨g, 0, none⟩ = some (.int .i64 b)) (hbase : base ≤ w.heap.size) (hn : l1.length ≤ 1000000000)
    (h : ∀ v' w', Twin w' base v' (l1 ++ [b]) v2 l2 → Below base w w' → wpList Try.prog ops Q rest (a.put o.dst v') w') : wpList Try.prog ops Q (o :: rest) a w := by
  obtain ⟨i0, hi, hz0, hz1, hz2⟩ := info_parts int_info
  refine wpList_append_lies w hgd s x 23 ho base 3 i0 _ 1 8 Try.underlying23 hi hz0 hz1 hz2 rfl (by omega) _ _ _ hs hT.a ⟨g, 0, none⟩ 1 c [.int .i64 b] hx rfl (fun j u hu => ?_) (fun u hu => ?_) (by omega) (by simp [maxLen]; omega) (by omega) hbase _ rfl ?_
  · match j, hu with
    | 0, hu => simp at hu; subst hu; rw [add_none]; exact hc
  · simp at hu; subst hu; rfl
  · intro g' cap w' hown' hg' hat hlt
    have hb : Below base w w' := (Below.refl _ _).grown hg' hbase (fun k hk => (World.ownsRow.lt hT.a k hk).1)
    refine h _ w' ⟨?_, World.ownsRow.kept hT.b hg' ?_, fun k hk h2 => ?_⟩ hb
    · unfold IntRow
      rw [List.length_append, List.map_append]
      exact hown'
    · cases e : v2.ownBlock with
      | none => exact .inl rfl
      | some k => exact .inr (fun e1 => hT.ne k e1.symm e)
    · have e1 : g' = k := by simpa [Value.ownBlock] using hk
      subst e1
      rcases hat with h1 | h1
      · exact hT.ne _ h1 h2
      · have := (World.ownsRow.lt hT.b _ h2).2
        omega
theorem wrap_u8 (b : UInt8) : IntKind.u8.wrap (b.toNat : Int) = (b.toNat : Int) := by
  have := b.toNat_lt
  rw [IntKind.wrap_u8]
  omega
theorem reffixed16_any (A : Option Addr) (n cp : Nat) (l : List Int) (W : World) (hn : n ≤ 1000000) (hI : Ints W A n l) (h64 : I64 l) :
    Calls Try.prog 26 #[.int .i64 16, .slice A n cp] W fun e W' => e = .returned (.tuple #[.string (ofBytes (fixS 16 l)), .int .i64 (fixC 16 l)]) ∧ Below W.heap.size W W' := reffixed_any A n cp 16 l W (by omega) hn hI h64
theorem reffixed8_any (A : Option Addr) (n cp : Nat) (l : List Int) (W : World) (hn : n ≤ 1000000) (hI : Ints W A n l) (h64 : I64 l) :
    Calls Try.prog 26 #[.int .i64 8, .slice A n cp] W fun e W' => e = .returned (.tuple #[.string (ofBytes (fixS 8 l)), .int .i64 (fixC 8 l)]) ∧ Below W.heap.size W W' := reffixed_any A n cp 8 l W (by omega) hn hI h64
set_option maxHeartbeats 8000000 in
set_option maxRecDepth 100000 in
theorem refprint10_any (c : Ch) (A A2 : Option Addr) (n cp n2 cp2 : Nat) (w : World) (h : Pairs w A n c.ts) (hv : Ivs w A2 n2 c.v) (hn : n ≤ 1000000) (hn2 : n2 ≤ 1000000) :
    Calls Try.prog 8 #[chV c (.slice A n cp) (.slice A2 n2 cp2)] w fun e w' => e = .returned (prA c) ∧ Below w.heap.size w w' := by
  have H := Lib.hid h
  have HV := Lib.hid hv
  have HL := Lib.hid h.1
  have HL2 := Lib.hid hv.1
  have HR := Lib.hid (fun W (hW : Below w.heap.size w W) => refright10_any c A A2 n cp n2 cp2 W (H.out.later hW) (HV.out.later hW) hn hn2)
  clear h hv
  unfold prA
  obtain ⟨rc, hrc⟩ : ∃ x, x = rightC c := ⟨_, rfl⟩
  rw [← hrc] at HR ⊢
  obtain ⟨pa, hpa⟩ : ∃ x, x = if rc = 0 then prB c else [] := ⟨_, rfl⟩
  rw [← hpa]
  have HPA := Lib.hid hpa
  have HRC := Lib.hid hrc
  clear hrc hpa
  unfold chV at HR ⊢
  obtain ⟨d, ts, v, tags, gone⟩ := c
  simp only at H HV HL HL2 HR ⊢
  have B0 := Lib.hid (pl1 w (.cells #[.int .i64 d, .slice A n cp, .slice A2 n2 cp2, .int .i64 tags, .bool gone] 36))
  have HQ := Lib.hid (box5 w 36 (.int .i64 d) (.slice A n cp) (.slice A2 n2 cp2) (.int .i64 tags) (.bool gone))
  go_enter Try.func8, Try.ntmps8
  go_wp2_with fail
  refine (HR.out _ B0.out).mono ?_
  rintro e w1 ⟨rfl, hb⟩
  obtain ⟨B, hB⟩ : ∃ B, B = w.heap.size := ⟨_, rfl⟩
  rw [← hB] at HQ ⊢
  generalize w.alloc (.cells #[.int .i64 d, .slice A n cp, .slice A2 n2 cp2, .int .i64 tags, .bool gone] 36) = W0 at HQ B0 hb
  have HQ := Lib.hid (fun W (hW : Below w1.heap.size w1 W) => HQ.out W (hb.trans (hW.mono hb.size)))
  have HB1 := Lib.hid (B0.out.trans (hb.mono B0.out.size))
  obtain ⟨q0, q1, q2, q3, q4⟩ := HQ.out w1 (Below.refl _ _)
  clear hb hB HR B0
  by_cases hz : rc = 0
  · subst hz
    have g := rgt_of HRC.out.symm
    have hd := g.doc
    have htg := g.tags
    simp only at hd htg
    have HVAR := Lib.hid (fun W => refvarint_any d W (by omega) (by omega))
    have HVL := Lib.hid (varB_len d (by omega))
    obtain ⟨s0, hs0⟩ : ∃ s, s = varB d := ⟨_, rfl⟩
    rw [← hs0] at HVAR HVL
    have HS0 := Lib.hid hs0
    have G := Lib.hid g
    clear hs0 g
    go_wp2_with fail
    refine (HVAR.out _).mono ?_
    rintro e w2 ⟨rfl, hb⟩
    have HQ := Lib.hid (fun W (hW : Below w2.heap.size w2 W) => HQ.out W (hb.trans (hW.mono hb.size)))
    have HB2 := Lib.hid (HB1.out.trans (hb.mono HB1.out.size))
    clear hb q0 q1 q2 q3 q4 HVAR
    obtain ⟨q0, q1, q2, q3, q4⟩ := HQ.out w2 (Below.refl _ _)
    cases gone with
    | true =>
      have HP : Hid (prB ⟨d, ts, v, tags, true⟩ = s0 ++ [1]) := Lib.hid (by unfold prB; rw [if_pos rfl, var_one, HS0.out])
      have a1 := fun W => str_add (P := Try.prog) s0 [1] (by have := HVL.out; omega) (by simp) W
      rw [← HP.out] at a1
      obtain ⟨x, hx⟩ : ∃ x, x = prB ⟨d, ts, v, tags, true⟩ := ⟨_, rfl⟩
      rw [← hx] at a1
      have HPX : Hid (pa = x) := Lib.hid (by rw [HPA.out, if_pos trivial, hx])
      have hcv : (convert 62 9 (.slice (some ⟨w2.heap.size, 0, none⟩) 1 1)).run Try.prog (w2.alloc (.cells #[.int .u8 1] 5)) = .ok (.string (ofBytes [1])) (w2.alloc (.cells #[.int .u8 1] 5)) := conv1 w2 1
      have HBZ := Lib.hid (HB2.out.trans ((pl1 w2 (.cells #[.int .u8 1] 5)).mono HB2.out.size))
      clear hx
      go_wp2
      go_ret2
      exact ⟨by rw [HPX.out]; rfl, HBZ.out⟩
    | false =>
      have hvec := (DenM.vec_iff _).1 (G.out.there rfl)
      simp only at hvec
      have I1 := Lib.hid (tms_64 G.out)
      have I2 := Lib.hid (wts_64 G.out)
      have I3 := Lib.hid (up_64 hvec.2)
      have hlen := G.out.len
      simp only at I1 I2 I3 hlen
      have hn64 : n ≤ 64 := by rw [← HL.out]; exact hlen
      have hn8 : n2 ≤ 8 := by rw [← HL2.out]; exact Nat.le_of_eq hvec.1
      have HVR := Lib.hid hvec.2
      have HP : Hid (prB ⟨d, ts, v, tags, false⟩ = s0 ++ [0] ++ risS (tms ts) ++ fixS 16 (wts ts) ++ fixS 8 (v.map (· + 128)) ++ [UInt8.ofNat tags.toNat]) := Lib.hid (by
        unfold prB cont
        rw [if_neg (by simp), var_nought, HS0.out, fix_tag htg]
        simp only [List.append_assoc])
      clear hvec hlen
      have LT : Hid ((tms ts).length = n ∧ (wts ts).length = n ∧ (v.map (· + 128)).length = n2) := Lib.hid ⟨by rw [tms_len, HL.out], by rw [wts_len, HL.out], by rw [List.length_map, HL2.out]⟩
      go_wp2
      clear q0 q1 q2 q3 q4
      go_loopw [7, 8, 10] (fun x7 x8 x10 wr => ∃ k : Nat, k ≤ n ∧ x10 = .int .i64 k ∧ Twin wr w2.heap.size x7 ((tms ts).take k) x8 ((wts ts).take k) ∧ Below w2.heap.size w2 wr) (fun _ _ x _ => n - (intOf x).toNat)
      case atStart => exact ⟨0, Nat.zero_le _, by go_num, Twin.nil_ _ _, Below.refl _ _⟩
      case round =>
        obtain ⟨k, hk, rfl, hT, hb⟩ := hrel
        obtain ⟨q0, q1, q2, q3, q4⟩ := HQ.out wr hb
        by_cases hkn : k < n
        · have hkl : k < ts.length := by rw [HL.out]; exact hkn
          have hw := H.out.later (HB2.out.trans (hb.mono HB2.out.size))
          obtain ⟨b, o, rfl, hbw, c0, c1⟩ := hw.2 k hkl
          have m1 := tms_more ts k hkl
          have m2 := DocM.wts_more ts k hkl
          obtain ⟨⟨p1, p2⟩, hp⟩ : ∃ p, p = ts[k] := ⟨_, rfl⟩
          rw [← hp] at c0 c1 m1 m2
          simp only at c0 c1 m1 m2
          have M1 := Lib.hid m1
          have M2 := Lib.hid m2
          have HP2 : Hid (ts[k].2 = p2) := Lib.hid (by rw [← hp])
          have l1 : ((tms ts).take k).length ≤ 1000000000 := by rw [List.length_take]; omega
          have l2 : ((wts ts).take k).length ≤ 1000000000 := by rw [List.length_take]; omega
          obtain ⟨D, hD⟩ : ∃ D, D = (tms ts).take k := ⟨_, rfl⟩
          obtain ⟨E, hE⟩ : ∃ E, E = (wts ts).take k := ⟨_, rfl⟩
          rw [← hD] at hT l1 M1
          rw [← hE] at hT l2 M2
          have r1 : (0 : Int) ≤ (k : Int) := by omega
          have r2 : (k : Int) < (n : Int) := by omega
          have r3 : decide ((k : Int) < (n : Int)) = true := decide_eq_true r2
          have r4 : decide (k < n) = true := decide_eq_true hkn
          have hBs := hb.size
          have HB := Lib.hid hb
          have HT := Lib.hid hT
          have HBP := Lib.hid (show Below w2.heap.size wr (wr.alloc (.cells #[.int .i64 p1] 3)) from (Below.refl _ wr).alloc hBs _)
          clear m1 m2 hp hD hE hb hT hw
          go_upto_region 12 with (at_builtin; refine wpList_append_twin rfl _ _ rfl w2.heap.size _ D _ E rfl (HT.out.alloc _) _ _ p1 rfl (by go_simp) (by simp; omega) l1 ?_; intro v1 W1 hT1 hb1; have HB1 := Lib.hid ((HB.out.trans HBP.out).trans hb1); have HBQ := Lib.hid (HBP.out.trans hb1))
          obtain ⟨q0', q1', q2', q3', q4'⟩ := HQ.out W1 HB1.out
          obtain ⟨b', o', e, _, _, c1'⟩ := (H.out.later (HB2.out.trans (HB1.out.mono HB2.out.size))).2 k hkl
          injection e with e
          injection e with e6 e7 _
          subst e6; subst e7
          have hp2 : ts[k].2 = p2 := HP2.out
          rw [hp2] at c1'
          have HT1 := Lib.hid hT1
          have hBs1 := HB1.out.size
          have HBP2 := Lib.hid (show Below w2.heap.size W1 (W1.alloc (.cells #[.int .i64 p2] 3)) from (Below.refl _ W1).alloc hBs1 _)
          clear hT1 hb1 c0 c1 q0 q1 q2 q3 q4 hp2
          go_wp2_with (at_builtin; refine wpList_append_twin rfl _ _ rfl w2.heap.size _ E _ (D ++ [p1]) rfl (HT1.out.symm.alloc _) _ _ p2 rfl (by go_simp) (by simp; omega) l2 ?_; intro v2 W2 hT2 hb2)
          have HZ : Hid (Twin W2 w2.heap.size v1 ((tms ts).take (k + 1)) v2 ((wts ts).take (k + 1)) ∧ Below w2.heap.size w2 W2) := Lib.hid ⟨by rw [M1.out, M2.out]; exact hT2.symm, (HB1.out.trans HBP2.out).trans hb2⟩
          clear hT2 hb2
          go_wp2
          go_roundw
          case rel => exact ⟨k + 1, by omega, by go_num, HZ.out.1, HZ.out.2⟩
          case measure => simp [intOf]; omega
        · obtain rfl : k = n := by omega
          have r3 : decide ((k : Int) < (k : Int)) = false := by simp
          have r4 : decide (k < k) = false := by simp
          rw [List.take_of_length_le (by rw [LT.out.1]; exact Nat.le_refl _), List.take_of_length_le (by rw [LT.out.2.1]; exact Nat.le_refl _)] at hT
          obtain ⟨A7, c7, rfl, j7⟩ := hT.a.ints
          obtain ⟨A8, c8, rfl, j8⟩ := hT.b.ints
          rw [LT.out.1] at j7 ⊢
          rw [LT.out.2.1] at j8 ⊢
          have J7 := Lib.hid j7
          have J8 := Lib.hid j8
          have HQ3 := Lib.hid (fun W (hW : Below wr.heap.size wr W) => HQ.out W (hb.trans (hW.mono hb.size)))
          have HB3 := Lib.hid (HB2.out.trans (hb.mono HB2.out.size))
          clear hT j7 j8 hb HQ
          go_wp2
          clear q0 q1 q2 q3 q4
          generalize wr = w3 at J7 J8 HQ3 HB3 ⊢
          go_loopw [9, 11] (fun x9 x11 wr => ∃ k : Nat, k ≤ n2 ∧ x11 = .int .i64 k ∧ IntRow wr w3.heap.size x9 ((v.map (· + 128)).take k) ∧ Below w3.heap.size w3 wr) (fun _ x _ => n2 - (intOf x).toNat)
          case atStart => exact ⟨0, Nat.zero_le _, by go_num, IntRow.nil_ _ _, Below.refl _ _⟩
          case round =>
            obtain ⟨m, hm, rfl, hT, hb⟩ := hrel
            obtain ⟨q0, q1, q2, q3, q4⟩ := HQ3.out wr hb
            by_cases hmn : m < n2
            · have hml : m < v.length := by rw [HL2.out]; exact hmn
              obtain ⟨b, o, rfl, hbw, c0⟩ := (HV.out.later (HB3.out.trans (hb.mono HB3.out.size))).2 m hml
              have m1 := up_more v m hml
              have hr := HVR.out v[m] (List.getElem_mem hml)
              obtain ⟨p1, hp⟩ : ∃ p, p = v[m] := ⟨_, rfl⟩
              rw [← hp] at c0 m1 hr
              have M1 := Lib.hid m1
              obtain ⟨p2, hp2⟩ : ∃ p, p = p1 + 128 := ⟨_, rfl⟩
              have hwp : IntKind.i64.wrap (p1 + 128) = p2 := by rw [IntKind.wrap_i64]; omega
              rw [← hp2] at M1
              have l1 : ((v.map (· + 128)).take m).length ≤ 1000000000 := by rw [List.length_take]; omega
              have r1 : (0 : Int) ≤ (m : Int) := by omega
              have r2 : (m : Int) < (n2 : Int) := by omega
              have r3 : decide ((m : Int) < (n2 : Int)) = true := decide_eq_true r2
              have r4 : decide (m < n2) = true := decide_eq_true hmn
              have hBs := hb.size
              have HB := Lib.hid hb
              have HT := Lib.hid hT
              have HBP := Lib.hid (show Below w3.heap.size wr (wr.alloc (.cells #[.int .i64 p2] 3)) from (Below.refl _ wr).alloc hBs _)
              clear m1 hp hp2 hb hT hr
              go_wp2_with (at_builtin; refine wpList_append_int rfl _ _ rfl w3.heap.size _ ((v.map (· + 128)).take m) rfl (introw_alloc HT.out _) wr.heap.size _ p2 rfl (by go_simp) (by simp; omega) l1 ?_; intro v1 W1 hown1 hb1)
              have HZ : Hid (IntRow W1 w3.heap.size v1 ((v.map (· + 128)).take (m + 1)) ∧ Below w3.heap.size w3 W1) := Lib.hid ⟨by rw [M1.out]; exact hown1, (HB.out.trans HBP.out).trans hb1⟩
              clear hown1 hb1
              go_wp2
              go_roundw
              case rel => exact ⟨m + 1, by omega, by go_num, HZ.out.1, HZ.out.2⟩
              case measure => simp [intOf]; omega
            · obtain rfl : m = n2 := by omega
              have r3 : decide ((m : Int) < (m : Int)) = false := by simp
              have r4 : decide (m < m) = false := by simp
              rw [List.take_of_length_le (by rw [LT.out.2.2]; exact Nat.le_refl _)] at hT
              obtain ⟨A9, c9, rfl, j9⟩ := hT.ints
              rw [LT.out.2.2] at j9 ⊢
              have J7 : Hid (Ints wr A7 k (tms ts)) := Lib.hid (J7.out.below hb)
              have J8 : Hid (Ints wr A8 k (wts ts)) := Lib.hid (J8.out.below hb)
              have J9 := Lib.hid j9
              have HQ4 := Lib.hid (fun W (hW : Below wr.heap.size wr W) => HQ3.out W (hb.trans (hW.mono hb.size)))
              have HB4 := Lib.hid (HB3.out.trans (hb.mono HB3.out.size))
              clear hT j9 hb HQ3 q0 q1 q2 q3 q4
              have S1 := Lib.hid (risS_len (tms ts) (by rw [LT.out.1]; omega) I1.out)
              have S2 := Lib.hid (fixS_len 16 (wts ts) (by rw [LT.out.2.1]; omega))
              have S3 := Lib.hid (fixS_len 8 (v.map (· + 128)) (by rw [LT.out.2.2]; omega))
              obtain ⟨tb, htb⟩ : ∃ tb, tb = UInt8.ofNat tags.toNat := ⟨_, rfl⟩
              have htn : (tb.toNat : Int) = tags := by rw [htb, PackM.toNat_of _ (by omega)]; omega
              rw [← htb] at HP
              obtain ⟨x5, hx5⟩ : ∃ x, x = prB ⟨d, ts, v, tags, false⟩ := ⟨_, rfl⟩
              rw [← hx5] at HP
              have HPX : Hid (pa = x5) := Lib.hid (by rw [HPA.out, if_pos trivial, hx5])
              have a1 := fun W => str_add (P := Try.prog) s0 [0] (by have := HVL.out; omega) (by simp) W
              have a2 := fun W => str_add (P := Try.prog) (s0 ++ [0]) (risS (tms ts)) (by rw [List.length_append]; have := HVL.out; simp; omega) (by have := S1.out; omega) W
              have a3 := fun W => str_add (P := Try.prog) (s0 ++ [0] ++ risS (tms ts)) (fixS 16 (wts ts)) (by rw [List.length_append, List.length_append]; have := HVL.out; have := S1.out; simp; omega) (by have := S2.out; omega) W
              have a4 := fun W => str_add (P := Try.prog) (s0 ++ [0] ++ risS (tms ts) ++ fixS 16 (wts ts)) (fixS 8 (v.map (· + 128))) (by rw [List.length_append, List.length_append, List.length_append]; have := HVL.out; have := S1.out; have := S2.out; simp; omega) (by have := S3.out; omega) W
              have a5 := fun W => str_add (P := Try.prog) (s0 ++ [0] ++ risS (tms ts) ++ fixS 16 (wts ts) ++ fixS 8 (v.map (· + 128))) [tb] (by rw [List.length_append, List.length_append, List.length_append, List.length_append]; have := HVL.out; have := S1.out; have := S2.out; have := S3.out; simp; omega) (by simp) W
              rw [← HP.out] at a5
              have K1 := Lib.hid (fun W hW => refrising_any A7 k c7 (tms ts) W (by omega) hW I1.out)
              have K2 := Lib.hid (fun W hW => reffixed16_any A8 k c8 (wts ts) W (by omega) hW I2.out)
              have K3 := Lib.hid (fun W hW => reffixed8_any A9 m c9 (v.map (· + 128)) W (by omega) hW I3.out)
              clear HP hx5 htb S1 S2 S3
              generalize risS (tms ts) = r1 at a2 a3 a4 a5 K1
              generalize fixS 16 (wts ts) = r2 at a3 a4 a5 K2
              generalize fixS 8 (v.map (· + 128)) = r3 at a4 a5 K3
              generalize risC (tms ts) = u1 at K1
              generalize fixC 16 (wts ts) = u2 at K2
              generalize fixC 8 (v.map (· + 128)) = u3 at K3
              generalize s0 ++ [0] = x1 at a1 a2 a3 a4 a5
              generalize x1 ++ r1 = x2 at a2 a3 a4 a5
              generalize x2 ++ r2 = x3 at a3 a4 a5
              generalize x3 ++ r3 = x4 at a4 a5
              have AA := Lib.hid (show _ ∧ _ ∧ _ ∧ _ ∧ _ from ⟨a1, a2, a3, a4, a5⟩)
              clear a1 a2 a3 a4 a5
              obtain ⟨q0, q1, q2, q3, q4⟩ := HQ4.out wr (Below.refl _ _)
              go_wp2_with fail
              refine (K1.out _ J7.out).mono ?_
              rintro e w5 ⟨rfl, hb⟩
              have J8 := Lib.hid (J8.out.below hb)
              have J9 := Lib.hid (J9.out.below hb)
              have HQ5 := Lib.hid (fun W (hW : Below w5.heap.size w5 W) => HQ4.out W (hb.trans (hW.mono hb.size)))
              have HB5 := Lib.hid (HB4.out.trans (hb.mono HB4.out.size))
              clear hb K1 J7 HQ4 q0 q1 q2 q3 q4
              go_wp2_with fail
              refine (K2.out _ J8.out).mono ?_
              rintro e w6 ⟨rfl, hb⟩
              have J9 := Lib.hid (J9.out.below hb)
              have HQ6 := Lib.hid (fun W (hW : Below w6.heap.size w6 W) => HQ5.out W (hb.trans (hW.mono hb.size)))
              have HB6 := Lib.hid (HB5.out.trans (hb.mono HB5.out.size))
              clear hb K2 J8 HQ5
              go_wp2_with fail
              refine (K3.out _ J9.out).mono ?_
              rintro e w7 ⟨rfl, hb⟩
              have HQ7 := Lib.hid (fun W (hW : Below w7.heap.size w7 W) => HQ6.out W (hb.trans (hW.mono hb.size)))
              have HB7 := Lib.hid (HB6.out.trans (hb.mono HB6.out.size))
              clear hb K3 J9 HQ6
              obtain ⟨a1, a2, a3, a4, a5⟩ := AA.out
              have hcv1 : (convert 62 9 (.slice (some ⟨w7.heap.size, 0, none⟩) 1 1)).run Try.prog (w7.alloc (.cells #[.int .u8 0] 5)) = .ok (.string (ofBytes [0])) (w7.alloc (.cells #[.int .u8 0] 5)) := conv1 w7 0
              have hcv2 := conv1 (w7.alloc (.cells #[.int .u8 0] 5)) tb
              rw [htn] at hcv2
              have hs1 : (w7.alloc (.cells #[.int .u8 0] 5)).heap.size = w7.heap.size + 1 := by simp
              rw [hs1] at hcv2
              have hwu : IntKind.u8.wrap tags = tags := by rw [← htn]; exact wrap_u8 tb
              have hBq : Below w7.heap.size w7 (w7.alloc (.cells #[.int .u8 0] 5)) := pl1 _ _
              have q3' := (HQ7.out _ hBq).2.2.2.1
              have q3 := (HQ7.out w7 (Below.refl _ _)).2.2.2.1
              have HBZ := Lib.hid (HB7.out.trans ((hBq.trans ((pl1 (w7.alloc (.cells #[.int .u8 0] 5)) (.cells #[.int .u8 tags] 5)).mono hBq.size)).mono HB7.out.size))
              clear hBq hs1
              go_wp2
              go_ret2
              exact ⟨by rw [HPX.out]; rfl, HBZ.out⟩
  · have hzz : (rc != 0) = true := by simpa using hz
    have HPX : Hid (pa = []) := Lib.hid (by rw [HPA.out, if_neg hz])
    go_wp2
    go_ret2
    exact ⟨by rw [HPX.out]; rfl, HB1.out⟩
end Go.Proofs.Ytdjbdhfellofoaa.Do
