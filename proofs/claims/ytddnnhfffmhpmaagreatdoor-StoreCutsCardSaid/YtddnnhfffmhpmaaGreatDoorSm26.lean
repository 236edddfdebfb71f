/- Own texts, merged (26 of 42). -/
import Derived.Test.YtddnnhfffmhpmaaGreatDoorSm23

/- Is a change right? (the document's answer) -/
namespace Go.Proofs.YtddnnhfffmhpmaaGreatDoor.DocM
theorem right_range {c : Ch} (h : inR c = false) : rightC c = 1 := by unfold rightC; rw [if_pos h]
theorem right_long {c : Ch} (h : inR c = true) (hl : 64 < c.ts.length) : rightC c = 3 := by unfold rightC; rw [if_neg (by rw [h]; simp), if_pos hl]
theorem right_twice {c : Ch} (h : inR c = true) (hl : ¬ 64 < c.ts.length) (ht : twice (tms c.ts) = true) : rightC c = 9 := by unfold rightC; rw [if_neg (by rw [h]; simp), if_neg hl, if_pos ht]
theorem right_form {c : Ch} (h : inR c = true) (hl : ¬ 64 < c.ts.length) (ht : twice (tms c.ts) = false) : rightC c = if form c = true then 0 else 2 := by
  unfold rightC
  rw [if_neg (by rw [h]; simp), if_neg hl, if_neg (by rw [ht]; simp)]
  cases form c <;> simp
theorem inR_of {c : Ch} (h1 : isin c.doc 0 2147483647 = true) (h2 : isin c.tags 0 255 = true) : inR c = c.ts.all tOk := by unfold inR; rw [h1, h2]; simp
theorem isin_low {n a b : Int} (h : n < a) : isin n a b = false := by unfold isin; rw [decide_eq_false (by omega)]; rfl
theorem isin_high {n a b : Int} (h : b < n) : isin n a b = false := by unfold isin; rw [decide_eq_false (show ¬ n ≤ b by omega)]; simp
theorem isin_yes {n a b : Int} (h1 : ¬ n < a) (h2 : ¬ b < n) : isin n a b = true := isin_iff.2 ⟨by omega, by omega⟩
theorem tall_next {l : List (Int × Int)} {k : Nat} (h : k < l.length) : (l.take (k + 1)).all tOk = ((l.take k).all tOk && tOk l[k]) := by
  rw [List.take_succ_eq_append_getElem h, List.all_append]
  simp
theorem tall_not {l : List (Int × Int)} {k : Nat} (h : k < l.length) (hk : tOk l[k] = false) : l.all tOk = false := List.all_eq_false.2 ⟨_, List.getElem_mem h, by simp [hk]⟩
/-- terms rise -/
def up (l : List Int) : Bool := decide (l.Pairwise (· < ·))
theorem up_next {l : List Int} {i : Nat} (h : i < l.length) : up (l.take (i + 1)) = (up (l.take i) && (l.take i).all fun x => decide (x < l[i])) := by
  unfold up
  rw [List.take_succ_eq_append_getElem h, Bool.eq_iff_iff]
  simp only [List.pairwise_append, Bool.and_eq_true, decide_eq_true_eq, List.all_eq_true]
  constructor
  · rintro ⟨h1, _, h3⟩
    exact ⟨h1, fun x hx => h3 x hx _ (by simp)⟩
  · rintro ⟨h1, h2⟩
    exact ⟨h1, by simp, fun a ha b hb => by
      have e : b = l[i] := by simpa using hb
      rw [e]
      exact h2 a ha⟩
theorem lall_next {l : List Int} {i k : Nat} (hk : k < i) (hi : i < l.length) (x : Int) : ((l.take (k + 1)).all fun y => decide (y < x)) = (((l.take k).all fun y => decide (y < x)) && decide (l[k] < x)) := by
  rw [List.take_succ_eq_append_getElem (by omega), List.all_append]
  simp
end Go.Proofs.YtddnnhfffmhpmaaGreatDoor.DocM
namespace Go.Proofs.YtddnnhfffmhpmaaGreatDoor.Do
open Go.RowKit Go.Proofs.YtddnnhfffmhpmaaGreatDoor DocM

theorem box5 (w : World) (t : TypeId) (v0 v1 v2 v3 v4 : Value) (W : World) (h : Below (w.alloc (.cells #[v0, v1, v2, v3, v4] t)).heap.size (w.alloc (.cells #[v0, v1, v2, v3, v4] t)) W) :
    W.cell? ⟨w.heap.size, 0, none⟩ = some v0 ∧ W.cell? ⟨w.heap.size, 1, none⟩ = some v1 ∧ W.cell? ⟨w.heap.size, 2, none⟩ = some v2 ∧ W.cell? ⟨w.heap.size, 3, none⟩ = some v3 ∧ W.cell? ⟨w.heap.size, 4, none⟩ = some v4 := by
  have hl : w.heap.size < (w.alloc (.cells #[v0, v1, v2, v3, v4] t)).heap.size := by simp
  have q := fun i => (h.cell (p := ⟨w.heap.size, i, none⟩) hl).trans (cell_of_row _ _ i _ _ (0, 0) (heap_alloc_new w (.cells #[v0, v1, v2, v3, v4] t)))
  exact ⟨q 0, q 1, q 2, q 3, q 4⟩
set_option maxHeartbeats 8000000 in
set_option maxRecDepth 100000 in
theorem refright10_any (c : Ch) (A A2 : Option Addr) (n cp n2 cp2 : Nat) (w : World) (h : Pairs w A n c.ts) (hv : Ivs w A2 n2 c.v) (hn : n ≤ 1000000) (hn2 : n2 ≤ 1000000) :
    Calls Tryz.prog 33 #[chV c (.slice A n cp) (.slice A2 n2 cp2)] w fun e w' => e = .returned (.int .i64 (rightC c)) ∧ Below w.heap.size w w' := by
  have H := Lib.hid h
  have HV := Lib.hid hv
  have HL := Lib.hid h.1
  have HL2 := Lib.hid hv.1
  clear h hv
  have R1 := Lib.hid (fun h => right_range (c := c) h)
  have R3 := Lib.hid (fun h1 h2 => right_long (c := c) h1 h2)
  have R9 := Lib.hid (fun h1 h2 h3 => right_twice (c := c) h1 h2 h3)
  have RF := Lib.hid (fun h1 h2 h3 => right_form (c := c) h1 h2 h3)
  have RI := Lib.hid (fun h1 h2 => inR_of (c := c) h1 h2)
  have RR := Lib.hid (show inR c = (isin c.doc 0 2147483647 && isin c.tags 0 255 && c.ts.all tOk) from rfl)
  have RG := Lib.hid (show form c = if c.gone = true then decide (c.ts.length = 0) && decide (c.v.length = 0) && decide (c.tags = 0) else DenM.vec c.v && sorted (tms c.ts) from rfl)
  have HW := Lib.hid (fun W (hW : Below w.heap.size w W) => refright7_any A2 n2 cp2 c.v W (HV.out.later hW) hn2)
  obtain ⟨rc, hrc⟩ : ∃ x, x = rightC c := ⟨_, rfl⟩
  obtain ⟨ir, hir⟩ : ∃ x, x = inR c := ⟨_, rfl⟩
  obtain ⟨fm, hfm⟩ : ∃ x, x = form c := ⟨_, rfl⟩
  rw [← hrc, ← hir] at R1 R3 R9
  rw [← hrc, ← hir, ← hfm] at RF
  rw [← hir] at RI RR
  rw [← hfm] at RG
  rw [← hrc]
  clear hrc hir hfm
  unfold chV
  obtain ⟨d, ts, v, tags, gone⟩ := c
  simp only at H HV HL HL2 R1 R3 R9 RF RI RR RG HW ⊢
  have B0 := Lib.hid (pl1 w (.cells #[.int .i64 d, .slice A n cp, .slice A2 n2 cp2, .int .i64 tags, .bool gone] 48))
  have out1 : ∀ {x : Bool}, isin d 0 2147483647 = false → ir = false := fun {_} h => by rw [RR.out, h]; rfl
  have out2 : isin tags 0 255 = false → ir = false := fun h => by rw [RR.out, h]; simp
  have O1 := Lib.hid (fun (h : isin d 0 2147483647 = false) => R1.out (out1 (x := true) h))
  have O2 := Lib.hid (fun (h : isin tags 0 255 = false) => R1.out (out2 h))
  clear out1 out2
  by_cases h1 : d < 0
  · have e1 : decide (d < 0) = true := decide_eq_true h1
    have HF := Lib.hid (O1.out (isin_low h1))
    go_enter Tryz.func33, Tryz.ntmps33
    go_wp2
    go_ret
    exact ⟨by rw [HF.out]; rfl, B0.out⟩
  have e1 : decide (d < 0) = false := decide_eq_false h1
  by_cases h2 : 2147483647 < d
  · have e2 : decide (2147483647 < d) = true := decide_eq_true h2
    have HF := Lib.hid (O1.out (isin_high h2))
    go_enter Tryz.func33, Tryz.ntmps33
    go_wp2
    go_ret
    exact ⟨by rw [HF.out]; rfl, B0.out⟩
  have e2 : decide (2147483647 < d) = false := decide_eq_false h2
  by_cases h3 : tags < 0
  · have e3 : decide (tags < 0) = true := decide_eq_true h3
    have HF := Lib.hid (O2.out (isin_low h3))
    go_enter Tryz.func33, Tryz.ntmps33
    go_wp2
    go_ret
    exact ⟨by rw [HF.out]; rfl, B0.out⟩
  have e3 : decide (tags < 0) = false := decide_eq_false h3
  by_cases h4 : 255 < tags
  · have e4 : decide (255 < tags) = true := decide_eq_true h4
    have HF := Lib.hid (O2.out (isin_high h4))
    go_enter Tryz.func33, Tryz.ntmps33
    go_wp2
    go_ret
    exact ⟨by rw [HF.out]; rfl, B0.out⟩
  have e4 : decide (255 < tags) = false := decide_eq_false h4
  have HIR := Lib.hid (RI.out (isin_yes h1 h2) (isin_yes h3 h4))
  have HT0 : Hid (0 ≤ tags) := Lib.hid (by omega)
  clear O1 O2 RI RR h1 h2 h3 h4
  have HQ := Lib.hid (box5 w 48 (.int .i64 d) (.slice A n cp) (.slice A2 n2 cp2) (.int .i64 tags) (.bool gone))
  go_enter Tryz.func33, Tryz.ntmps33
  go_wp2
  obtain ⟨B, hB⟩ : ∃ B, B = w.heap.size := ⟨_, rfl⟩
  rw [← hB] at HQ ⊢
  generalize w.alloc (.cells #[.int .i64 d, .slice A n cp, .slice A2 n2 cp2, .int .i64 tags, .bool gone] 48) = W1 at HQ B0 ⊢
  clear hB
  go_loopw [3] (fun x wr => ∃ k : Nat, x = .int .i64 k ∧ k ≤ n ∧ (ts.take k).all tOk = true ∧ Below W1.heap.size W1 wr) (fun x _ => n - (intOf x).toNat)
  case atStart => exact ⟨0, by go_num, Nat.zero_le _, rfl, Below.refl _ _⟩
  case round =>
    obtain ⟨k, rfl, hkn, hall, hb⟩ := hrel
    obtain ⟨q0, q1, q2, q3, q4⟩ := HQ.out wr hb
    by_cases hlt : k < n
    · have hmi : (k : Int) < (n : Int) := by omega
      have hkl : k < ts.length := by rw [HL.out]; exact hlt
      have hw := H.out.later (B0.out.trans (hb.mono B0.out.size))
      obtain ⟨b, o, rfl, hbl, p0, p1⟩ := hw.2 k hkl
      have hnx := tall_next hkl
      rw [hall, Bool.true_and] at hnx
      have hno := tall_not hkl
      obtain ⟨⟨x, y⟩, hx⟩ : ∃ x, x = ts[k] := ⟨_, rfl⟩
      rw [← hx] at p0 p1 hnx hno
      simp only at p0 p1
      have HNX := Lib.hid hnx
      have HNO : Hid (tOk (x, y) = false → rc = 1) := Lib.hid (fun h => R1.out (by rw [HIR.out]; exact hno h))
      have HB := Lib.hid (hb.trans ((pl1 wr (.cells #[.int .i64 x, .int .i64 y] 109)).mono hb.size))
      have HBW := Lib.hid (B0.out.trans (HB.out.mono B0.out.size))
      clear hnx hno hx hall hb hw
      by_cases g1 : x < 0
      · have f1 : decide (x < 0) = true := decide_eq_true g1
        have HF := Lib.hid (HNO.out (by unfold tOk; simp only; rw [isin_low g1]; rfl))
        go_wp2
        go_ret
        exact ⟨by rw [HF.out]; rfl, HBW.out⟩
      have f1 : decide (x < 0) = false := decide_eq_false g1
      by_cases g2 : 1048575 < x
      · have f2 : decide (1048575 < x) = true := decide_eq_true g2
        have HF := Lib.hid (HNO.out (by unfold tOk; simp only; rw [isin_high g2]; rfl))
        go_wp2
        go_ret
        exact ⟨by rw [HF.out]; rfl, HBW.out⟩
      have f2 : decide (1048575 < x) = false := decide_eq_false g2
      by_cases g3 : y < 1
      · have f3 : decide (y < 1) = true := decide_eq_true g3
        have HF := Lib.hid (HNO.out (by unfold tOk; simp only; rw [isin_low g3]; simp))
        go_wp2
        go_ret
        exact ⟨by rw [HF.out]; rfl, HBW.out⟩
      have f3 : decide (y < 1) = false := decide_eq_false g3
      by_cases g4 : 65535 < y
      · have f4 : decide (65535 < y) = true := decide_eq_true g4
        have HF := Lib.hid (HNO.out (by unfold tOk; simp only; rw [isin_high g4]; simp))
        go_wp2
        go_ret
        exact ⟨by rw [HF.out]; rfl, HBW.out⟩
      have f4 : decide (65535 < y) = false := decide_eq_false g4
      have HF : Hid ((ts.take (k + 1)).all tOk = true) := Lib.hid (by rw [HNX.out]; unfold tOk; simp only; rw [isin_yes g1 g2, isin_yes g3 g4]; rfl)
      clear g1 g2 g3 g4
      go_wp2
      go_roundw
      case rel => exact ⟨k + 1, by go_num, by omega, HF.out, HB.out⟩
      case measure => simp [intOf]; omega
    · have hmi : ¬ (k : Int) < (n : Int) := by omega
      obtain rfl : k = n := by omega
      have HI : Hid (ir = true) := Lib.hid (by
        rw [HIR.out, ← hall, List.take_of_length_le (by rw [HL.out]; exact Nat.le_refl _)])
      have HBW := Lib.hid (B0.out.trans (hb.mono B0.out.size))
      have HQ2 := Lib.hid (fun W (hW : Below wr.heap.size wr W) => HQ.out W (hb.trans (hW.mono hb.size)))
      clear hall hb HQ
      by_cases hlen : 64 < k
      · have hd : decide ((64 : Int) < (k : Int)) = true := decide_eq_true (by omega)
        have HF := Lib.hid (R3.out HI.out (by rw [HL.out]; exact hlen))
        go_wp2
        go_ret
        exact ⟨by rw [HF.out]; rfl, HBW.out⟩
      have hd : decide ((64 : Int) < (k : Int)) = false := decide_eq_false (by omega)
      have R9 := Lib.hid (fun h => R9.out HI.out (by rw [HL.out]; exact hlen) h)
      have RF := Lib.hid (fun h => RF.out HI.out (by rw [HL.out]; exact hlen) h)
      clear R1 R3 HIR HI
      go_wp2
      generalize wr = W2 at HBW HQ2 q0 q1 q2 q3 q4 ⊢
      clear q0 q1 q2 q3 q4
      go_loopw [5, 6] (fun x5 x6 W => ∃ (i : Nat) (fl : Bool), x6 = .int .i64 i ∧ i ≤ k ∧ x5 = .bool fl ∧ fl = up ((tms ts).take i) ∧ ((tms ts).take i).Nodup ∧ Below W2.heap.size W2 W) (fun _ x6 _ => k - (intOf x6).toNat)
      case atStart => exact ⟨0, true, by go_num, Nat.zero_le _, rfl, by rw [List.take_zero]; rfl, by simp, Below.refl _ _⟩
      case round =>
        obtain ⟨i, fl, rfl, hik, rfl, hfl, hnd, hb⟩ := hrel
        obtain ⟨q0, q1, q2, q3, q4⟩ := HQ2.out wr hb
        by_cases hlt : i < k
        · have hmi : (i : Int) < (k : Int) := by omega
          have hil : i < ts.length := by rw [HL.out]; exact hlt
          have hitl : i < (tms ts).length := by rw [tms_len]; exact hil
          have HFL := Lib.hid hfl
          have HND := Lib.hid hnd
          have HB := Lib.hid hb
          obtain ⟨m, hm⟩ : ∃ m, m = (tms ts)[i] := ⟨_, rfl⟩
          have HM := Lib.hid hm
          have hpi : ts[i].1 = m := by rw [hm]; simp [tms]
          have HPI := Lib.hid hpi
          clear hfl hnd hb hm hpi
          go_wp2
          clear q0 q1 q2 q3 q4
          generalize wr = W3 at HB ⊢
          go_loopw [5, 7] (fun x5 x7 W => ∃ (j : Nat) (f2 : Bool), x7 = .int .i64 j ∧ j ≤ i ∧ x5 = .bool f2 ∧ f2 = (fl && ((tms ts).take j).all fun y => decide (y < m)) ∧ m ∉ (tms ts).take j ∧ Below W3.heap.size W3 W) (fun _ x7 _ => i - (intOf x7).toNat)
          case atStart => exact ⟨0, fl, by go_num, Nat.zero_le _, rfl, by rw [List.take_zero]; simp, by simp, Below.refl _ _⟩
          case round =>
            obtain ⟨j, f2, rfl, hji, rfl, hf2, hnm, hb⟩ := hrel
            have HB2 := Lib.hid (HB.out.trans (hb.mono HB.out.size))
            obtain ⟨q0, q1, q2, q3, q4⟩ := HQ2.out wr HB2.out
            by_cases hjl : j < i
            · have hmj : (j : Int) < (i : Int) := by omega
              have hjk : (j : Int) < (k : Int) := by omega
              have hjt : j < ts.length := by omega
              have hw := H.out.later (HBW.out.trans (HB2.out.mono HBW.out.size))
              obtain ⟨b, o, rfl, hbl, p0, p1⟩ := hw.2 j hjt
              obtain ⟨b', o', e, _, r0, r1⟩ := hw.2 i hil
              injection e with e
              injection e with e6 e7 _
              subst e6; subst e7
              have hjtl : j < (tms ts).length := by rw [tms_len]; exact hjt
              have hln := lall_next (l := tms ts) hjl hitl m
              have htk : (tms ts).take (j + 1) = (tms ts).take j ++ [(tms ts)[j]] := List.take_succ_eq_append_getElem hjtl
              have hmem := List.getElem_mem (l := (tms ts).take i) (n := j) (by rw [List.length_take]; omega)
              rw [List.getElem_take] at hmem
              have hpj : ts[j].1 = (tms ts)[j] := by simp [tms]
              rw [hpj] at p0
              rw [HPI.out] at r0
              obtain ⟨z, hz⟩ : ∃ z, z = (tms ts)[j] := ⟨_, rfl⟩
              rw [← hz] at p0 hln htk hmem
              have HLN := Lib.hid hln
              have HTK := Lib.hid htk
              have HMEM := Lib.hid hmem
              have HF2 := Lib.hid hf2
              have HNM := Lib.hid hnm
              have HB3 := Lib.hid hb
              obtain ⟨pz, hpz⟩ : ∃ x, x = ts[j].2 := ⟨_, rfl⟩
              obtain ⟨rz, hrz⟩ : ∃ x, x = ts[i].2 := ⟨_, rfl⟩
              rw [← hpz] at p1
              rw [← hrz] at r1
              clear hw hln htk hmem hpj hz hf2 hnm hb hpz hrz
              by_cases hzm : z = m
              · have hb1 : (z == m) = true := by simpa using hzm
                have HF : Hid (rc = 9) := Lib.hid (R9.out (by
                  unfold twice
                  rw [Bool.not_eq_true', decide_eq_false_iff_not]
                  intro hn0
                  have h1 := (List.take_sublist (i + 1) (tms ts)).nodup hn0
                  rw [List.take_succ_eq_append_getElem hitl, List.nodup_append, ← HM.out] at h1
                  exact h1.2.2 z HMEM.out m (by simp) hzm))
                clear hzm
                go_wp2
                go_quiet (fail)
                go_wp2
                go_ret
                exact ⟨by rw [HF.out]; rfl, (HBW.out.trans (HB2.out.mono HBW.out.size)).trans ((below_drewN _).mono (by have := HBW.out.size; have := HB2.out.size; omega))⟩
              · have hb1 : (z == m) = false := by simpa using hzm
                have HN2 : Hid (m ∉ (tms ts).take (j + 1)) := Lib.hid (by
                  rw [HTK.out, List.mem_append]
                  rintro (h | h)
                  · exact HNM.out h
                  · have h2 : m = z := by simpa using h
                    exact hzm h2.symm)
                clear hzm
                cases f2 with
                | false =>
                  have HG : Hid (false = (fl && ((tms ts).take (j + 1)).all fun y => decide (y < m))) := Lib.hid (by rw [HLN.out, ← Bool.and_assoc, ← HF2.out]; rfl)
                  go_wp2
                  go_quiet (fail)
                  go_wp2
                  go_quiet (fail)
                  go_wp2
                  go_roundw
                  case rel => exact ⟨j + 1, false, by go_num, by omega, rfl, HG.out, HN2.out, HB3.out.trans ((below_drewN _).mono HB3.out.size)⟩
                  case measure => simp [intOf]; omega
                | true =>
                  obtain ⟨r, hr⟩ : ∃ r, r = decide (z < m) := ⟨_, rfl⟩
                  have hr2 := hr.symm
                  have HG : Hid (r = (fl && ((tms ts).take (j + 1)).all fun y => decide (y < m))) := Lib.hid (by rw [HLN.out, ← Bool.and_assoc, ← HF2.out, hr]; rfl)
                  clear hr
                  go_wp2
                  go_quiet (fail)
                  go_wp2
                  go_quiet (fail)
                  go_wp2
                  go_roundw
                  case rel => exact ⟨j + 1, r, by go_num, by omega, rfl, HG.out, HN2.out, HB3.out.trans ((below_drewN _).mono HB3.out.size)⟩
                  case measure => simp [intOf]; omega
            · have hmj : ¬ (j : Int) < (i : Int) := by omega
              obtain rfl : j = i := by omega
              have HU : Hid (f2 = up ((tms ts).take (j + 1))) := Lib.hid (by rw [up_next hitl, hf2, ← HM.out, HFL.out])
              have HD : Hid (((tms ts).take (j + 1)).Nodup) := Lib.hid (by
                rw [List.take_succ_eq_append_getElem hitl, List.nodup_append]
                refine ⟨HND.out, by simp, fun a ha b hb e => hnm ?_⟩
                have e2 : b = (tms ts)[j] := by simpa using hb
                rw [HM.out, ← e2, ← e]
                exact ha)
              clear hf2 hnm hb
              go_wp2
              go_roundw
              case rel => exact ⟨j + 1, f2, by go_num, by omega, rfl, HU.out, HD.out, HB2.out⟩
              case measure => simp [intOf]; omega
        · have hmi : ¬ (i : Int) < (k : Int) := by omega
          obtain rfl : i = k := by omega
          rw [List.take_of_length_le (by rw [tms_len, HL.out]; exact Nat.le_refl _)] at hfl hnd
          have HT2 : Hid (twice (tms ts) = false) := Lib.hid (by unfold twice; rw [decide_eq_true hnd]; rfl)
          have HRC := Lib.hid (RF.out HT2.out)
          have HSU : Hid (sorted (tms ts) = fl) := Lib.hid (by rw [sorted_rises hnd, hfl]; rfl)
          have HFU : Hid (fl = false → 0 < i) := Lib.hid (fun h => by
            rcases Nat.eq_zero_or_pos i with e | e
            · rw [hfl, List.eq_nil_of_length_eq_zero (show (tms ts).length = 0 by rw [tms_len, HL.out, e])] at h
              cases h
            · exact e)
          have HBZ := Lib.hid (HBW.out.trans (hb.mono HBW.out.size))
          have HBA := Lib.hid hb
          clear hfl hnd hb R9 RF
          cases fl with
          | false =>
            have HFM : Hid (fm = false) := Lib.hid (by
              rw [RG.out]
              cases gone with
              | true => rw [if_pos rfl, HL.out, decide_eq_false (by have := HFU.out rfl; omega)]; rfl
              | false => rw [if_neg (by simp), HSU.out]; simp)
            go_wp2
            go_ret
            exact ⟨by rw [HRC.out, HFM.out]; rfl, HBZ.out⟩
          | true =>
            obtain ⟨q0, q1, q2, q3, q4⟩ := HQ2.out wr HBA.out
            cases gone with
            | true =>
              have HFM : Hid (fm = (decide (i = 0) && decide (n2 = 0) && decide (tags = 0))) := Lib.hid (by
                rw [RG.out, if_pos rfl, HL.out, HL2.out])
              clear RG
              by_cases g1 : 0 < i
              · have f1 : decide ((0 : Int) < (i : Int)) = true := decide_eq_true (by omega)
                have HX : Hid (fm = false) := Lib.hid (by rw [HFM.out, decide_eq_false (show ¬ i = 0 by omega)]; rfl)
                go_wp2
                go_ret
                exact ⟨by rw [HRC.out, HX.out]; rfl, HBZ.out⟩
              have f1 : decide ((0 : Int) < (i : Int)) = false := decide_eq_false (by omega)
              by_cases g2 : 0 < n2
              · have f2 : decide ((0 : Int) < (n2 : Int)) = true := decide_eq_true (by omega)
                have HX : Hid (fm = false) := Lib.hid (by rw [HFM.out, decide_eq_false (show ¬ n2 = 0 by omega)]; simp)
                go_wp2
                go_ret
                exact ⟨by rw [HRC.out, HX.out]; rfl, HBZ.out⟩
              have f2 : decide ((0 : Int) < (n2 : Int)) = false := decide_eq_false (by omega)
              by_cases g3 : 0 < tags
              · have f3 : decide ((0 : Int) < tags) = true := decide_eq_true g3
                have HX : Hid (fm = false) := Lib.hid (by rw [HFM.out, decide_eq_false (show ¬ tags = 0 by omega)]; simp)
                go_wp2
                go_ret
                exact ⟨by rw [HRC.out, HX.out]; rfl, HBZ.out⟩
              have f3 : decide ((0 : Int) < tags) = false := decide_eq_false g3
              have HX : Hid (fm = true) := Lib.hid (by
                rw [HFM.out, decide_eq_true (show i = 0 by omega), decide_eq_true (show n2 = 0 by omega), decide_eq_true (show tags = 0 by have := HT0.out; omega)]; rfl)
              go_wp2
              go_ret
              exact ⟨by rw [HRC.out, HX.out]; rfl, HBZ.out⟩
            | false =>
              have HFM : Hid (fm = DenM.vec v) := Lib.hid (by rw [RG.out, if_neg (by simp), HSU.out]; simp)
              clear RG
              go_wp2_with fail
              refine (HW.out _ HBZ.out).mono ?_
              rintro e wr ⟨rfl, rfl⟩
              rw [← HFM.out]
              cases fm with
              | true =>
                go_wp2
                go_ret
                exact ⟨by rw [HRC.out]; rfl, HBZ.out⟩
              | false =>
                go_wp2
                go_ret
                exact ⟨by rw [HRC.out]; rfl, HBZ.out⟩
end Go.Proofs.YtddnnhfffmhpmaaGreatDoor.Do
