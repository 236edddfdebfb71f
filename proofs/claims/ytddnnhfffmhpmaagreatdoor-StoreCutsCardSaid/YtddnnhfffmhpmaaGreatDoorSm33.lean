/- Own texts, merged (33 of 42). -/
import Derived.Test.YtddnnhfffmhpmaaGreatDoorSm32

/- Tells of law 11: does a store tell just these documents? -/
namespace Go.Proofs.YtddnnhfffmhpmaaGreatDoor.St
open Go.RowKit Go.Proofs.YtddnnhfffmhpmaaGreatDoor DocM StoM Do

theorem lk_at {l : Chs} (h : RiseC l) {i : Nat} (hi : i < l.length) : lkC l l[i].doc = some l[i] := lk_of_mem h (List.getElem_mem hi)
set_option maxHeartbeats 8000000 in
set_option maxRecDepth 100000 in
theorem tells_any (W0 w : World) (Fd : Nat → Prop) (p : Pl) (k : VdM.Dsk) (f : Nat) (segs : List Nat) (lg : Nat) (begun lost : Bool) (lv st cm : Chs) (base : Nat) (v : Value) (xs : List Cx) (h : StAt w Fd p k f segs lg begun lost lv st cm) (hD : Drow W0 w base v xs) (hw : Below W0.heap.size W0 w)
    (hl : lv.length ≤ 1000) (hr : ∀ c ∈ lv, rightC c = 0) (hg : ∀ c ∈ lv, c.gone = false) (hri : RiseC lv) (hd : ∀ x ∈ xs, -9223372036854775808 ≤ x.1.doc ∧ x.1.doc ≤ 9223372036854775807) (hts : ∀ x ∈ lv, x.ts.length ≤ 1000000) (hv1 : ∀ x ∈ lv, x.v.length ≤ 1000000) (hvx : ∀ x ∈ xs, x.1.v.length ≤ 1000000) :
    Calls Tryz.prog 15 #[.pointer (some ⟨p.s, 0, none⟩), v] w fun e w' => e = .returned (.bool (decide (lv = xs.map (·.1)))) ∧ Below w.heap.size w w' := by
  obtain ⟨A, cap, rfl⟩ := Go.Proofs.YtddnnhfffmhpmaaGreatDoor.row_shape hD.own
  obtain ⟨m, hm⟩ : ∃ m, m = xs.length := ⟨_, rfl⟩
  rw [← hm]
  obtain ⟨z, hz⟩ : ∃ z, z = decide (lv = xs.map (·.1)) := ⟨_, rfl⟩
  rw [← hz]
  have HDOC := Lib.hid (docs_any h hl)
  have HM := Lib.hid hm
  by_cases hn : lv.length = m
  rotate_left
  · have hnb : ((lv.length : Int) != (m : Int)) = true := by simp; omega
    have HF : Hid (z = false) := Lib.hid (by
      rw [hz]
      exact decide_eq_false (fun e => hn (by rw [e, List.length_map, ← hm])))
    clear hz hm hD h
    go_enter Tryz.func15, Tryz.ntmps15
    go_wp2_with fail
    refine HDOC.out.mono ?_
    rintro e w1 ⟨A1, cp1, rfl, _, hb1⟩
    have HB := Lib.hid hb1
    clear hb1
    go_wp2
    go_ret
    exact ⟨by (rw [HF.out]); first | done | rfl, HB.out⟩
  have hnb : ((lv.length : Int) != (m : Int)) = false := by simp; omega
  have HLN := Lib.hid hn
  have HGET := Lib.hid (fun W (hb : Below w.heap.size w W) n hn => get_any (h.later hb) n hn hr)
  have HDR := Lib.hid (fun W (hb : Below w.heap.size w W) => hD.later hb)
  have HRD := Lib.hid (fun (x : Cx) (hx : x ∈ xs) W (hb : Below w.heap.size w W) => (show Prd W x.2.1 x.1.ts ∧ Vrd W x.2.2 x.1.v from ⟨(hD.rd x hx).1.later (hw.trans (hb.mono hw.size)), (hD.rd x hx).2.later (hw.trans (hb.mono hw.size))⟩))
  have HZ := Lib.hid hz
  clear hz hm hD h hn
  go_enter Tryz.func15, Tryz.ntmps15
  go_wp2_with fail
  refine HDOC.out.mono ?_
  rintro e w1 ⟨A1, cp1, rfl, hrow, hb1⟩
  have HB1 := Lib.hid hb1
  have HROW := Lib.hid (fun W (hb : Below w1.heap.size w1 W) => row_later hrow hb)
  clear hb1 hrow HDOC
  go_wp2
  go_loopw [6] (fun x wr => ∃ i : Nat, x = .int .i64 (i : Int) ∧ i ≤ m ∧ lv.take i = (xs.map (·.1)).take i ∧ Below w1.heap.size w1 wr) (fun x _ => m - (intOf x).toNat)
  case atStart => exact ⟨0, rfl, Nat.zero_le _, rfl, Below.refl _ _⟩
  case round =>
    obtain ⟨i, rfl, hi, htk, hb⟩ := hrel
    have HTK := Lib.hid htk
    clear htk
    by_cases hil : i < m
    · have hib : (i : Int) < (m : Int) := by omega
      have hix : i < xs.length := by have := HM.out; omega
      have hiv : i < lv.length := by have := HLN.out; omega
      have hbw := HB1.out.trans (hb.mono HB1.out.size)
      obtain ⟨g, cap2, hA, -, -, p3, q3, n3, k3, n4, k4, eT, eV, -⟩ := (HDR.out wr hbw).at_ hix
      obtain ⟨o, ho⟩ : ∃ o : Nat, o = 0 := ⟨_, rfl⟩
      have hA9 : A = some ⟨g, o, none⟩ := by
        injection hA with e1
        rw [e1, ho]
      have HEL : Hid (∀ W, Below w1.heap.size w1 W → C5 W g (o + i * 5) xs[i].1.doc (.slice p3 n3 k3) (.slice q3 n4 k4) xs[i].1.tags xs[i].1.gone) := Lib.hid (fun W hW => by
        obtain ⟨g', cap', hA', _, _, p', q', a1, a2, a3, a4, eT', eV', d0, d1, d2, d3, d4⟩ := (HDR.out W (HB1.out.trans (hW.mono HB1.out.size))).at_ hix
        rw [hA] at hA'
        injection hA' with e1
        injection e1 with e1
        injection e1 with e1
        rw [eT] at eT'
        rw [eV] at eV'
        subst e1
        rw [ho, Nat.zero_add]
        exact ⟨d0, by rw [eT']; exact d1, by rw [eV']; exact d2, d3, d4⟩)
      have HKC : Hid (∃ g1, A1 = some ⟨g1, o, none⟩ ∧ ∀ W, Below w1.heap.size w1 W → W.cell? ⟨g1, o + i, none⟩ = some (.int .i64 lv[i].doc)) := Lib.hid (by
        rcases row_form (HROW.out w1 (Below.refl _ _)) with ⟨_, h0⟩ | ⟨g1, c1, e, _, _, _, _⟩
        · rw [List.length_map] at h0
          omega
        · injection e with e1
          refine ⟨g1, by rw [e1, ho], fun W hW => ?_⟩
          rcases row_form (HROW.out W hW) with ⟨_, h0⟩ | ⟨g1', c1', e', _, _, _, hc⟩
          · rw [List.length_map] at h0
            omega
          · injection e' with e1'
            rw [e1] at e1'
            injection e1' with e1'
            injection e1' with e1'
            rw [ho, Nat.zero_add, e1']
            refine hc i _ ?_
            rw [List.map_map, List.getElem?_map, List.getElem?_eq_getElem hiv]
            rfl)
      obtain ⟨g1, hA1, hkc⟩ := HKC.out
      have HKC2 := Lib.hid hkc
      subst hA9 hA1
      clear HKC hkc hA ho
      obtain ⟨d0, d1, d2, d3, d4⟩ := HEL.out wr hb
      have kc := HKC2.out wr hb
      have HGT := Lib.hid (HGET.out wr hbw xs[i].1.doc (hd xs[i] (List.getElem_mem hix)))
      go_wp2_with fail
      refine HGT.out.mono ?_
      rintro e w3 ⟨T, V, rfl, hT, hV, -, -, hb3⟩
      have HT := Lib.hid hT
      have HV := Lib.hid hV
      have hb4 := hb.trans (hb3.mono hb.size)
      have HB4 := Lib.hid hb4
      have HBW4 := Lib.hid (HB1.out.trans (hb4.mono HB1.out.size))
      clear d0 d1 d2 d3 d4 kc
      obtain ⟨d0, d1, d2, d3, d4⟩ := HEL.out w3 hb4
      have kc := HKC2.out w3 hb4
      have HLK := Lib.hid (fun (he : lv[i].doc = xs[i].1.doc) => (show lkC lv xs[i].1.doc = some lv[i] by rw [← he]; exact lk_at hri hiv))
      obtain ⟨A5, c5, eT5, _⟩ := hT
      obtain ⟨A6, c6, eV6, _⟩ := hV
      rw [eT5] at HT
      rw [eV6] at HV
      subst eT5 eV6
      obtain ⟨c0, hc0⟩ : ∃ c0, c0 = (lkC lv xs[i].1.doc).getD ch0 := ⟨_, rfl⟩
      rw [← hc0] at HT HV ⊢
      obtain ⟨bb, hbb⟩ : ∃ bb, bb = (lkC lv xs[i].1.doc).isSome := ⟨_, rfl⟩
      rw [← hbb]
      have HRX := Lib.hid (HRD.out xs[i] (List.getElem_mem hix))
      have HNX : Hid (z = true → lv[i] = xs[i].1) := Lib.hid (fun he => by
        rw [HZ.out] at he
        have he2 := of_decide_eq_true he
        have h1 : lv[i]? = (xs.map (·.1))[i]? := by rw [← he2]
        rw [List.getElem?_map, List.getElem?_eq_getElem hiv, List.getElem?_eq_getElem hix] at h1
        injection h1)
      have HYS : Hid (lv[i] = xs[i].1 → lv.take (i + 1) = (xs.map (·.1)).take (i + 1)) := Lib.hid (fun he => take_snoc hiv (by rw [List.length_map]; exact hix) HTK.out (by rw [List.getElem_map]; exact he))
      have HBD := Lib.hid (And.intro (hg lv[i] (List.getElem_mem hiv)) (And.intro (hts lv[i] (List.getElem_mem hiv)) (And.intro (hv1 lv[i] (List.getElem_mem hiv)) (hvx xs[i] (List.getElem_mem hix)))))
      obtain ⟨x, hx⟩ : ∃ x, x = xs[i] := ⟨_, rfl⟩
      rw [← hx] at d0 d3 d4 HEL HLK hc0 hbb eT eV HRX HNX HYS HBD ⊢
      obtain ⟨y, hy⟩ : ∃ y, y = lv[i] := ⟨_, rfl⟩
      rw [← hy] at kc HKC2 HLK HNX HYS HBD
      have HC0 := Lib.hid hc0
      have HBB := Lib.hid hbb
      have HET := Lib.hid (And.intro eT eV)
      have him : i + 1 ≤ m := by omega
      have HIM := Lib.hid him
      obtain ⟨N3, hN3⟩ : ∃ N, N = w3.heap.size := ⟨_, rfl⟩
      obtain ⟨m5, hm5⟩ : ∃ N, N = c0.ts.length := ⟨_, rfl⟩
      obtain ⟨m6, hm6⟩ : ∃ N, N = c0.v.length := ⟨_, rfl⟩
      obtain ⟨y0, hy0⟩ : ∃ N, N = c0.doc := ⟨_, rfl⟩
      obtain ⟨y3, hy3⟩ : ∃ N, N = c0.tags := ⟨_, rfl⟩
      rw [← hm5] at HT ⊢
      rw [← hm6] at HV ⊢
      rw [← hy0, ← hy3]
      obtain ⟨w4, hw4⟩ : ∃ w4, w4 = w3.alloc (.cells #[.int .i64 y0, .slice A5 m5 c5, .slice A6 m6 c6, .int .i64 y3] 33) := ⟨_, rfl⟩
      have HW4 := Lib.hid hw4
      have HN3 := Lib.hid hN3
      have hbk : w4.heap[N3]? = some (.cells #[.int .i64 y0, .slice A5 m5 c5, .slice A6 m6 c6, .int .i64 y3] 33 (0, 0)) := by rw [hw4, hN3]; exact heap_alloc_new _ _
      have hb34 : Below w3.heap.size w3 w4 := by rw [hw4]; exact pl1 _ _
      have HB34 := Lib.hid hb34
      have HB14 := Lib.hid (hb4.trans (hb34.mono hb4.size))
      have HALL : Hid (∀ W, Below w4.heap.size w4 W → W.cell? ⟨g1, o + i, none⟩ = some (.int .i64 y.doc) ∧ W.cell? ⟨g, o + i * 5, none⟩ = some (.int .i64 x.1.doc) ∧ W.cell? ⟨g, o + i * 5 + 1, none⟩ = some (.slice p3 n3 k3) ∧ W.cell? ⟨g, o + i * 5 + 2, none⟩ = some (.slice q3 n4 k4) ∧ W.cell? ⟨g, o + i * 5 + 3, none⟩ = some (.int .i64 x.1.tags) ∧ W.cell? ⟨g, o + i * 5 + 4, none⟩ = some (.bool x.1.gone) ∧ W.cell? ⟨N3, 0, none⟩ = some (.int .i64 y0) ∧ W.cell? ⟨N3, 1, none⟩ = some (.slice A5 m5 c5) ∧ W.cell? ⟨N3, 2, none⟩ = some (.slice A6 m6 c6) ∧ W.cell? ⟨N3, 3, none⟩ = some (.int .i64 y3) ∧ Below w4.heap.size w4 W) := Lib.hid (fun W hW => by
        have hW1 := HB14.out.trans (hW.mono HB14.out.size)
        obtain ⟨e0, e1, e2, e3, e4⟩ := HEL.out W hW1
        have hbW := blk_stay hW hbk
        exact ⟨HKC2.out W hW1, e0, e1, e2, e3, e4, cell_of_cells (i := 0) hbW rfl, cell_of_cells (i := 1) hbW rfl, cell_of_cells (i := 2) hbW rfl, cell_of_cells (i := 3) hbW rfl, hW⟩)
      clear hw4 hN3 hbk hb34
      clear hb hb3 hb4 hbw HGT HGET hri hc0 hbb kc d0 d1 d2 d3 d4 eT eV HKC2 HEL him hx hy hw hr hg hd hts hv1 hvx HDR HRD HROW
      by_cases he : y.doc = x.1.doc
      · have heb : (y.doc != x.1.doc) = false := by simpa using he
        have HBT : Hid (bb = true) := Lib.hid (by rw [HBB.out, HLK.out he]; rfl)
        have HCY : Hid (c0 = y) := Lib.hid (by rw [HC0.out, HLK.out he]; rfl)
        have hbt := HBT.out
        subst hbt
        have HOF := Lib.hid (fun W (hW : Below w4.heap.size w4 W) => (of_any ⟨y0, y.ts, y.v, y3, false⟩ (.slice A5 m5 c5) (.slice A6 m6 c6) W ⟨_, _, _, rfl⟩ ⟨_, _, _, rfl⟩).mono (R' := fun e w' => e = .returned (.agg #[.int .i64 y0, .slice A5 m5 c5, .slice A6 m6 c6, .int .i64 y3, .bool false]) ∧ Below w4.heap.size w4 w') (fun e w' ⟨h1, h2⟩ => ⟨h1, hW.trans (h2.mono hW.size)⟩))
        have HSM : Hid (∀ W, Below w4.heap.size w4 W → Calls Tryz.prog 35 #[.agg #[.int .i64 y0, .slice A5 m5 c5, .slice A6 m6 c6, .int .i64 y3, .bool false], .agg #[.int .i64 x.1.doc, .slice p3 n3 k3, .slice q3 n4 k4, .int .i64 x.1.tags, .bool x.1.gone]] W fun e w' => e = .returned (.bool (decide (y = x.1))) ∧ Below w4.heap.size w4 w') := Lib.hid (fun W hW => by
          obtain ⟨hp, hv⟩ := HRX.out W (HBW4.out.trans ((HB34.out.trans (hW.mono HB34.out.size)).mono HBW4.out.size))
          rw [HET.out.1] at hp
          rw [HET.out.2] at hv
          obtain ⟨a1, a2, a3, a4⟩ := hp
          obtain ⟨b1, b2, b3, b4⟩ := hv
          have hT := HT.out.later (HB34.out.trans (hW.mono HB34.out.size))
          have hV := HV.out.later (HB34.out.trans (hW.mono HB34.out.size))
          rw [HCY.out] at hT hV
          obtain ⟨a5, a6, a7, _, _, a8⟩ := hT
          obtain ⟨b5, b6, b7, b8⟩ := hV
          injection a7 with a71 a72 a73
          injection b7 with b71 b72 b73
          injection a3 with a31 a32 a33
          injection b3 with b31 b32 b33
          subst a71 a73 b71 b73
          have hs := same_any y x.1 A5 A6 p3 q3 m5 m6 n3 n4 c5 c6 k3 k4 W (by rw [a72]; exact a8) (by rw [b72]; exact b8) (by rw [a31, a32]; exact a4.2.2) (by rw [b31, b32]; exact b4) (by rw [a72]; exact HBD.out.2.1) (by rw [b72]; exact HBD.out.2.2.1) (by rw [b32]; exact HBD.out.2.2.2)
          unfold chV at hs
          rw [HBD.out.1] at hs
          rw [hy0, hy3, HCY.out]
          exact hs.mono (fun e w' ⟨h1, h2⟩ => ⟨h1, hW.trans (h2.mono hW.size)⟩))
        clear hm5 hm6 hy0 hy3 he
        by_cases hyx : y = x.1
        · have hyb : decide (y = x.1) = true := decide_eq_true hyx
          have HS1 := Lib.hid (HYS.out hyx)
          rw [hyb] at HSM
          clear hyx hyb
          go_wp2_with fail
          rw [← HW4.out, ← HN3.out]
          refine wp_region_held_drew (S := (fun w' => w'.cell? ⟨g1, o + i, none⟩ = some (.int .i64 y.doc) ∧ w'.cell? ⟨g, o + i * 5, none⟩ = some (.int .i64 x.1.doc) ∧ w'.cell? ⟨g, o + i * 5 + 1, none⟩ = some (.slice p3 n3 k3) ∧ w'.cell? ⟨g, o + i * 5 + 2, none⟩ = some (.slice q3 n4 k4) ∧ w'.cell? ⟨g, o + i * 5 + 3, none⟩ = some (.int .i64 x.1.tags) ∧ w'.cell? ⟨g, o + i * 5 + 4, none⟩ = some (.bool x.1.gone) ∧ w'.cell? ⟨N3, 0, none⟩ = some (.int .i64 y0) ∧ w'.cell? ⟨N3, 1, none⟩ = some (.slice A5 m5 c5) ∧ w'.cell? ⟨N3, 2, none⟩ = some (.slice A6 m6 c6) ∧ w'.cell? ⟨N3, 3, none⟩ = some (.int .i64 y3) ∧ Below w4.heap.size w4 w')) (by kernel_rfl) ?_ (fun hHeld => ?_)
          · exact HALL.out _ (Below.refl w4.heap.size w4).drew
          refine wpAnyH_take (i := 0) (oi := ?oi0_b1) (v := ?v0_b1) ?hi0_b1 ?h10_b1 ?h20_b1 ?h30_b1 ?hq0_b1 ?hy0_b1 ?hs0_b1 ?hn0_b1
          case hi0_b1 => (simp only [List.getElem?_toArray, List.getElem?_cons_zero]; rfl)
          case h10_b1 => kernel_rfl
          case h20_b1 => kernel_rfl
          case h30_b1 => kernel_rfl
          case hy0_b1 => (refine Or.inl ⟨by rfl, ?_⟩; intro w0 hSw; (try dsimp only at hSw); go_simp; try (with_reducible rfl))
          case hq0_b1 => exact fun _ _ _ h => h
          case hs0_b1 => assumption
          try simp only [Act.put, List.setIfInBounds_toArray, List.set_cons_zero, List.set_cons_succ]
          refine wpAnyH_take (i := 1) (oi := ?oi1_b1) (v := ?v1_b1) ?hi1_b1 ?h11_b1 ?h21_b1 ?h31_b1 ?hq1_b1 ?hy1_b1 ?hs1_b1 ?hn1_b1
          case hi1_b1 => (simp only [List.getElem?_toArray, List.getElem?_cons_succ, List.getElem?_cons_zero]; rfl)
          case h11_b1 => kernel_rfl
          case h21_b1 => kernel_rfl
          case h31_b1 => kernel_rfl
          case hy1_b1 => (refine Or.inl ⟨by rfl, ?_⟩; intro w0 hSw; (try dsimp only at hSw); go_simp; try (with_reducible rfl))
          case hq1_b1 => exact fun _ _ _ h => h
          case hs1_b1 => assumption
          try simp only [Act.put, List.setIfInBounds_toArray, List.set_cons_zero, List.set_cons_succ]
          refine wpAnyH_take (i := 2) (oi := ?oi2_b1) (v := ?v2_b1) ?hi2_b1 ?h12_b1 ?h22_b1 ?h32_b1 ?hq2_b1 ?hy2_b1 ?hs2_b1 ?hn2_b1
          case hi2_b1 => (simp only [List.getElem?_toArray, List.getElem?_cons_succ, List.getElem?_cons_zero]; rfl)
          case h12_b1 => kernel_rfl
          case h22_b1 => kernel_rfl
          case h32_b1 => kernel_rfl
          case hy2_b1 => (refine Or.inl ⟨by rfl, ?_⟩; intro w0 hSw; (try dsimp only at hSw); go_simp; try (with_reducible rfl))
          case hq2_b1 => exact fun _ _ _ h => h
          case hs2_b1 => assumption
          try simp only [Act.put, List.setIfInBounds_toArray, List.set_cons_zero, List.set_cons_succ]
          refine wpAnyH_take (i := 3) (oi := ?oi3_b1) (v := ?v3_b1) ?hi3_b1 ?h13_b1 ?h23_b1 ?h33_b1 ?hq3_b1 ?hy3_b1 ?hs3_b1 ?hn3_b1
          case hi3_b1 => (simp only [List.getElem?_toArray, List.getElem?_cons_succ, List.getElem?_cons_zero]; rfl)
          case h13_b1 => kernel_rfl
          case h23_b1 => kernel_rfl
          case h33_b1 => kernel_rfl
          case hy3_b1 => (refine Or.inl ⟨by rfl, ?_⟩; intro w0 hSw; (try dsimp only at hSw); go_simp; try (with_reducible rfl))
          case hq3_b1 => exact fun _ _ _ h => h
          case hs3_b1 => assumption
          try simp only [Act.put, List.setIfInBounds_toArray, List.set_cons_zero, List.set_cons_succ]
          refine wpAnyH_take (i := 4) (oi := ?oi4_b1) (v := ?v4_b1) ?hi4_b1 ?h14_b1 ?h24_b1 ?h34_b1 ?hq4_b1 ?hy4_b1 ?hs4_b1 ?hn4_b1
          case hi4_b1 => (simp only [List.getElem?_toArray, List.getElem?_cons_succ, List.getElem?_cons_zero]; rfl)
          case h14_b1 => kernel_rfl
          case h24_b1 => kernel_rfl
          case h34_b1 => kernel_rfl
          case hy4_b1 => (refine Or.inl ⟨by rfl, ?_⟩; intro w0 hSw; (try dsimp only at hSw); go_simp; try (with_reducible rfl))
          case hq4_b1 => exact fun _ _ _ h => h
          case hs4_b1 => assumption
          try simp only [Act.put, List.setIfInBounds_toArray, List.set_cons_zero, List.set_cons_succ]
          refine wpAnyH_take (i := 5) (oi := ?oi5_b1) (v := ?v5_b1) ?hi5_b1 ?h15_b1 ?h25_b1 ?h35_b1 ?hq5_b1 ?hy5_b1 ?hs5_b1 ?hn5_b1
          case hi5_b1 => (simp only [List.getElem?_toArray, List.getElem?_cons_succ, List.getElem?_cons_zero]; rfl)
          case h15_b1 => kernel_rfl
          case h25_b1 => kernel_rfl
          case h35_b1 => kernel_rfl
          case hy5_b1 => (refine Or.inl ⟨by rfl, ?_⟩; intro w0 hSw; (try dsimp only at hSw); go_simp; try (with_reducible rfl))
          case hq5_b1 => exact fun _ _ _ h => h
          case hs5_b1 => assumption
          try simp only [Act.put, List.setIfInBounds_toArray, List.set_cons_zero, List.set_cons_succ]
          refine wpAnyH_take (i := 6) (oi := ?oi6_b1) (v := ?v6_b1) ?hi6_b1 ?h16_b1 ?h26_b1 ?h36_b1 ?hq6_b1 ?hy6_b1 ?hs6_b1 ?hn6_b1
          case hi6_b1 => (simp only [List.getElem?_toArray, List.getElem?_cons_succ, List.getElem?_cons_zero]; rfl)
          case h16_b1 => kernel_rfl
          case h26_b1 => kernel_rfl
          case h36_b1 => kernel_rfl
          case hy6_b1 => (refine Or.inl ⟨by rfl, ?_⟩; intro w0 hSw; (try dsimp only at hSw); go_simp; try (with_reducible rfl))
          case hq6_b1 => exact fun _ _ _ h => h
          case hs6_b1 => assumption
          try simp only [Act.put, List.setIfInBounds_toArray, List.set_cons_zero, List.set_cons_succ]
          refine wpAnyH_take (i := 7) (oi := ?oi7_b1) (v := ?v7_b1) ?hi7_b1 ?h17_b1 ?h27_b1 ?h37_b1 ?hq7_b1 ?hy7_b1 ?hs7_b1 ?hn7_b1
          case hi7_b1 => (simp only [List.getElem?_toArray, List.getElem?_cons_succ, List.getElem?_cons_zero]; rfl)
          case h17_b1 => kernel_rfl
          case h27_b1 => kernel_rfl
          case h37_b1 => kernel_rfl
          case hy7_b1 => (refine Or.inl ⟨by rfl, ?_⟩; intro w0 hSw; (try dsimp only at hSw); go_simp; try (with_reducible rfl))
          case hq7_b1 => exact fun _ _ _ h => h
          case hs7_b1 => assumption
          try simp only [Act.put, List.setIfInBounds_toArray, List.set_cons_zero, List.set_cons_succ]
          refine wpAnyH_take (i := 8) (oi := ?oi8_b1) (v := ?v8_b1) ?hi8_b1 ?h18_b1 ?h28_b1 ?h38_b1 ?hq8_b1 ?hy8_b1 ?hs8_b1 ?hn8_b1
          case hi8_b1 => (simp only [List.getElem?_toArray, List.getElem?_cons_succ, List.getElem?_cons_zero]; rfl)
          case h18_b1 => kernel_rfl
          case h28_b1 => kernel_rfl
          case h38_b1 => kernel_rfl
          case hy8_b1 => (refine Or.inl ⟨by rfl, ?_⟩; intro w0 hSw; (try dsimp only at hSw); go_simp; try (with_reducible rfl))
          case hq8_b1 => exact fun _ _ _ h => h
          case hs8_b1 => assumption
          try simp only [Act.put, List.setIfInBounds_toArray, List.set_cons_zero, List.set_cons_succ]
          refine wpAnyH_take (i := 9) (oi := ?oi9_b1) (v := ?v9_b1) ?hi9_b1 ?h19_b1 ?h29_b1 ?h39_b1 ?hq9_b1 ?hy9_b1 ?hs9_b1 ?hn9_b1
          case hi9_b1 => (simp only [List.getElem?_toArray, List.getElem?_cons_succ, List.getElem?_cons_zero]; rfl)
          case h19_b1 => kernel_rfl
          case h29_b1 => kernel_rfl
          case h39_b1 => kernel_rfl
          case hy9_b1 => (refine Or.inl ⟨by rfl, ?_⟩; intro w0 hSw; (try dsimp only at hSw); go_simp; try (with_reducible rfl))
          case hq9_b1 => exact fun _ _ _ h => h
          case hs9_b1 => assumption
          try simp only [Act.put, List.setIfInBounds_toArray, List.set_cons_zero, List.set_cons_succ]
          refine wpAnyH_take (i := 10) (oi := ?oi10_b1) (v := ?v10_b1) ?hi10_b1 ?h110_b1 ?h210_b1 ?h310_b1 ?hq10_b1 ?hy10_b1 ?hs10_b1 ?hn10_b1
          case hi10_b1 => (simp only [List.getElem?_toArray, List.getElem?_cons_succ, List.getElem?_cons_zero]; rfl)
          case h110_b1 => kernel_rfl
          case h210_b1 => kernel_rfl
          case h310_b1 => kernel_rfl
          case hy10_b1 => (refine Or.inl ⟨by rfl, ?_⟩; intro w0 hSw; (try dsimp only at hSw); go_simp; try (with_reducible rfl))
          case hq10_b1 => exact fun _ _ _ h => h
          case hs10_b1 => assumption
          try simp only [Act.put, List.setIfInBounds_toArray, List.set_cons_zero, List.set_cons_succ]
          refine wpAnyH_take (i := 11) (oi := ?oi11_b1) (v := ?v11_b1) ?hi11_b1 ?h111_b1 ?h211_b1 ?h311_b1 ?hq11_b1 ?hy11_b1 ?hs11_b1 ?hn11_b1
          case hi11_b1 => (simp only [List.getElem?_toArray, List.getElem?_cons_succ, List.getElem?_cons_zero]; rfl)
          case h111_b1 => kernel_rfl
          case h211_b1 => kernel_rfl
          case h311_b1 => kernel_rfl
          case hy11_b1 => (refine Or.inl ⟨by rfl, ?_⟩; intro w0 hSw; (try dsimp only at hSw); go_simp; try (with_reducible rfl))
          case hq11_b1 => exact fun _ _ _ h => h
          case hs11_b1 => assumption
          try simp only [Act.put, List.setIfInBounds_toArray, List.set_cons_zero, List.set_cons_succ]
          refine wpAnyH_take (i := 12) (oi := ?oi12_b1) (v := ?v12_b1) ?hi12_b1 ?h112_b1 ?h212_b1 ?h312_b1 ?hq12_b1 ?hy12_b1 ?hs12_b1 ?hn12_b1
          case hi12_b1 => (simp only [List.getElem?_toArray, List.getElem?_cons_succ, List.getElem?_cons_zero]; rfl)
          case h112_b1 => kernel_rfl
          case h212_b1 => kernel_rfl
          case h312_b1 => kernel_rfl
          case hy12_b1 => (refine Or.inl ⟨by rfl, ?_⟩; intro w0 hSw; (try dsimp only at hSw); go_simp; try (with_reducible rfl))
          case hq12_b1 => exact fun _ _ _ h => h
          case hs12_b1 => assumption
          try simp only [Act.put, List.setIfInBounds_toArray, List.set_cons_zero, List.set_cons_succ]
          refine wpAnyH_take (i := 13) (oi := ?oi13_b1) (v := ?v13_b1) ?hi13_b1 ?h113_b1 ?h213_b1 ?h313_b1 ?hq13_b1 ?hy13_b1 ?hs13_b1 ?hn13_b1
          case hi13_b1 => (simp only [List.getElem?_toArray, List.getElem?_cons_succ, List.getElem?_cons_zero]; rfl)
          case h113_b1 => kernel_rfl
          case h213_b1 => kernel_rfl
          case h313_b1 => kernel_rfl
          case hy13_b1 => (refine Or.inl ⟨by rfl, ?_⟩; intro w0 hSw; (try dsimp only at hSw); go_simp; try (with_reducible rfl))
          case hq13_b1 => exact fun _ _ _ h => h
          case hs13_b1 => assumption
          try simp only [Act.put, List.setIfInBounds_toArray, List.set_cons_zero, List.set_cons_succ]
          refine wpAnyH_take (i := 14) (oi := ?oi14_b1) (v := ?v14_b1) ?hi14_b1 ?h114_b1 ?h214_b1 ?h314_b1 ?hq14_b1 ?hy14_b1 ?hs14_b1 ?hn14_b1
          case hi14_b1 => (simp only [List.getElem?_toArray, List.getElem?_cons_succ, List.getElem?_cons_zero]; rfl)
          case h114_b1 => kernel_rfl
          case h214_b1 => kernel_rfl
          case h314_b1 => kernel_rfl
          case hy14_b1 => (refine Or.inl ⟨by rfl, ?_⟩; intro w0 hSw; (try dsimp only at hSw); go_simp; try (with_reducible rfl))
          case hq14_b1 => exact fun _ _ _ h => h
          case hs14_b1 => assumption
          try simp only [Act.put, List.setIfInBounds_toArray, List.set_cons_zero, List.set_cons_succ]
          refine wpAnyH_take (i := 15) (oi := ?oi15_b1) (v := ?v15_b1) ?hi15_b1 ?h115_b1 ?h215_b1 ?h315_b1 ?hq15_b1 ?hy15_b1 ?hs15_b1 ?hn15_b1
          case hi15_b1 => (simp only [List.getElem?_toArray, List.getElem?_cons_succ, List.getElem?_cons_zero]; rfl)
          case h115_b1 => kernel_rfl
          case h215_b1 => kernel_rfl
          case h315_b1 => kernel_rfl
          case hy15_b1 => (refine Or.inl ⟨by rfl, ?_⟩; intro w0 hSw; (try dsimp only at hSw); go_simp; try (with_reducible rfl))
          case hq15_b1 => exact fun _ _ _ h => h
          case hs15_b1 => assumption
          try simp only [Act.put, List.setIfInBounds_toArray, List.set_cons_zero, List.set_cons_succ]
          refine wpAnyH_take (i := 16) (oi := ?oi16_b1) (v := ?v16_b1) ?hi16_b1 ?h116_b1 ?h216_b1 ?h316_b1 ?hq16_b1 ?hy16_b1 ?hs16_b1 ?hn16_b1
          case hi16_b1 => (simp only [List.getElem?_toArray, List.getElem?_cons_succ, List.getElem?_cons_zero]; rfl)
          case h116_b1 => kernel_rfl
          case h216_b1 => kernel_rfl
          case h316_b1 => kernel_rfl
          case hy16_b1 => (refine Or.inl ⟨by rfl, ?_⟩; intro w0 hSw; (try dsimp only at hSw); go_simp; try (with_reducible rfl))
          case hq16_b1 => exact fun _ _ _ h => h
          case hs16_b1 => assumption
          try simp only [Act.put, List.setIfInBounds_toArray, List.set_cons_zero, List.set_cons_succ]
          refine wpAnyH_take (i := 18) (oi := ?oi18_b1) (v := ?v18_b1) ?hi18_b1 ?h118_b1 ?h218_b1 ?h318_b1 ?hq18_b1 ?hy18_b1 ?hs18_b1 ?hn18_b1
          case hi18_b1 => (simp only [List.getElem?_toArray, List.getElem?_cons_succ, List.getElem?_cons_zero]; rfl)
          case h118_b1 => kernel_rfl
          case h218_b1 => kernel_rfl
          case h318_b1 => kernel_rfl
          case hy18_b1 => (refine Or.inl ⟨by rfl, ?_⟩; intro w0 hSw; (try dsimp only at hSw); go_simp; try (with_reducible rfl))
          case hq18_b1 => exact fun _ _ _ h => h
          case hs18_b1 => assumption
          try simp only [Act.put, List.setIfInBounds_toArray, List.set_cons_zero, List.set_cons_succ]
          refine wpAnyH_take (i := 19) (oi := ?oi19_b1) (v := ?v19_b1) ?hi19_b1 ?h119_b1 ?h219_b1 ?h319_b1 ?hq19_b1 ?hy19_b1 ?hs19_b1 ?hn19_b1
          case hi19_b1 => (simp only [List.getElem?_toArray, List.getElem?_cons_succ, List.getElem?_cons_zero]; rfl)
          case h119_b1 => kernel_rfl
          case h219_b1 => kernel_rfl
          case h319_b1 => kernel_rfl
          case hy19_b1 => (refine Or.inl ⟨by rfl, ?_⟩; intro w0 hSw; (try dsimp only at hSw); go_simp; try (with_reducible rfl))
          case hq19_b1 => exact fun _ _ _ h => h
          case hs19_b1 => assumption
          try simp only [Act.put, List.setIfInBounds_toArray, List.set_cons_zero, List.set_cons_succ]
          refine wpAnyH_take (i := 20) (oi := ?oi20_b1) (v := ?v20_b1) ?hi20_b1 ?h120_b1 ?h220_b1 ?h320_b1 ?hq20_b1 ?hy20_b1 ?hs20_b1 ?hn20_b1
          case hi20_b1 => (simp only [List.getElem?_toArray, List.getElem?_cons_succ, List.getElem?_cons_zero]; rfl)
          case h120_b1 => kernel_rfl
          case h220_b1 => kernel_rfl
          case h320_b1 => kernel_rfl
          case hy20_b1 => (refine Or.inl ⟨by rfl, ?_⟩; intro w0 hSw; (try dsimp only at hSw); go_simp; try (with_reducible rfl))
          case hq20_b1 => exact fun _ _ _ h => h
          case hs20_b1 => assumption
          try simp only [Act.put, List.setIfInBounds_toArray, List.set_cons_zero, List.set_cons_succ]
          refine wpAnyH_take (i := 21) (oi := ?oi21_b1) (v := ?v21_b1) ?hi21_b1 ?h121_b1 ?h221_b1 ?h321_b1 ?hq21_b1 ?hy21_b1 ?hs21_b1 ?hn21_b1
          case hi21_b1 => (simp only [List.getElem?_toArray, List.getElem?_cons_succ, List.getElem?_cons_zero]; rfl)
          case h121_b1 => kernel_rfl
          case h221_b1 => kernel_rfl
          case h321_b1 => kernel_rfl
          case hy21_b1 => (refine Or.inl ⟨by rfl, ?_⟩; intro w0 hSw; (try dsimp only at hSw); go_simp; try (with_reducible rfl))
          case hq21_b1 => exact fun _ _ _ h => h
          case hs21_b1 => assumption
          try simp only [Act.put, List.setIfInBounds_toArray, List.set_cons_zero, List.set_cons_succ]
          refine wpAnyH_ready (rs := [17]) (by kernel_rfl) (by simp) ?_
          refine AllReadyH.cons (o := _) rfl (fun K hK => ?_) AllReadyH.nil
          go_simp
          refine (HOF.out _ (Below.refl _ _).drew).mono ?_
          rintro e w5 ⟨rfl, hb5⟩
          have HB5 := Lib.hid hb5
          clear hb5
          go_wp2_with fail
          refine hK.out _ _ ?_ (fun hHeld2 => ?_)
          · exact HALL.out _ HB5.out
          clear hK K
          try simp only [Act.put, List.setIfInBounds_toArray, List.set_cons_zero, List.set_cons_succ]
          clear hHeld
          have hHeld := hHeld2
          clear hHeld2
          refine wpAnyH_ready (rs := [22]) (by kernel_rfl) (by simp) ?_
          refine AllReadyH.cons (o := _) rfl (fun K hK => ?_) AllReadyH.nil
          go_simp
          refine (HSM.out _ HB5.out).mono ?_
          rintro e w6 ⟨rfl, hb5⟩
          have HB6 := Lib.hid hb5
          clear hb5
          go_wp2_with fail
          refine hK.out _ _ ?_ (fun hHeld2 => ?_)
          · exact HALL.out _ HB6.out
          clear hK K
          try simp only [Act.put, List.setIfInBounds_toArray, List.set_cons_zero, List.set_cons_succ]
          clear hHeld
          have hHeld := hHeld2
          clear hHeld2
          refine wpAnyH_take (i := 23) (oi := ?oi23_b1) (v := ?v23_b1) ?hi23_b1 ?h123_b1 ?h223_b1 ?h323_b1 ?hq23_b1 ?hy23_b1 ?hs23_b1 ?hn23_b1
          case hi23_b1 => (simp only [List.getElem?_toArray, List.getElem?_cons_succ, List.getElem?_cons_zero]; rfl)
          case h123_b1 => kernel_rfl
          case h223_b1 => kernel_rfl
          case h323_b1 => kernel_rfl
          case hy23_b1 => (refine Or.inl ⟨by rfl, ?_⟩; intro w0 hSw; (try dsimp only at hSw); go_simp; try (with_reducible rfl))
          case hq23_b1 => exact fun _ _ _ h => h
          case hs23_b1 => assumption
          try simp only [Act.put, List.setIfInBounds_toArray, List.set_cons_zero, List.set_cons_succ]
          refine wpAnyH_take (i := 24) (oi := ?oi24_b1) (v := ?v24_b1) ?hi24_b1 ?h124_b1 ?h224_b1 ?h324_b1 ?hq24_b1 ?hy24_b1 ?hs24_b1 ?hn24_b1
          case hi24_b1 => (simp only [List.getElem?_toArray, List.getElem?_cons_succ, List.getElem?_cons_zero]; rfl)
          case h124_b1 => kernel_rfl
          case h224_b1 => kernel_rfl
          case h324_b1 => kernel_rfl
          case hy24_b1 => (refine Or.inl ⟨by rfl, ?_⟩; intro w0 hSw; (try dsimp only at hSw); go_simp; try (with_reducible rfl))
          case hq24_b1 => exact fun _ _ _ h => h
          case hs24_b1 => assumption
          try simp only [Act.put, List.setIfInBounds_toArray, List.set_cons_zero, List.set_cons_succ]
          refine wpAnyH_done (by kernel_rfl) ?_ _
          go_wp2
          go_roundw
          case rel => exact ⟨i + 1, by go_num, HIM.out, HS1.out, HB14.out.trans (HB6.out.mono HB14.out.size)⟩
          case measure => simp [intOf]; omega
        · have hyb : decide (y = x.1) = false := decide_eq_false hyx
          have HF : Hid (z = false) := Lib.hid (by
            cases hzz : z with
            | false => rfl
            | true => exact absurd (HNX.out hzz) hyx)
          rw [hyb] at HSM
          clear hyx hyb
          go_wp2_with fail
          rw [← HW4.out, ← HN3.out]
          refine wp_region_held_drew (S := (fun w' => w'.cell? ⟨g1, o + i, none⟩ = some (.int .i64 y.doc) ∧ w'.cell? ⟨g, o + i * 5, none⟩ = some (.int .i64 x.1.doc) ∧ w'.cell? ⟨g, o + i * 5 + 1, none⟩ = some (.slice p3 n3 k3) ∧ w'.cell? ⟨g, o + i * 5 + 2, none⟩ = some (.slice q3 n4 k4) ∧ w'.cell? ⟨g, o + i * 5 + 3, none⟩ = some (.int .i64 x.1.tags) ∧ w'.cell? ⟨g, o + i * 5 + 4, none⟩ = some (.bool x.1.gone) ∧ w'.cell? ⟨N3, 0, none⟩ = some (.int .i64 y0) ∧ w'.cell? ⟨N3, 1, none⟩ = some (.slice A5 m5 c5) ∧ w'.cell? ⟨N3, 2, none⟩ = some (.slice A6 m6 c6) ∧ w'.cell? ⟨N3, 3, none⟩ = some (.int .i64 y3) ∧ Below w4.heap.size w4 w')) (by kernel_rfl) ?_ (fun hHeld => ?_)
          · exact HALL.out _ (Below.refl w4.heap.size w4).drew
          refine wpAnyH_take (i := 0) (oi := ?oi0_b2) (v := ?v0_b2) ?hi0_b2 ?h10_b2 ?h20_b2 ?h30_b2 ?hq0_b2 ?hy0_b2 ?hs0_b2 ?hn0_b2
          case hi0_b2 => (simp only [List.getElem?_toArray, List.getElem?_cons_zero]; rfl)
          case h10_b2 => kernel_rfl
          case h20_b2 => kernel_rfl
          case h30_b2 => kernel_rfl
          case hy0_b2 => (refine Or.inl ⟨by rfl, ?_⟩; intro w0 hSw; (try dsimp only at hSw); go_simp; try (with_reducible rfl))
          case hq0_b2 => exact fun _ _ _ h => h
          case hs0_b2 => assumption
          try simp only [Act.put, List.setIfInBounds_toArray, List.set_cons_zero, List.set_cons_succ]
          refine wpAnyH_take (i := 1) (oi := ?oi1_b2) (v := ?v1_b2) ?hi1_b2 ?h11_b2 ?h21_b2 ?h31_b2 ?hq1_b2 ?hy1_b2 ?hs1_b2 ?hn1_b2
          case hi1_b2 => (simp only [List.getElem?_toArray, List.getElem?_cons_succ, List.getElem?_cons_zero]; rfl)
          case h11_b2 => kernel_rfl
          case h21_b2 => kernel_rfl
          case h31_b2 => kernel_rfl
          case hy1_b2 => (refine Or.inl ⟨by rfl, ?_⟩; intro w0 hSw; (try dsimp only at hSw); go_simp; try (with_reducible rfl))
          case hq1_b2 => exact fun _ _ _ h => h
          case hs1_b2 => assumption
          try simp only [Act.put, List.setIfInBounds_toArray, List.set_cons_zero, List.set_cons_succ]
          refine wpAnyH_take (i := 2) (oi := ?oi2_b2) (v := ?v2_b2) ?hi2_b2 ?h12_b2 ?h22_b2 ?h32_b2 ?hq2_b2 ?hy2_b2 ?hs2_b2 ?hn2_b2
          case hi2_b2 => (simp only [List.getElem?_toArray, List.getElem?_cons_succ, List.getElem?_cons_zero]; rfl)
          case h12_b2 => kernel_rfl
          case h22_b2 => kernel_rfl
          case h32_b2 => kernel_rfl
          case hy2_b2 => (refine Or.inl ⟨by rfl, ?_⟩; intro w0 hSw; (try dsimp only at hSw); go_simp; try (with_reducible rfl))
          case hq2_b2 => exact fun _ _ _ h => h
          case hs2_b2 => assumption
          try simp only [Act.put, List.setIfInBounds_toArray, List.set_cons_zero, List.set_cons_succ]
          refine wpAnyH_take (i := 3) (oi := ?oi3_b2) (v := ?v3_b2) ?hi3_b2 ?h13_b2 ?h23_b2 ?h33_b2 ?hq3_b2 ?hy3_b2 ?hs3_b2 ?hn3_b2
          case hi3_b2 => (simp only [List.getElem?_toArray, List.getElem?_cons_succ, List.getElem?_cons_zero]; rfl)
          case h13_b2 => kernel_rfl
          case h23_b2 => kernel_rfl
          case h33_b2 => kernel_rfl
          case hy3_b2 => (refine Or.inl ⟨by rfl, ?_⟩; intro w0 hSw; (try dsimp only at hSw); go_simp; try (with_reducible rfl))
          case hq3_b2 => exact fun _ _ _ h => h
          case hs3_b2 => assumption
          try simp only [Act.put, List.setIfInBounds_toArray, List.set_cons_zero, List.set_cons_succ]
          refine wpAnyH_take (i := 4) (oi := ?oi4_b2) (v := ?v4_b2) ?hi4_b2 ?h14_b2 ?h24_b2 ?h34_b2 ?hq4_b2 ?hy4_b2 ?hs4_b2 ?hn4_b2
          case hi4_b2 => (simp only [List.getElem?_toArray, List.getElem?_cons_succ, List.getElem?_cons_zero]; rfl)
          case h14_b2 => kernel_rfl
          case h24_b2 => kernel_rfl
          case h34_b2 => kernel_rfl
          case hy4_b2 => (refine Or.inl ⟨by rfl, ?_⟩; intro w0 hSw; (try dsimp only at hSw); go_simp; try (with_reducible rfl))
          case hq4_b2 => exact fun _ _ _ h => h
          case hs4_b2 => assumption
          try simp only [Act.put, List.setIfInBounds_toArray, List.set_cons_zero, List.set_cons_succ]
          refine wpAnyH_take (i := 5) (oi := ?oi5_b2) (v := ?v5_b2) ?hi5_b2 ?h15_b2 ?h25_b2 ?h35_b2 ?hq5_b2 ?hy5_b2 ?hs5_b2 ?hn5_b2
          case hi5_b2 => (simp only [List.getElem?_toArray, List.getElem?_cons_succ, List.getElem?_cons_zero]; rfl)
          case h15_b2 => kernel_rfl
          case h25_b2 => kernel_rfl
          case h35_b2 => kernel_rfl
          case hy5_b2 => (refine Or.inl ⟨by rfl, ?_⟩; intro w0 hSw; (try dsimp only at hSw); go_simp; try (with_reducible rfl))
          case hq5_b2 => exact fun _ _ _ h => h
          case hs5_b2 => assumption
          try simp only [Act.put, List.setIfInBounds_toArray, List.set_cons_zero, List.set_cons_succ]
          refine wpAnyH_take (i := 6) (oi := ?oi6_b2) (v := ?v6_b2) ?hi6_b2 ?h16_b2 ?h26_b2 ?h36_b2 ?hq6_b2 ?hy6_b2 ?hs6_b2 ?hn6_b2
          case hi6_b2 => (simp only [List.getElem?_toArray, List.getElem?_cons_succ, List.getElem?_cons_zero]; rfl)
          case h16_b2 => kernel_rfl
          case h26_b2 => kernel_rfl
          case h36_b2 => kernel_rfl
          case hy6_b2 => (refine Or.inl ⟨by rfl, ?_⟩; intro w0 hSw; (try dsimp only at hSw); go_simp; try (with_reducible rfl))
          case hq6_b2 => exact fun _ _ _ h => h
          case hs6_b2 => assumption
          try simp only [Act.put, List.setIfInBounds_toArray, List.set_cons_zero, List.set_cons_succ]
          refine wpAnyH_take (i := 7) (oi := ?oi7_b2) (v := ?v7_b2) ?hi7_b2 ?h17_b2 ?h27_b2 ?h37_b2 ?hq7_b2 ?hy7_b2 ?hs7_b2 ?hn7_b2
          case hi7_b2 => (simp only [List.getElem?_toArray, List.getElem?_cons_succ, List.getElem?_cons_zero]; rfl)
          case h17_b2 => kernel_rfl
          case h27_b2 => kernel_rfl
          case h37_b2 => kernel_rfl
          case hy7_b2 => (refine Or.inl ⟨by rfl, ?_⟩; intro w0 hSw; (try dsimp only at hSw); go_simp; try (with_reducible rfl))
          case hq7_b2 => exact fun _ _ _ h => h
          case hs7_b2 => assumption
          try simp only [Act.put, List.setIfInBounds_toArray, List.set_cons_zero, List.set_cons_succ]
          refine wpAnyH_take (i := 8) (oi := ?oi8_b2) (v := ?v8_b2) ?hi8_b2 ?h18_b2 ?h28_b2 ?h38_b2 ?hq8_b2 ?hy8_b2 ?hs8_b2 ?hn8_b2
          case hi8_b2 => (simp only [List.getElem?_toArray, List.getElem?_cons_succ, List.getElem?_cons_zero]; rfl)
          case h18_b2 => kernel_rfl
          case h28_b2 => kernel_rfl
          case h38_b2 => kernel_rfl
          case hy8_b2 => (refine Or.inl ⟨by rfl, ?_⟩; intro w0 hSw; (try dsimp only at hSw); go_simp; try (with_reducible rfl))
          case hq8_b2 => exact fun _ _ _ h => h
          case hs8_b2 => assumption
          try simp only [Act.put, List.setIfInBounds_toArray, List.set_cons_zero, List.set_cons_succ]
          refine wpAnyH_take (i := 9) (oi := ?oi9_b2) (v := ?v9_b2) ?hi9_b2 ?h19_b2 ?h29_b2 ?h39_b2 ?hq9_b2 ?hy9_b2 ?hs9_b2 ?hn9_b2
          case hi9_b2 => (simp only [List.getElem?_toArray, List.getElem?_cons_succ, List.getElem?_cons_zero]; rfl)
          case h19_b2 => kernel_rfl
          case h29_b2 => kernel_rfl
          case h39_b2 => kernel_rfl
          case hy9_b2 => (refine Or.inl ⟨by rfl, ?_⟩; intro w0 hSw; (try dsimp only at hSw); go_simp; try (with_reducible rfl))
          case hq9_b2 => exact fun _ _ _ h => h
          case hs9_b2 => assumption
          try simp only [Act.put, List.setIfInBounds_toArray, List.set_cons_zero, List.set_cons_succ]
          refine wpAnyH_take (i := 10) (oi := ?oi10_b2) (v := ?v10_b2) ?hi10_b2 ?h110_b2 ?h210_b2 ?h310_b2 ?hq10_b2 ?hy10_b2 ?hs10_b2 ?hn10_b2
          case hi10_b2 => (simp only [List.getElem?_toArray, List.getElem?_cons_succ, List.getElem?_cons_zero]; rfl)
          case h110_b2 => kernel_rfl
          case h210_b2 => kernel_rfl
          case h310_b2 => kernel_rfl
          case hy10_b2 => (refine Or.inl ⟨by rfl, ?_⟩; intro w0 hSw; (try dsimp only at hSw); go_simp; try (with_reducible rfl))
          case hq10_b2 => exact fun _ _ _ h => h
          case hs10_b2 => assumption
          try simp only [Act.put, List.setIfInBounds_toArray, List.set_cons_zero, List.set_cons_succ]
          refine wpAnyH_take (i := 11) (oi := ?oi11_b2) (v := ?v11_b2) ?hi11_b2 ?h111_b2 ?h211_b2 ?h311_b2 ?hq11_b2 ?hy11_b2 ?hs11_b2 ?hn11_b2
          case hi11_b2 => (simp only [List.getElem?_toArray, List.getElem?_cons_succ, List.getElem?_cons_zero]; rfl)
          case h111_b2 => kernel_rfl
          case h211_b2 => kernel_rfl
          case h311_b2 => kernel_rfl
          case hy11_b2 => (refine Or.inl ⟨by rfl, ?_⟩; intro w0 hSw; (try dsimp only at hSw); go_simp; try (with_reducible rfl))
          case hq11_b2 => exact fun _ _ _ h => h
          case hs11_b2 => assumption
          try simp only [Act.put, List.setIfInBounds_toArray, List.set_cons_zero, List.set_cons_succ]
          refine wpAnyH_take (i := 12) (oi := ?oi12_b2) (v := ?v12_b2) ?hi12_b2 ?h112_b2 ?h212_b2 ?h312_b2 ?hq12_b2 ?hy12_b2 ?hs12_b2 ?hn12_b2
          case hi12_b2 => (simp only [List.getElem?_toArray, List.getElem?_cons_succ, List.getElem?_cons_zero]; rfl)
          case h112_b2 => kernel_rfl
          case h212_b2 => kernel_rfl
          case h312_b2 => kernel_rfl
          case hy12_b2 => (refine Or.inl ⟨by rfl, ?_⟩; intro w0 hSw; (try dsimp only at hSw); go_simp; try (with_reducible rfl))
          case hq12_b2 => exact fun _ _ _ h => h
          case hs12_b2 => assumption
          try simp only [Act.put, List.setIfInBounds_toArray, List.set_cons_zero, List.set_cons_succ]
          refine wpAnyH_take (i := 13) (oi := ?oi13_b2) (v := ?v13_b2) ?hi13_b2 ?h113_b2 ?h213_b2 ?h313_b2 ?hq13_b2 ?hy13_b2 ?hs13_b2 ?hn13_b2
          case hi13_b2 => (simp only [List.getElem?_toArray, List.getElem?_cons_succ, List.getElem?_cons_zero]; rfl)
          case h113_b2 => kernel_rfl
          case h213_b2 => kernel_rfl
          case h313_b2 => kernel_rfl
          case hy13_b2 => (refine Or.inl ⟨by rfl, ?_⟩; intro w0 hSw; (try dsimp only at hSw); go_simp; try (with_reducible rfl))
          case hq13_b2 => exact fun _ _ _ h => h
          case hs13_b2 => assumption
          try simp only [Act.put, List.setIfInBounds_toArray, List.set_cons_zero, List.set_cons_succ]
          refine wpAnyH_take (i := 14) (oi := ?oi14_b2) (v := ?v14_b2) ?hi14_b2 ?h114_b2 ?h214_b2 ?h314_b2 ?hq14_b2 ?hy14_b2 ?hs14_b2 ?hn14_b2
          case hi14_b2 => (simp only [List.getElem?_toArray, List.getElem?_cons_succ, List.getElem?_cons_zero]; rfl)
          case h114_b2 => kernel_rfl
          case h214_b2 => kernel_rfl
          case h314_b2 => kernel_rfl
          case hy14_b2 => (refine Or.inl ⟨by rfl, ?_⟩; intro w0 hSw; (try dsimp only at hSw); go_simp; try (with_reducible rfl))
          case hq14_b2 => exact fun _ _ _ h => h
          case hs14_b2 => assumption
          try simp only [Act.put, List.setIfInBounds_toArray, List.set_cons_zero, List.set_cons_succ]
          refine wpAnyH_take (i := 15) (oi := ?oi15_b2) (v := ?v15_b2) ?hi15_b2 ?h115_b2 ?h215_b2 ?h315_b2 ?hq15_b2 ?hy15_b2 ?hs15_b2 ?hn15_b2
          case hi15_b2 => (simp only [List.getElem?_toArray, List.getElem?_cons_succ, List.getElem?_cons_zero]; rfl)
          case h115_b2 => kernel_rfl
          case h215_b2 => kernel_rfl
          case h315_b2 => kernel_rfl
          case hy15_b2 => (refine Or.inl ⟨by rfl, ?_⟩; intro w0 hSw; (try dsimp only at hSw); go_simp; try (with_reducible rfl))
          case hq15_b2 => exact fun _ _ _ h => h
          case hs15_b2 => assumption
          try simp only [Act.put, List.setIfInBounds_toArray, List.set_cons_zero, List.set_cons_succ]
          refine wpAnyH_take (i := 16) (oi := ?oi16_b2) (v := ?v16_b2) ?hi16_b2 ?h116_b2 ?h216_b2 ?h316_b2 ?hq16_b2 ?hy16_b2 ?hs16_b2 ?hn16_b2
          case hi16_b2 => (simp only [List.getElem?_toArray, List.getElem?_cons_succ, List.getElem?_cons_zero]; rfl)
          case h116_b2 => kernel_rfl
          case h216_b2 => kernel_rfl
          case h316_b2 => kernel_rfl
          case hy16_b2 => (refine Or.inl ⟨by rfl, ?_⟩; intro w0 hSw; (try dsimp only at hSw); go_simp; try (with_reducible rfl))
          case hq16_b2 => exact fun _ _ _ h => h
          case hs16_b2 => assumption
          try simp only [Act.put, List.setIfInBounds_toArray, List.set_cons_zero, List.set_cons_succ]
          refine wpAnyH_take (i := 18) (oi := ?oi18_b2) (v := ?v18_b2) ?hi18_b2 ?h118_b2 ?h218_b2 ?h318_b2 ?hq18_b2 ?hy18_b2 ?hs18_b2 ?hn18_b2
          case hi18_b2 => (simp only [List.getElem?_toArray, List.getElem?_cons_succ, List.getElem?_cons_zero]; rfl)
          case h118_b2 => kernel_rfl
          case h218_b2 => kernel_rfl
          case h318_b2 => kernel_rfl
          case hy18_b2 => (refine Or.inl ⟨by rfl, ?_⟩; intro w0 hSw; (try dsimp only at hSw); go_simp; try (with_reducible rfl))
          case hq18_b2 => exact fun _ _ _ h => h
          case hs18_b2 => assumption
          try simp only [Act.put, List.setIfInBounds_toArray, List.set_cons_zero, List.set_cons_succ]
          refine wpAnyH_take (i := 19) (oi := ?oi19_b2) (v := ?v19_b2) ?hi19_b2 ?h119_b2 ?h219_b2 ?h319_b2 ?hq19_b2 ?hy19_b2 ?hs19_b2 ?hn19_b2
          case hi19_b2 => (simp only [List.getElem?_toArray, List.getElem?_cons_succ, List.getElem?_cons_zero]; rfl)
          case h119_b2 => kernel_rfl
          case h219_b2 => kernel_rfl
          case h319_b2 => kernel_rfl
          case hy19_b2 => (refine Or.inl ⟨by rfl, ?_⟩; intro w0 hSw; (try dsimp only at hSw); go_simp; try (with_reducible rfl))
          case hq19_b2 => exact fun _ _ _ h => h
          case hs19_b2 => assumption
          try simp only [Act.put, List.setIfInBounds_toArray, List.set_cons_zero, List.set_cons_succ]
          refine wpAnyH_take (i := 20) (oi := ?oi20_b2) (v := ?v20_b2) ?hi20_b2 ?h120_b2 ?h220_b2 ?h320_b2 ?hq20_b2 ?hy20_b2 ?hs20_b2 ?hn20_b2
          case hi20_b2 => (simp only [List.getElem?_toArray, List.getElem?_cons_succ, List.getElem?_cons_zero]; rfl)
          case h120_b2 => kernel_rfl
          case h220_b2 => kernel_rfl
          case h320_b2 => kernel_rfl
          case hy20_b2 => (refine Or.inl ⟨by rfl, ?_⟩; intro w0 hSw; (try dsimp only at hSw); go_simp; try (with_reducible rfl))
          case hq20_b2 => exact fun _ _ _ h => h
          case hs20_b2 => assumption
          try simp only [Act.put, List.setIfInBounds_toArray, List.set_cons_zero, List.set_cons_succ]
          refine wpAnyH_take (i := 21) (oi := ?oi21_b2) (v := ?v21_b2) ?hi21_b2 ?h121_b2 ?h221_b2 ?h321_b2 ?hq21_b2 ?hy21_b2 ?hs21_b2 ?hn21_b2
          case hi21_b2 => (simp only [List.getElem?_toArray, List.getElem?_cons_succ, List.getElem?_cons_zero]; rfl)
          case h121_b2 => kernel_rfl
          case h221_b2 => kernel_rfl
          case h321_b2 => kernel_rfl
          case hy21_b2 => (refine Or.inl ⟨by rfl, ?_⟩; intro w0 hSw; (try dsimp only at hSw); go_simp; try (with_reducible rfl))
          case hq21_b2 => exact fun _ _ _ h => h
          case hs21_b2 => assumption
          try simp only [Act.put, List.setIfInBounds_toArray, List.set_cons_zero, List.set_cons_succ]
          refine wpAnyH_ready (rs := [17]) (by kernel_rfl) (by simp) ?_
          refine AllReadyH.cons (o := _) rfl (fun K hK => ?_) AllReadyH.nil
          go_simp
          refine (HOF.out _ (Below.refl _ _).drew).mono ?_
          rintro e w5 ⟨rfl, hb5⟩
          have HB5 := Lib.hid hb5
          clear hb5
          go_wp2_with fail
          refine hK.out _ _ ?_ (fun hHeld2 => ?_)
          · exact HALL.out _ HB5.out
          clear hK K
          try simp only [Act.put, List.setIfInBounds_toArray, List.set_cons_zero, List.set_cons_succ]
          clear hHeld
          have hHeld := hHeld2
          clear hHeld2
          refine wpAnyH_ready (rs := [22]) (by kernel_rfl) (by simp) ?_
          refine AllReadyH.cons (o := _) rfl (fun K hK => ?_) AllReadyH.nil
          go_simp
          refine (HSM.out _ HB5.out).mono ?_
          rintro e w6 ⟨rfl, hb5⟩
          have HB6 := Lib.hid hb5
          clear hb5
          go_wp2_with fail
          refine hK.out _ _ ?_ (fun hHeld2 => ?_)
          · exact HALL.out _ HB6.out
          clear hK K
          try simp only [Act.put, List.setIfInBounds_toArray, List.set_cons_zero, List.set_cons_succ]
          clear hHeld
          have hHeld := hHeld2
          clear hHeld2
          refine wpAnyH_take (i := 23) (oi := ?oi23_b2) (v := ?v23_b2) ?hi23_b2 ?h123_b2 ?h223_b2 ?h323_b2 ?hq23_b2 ?hy23_b2 ?hs23_b2 ?hn23_b2
          case hi23_b2 => (simp only [List.getElem?_toArray, List.getElem?_cons_succ, List.getElem?_cons_zero]; rfl)
          case h123_b2 => kernel_rfl
          case h223_b2 => kernel_rfl
          case h323_b2 => kernel_rfl
          case hy23_b2 => (refine Or.inl ⟨by rfl, ?_⟩; intro w0 hSw; (try dsimp only at hSw); go_simp; try (with_reducible rfl))
          case hq23_b2 => exact fun _ _ _ h => h
          case hs23_b2 => assumption
          try simp only [Act.put, List.setIfInBounds_toArray, List.set_cons_zero, List.set_cons_succ]
          refine wpAnyH_take (i := 24) (oi := ?oi24_b2) (v := ?v24_b2) ?hi24_b2 ?h124_b2 ?h224_b2 ?h324_b2 ?hq24_b2 ?hy24_b2 ?hs24_b2 ?hn24_b2
          case hi24_b2 => (simp only [List.getElem?_toArray, List.getElem?_cons_succ, List.getElem?_cons_zero]; rfl)
          case h124_b2 => kernel_rfl
          case h224_b2 => kernel_rfl
          case h324_b2 => kernel_rfl
          case hy24_b2 => (refine Or.inl ⟨by rfl, ?_⟩; intro w0 hSw; (try dsimp only at hSw); go_simp; try (with_reducible rfl))
          case hq24_b2 => exact fun _ _ _ h => h
          case hs24_b2 => assumption
          try simp only [Act.put, List.setIfInBounds_toArray, List.set_cons_zero, List.set_cons_succ]
          refine wpAnyH_done (by kernel_rfl) ?_ _
          go_wp2
          go_ret
          exact ⟨by (rw [HF.out]); first | done | rfl, HB1.out.trans ((HB14.out.trans (HB6.out.mono HB14.out.size)).mono HB1.out.size)⟩
      · have heb : (y.doc != x.1.doc) = true := by simpa using he
        have HF : Hid (z = false) := Lib.hid (by
          cases hzz : z with
          | false => rfl
          | true => exact absurd (by rw [HNX.out hzz]) he)
        clear he hm5 hm6 hy0 hy3
        go_wp2_with fail
        rw [← HW4.out, ← HN3.out]
        refine wp_region_held_drew (S := (fun w' => w'.cell? ⟨g1, o + i, none⟩ = some (.int .i64 y.doc) ∧ w'.cell? ⟨g, o + i * 5, none⟩ = some (.int .i64 x.1.doc) ∧ w'.cell? ⟨g, o + i * 5 + 1, none⟩ = some (.slice p3 n3 k3) ∧ w'.cell? ⟨g, o + i * 5 + 2, none⟩ = some (.slice q3 n4 k4) ∧ w'.cell? ⟨g, o + i * 5 + 3, none⟩ = some (.int .i64 x.1.tags) ∧ w'.cell? ⟨g, o + i * 5 + 4, none⟩ = some (.bool x.1.gone) ∧ w'.cell? ⟨N3, 0, none⟩ = some (.int .i64 y0) ∧ w'.cell? ⟨N3, 1, none⟩ = some (.slice A5 m5 c5) ∧ w'.cell? ⟨N3, 2, none⟩ = some (.slice A6 m6 c6) ∧ w'.cell? ⟨N3, 3, none⟩ = some (.int .i64 y3) ∧ Below w4.heap.size w4 w')) (by kernel_rfl) ?_ (fun hHeld => ?_)
        · exact HALL.out _ (Below.refl w4.heap.size w4).drew
        refine wpAnyH_take (i := 0) (oi := ?oi0_a) (v := ?v0_a) ?hi0_a ?h10_a ?h20_a ?h30_a ?hq0_a ?hy0_a ?hs0_a ?hn0_a
        case hi0_a => (simp only [List.getElem?_toArray, List.getElem?_cons_zero]; rfl)
        case h10_a => kernel_rfl
        case h20_a => kernel_rfl
        case h30_a => kernel_rfl
        case hy0_a => (refine Or.inl ⟨by rfl, ?_⟩; intro w0 hSw; (try dsimp only at hSw); go_simp; try (with_reducible rfl))
        case hq0_a => exact fun _ _ _ h => h
        case hs0_a => assumption
        try simp only [Act.put, List.setIfInBounds_toArray, List.set_cons_zero, List.set_cons_succ]
        refine wpAnyH_take (i := 1) (oi := ?oi1_a) (v := ?v1_a) ?hi1_a ?h11_a ?h21_a ?h31_a ?hq1_a ?hy1_a ?hs1_a ?hn1_a
        case hi1_a => (simp only [List.getElem?_toArray, List.getElem?_cons_succ, List.getElem?_cons_zero]; rfl)
        case h11_a => kernel_rfl
        case h21_a => kernel_rfl
        case h31_a => kernel_rfl
        case hy1_a => (refine Or.inl ⟨by rfl, ?_⟩; intro w0 hSw; (try dsimp only at hSw); go_simp; try (with_reducible rfl))
        case hq1_a => exact fun _ _ _ h => h
        case hs1_a => assumption
        try simp only [Act.put, List.setIfInBounds_toArray, List.set_cons_zero, List.set_cons_succ]
        refine wpAnyH_take (i := 2) (oi := ?oi2_a) (v := ?v2_a) ?hi2_a ?h12_a ?h22_a ?h32_a ?hq2_a ?hy2_a ?hs2_a ?hn2_a
        case hi2_a => (simp only [List.getElem?_toArray, List.getElem?_cons_succ, List.getElem?_cons_zero]; rfl)
        case h12_a => kernel_rfl
        case h22_a => kernel_rfl
        case h32_a => kernel_rfl
        case hy2_a => (refine Or.inl ⟨by rfl, ?_⟩; intro w0 hSw; (try dsimp only at hSw); go_simp; try (with_reducible rfl))
        case hq2_a => exact fun _ _ _ h => h
        case hs2_a => assumption
        try simp only [Act.put, List.setIfInBounds_toArray, List.set_cons_zero, List.set_cons_succ]
        refine wpAnyH_take (i := 3) (oi := ?oi3_a) (v := ?v3_a) ?hi3_a ?h13_a ?h23_a ?h33_a ?hq3_a ?hy3_a ?hs3_a ?hn3_a
        case hi3_a => (simp only [List.getElem?_toArray, List.getElem?_cons_succ, List.getElem?_cons_zero]; rfl)
        case h13_a => kernel_rfl
        case h23_a => kernel_rfl
        case h33_a => kernel_rfl
        case hy3_a => (refine Or.inl ⟨by rfl, ?_⟩; intro w0 hSw; (try dsimp only at hSw); go_simp; try (with_reducible rfl))
        case hq3_a => exact fun _ _ _ h => h
        case hs3_a => assumption
        try simp only [Act.put, List.setIfInBounds_toArray, List.set_cons_zero, List.set_cons_succ]
        refine wpAnyH_take (i := 4) (oi := ?oi4_a) (v := ?v4_a) ?hi4_a ?h14_a ?h24_a ?h34_a ?hq4_a ?hy4_a ?hs4_a ?hn4_a
        case hi4_a => (simp only [List.getElem?_toArray, List.getElem?_cons_succ, List.getElem?_cons_zero]; rfl)
        case h14_a => kernel_rfl
        case h24_a => kernel_rfl
        case h34_a => kernel_rfl
        case hy4_a => (refine Or.inl ⟨by rfl, ?_⟩; intro w0 hSw; (try dsimp only at hSw); go_simp; try (with_reducible rfl))
        case hq4_a => exact fun _ _ _ h => h
        case hs4_a => assumption
        try simp only [Act.put, List.setIfInBounds_toArray, List.set_cons_zero, List.set_cons_succ]
        refine wpAnyH_take (i := 5) (oi := ?oi5_a) (v := ?v5_a) ?hi5_a ?h15_a ?h25_a ?h35_a ?hq5_a ?hy5_a ?hs5_a ?hn5_a
        case hi5_a => (simp only [List.getElem?_toArray, List.getElem?_cons_succ, List.getElem?_cons_zero]; rfl)
        case h15_a => kernel_rfl
        case h25_a => kernel_rfl
        case h35_a => kernel_rfl
        case hy5_a => (refine Or.inl ⟨by rfl, ?_⟩; intro w0 hSw; (try dsimp only at hSw); go_simp; try (with_reducible rfl))
        case hq5_a => exact fun _ _ _ h => h
        case hs5_a => assumption
        try simp only [Act.put, List.setIfInBounds_toArray, List.set_cons_zero, List.set_cons_succ]
        refine wpAnyH_take (i := 6) (oi := ?oi6_a) (v := ?v6_a) ?hi6_a ?h16_a ?h26_a ?h36_a ?hq6_a ?hy6_a ?hs6_a ?hn6_a
        case hi6_a => (simp only [List.getElem?_toArray, List.getElem?_cons_succ, List.getElem?_cons_zero]; rfl)
        case h16_a => kernel_rfl
        case h26_a => kernel_rfl
        case h36_a => kernel_rfl
        case hy6_a => (refine Or.inl ⟨by rfl, ?_⟩; intro w0 hSw; (try dsimp only at hSw); go_simp; try (with_reducible rfl))
        case hq6_a => exact fun _ _ _ h => h
        case hs6_a => assumption
        try simp only [Act.put, List.setIfInBounds_toArray, List.set_cons_zero, List.set_cons_succ]
        refine wpAnyH_take (i := 7) (oi := ?oi7_a) (v := ?v7_a) ?hi7_a ?h17_a ?h27_a ?h37_a ?hq7_a ?hy7_a ?hs7_a ?hn7_a
        case hi7_a => (simp only [List.getElem?_toArray, List.getElem?_cons_succ, List.getElem?_cons_zero]; rfl)
        case h17_a => kernel_rfl
        case h27_a => kernel_rfl
        case h37_a => kernel_rfl
        case hy7_a => (refine Or.inl ⟨by rfl, ?_⟩; intro w0 hSw; (try dsimp only at hSw); go_simp; try (with_reducible rfl))
        case hq7_a => exact fun _ _ _ h => h
        case hs7_a => assumption
        try simp only [Act.put, List.setIfInBounds_toArray, List.set_cons_zero, List.set_cons_succ]
        refine wpAnyH_take (i := 8) (oi := ?oi8_a) (v := ?v8_a) ?hi8_a ?h18_a ?h28_a ?h38_a ?hq8_a ?hy8_a ?hs8_a ?hn8_a
        case hi8_a => (simp only [List.getElem?_toArray, List.getElem?_cons_succ, List.getElem?_cons_zero]; rfl)
        case h18_a => kernel_rfl
        case h28_a => kernel_rfl
        case h38_a => kernel_rfl
        case hy8_a => (refine Or.inl ⟨by rfl, ?_⟩; intro w0 hSw; (try dsimp only at hSw); go_simp; try (with_reducible rfl))
        case hq8_a => exact fun _ _ _ h => h
        case hs8_a => assumption
        try simp only [Act.put, List.setIfInBounds_toArray, List.set_cons_zero, List.set_cons_succ]
        refine wpAnyH_take (i := 9) (oi := ?oi9_a) (v := ?v9_a) ?hi9_a ?h19_a ?h29_a ?h39_a ?hq9_a ?hy9_a ?hs9_a ?hn9_a
        case hi9_a => (simp only [List.getElem?_toArray, List.getElem?_cons_succ, List.getElem?_cons_zero]; rfl)
        case h19_a => kernel_rfl
        case h29_a => kernel_rfl
        case h39_a => kernel_rfl
        case hy9_a => (refine Or.inl ⟨by rfl, ?_⟩; intro w0 hSw; (try dsimp only at hSw); go_simp; try (with_reducible rfl))
        case hq9_a => exact fun _ _ _ h => h
        case hs9_a => assumption
        try simp only [Act.put, List.setIfInBounds_toArray, List.set_cons_zero, List.set_cons_succ]
        refine wpAnyH_take (i := 10) (oi := ?oi10_a) (v := ?v10_a) ?hi10_a ?h110_a ?h210_a ?h310_a ?hq10_a ?hy10_a ?hs10_a ?hn10_a
        case hi10_a => (simp only [List.getElem?_toArray, List.getElem?_cons_succ, List.getElem?_cons_zero]; rfl)
        case h110_a => kernel_rfl
        case h210_a => kernel_rfl
        case h310_a => kernel_rfl
        case hy10_a => (refine Or.inl ⟨by rfl, ?_⟩; intro w0 hSw; (try dsimp only at hSw); go_simp; try (with_reducible rfl))
        case hq10_a => exact fun _ _ _ h => h
        case hs10_a => assumption
        try simp only [Act.put, List.setIfInBounds_toArray, List.set_cons_zero, List.set_cons_succ]
        refine wpAnyH_take (i := 11) (oi := ?oi11_a) (v := undef) ?hi11_a ?h111_a ?h211_a ?h311_a ?hq11_a ?hy11_a ?hs11_a ?hn11_a
        case hi11_a => (simp only [List.getElem?_toArray, List.getElem?_cons_succ, List.getElem?_cons_zero]; rfl)
        case h111_a => kernel_rfl
        case h211_a => kernel_rfl
        case h311_a => kernel_rfl
        case hq11_a => exact fun _ _ _ h => h
        case hs11_a => assumption
        case hy11_a => exact Or.inr ⟨by rfl, rfl⟩
        try simp only [Act.put, List.setIfInBounds_toArray, List.set_cons_zero, List.set_cons_succ]
        refine wpAnyH_take (i := 12) (oi := ?oi12_a) (v := undef) ?hi12_a ?h112_a ?h212_a ?h312_a ?hq12_a ?hy12_a ?hs12_a ?hn12_a
        case hi12_a => (simp only [List.getElem?_toArray, List.getElem?_cons_succ, List.getElem?_cons_zero]; rfl)
        case h112_a => kernel_rfl
        case h212_a => kernel_rfl
        case h312_a => kernel_rfl
        case hq12_a => exact fun _ _ _ h => h
        case hs12_a => assumption
        case hy12_a => exact Or.inr ⟨by rfl, rfl⟩
        try simp only [Act.put, List.setIfInBounds_toArray, List.set_cons_zero, List.set_cons_succ]
        refine wpAnyH_take (i := 13) (oi := ?oi13_a) (v := ?v13_a) ?hi13_a ?h113_a ?h213_a ?h313_a ?hq13_a ?hy13_a ?hs13_a ?hn13_a
        case hi13_a => (simp only [List.getElem?_toArray, List.getElem?_cons_succ, List.getElem?_cons_zero]; rfl)
        case h113_a => kernel_rfl
        case h213_a => kernel_rfl
        case h313_a => kernel_rfl
        case hy13_a => (refine Or.inl ⟨by rfl, ?_⟩; intro w0 hSw; (try dsimp only at hSw); go_simp; try (with_reducible rfl))
        case hq13_a => exact fun _ _ _ h => h
        case hs13_a => assumption
        try simp only [Act.put, List.setIfInBounds_toArray, List.set_cons_zero, List.set_cons_succ]
        refine wpAnyH_take (i := 14) (oi := ?oi14_a) (v := ?v14_a) ?hi14_a ?h114_a ?h214_a ?h314_a ?hq14_a ?hy14_a ?hs14_a ?hn14_a
        case hi14_a => (simp only [List.getElem?_toArray, List.getElem?_cons_succ, List.getElem?_cons_zero]; rfl)
        case h114_a => kernel_rfl
        case h214_a => kernel_rfl
        case h314_a => kernel_rfl
        case hy14_a => (refine Or.inl ⟨by rfl, ?_⟩; intro w0 hSw; (try dsimp only at hSw); go_simp; try (with_reducible rfl))
        case hq14_a => exact fun _ _ _ h => h
        case hs14_a => assumption
        try simp only [Act.put, List.setIfInBounds_toArray, List.set_cons_zero, List.set_cons_succ]
        refine wpAnyH_take (i := 15) (oi := ?oi15_a) (v := undef) ?hi15_a ?h115_a ?h215_a ?h315_a ?hq15_a ?hy15_a ?hs15_a ?hn15_a
        case hi15_a => (simp only [List.getElem?_toArray, List.getElem?_cons_succ, List.getElem?_cons_zero]; rfl)
        case h115_a => kernel_rfl
        case h215_a => kernel_rfl
        case h315_a => kernel_rfl
        case hq15_a => exact fun _ _ _ h => h
        case hs15_a => assumption
        case hy15_a => exact Or.inr ⟨by rfl, rfl⟩
        try simp only [Act.put, List.setIfInBounds_toArray, List.set_cons_zero, List.set_cons_succ]
        refine wpAnyH_take (i := 16) (oi := ?oi16_a) (v := undef) ?hi16_a ?h116_a ?h216_a ?h316_a ?hq16_a ?hy16_a ?hs16_a ?hn16_a
        case hi16_a => (simp only [List.getElem?_toArray, List.getElem?_cons_succ, List.getElem?_cons_zero]; rfl)
        case h116_a => kernel_rfl
        case h216_a => kernel_rfl
        case h316_a => kernel_rfl
        case hq16_a => exact fun _ _ _ h => h
        case hs16_a => assumption
        case hy16_a => exact Or.inr ⟨by rfl, rfl⟩
        try simp only [Act.put, List.setIfInBounds_toArray, List.set_cons_zero, List.set_cons_succ]
        refine wpAnyH_take (i := 18) (oi := ?oi18_a) (v := undef) ?hi18_a ?h118_a ?h218_a ?h318_a ?hq18_a ?hy18_a ?hs18_a ?hn18_a
        case hi18_a => (simp only [List.getElem?_toArray, List.getElem?_cons_succ, List.getElem?_cons_zero]; rfl)
        case h118_a => kernel_rfl
        case h218_a => kernel_rfl
        case h318_a => kernel_rfl
        case hq18_a => exact fun _ _ _ h => h
        case hs18_a => assumption
        case hy18_a => exact Or.inr ⟨by rfl, rfl⟩
        try simp only [Act.put, List.setIfInBounds_toArray, List.set_cons_zero, List.set_cons_succ]
        refine wpAnyH_take (i := 19) (oi := ?oi19_a) (v := undef) ?hi19_a ?h119_a ?h219_a ?h319_a ?hq19_a ?hy19_a ?hs19_a ?hn19_a
        case hi19_a => (simp only [List.getElem?_toArray, List.getElem?_cons_succ, List.getElem?_cons_zero]; rfl)
        case h119_a => kernel_rfl
        case h219_a => kernel_rfl
        case h319_a => kernel_rfl
        case hq19_a => exact fun _ _ _ h => h
        case hs19_a => assumption
        case hy19_a => exact Or.inr ⟨by rfl, rfl⟩
        try simp only [Act.put, List.setIfInBounds_toArray, List.set_cons_zero, List.set_cons_succ]
        refine wpAnyH_take (i := 20) (oi := ?oi20_a) (v := undef) ?hi20_a ?h120_a ?h220_a ?h320_a ?hq20_a ?hy20_a ?hs20_a ?hn20_a
        case hi20_a => (simp only [List.getElem?_toArray, List.getElem?_cons_succ, List.getElem?_cons_zero]; rfl)
        case h120_a => kernel_rfl
        case h220_a => kernel_rfl
        case h320_a => kernel_rfl
        case hq20_a => exact fun _ _ _ h => h
        case hs20_a => assumption
        case hy20_a => exact Or.inr ⟨by rfl, rfl⟩
        try simp only [Act.put, List.setIfInBounds_toArray, List.set_cons_zero, List.set_cons_succ]
        refine wpAnyH_take (i := 21) (oi := ?oi21_a) (v := undef) ?hi21_a ?h121_a ?h221_a ?h321_a ?hq21_a ?hy21_a ?hs21_a ?hn21_a
        case hi21_a => (simp only [List.getElem?_toArray, List.getElem?_cons_succ, List.getElem?_cons_zero]; rfl)
        case h121_a => kernel_rfl
        case h221_a => kernel_rfl
        case h321_a => kernel_rfl
        case hq21_a => exact fun _ _ _ h => h
        case hs21_a => assumption
        case hy21_a => exact Or.inr ⟨by rfl, rfl⟩
        try simp only [Act.put, List.setIfInBounds_toArray, List.set_cons_zero, List.set_cons_succ]
        refine wpAnyH_take (i := 17) (oi := ?oi17_a) (v := undef) ?hi17_a ?h117_a ?h217_a ?h317_a ?hq17_a ?hy17_a ?hs17_a ?hn17_a
        case hi17_a => (simp only [List.getElem?_toArray, List.getElem?_cons_succ, List.getElem?_cons_zero]; rfl)
        case h117_a => kernel_rfl
        case h217_a => kernel_rfl
        case h317_a => kernel_rfl
        case hq17_a => exact fun _ _ _ h => h
        case hs17_a => assumption
        case hy17_a => exact Or.inr ⟨by rfl, rfl⟩
        try simp only [Act.put, List.setIfInBounds_toArray, List.set_cons_zero, List.set_cons_succ]
        refine wpAnyH_take (i := 22) (oi := ?oi22_a) (v := undef) ?hi22_a ?h122_a ?h222_a ?h322_a ?hq22_a ?hy22_a ?hs22_a ?hn22_a
        case hi22_a => (simp only [List.getElem?_toArray, List.getElem?_cons_succ, List.getElem?_cons_zero]; rfl)
        case h122_a => kernel_rfl
        case h222_a => kernel_rfl
        case h322_a => kernel_rfl
        case hq22_a => exact fun _ _ _ h => h
        case hs22_a => assumption
        case hy22_a => exact Or.inr ⟨by rfl, rfl⟩
        try simp only [Act.put, List.setIfInBounds_toArray, List.set_cons_zero, List.set_cons_succ]
        refine wpAnyH_take (i := 23) (oi := ?oi23_a) (v := undef) ?hi23_a ?h123_a ?h223_a ?h323_a ?hq23_a ?hy23_a ?hs23_a ?hn23_a
        case hi23_a => (simp only [List.getElem?_toArray, List.getElem?_cons_succ, List.getElem?_cons_zero]; rfl)
        case h123_a => kernel_rfl
        case h223_a => kernel_rfl
        case h323_a => kernel_rfl
        case hq23_a => exact fun _ _ _ h => h
        case hs23_a => assumption
        case hy23_a => exact Or.inr ⟨by rfl, rfl⟩
        try simp only [Act.put, List.setIfInBounds_toArray, List.set_cons_zero, List.set_cons_succ]
        refine wpAnyH_take (i := 24) (oi := ?oi24_a) (v := ?v24_a) ?hi24_a ?h124_a ?h224_a ?h324_a ?hq24_a ?hy24_a ?hs24_a ?hn24_a
        case hi24_a => (simp only [List.getElem?_toArray, List.getElem?_cons_succ, List.getElem?_cons_zero]; rfl)
        case h124_a => kernel_rfl
        case h224_a => kernel_rfl
        case h324_a => kernel_rfl
        case hy24_a => (refine Or.inl ⟨by rfl, ?_⟩; intro w0 hSw; (try dsimp only at hSw); go_simp; try (with_reducible rfl))
        case hq24_a => exact fun _ _ _ h => h
        case hs24_a => assumption
        try simp only [Act.put, List.setIfInBounds_toArray, List.set_cons_zero, List.set_cons_succ]
        refine wpAnyH_done (by kernel_rfl) ?_ _
        go_wp2
        go_ret
        exact ⟨by (rw [HF.out]); first | done | rfl, HB1.out.trans ((HB14.out.trans (Below.refl _ _).drew).mono HB1.out.size)⟩
    · have hmi : ¬ (i : Int) < (m : Int) := by omega
      have hk : i = m := by omega
      have htt := HTK.out
      rw [hk] at htt
      have HT : Hid (z = true) := Lib.hid (by
        rw [HZ.out]
        exact decide_eq_true (pair_ext HLN.out (by rw [List.length_map]; exact HM.out.symm) htt))
      have HB9 := Lib.hid (HB1.out.trans (hb.mono HB1.out.size))
      clear hb htt hk
      go_wp2
      go_ret
      exact ⟨by (rw [HT.out]); first | done | rfl, HB9.out⟩
end Go.Proofs.YtddnnhfffmhpmaaGreatDoor.St

/- Law 11: a store on a new disk; acts that came in; are they few? -/
namespace Go.Proofs.YtddnnhfffmhpmaaGreatDoor.St
open Go.RowKit Go.Proofs.YtddnnhfffmhpmaaGreatDoor DocM StoM Do
open VdM

theorem kept0 (q : Nat) : Kept (Vd.fresh q) g0 [] 0 0 := by
  refine ⟨⟨.inl ⟨rfl, rfl, rfl⟩, fun x hx => by simp [g0] at hx, fun i hi => by simp [g0] at hi, fun i _ _ => rfl, by decide⟩, ?_, fun x hx => by simp [Vd.fresh] at hx, by simp [logCh, g0]⟩
  exact ⟨by simp [segNos, g0], fun x hx => by simp [g0] at hx, fun x hx => by simp [g0] at hx, fun h => (by cases h), by simp [nextLog, g0], by simp [nextSeg, segNos, g0]⟩
set_option maxHeartbeats 4000000 in
set_option maxRecDepth 100000 in
theorem made_any (w : World) (q : Nat) (h1 : 1 ≤ q) (h2 : q ≤ 1048576) :
    Calls Tryz.prog 8 #[.int .i64 (q : Int)] w fun e w' => ∃ (p : Pl) (F : Nat → Prop), e = .returned (.tuple #[.pointer (some ⟨p.d, 0, none⟩), .pointer (some ⟨p.s, 0, none⟩)]) ∧ Alive w' F p (Vd.fresh q) g0 [] 0 0 ∧ (∀ b, fullF p F b → w.heap.size ≤ b) ∧ Below w.heap.size w w' := by
  have HNEW := Lib.hid (Vd.new_yes q w h1 h2)
  clear h1 h2
  go_enter Tryz.func8, Tryz.ntmps8
  go_wp2_with fail
  refine HNEW.out.mono ?_
  rintro e w1 ⟨rfl, hI, hb⟩
  have HO := Lib.hid (open_law w1 _ _ _ g0 [] 0 0 hI (kept0 q) rfl (by decide) (by decide))
  have HB := Lib.hid hb
  clear hI hb
  go_wp2_with fail
  refine HO.out.mono ?_
  rintro e w2 ⟨p, rfl, hd, hn, hb2, hA⟩
  have HF : Hid (∃ F : Nat → Prop, Alive w2 F p (Vd.fresh q) g0 [] 0 0 ∧ (∀ b, fullF p F b → w.heap.size ≤ b) ∧ Below w.heap.size w w2) := Lib.hid ⟨_, hA, fun b hb => by
    have hs := HB.out.size
    rcases hb with hb | rfl | rfl | rfl | rfl
    · rcases hb with rfl | rfl <;> omega
    · exact Nat.le_trans hs hn.1
    · exact Nat.le_trans hs hn.2.1
    · exact Nat.le_trans hs hn.2.2.1
    · exact Nat.le_trans hs hn.2.2.2, HB.out.trans (hb2.mono HB.out.size)⟩
  have HD := Lib.hid hd
  clear hn hb2 hA hd
  go_wp2
  go_ret2
  obtain ⟨F, f1, f2, f3⟩ := HF.out
  exact ⟨p, F, by rw [HD.out]; rfl, f1, f2, f3⟩
/-- an act: what is done, its change as it lies, its cut -/
structure Ax where
  kind : Int
  c : Cx
  at_ : Int
  keep : Int
def ActsR (w : World) (A : Option Addr) (n : Nat) (l : List Ax) : Prop := l.length = n ∧ ∀ (k : Nat) (hk : k < l.length), ∃ b o, A = some ⟨b, o, none⟩ ∧ b < w.heap.size ∧ ∃ (p q : Option Addr) (n1 k1 m1 j1 : Nat), l[k].c.2.1 = .slice p n1 k1 ∧ l[k].c.2.2 = .slice q m1 j1 ∧ Prd w (.slice p n1 k1) l[k].c.1.ts ∧ Vrd w (.slice q m1 j1) l[k].c.1.v ∧
  w.cell? ⟨b, o + k * 8, none⟩ = some (.int .i64 l[k].kind) ∧ w.cell? ⟨b, o + k * 8 + 1, none⟩ = some (.int .i64 l[k].c.1.doc) ∧ w.cell? ⟨b, o + k * 8 + 2, none⟩ = some (.slice p n1 k1) ∧ w.cell? ⟨b, o + k * 8 + 3, none⟩ = some (.slice q m1 j1) ∧ w.cell? ⟨b, o + k * 8 + 4, none⟩ = some (.int .i64 l[k].c.1.tags) ∧ w.cell? ⟨b, o + k * 8 + 5, none⟩ = some (.bool l[k].c.1.gone) ∧ w.cell? ⟨b, o + k * 8 + 6, none⟩ = some (.int .i64 l[k].at_) ∧ w.cell? ⟨b, o + k * 8 + 7, none⟩ = some (.int .i64 l[k].keep)
theorem ActsR.later {w w' : World} {A : Option Addr} {n : Nat} {l : List Ax} (h : ActsR w A n l) (hb : Below w.heap.size w w') : ActsR w' A n l := by
  refine ⟨h.1, fun k hk => ?_⟩
  obtain ⟨b, o, e, hl, p, q, n1, k1, m1, j1, e1, e2, hP, hI, c0, c1, c2, c3, c4, c5, c6, c7⟩ := h.2 k hk
  exact ⟨b, o, e, Nat.lt_of_lt_of_le hl hb.size, p, q, n1, k1, m1, j1, e1, e2, hP.later hb, hI.later hb, (hb.cell hl).trans c0, (hb.cell hl).trans c1, (hb.cell hl).trans c2, (hb.cell hl).trans c3, (hb.cell hl).trans c4, (hb.cell hl).trans c5, (hb.cell hl).trans c6, (hb.cell hl).trans c7⟩
def fewL (l : List Ax) : Prop := l.length ≤ 50 ∧ ∀ a ∈ l, a.c.1.ts.length ≤ 100 ∧ a.c.1.v.length ≤ 20
instance (l : List Ax) : Decidable (fewL l) := by unfold fewL; infer_instance
set_option maxHeartbeats 4000000 in
set_option maxRecDepth 100000 in
theorem few11_any (w : World) (A : Option Addr) (n cp : Nat) (l : List Ax) (h : ActsR w A n l) :
    Calls Tryz.prog 7 #[.slice A n cp] w fun e w' => e = .returned (.bool (decide (fewL l))) ∧ Below w.heap.size w w' := by
  obtain ⟨z, hz⟩ : ∃ z, z = decide (fewL l) := ⟨_, rfl⟩
  rw [← hz]
  have HZ := Lib.hid hz
  have HA := Lib.hid h
  have HL := Lib.hid h.1
  clear hz h
  go_enter Tryz.func7, Tryz.ntmps7
  go_wp2
  go_loopw [3] (fun x wr => ∃ i : Nat, x = .int .i64 (i : Int) ∧ i ≤ n ∧ i ≤ 50 ∧ (∀ a ∈ l.take i, a.c.1.ts.length ≤ 100 ∧ a.c.1.v.length ≤ 20) ∧ Below w.heap.size w wr) (fun x _ => n - (intOf x).toNat)
  case atStart => exact ⟨0, rfl, Nat.zero_le _, Nat.zero_le _, fun a ha => by simp at ha, Below.refl _ _⟩
  case round =>
    obtain ⟨i, rfl, hi, hi5, htk, hb⟩ := hrel
    have HTK := Lib.hid htk
    clear htk
    by_cases hil : i < n
    · have hib : (i : Int) < (n : Int) := by omega
      have hiv : i < l.length := by have := HL.out; omega
      have HN : Hid (¬ (i < 50 ∧ l[i].c.1.ts.length ≤ 100 ∧ l[i].c.1.v.length ≤ 20) → z = false) := Lib.hid (fun h => by
        rw [HZ.out]
        exact decide_eq_false (fun hf => h ⟨by have := hf.1; omega, hf.2 _ (List.getElem_mem hiv)⟩))
      have HY : Hid (l[i].c.1.ts.length ≤ 100 ∧ l[i].c.1.v.length ≤ 20 → ∀ a ∈ l.take (i + 1), a.c.1.ts.length ≤ 100 ∧ a.c.1.v.length ≤ 20) := Lib.hid (fun h a ha => by
        rw [List.take_succ_eq_append_getElem hiv] at ha
        rcases List.mem_append.1 ha with ha | ha
        · exact HTK.out a ha
        · obtain rfl : a = l[i] := by simpa using ha
          exact h)
      by_cases h5 : i < 50
      rotate_left
      · have hd5 : decide ((50 : Int) ≤ (i : Int)) = true := decide_eq_true (by omega)
        have h5i : (50 : Int) ≤ (i : Int) := by omega
        have HF := Lib.hid (HN.out (fun h => h5 h.1))
        have HB := Lib.hid hb
        clear h5 hb HN HY
        go_wp2
        go_ret
        exact ⟨by (rw [HF.out]); first | done | rfl, HB.out⟩
      · have hd5 : decide ((50 : Int) ≤ (i : Int)) = false := decide_eq_false (by omega)
        have h5i : ¬ (50 : Int) ≤ (i : Int) := by omega
        obtain ⟨b, o, rfl, _, p, q, n1, k1, m1, j1, eT, eV, hP, hI, c0, c1, c2, c3, c4, c5, c6, c7⟩ := (HA.out.later hb).2 i hiv
        have HP : Hid (l[i].c.1.ts.length = n1) := Lib.hid (by
          obtain ⟨_, _, e, _⟩ := hP
          injection e with _ e _
          exact e.symm)
        have HI : Hid (l[i].c.1.v.length = m1) := Lib.hid (by
          obtain ⟨_, _, e, _⟩ := hI
          injection e with _ e _
          exact e.symm)
        have HX := Lib.hid (fun W (hW : Below w.heap.size w W) => (few_any l[i].c.1 p q n1 m1 k1 j1 W).mono (R' := fun e w' => e = .returned (.bool (fewB n1 m1)) ∧ Below w.heap.size w w') (fun e w' ⟨h1, h2⟩ => ⟨h1, hW.trans (h2.mono hW.size)⟩))
        unfold chV at HX
        have HB := Lib.hid hb
        have HIM : Hid (i + 1 ≤ n ∧ i + 1 ≤ 50) := Lib.hid ⟨by omega, by omega⟩
        clear hb hP hI eT eV
        by_cases hf : n1 ≤ 100 ∧ m1 ≤ 20
        · have hfb : fewB n1 m1 = true := by unfold fewB; rw [decide_eq_true hf.1, decide_eq_true hf.2]; rfl
          rw [hfb] at HX
          have HT := Lib.hid (HY.out ⟨by rw [HP.out]; exact hf.1, by rw [HI.out]; exact hf.2⟩)
          clear hf hfb HN HY
          go_wp2_with fail
          refine (HX.out wr HB.out).mono ?_
          rintro e w2 ⟨rfl, hb2⟩
          have HB2 := Lib.hid hb2
          clear hb2
          go_wp2
          go_roundw
          case rel => exact ⟨i + 1, by go_num, HIM.out.1, HIM.out.2, HT.out, HB2.out⟩
          case measure => simp [intOf]; omega
        · have hfb : fewB n1 m1 = false := by
            unfold fewB
            by_cases h1 : n1 ≤ 100
            · rw [decide_eq_true h1, decide_eq_false (fun h => hf ⟨h1, h⟩)]; rfl
            · rw [decide_eq_false h1]; rfl
          rw [hfb] at HX
          have HF := Lib.hid (HN.out (fun h => hf ⟨by rw [← HP.out]; exact h.2.1, by rw [← HI.out]; exact h.2.2⟩))
          clear hf hfb HN HY
          go_wp2_with fail
          refine (HX.out wr HB.out).mono ?_
          rintro e w2 ⟨rfl, hb2⟩
          have HB2 := Lib.hid hb2
          clear hb2
          go_wp2
          go_ret
          exact ⟨by (rw [HF.out]); first | done | rfl, HB2.out⟩
    · have hmi : ¬ (i : Int) < (n : Int) := by omega
      have HF : Hid (z = true) := Lib.hid (by
        rw [HZ.out]
        refine decide_eq_true ⟨by have := HL.out; omega, fun a ha => HTK.out a ?_⟩
        rw [List.take_of_length_le (by have := HL.out; omega)]
        exact ha)
      have HB := Lib.hid hb
      clear hb
      go_wp2
      go_ret
      exact ⟨by (rw [HF.out]); first | done | rfl, HB.out⟩
end Go.Proofs.YtddnnhfffmhpmaaGreatDoor.St

/- How many bytes a short script of acts writes. -/
namespace Go.Proofs.YtddnnhfffmhpmaaGreatDoor.St
open Go.RowKit Go.Proofs.YtddnnhfffmhpmaaGreatDoor DocM StoM Do
open VdM

theorem ris_fine (l : List Int) (h : l.length ≤ 1000) (h64 : I64 l) : (risS l).length ≤ 10 * l.length + 10 := by
  unfold risS
  split
  · rename_i hr
    have h1 := diffs_len l (-1) (by omega) hr (fun v hv => (h64 v hv).2)
    have h2 := PackM.vw_len10 l.length (by omega)
    simp only [PackM.risB, List.length_append]
    omega
  · simp
theorem fix_fine (m : Int) (l : List Int) (_ : l.length ≤ 1000) : (fixS m l).length ≤ 4 * l.length + 1 := by
  unfold fixS
  split
  · rename_i hr
    rw [PackM.fixB, PackM.packed_length, List.length_map]
    have : m.toNat * l.length ≤ 32 * l.length := Nat.mul_le_mul_right _ (by omega)
    omega
  · simp
theorem pr_fine {c : Ch} (h : rightC c = 0) : (prB c).length ≤ 980 := by
  have g := rgt_of h
  have h1 := varB_len c.doc (by have := g.doc; omega)
  have h2 := varB_len 1 (by omega)
  have h3 := varB_len 0 (by omega)
  unfold prB
  cases hg : c.gone with
  | true => rw [if_pos rfl, List.length_append]; omega
  | false =>
    have hvec := (DenM.vec_iff _).1 (g.there hg)
    have hl := g.len
    have s1 := ris_fine (tms c.ts) (by rw [tms_len]; omega) (fun v hv => by
      unfold tms at hv
      obtain ⟨p, hp, rfl⟩ := List.mem_map.1 hv
      have := (g.ts p hp).1
      omega)
    have s2 := fix_fine 16 (wts c.ts) (by rw [wts_len]; omega)
    have s3 := fix_fine 8 (c.v.map (· + 128)) (by rw [List.length_map]; omega)
    have s4 := fix_fine 8 [c.tags] (by simp)
    rw [tms_len] at s1
    rw [wts_len] at s2
    rw [List.length_map] at s3
    simp only [List.length_cons, List.length_nil] at s4
    rw [if_neg (by simp), List.length_append, List.length_append]
    unfold cont
    simp only [List.length_append]
    omega
theorem frame_fine {c : Ch} (h : rightC c = 0) : (frameB c).length ≤ 1000 := by
  have h1 := pr_fine h
  have h2 := sealed_len (prB c)
  have h3 := varB_len ((CrcM.sealed (prB c)).length : Nat) (by omega)
  unfold frameB
  rw [List.length_append]
  omega
theorem flat_fine : ∀ (l : Chs), (∀ c ∈ l, rightC c = 0) → (l.flatMap prB).length ≤ l.length * 980
  | [], _ => by simp
  | c :: t, h => by
    have h1 := pr_fine (h c List.mem_cons_self)
    have h2 := flat_fine t fun x hx => h x (List.mem_cons_of_mem _ hx)
    rw [List.flatMap_cons, List.length_append, List.length_cons, Nat.succ_mul]
    omega
theorem seg_fine {l : Chs} (h : ∀ c ∈ l, rightC c = 0) (hl : l.length ≤ 1000) : (segB l).length ≤ l.length * 1000 + 14 := by
  have h1 := flat_fine l h
  have h2 : (segB l).length = (segT l).length + 4 := sealed_len _
  have h3 := varB_len ((l.length : Nat) : Int) (by omega)
  unfold segT at h2
  rw [List.length_append] at h2
  omega
theorem man_fine {f : Nat} {segs : List Nat} (hf : f ≤ 1000) (hs : segs.length ≤ 55) (hb : ∀ n ∈ segs, n ≤ 1000) : (manB f segs).length ≤ 580 := by
  have h1 := varB_len ((f : Nat) : Int) (by omega)
  have h2 := ris_fine (segs.map Int.ofNat) (by rw [List.length_map]; omega) (fun v hv => by
    obtain ⟨n, hn, rfl⟩ := List.mem_map.1 hv
    have := hb n hn
    have e : Int.ofNat n = (n : Int) := rfl
    omega)
  have h3 : (manB f segs).length = (manT f segs).length + 4 := sealed_len _
  unfold manT at h3
  rw [List.length_append] at h3
  rw [List.length_map] at h2
  omega
theorem us_put' (F G L S : Nat) : L * F + S * (L * F + G) + F ≤ (L + 1) * F + S * ((L + 1) * F + G) := by
  have e : (L + 1) * F = L * F + F := Nat.succ_mul L F
  rw [e]
  generalize L * F = a
  have h : S * (a + G) ≤ S * (a + F + G) := Nat.mul_le_mul_left _ (by omega)
  omega
theorem us_flush' (F G L S : Nat) : L * F + S * (L * F + G) + (L * F + G) = L * F + (S + 1) * (L * F + G) := by
  rw [Nat.succ_mul]
  omega
theorem us_most' (F G L S : Nat) : L * F + S * (L * F + G) = F * (L + L * S) + G * S := by
  rw [Nat.mul_add S, Nat.mul_add F, Nat.mul_comm S G, ← Nat.mul_assoc, Nat.mul_comm S L, Nat.mul_comm (L * S) F, Nat.mul_comm L F]
  omega
/-- so many bytes may l puts and s flushes and merges write -/
def usB (L S : Nat) : Nat := L * 1000 + S * (L * 1000 + 600)
theorem us_put (L S : Nat) : usB L S + 1000 ≤ usB (L + 1) S := us_put' 1000 600 L S
theorem us_flush (L S : Nat) : usB L S + (L * 1000 + 600) = usB L (S + 1) := us_flush' 1000 600 L S
theorem few_prod : ∀ L : Fin 54, L.val * (53 - L.val) ≤ 702 := by decide
theorem us_most {L S : Nat} (h : L + S ≤ 53) : usB L S ≤ 1048576 := by
  have h1 := few_prod ⟨L, by omega⟩
  have h2 : L * S ≤ L * (53 - L) := Nat.mul_le_mul_left _ (by omega)
  have h3 : usB L S = 1000 * (L + L * S) + 600 * S := us_most' 1000 600 L S
  simp only at h1
  rw [h3]
  clear h3
  generalize L * S = a at *
  generalize L * (53 - L) = b at *
  omega
end Go.Proofs.YtddnnhfffmhpmaaGreatDoor.St

/- A store beside other memory, and what an act does to it. -/
namespace Go.Proofs.YtddnnhfffmhpmaaGreatDoor.St
open Go.RowKit Go.Proofs.YtddnnhfffmhpmaaGreatDoor DocM StoM Do
open VdM

theorem right_ne7 (c : Ch) : rightC c ≠ 7 := by
  unfold rightC
  split
  · decide
  · split
    · decide
    · split
      · decide
      · split <;> decide
def KeptE (E : Nat → Prop) (w w' : World) : Prop := w.heap.size ≤ w'.heap.size ∧ ∀ b, E b → w'.heap[b]? = w.heap[b]?
theorem KeptE.trans {E : Nat → Prop} {w w' w'' : World} (h : KeptE E w w') (h' : KeptE E w' w'') : KeptE E w w'' := ⟨Nat.le_trans h.1 h'.1, fun b hb => (h'.2 b hb).trans (h.2 b hb)⟩
/-- the blocks that a store may turn lie behind w0, and none is one of E -/
structure Beside (w0 w : World) (E : Nat → Prop) (p : Pl) (F : Nat → Prop) : Prop where
  low : ∀ b, fullF p F b → w0.heap.size ≤ b
  beh : Below w0.heap.size w0 w
  off : ∀ b, E b → ¬ fullF p F b ∧ b < w.heap.size
/-- what has been written, and how often -/
structure Few (k : Dsk) (P : List Int) (L S : Nat) : Prop where
  plen : P.length ≤ L
  used : usF k.fs ≤ usB L S
  eff : k.eff ≤ 200 * (L + S)
structure Hold (w0 w : World) (E : Nat → Prop) (p : Pl) (F : Nat → Prop) (k : Dsk) (g : Gst) (P : List Int) (L S : Nat) : Prop where
  al : Alive w F p k g P L S
  bs : Beside w0 w E p F
  few : Few k P L S
structure Lost (w0 w : World) (E : Nat → Prop) (p : Pl) (F : Nat → Prop) (k : Dsk) (g : Gst) (P : List Int) (L S : Nat) : Prop where
  dead : Dead w F p k
  kept : Kept k g P L S
  bs : Beside w0 w E p F
  few : Few k P L S
section
variable {w0 w w' : World} {E : Nat → Prop} {p : Pl} {F : Nat → Prop} {k : Dsk} {g : Gst} {P : List Int} {L S : Nat}
theorem Beside.later (h : Beside w0 w E p F) (hb : Below w.heap.size w w') : Beside w0 w' E p F ∧ KeptE E w w' := ⟨⟨h.low, h.beh.trans (hb.mono h.beh.size), fun b he => ⟨(h.off b he).1, Nat.lt_of_lt_of_le (h.off b he).2 hb.size⟩⟩, hb.size, fun b he => hb.block b (h.off b he).2⟩
theorem Hold.later (h : Hold w0 w E p F k g P L S) (hb : Below w.heap.size w w') : Hold w0 w' E p F k g P L S ∧ KeptE E w w' := ⟨⟨h.al.later hb, (h.bs.later hb).1, h.few⟩, (h.bs.later hb).2⟩
theorem Hold.with_ (h : Hold w0 w E p F k g P L S) {E' : Nat → Prop} (hE : ∀ b, E' b → ¬ fullF p F b ∧ b < w.heap.size) : Hold w0 w E' p F k g P L S := ⟨h.al, ⟨h.bs.low, h.bs.beh, hE⟩, h.few⟩
theorem beside_after {R : (Nat → Prop) → Dsk → Prop} (h : Beside w0 w E p F) (ha : After w F p w' R) : KeptE E w w' ∧ ∃ F' k', Beside w0 w' E p F' ∧ R F' k' := by
  obtain ⟨hT, F', k', hF, hR⟩ := ha
  have hz := h.beh.size
  have hf := full_more (p := p) hF
  refine ⟨⟨hT.size, fun b he => hT.block b (h.off b he).2 (h.off b he).1⟩, F', k', ⟨fun b hb => (hf b hb).elim (h.low b) (fun x => Nat.le_trans hz x), hT.below h.beh h.low, fun b he => ⟨fun hb => ?_, Nat.lt_of_lt_of_le (h.off b he).2 hT.size⟩⟩, hR⟩
  rcases hf b hb with x | x
  · exact (h.off b he).1 x
  · have := (h.off b he).2
    omega
/-- how an act ends: code: as the document has it; next: the documents behind it -/
structure Ends (k k' : Dsk) (r : Int) (L S L' S' : Nat) : Prop where
  l : L ≤ L'
  s : S ≤ S'
  few : L' + S' ≤ L + S + 1
  quota : k'.quota = k.quota
  calm : k.at_ = 0 → r ≠ 7 ∧ k'.at_ = 0
def Acted (w0 w : World) (E : Nat → Prop) (p : Pl) (k : Dsk) (g : Gst) (L S : Nat) (code : Int) (next : Chs) (X : Gst → Nat → Nat → Prop) (r : Int) (w' : World) : Prop :=
  KeptE E w w' ∧ ∃ F' k' g' P' L' S', Ends k k' r L S L' S' ∧
    ((Hold w0 w' E p F' k' g' P' L' S' ∧ r = code ∧ live g' = next ∧ (r = 0 → X g' L' S') ∧ (r ≠ 0 → g' = g ∧ L' = L ∧ S' = S)) ∨ (Hold w0 w' E p F' k' g' P' L' S' ∧ r = 6 ∧ code = 0 ∧ live g' = live g ∧ (L + S ≤ 52 → usB (L + 1) S ≤ k.quota → usB L (S + 1) ≤ k.quota → False)) ∨
      (r = 7 ∧ code = 0 ∧ Lost w0 w' E p F' k' g' P' L' S' ∧ (live g' = live g ∨ live g' = next)))
theorem hold_put {c : Ch} {r : Int} (h : Hold w0 w E p F k g P L S) (hl : PutLaw w F p k g P L S c r w') : Acted w0 w E p k g L S (putE (live g) c) (putD (live g) c) (fun g' L' S' => g' = gPut g c ∧ L' = L + 1 ∧ S' = S) r w' := by
  obtain ⟨hK, F', k', hB, hR⟩ := beside_after h.bs hl
  have hrise := is_rise h.al.st.disk
  refine ⟨hK, F', k', ?_⟩
  rcases hR with ⟨h1, h2, rfl, h4⟩ | ⟨h1, h2, h3, rfl, h4⟩ | ⟨h1, h2, hw, h3⟩
  · have hp : putE (live g) c = rightC c := by unfold putE; rw [if_pos h1]
    have hr : r ≠ 7 ∧ r ≠ 0 := ⟨by rw [h2]; exact right_ne7 c, by rw [h2]; exact h1⟩
    exact ⟨g, P, L, S, ⟨Nat.le_refl _, Nat.le_refl _, by omega, rfl, fun h => ⟨hr.1, h⟩⟩, .inl ⟨⟨h4, hB, h.few⟩, by rw [hp]; exact h2, by unfold putD; rw [hp, if_neg h1], fun h0 => absurd h0 hr.2, fun _ => ⟨rfl, rfl, rfl⟩⟩⟩
  · have hp : putE (live g) c = admC false (live g) c := by unfold putE; rw [if_neg (by simpa using h1)]
    have hr : r ≠ 7 := by
      rw [h3]
      unfold admC
      rw [if_neg (by simp)]
      split
      · omega
      · split <;> omega
    exact ⟨g, P, L, S, ⟨Nat.le_refl _, Nat.le_refl _, by omega, rfl, fun h => ⟨hr, h⟩⟩, .inl ⟨⟨h4, hB, h.few⟩, by rw [hp]; exact h3, by unfold putD; rw [hp, if_neg h2], fun h0 => absurd (h3.symm.trans h0) h2, fun _ => ⟨rfl, rfl, rfl⟩⟩⟩
  · have hp : putE (live g) c = 0 := by unfold putE; rw [if_neg (by simpa using h1)]; exact h2
    have hd : putD (live g) c = doC c (live g) := by unfold putD; rw [if_pos hp]
    have hfr := frame_fine h1
    have hus := hw.used hrise
    have hup := us_put L S
    have heff := hw.eff
    have hfew := h.few
    have hfew' : Few k' (c.doc :: P) (L + 1) S := ⟨by rw [List.length_cons]; exact Nat.succ_le_succ hfew.plen, by have := hfew.used; omega, by have := hfew.eff; omega⟩
    rw [hp, hd]
    have hE : Ends k k' r L S (L + 1) S := ⟨by omega, by omega, by omega, hw.quota, hw.calm⟩
    rcases h3 with ⟨h6, rfl, hroom, h4⟩ | ⟨h0, h4⟩ | ⟨h7, h4, g', hg, hk⟩
    · refine ⟨g, P, L, S, ⟨by omega, by omega, by omega, hw.quota, hw.calm⟩, .inr (.inl ⟨⟨h4, hB, hfew⟩, h6, rfl, rfl, fun h52 hq1 hq2 => ?_⟩)⟩
      have hnl := h.al.kept.ok.nlog
      have hfl := front_len h.al.kept.ok
      refine (full_now hrise hroom [logN (logNo g)]).no (L0 := L + 1) (S0 := S) (h.al.kept.nm.mono (Nat.le_succ _) (Nat.le_refl _)) (fun m hm => ?_) (by omega) ?_
      · obtain rfl : m = logN (logNo g) := by simpa using hm
        exact .inr (.inr (.inl ⟨_, by omega, rfl⟩))
      · have h2 := hfew.used
        omega
    · exact ⟨gPut g c, c.doc :: P, L + 1, S, hE, .inl ⟨⟨h4, hB, hfew'⟩, h0, (put_live h.al.kept.ok c).1, fun _ => ⟨rfl, rfl, rfl⟩, fun hn => absurd h0 hn⟩⟩
    · exact ⟨g', c.doc :: P, L + 1, S, hE, .inr (.inr ⟨h7, rfl, ⟨h4, hk, hB, hfew'⟩, by rw [← (put_live h.al.kept.ok c).1]; exact hg⟩)⟩
theorem hold_repl {g' : Gst} {l : Chs} {r : Int} {X : Gst → Nat → Nat → Prop} (h : Hold w0 w E p F k g P L S) (hl : ReplLaw w F p k g g' (nextSeg g) l P L S r w') (hlive : live g' = live g) (hok : GOk P L (S + 1) g') (hlr : ∀ c ∈ l, rightC c = 0) (hln : l.length ≤ P.length) (hf : g'.first ≤ L) (hX : X g' L (S + 1)) (hLS : L + S ≤ 53) : Acted w0 w E p k g L S 0 (live g) X r w' := by
  obtain ⟨hK, F', k', hB, hw, hR⟩ := beside_after h.bs hl
  have hrise := is_rise h.al.st.disk
  have hfew := h.few
  have hpl := hfew.plen
  have hsf := segs_few hok
  have hns := hok.nseg
  have h1 := seg_fine hlr (by omega)
  have h2 := man_fine (f := g'.first) (segs := segNos g') (by omega) (by omega) (fun n hn => by have := hok.seg_lt n hn; omega)
  have hl2 : l.length * 1000 ≤ L * 1000 := Nat.mul_le_mul_right _ (by omega)
  have hus := hw.used hrise
  have huf := us_flush L S
  have heff := hw.eff
  have hfew' : Few k' P L (S + 1) := ⟨hpl, by have := hfew.used; omega, by have := hfew.eff; omega⟩
  refine ⟨hK, F', k', ?_⟩
  have hE : Ends k k' r L S L (S + 1) := ⟨by omega, by omega, by omega, hw.quota, hw.calm⟩
  rcases hR with ⟨h6, h4, hfull⟩ | ⟨h0, h4⟩ | ⟨h7, h4, hk⟩
  · refine ⟨g, P, L, S + 1, hE, .inr (.inl ⟨⟨h4, hB, hfew'⟩, h6, rfl, rfl, fun h52 hq1 hq2 => ?_⟩)⟩
    refine hfull.no (L0 := L) (S0 := S + 1) (h.al.kept.nm.mono (Nat.le_refl _) (Nat.le_succ _)) (fun m hm => ?_) (by omega) ?_
    · simp at hm
      have hng := h.al.kept.ok.nseg
      rcases hm with rfl | rfl | rfl
      · exact .inr (.inr (.inr ⟨_, by omega, rfl⟩))
      · exact .inr (.inl rfl)
      · exact .inl rfl
    · have h6 := hfew.used
      omega
  · exact ⟨g', P, L, S + 1, hE, .inl ⟨⟨h4, hB, hfew'⟩, h0, hlive, fun _ => hX, fun hn => absurd h0 hn⟩⟩
  · rcases hk with hk | hk
    · exact ⟨g, P, L, S + 1, hE, .inr (.inr ⟨h7, rfl, ⟨h4, hk, hB, hfew'⟩, .inl rfl⟩)⟩
    · exact ⟨g', P, L, S + 1, hE, .inr (.inr ⟨h7, rfl, ⟨h4, hk, hB, hfew'⟩, .inl hlive⟩)⟩
theorem acted_none {X : Gst → Nat → Nat → Prop} (h : Hold w0 w E p F k g P L S) (hX : X g L S) : Acted w0 w E p k g L S 0 (live g) X 0 w := ⟨⟨Nat.le_refl _, fun _ _ => rfl⟩, F, k, g, P, L, S, ⟨by omega, by omega, by omega, rfl, fun h => ⟨by omega, h⟩⟩, .inl ⟨h, rfl, rfl, fun _ => hX, fun hn => absurd rfl hn⟩⟩
theorem hold_flush {r : Int} (h : Hold w0 w E p F k g P L S) (hl : FlushLaw w F p k g P L S r w') (hLS : L + S ≤ 53) : Acted w0 w E p k g L S 0 (live g) (fun g' L' S' => (came g = [] → g' = g ∧ L' = L ∧ S' = S) ∧ (came g ≠ [] → g' = gFlush g ∧ L' = L ∧ S' = S + 1)) r w' := by
  rcases hl with ⟨h1, rfl, rfl⟩ | ⟨hn, h2⟩
  · exact acted_none h ⟨fun _ => ⟨rfl, rfl, rfl⟩, fun hn => absurd h1 hn⟩
  · have hok := h.al.kept.ok
    exact hold_repl h h2 (flush_live g).1 hok.flush (fun c hc => (hok.came.2 c hc).1) hok.few.2.2 hok.nlog ⟨fun h => absurd h hn, fun _ => ⟨rfl, rfl, rfl⟩⟩ hLS
theorem hold_merge {r : Int} (h : Hold w0 w E p F k g P L S) (hl : MergeLaw w F p k g P L S r w') (hLS : L + S ≤ 53) : Acted w0 w E p k g L S 0 (live g) (fun g' L' S' => (segNos g = [] → g' = g ∧ L' = L ∧ S' = S) ∧ (segNos g ≠ [] → g' = gMerge g ∧ L' = L ∧ S' = S + 1)) r w' := by
  rcases hl with ⟨h1, rfl, rfl⟩ | ⟨hn, h2⟩
  · exact acted_none h ⟨fun _ => ⟨rfl, rfl, rfl⟩, fun hn => absurd h1 hn⟩
  · have hok := h.al.kept.ok
    have hf : g.first ≤ nextLog g := Nat.le_add_right _ _
    exact hold_repl h h2 (merge_live hok).1 hok.merge (fun c hc => (hok.settled.2.2 c hc).1) hok.few.2.1 (Nat.le_trans hf hok.nlog) ⟨fun h => absurd h hn, fun _ => ⟨rfl, rfl, rfl⟩⟩ hLS
end
end Go.Proofs.YtddnnhfffmhpmaaGreatDoor.St

/- What the law's 'does' does: an act, to a store. -/
namespace Go.Proofs.YtddnnhfffmhpmaaGreatDoor.St
open Go.RowKit Go.Proofs.YtddnnhfffmhpmaaGreatDoor DocM StoM Do
open VdM

set_option maxHeartbeats 4000000 in
set_option maxRecDepth 100000 in
theorem does_any (w : World) (s : Nat) (kd : Int) (c : Ch) (p q : Option Addr) (n1 k1 m1 j1 : Nat) (x y : Int) (Q : Int → World → Prop)
    (h0 : kd = 0 → ∀ W, Below w.heap.size w W → Calls Tryz.prog 25 #[.pointer (some ⟨s, 0, none⟩), chV c (.slice p n1 k1) (.slice q m1 j1)] W fun e w' => ∃ r : Int, e = .returned (.int .i64 r) ∧ Q r w')
    (h1 : kd = 1 → ∀ W, Below w.heap.size w W → Calls Tryz.prog 21 #[.pointer (some ⟨s, 0, none⟩)] W fun e w' => ∃ r : Int, e = .returned (.int .i64 r) ∧ Q r w')
    (h2 : kd = 2 → ∀ W, Below w.heap.size w W → Calls Tryz.prog 22 #[.pointer (some ⟨s, 0, none⟩)] W fun e w' => ∃ r : Int, e = .returned (.int .i64 r) ∧ Q r w')
    (h3 : kd ≠ 0 → kd ≠ 1 → kd ≠ 2 → ∀ W, Below w.heap.size w W → Q 0 W) :
    Calls Tryz.prog 12 #[.pointer (some ⟨s, 0, none⟩), .agg #[.int .i64 kd, .int .i64 c.doc, .slice p n1 k1, .slice q m1 j1, .int .i64 c.tags, .bool c.gone, .int .i64 x, .int .i64 y]] w fun e w' => ∃ r : Int, e = .returned (.int .i64 r) ∧ Q r w' := by
  have hb := pl1 w (.cells #[.int .i64 kd, .int .i64 c.doc, .slice p n1 k1, .slice q m1 j1, .int .i64 c.tags, .bool c.gone, .int .i64 x, .int .i64 y] 39)
  have H0 := Lib.hid h0
  have H1 := Lib.hid h1
  have H2 := Lib.hid h2
  have H3 := Lib.hid h3
  have HB := Lib.hid hb
  clear h0 h1 h2 h3 hb
  unfold chV at H0
  by_cases e0 : kd = 0
  · subst e0
    have HP := Lib.hid (H0.out rfl)
    clear H0 H1 H2 H3
    go_enter Tryz.func12, Tryz.ntmps12
    go_wp2_with fail
    refine (HP.out _ HB.out).mono ?_
    rintro e w' ⟨r, rfl, hq⟩
    have HQ := Lib.hid hq
    clear hq
    go_wp2
    go_ret
    exact ⟨r, rfl, HQ.out⟩
  · by_cases e1 : kd = 1
    · subst e1
      have HP := Lib.hid (H1.out rfl)
      clear H0 H1 H2 H3 e0
      go_enter Tryz.func12, Tryz.ntmps12
      go_wp2_with fail
      refine (HP.out _ HB.out).mono ?_
      rintro e w' ⟨r, rfl, hq⟩
      have HQ := Lib.hid hq
      clear hq
      go_wp2
      go_ret
      exact ⟨r, rfl, HQ.out⟩
    · by_cases e2 : kd = 2
      · subst e2
        have HP := Lib.hid (H2.out rfl)
        clear H0 H1 H2 H3 e0 e1
        go_enter Tryz.func12, Tryz.ntmps12
        go_wp2_with fail
        refine (HP.out _ HB.out).mono ?_
        rintro e w' ⟨r, rfl, hq⟩
        have HQ := Lib.hid hq
        clear hq
        go_wp2
        go_ret
        exact ⟨r, rfl, HQ.out⟩
      · have HQ := Lib.hid (H3.out e0 e1 e2 _ HB.out)
        have b0 : (kd == 0) = false := by simpa using e0
        have b1 : (kd == 1) = false := by simpa using e1
        have b2 : (kd == 2) = false := by simpa using e2
        clear H0 H1 H2 H3
        go_enter Tryz.func12, Tryz.ntmps12
        go_wp2
        go_ret
        exact ⟨0, rfl, HQ.out⟩
def codeA (kd : Int) (l : Chs) (c : Ch) : Int := if kd = 0 then putE l c else 0
def nextA (kd : Int) (l : Chs) (c : Ch) : Chs := if kd = 0 then putD l c else l
def behA (kd : Int) (c : Ch) (g : Gst) (L S : Nat) (g' : Gst) (L' S' : Nat) : Prop := (kd = 0 → g' = gPut g c ∧ L' = L + 1 ∧ S' = S) ∧ (kd = 1 → (came g = [] → g' = g ∧ L' = L ∧ S' = S) ∧ (came g ≠ [] → g' = gFlush g ∧ L' = L ∧ S' = S + 1)) ∧ (kd = 2 → (segNos g = [] → g' = g ∧ L' = L ∧ S' = S) ∧ (segNos g ≠ [] → g' = gMerge g ∧ L' = L ∧ S' = S + 1)) ∧ (kd ≠ 0 → kd ≠ 1 → kd ≠ 2 → g' = g ∧ L' = L ∧ S' = S)
theorem away_pairs {w0 : World} {F : Nat → Prop} {A : Option Addr} {n cp : Nat} {l : List (Int × Int)} (h : Pairs w0 A n l) (hF : ∀ b, F b → w0.heap.size ≤ b) : Away F (.slice A n cp) := fun A' n' cp' e hn a ha hb => by
  injection e with e1 e2 e3
  obtain ⟨b, o, e4, hl, _⟩ := h.2 0 (by have := h.1; omega)
  rw [e1, ha] at e4
  injection e4 with e4
  rw [e4] at hb
  have := hF _ hb
  simp only at this
  omega
theorem away_ivs {w0 : World} {F : Nat → Prop} {A : Option Addr} {n cp : Nat} {l : List Int} (h : Ivs w0 A n l) (hF : ∀ b, F b → w0.heap.size ≤ b) : Away F (.slice A n cp) := fun A' n' cp' e hn a ha hb => by
  injection e with e1 e2 e3
  obtain ⟨b, o, e4, hl, _⟩ := h.2 0 (by have := h.1; omega)
  rw [e1, ha] at e4
  injection e4 with e4
  rw [e4] at hb
  have := hF _ hb
  simp only at this
  omega
section
variable {w0 w w' : World} {E : Nat → Prop} {p : Pl} {F : Nat → Prop} {k : Dsk} {g : Gst} {P : List Int} {L S : Nat}
theorem Acted.on {W : World} {code r : Int} {next : Chs} {X Y : Gst → Nat → Nat → Prop} (h : Acted w0 W E p k g L S code next X r w') (hk : KeptE E w W) (hX : ∀ g' L' S', X g' L' S' → Y g' L' S') : Acted w0 w E p k g L S code next Y r w' := by
  obtain ⟨h1, F', k', g', P', L', S', h2, h3⟩ := h
  refine ⟨hk.trans h1, F', k', g', P', L', S', h2, ?_⟩
  rcases h3 with ⟨a, b, c, d, e⟩ | h3 | h3
  · exact .inl ⟨a, b, c, fun hr => hX _ _ _ (d hr), e⟩
  · exact .inr (.inl h3)
  · exact .inr (.inr h3)
theorem does_law (h : Hold w0 w E p F k g P L S) (hLS : L + S ≤ 53) (kd : Int) (c : Ch) (A B : Option Addr) (n1 k1 m1 j1 : Nat) (x y : Int) (hT : Prd w0 (.slice A n1 k1) c.ts) (hV : Vrd w0 (.slice B m1 j1) c.v) (h1 : n1 ≤ 1000000) (h2 : m1 ≤ 1000000) :
    Calls Tryz.prog 12 #[.pointer (some ⟨p.s, 0, none⟩), .agg #[.int .i64 kd, .int .i64 c.doc, .slice A n1 k1, .slice B m1 j1, .int .i64 c.tags, .bool c.gone, .int .i64 x, .int .i64 y]] w fun e w' => ∃ r : Int, e = .returned (.int .i64 r) ∧ Acted w0 w E p k g L S (codeA kd (live g) c) (nextA kd (live g) c) (behA kd c g L S) r w' := by
  have heff := h.few.eff
  have hpl := h.few.plen
  refine does_any w p.s kd c A B n1 k1 m1 j1 x y _ (fun e W hW => ?_) (fun e W hW => ?_) (fun e W hW => ?_) (fun e0 e1 e2 W hW => ?_)
  · obtain ⟨hH, hK⟩ := h.later hW
    have hTW := hT.later hH.bs.beh
    have hVW := hV.later hH.bs.beh
    have e1 : c.ts.length = n1 := by
      obtain ⟨_, _, e, _⟩ := hT
      injection e with _ e _
      exact e.symm
    have e2 : c.v.length = m1 := by
      obtain ⟨_, _, e, _⟩ := hV
      injection e with _ e _
      exact e.symm
    have aw1 : Away (fullF p F) (.slice A n1 k1) := by
      obtain ⟨A', c', e', _, _, hp⟩ := hT
      rw [e']
      exact away_pairs hp hH.bs.low
    have aw2 : Away (fullF p F) (.slice B m1 j1) := by
      obtain ⟨A', c', e', hp⟩ := hV
      rw [e']
      exact away_ivs hp hH.bs.low
    refine (put_law W F p k g P L S c (.slice A n1 k1) (.slice B m1 j1) hH.al ⟨hTW, hVW, aw1, aw2⟩ (by omega) (by omega) (by omega) (by omega) (by omega)).mono ?_
    rintro e' w' ⟨r, hr, hl⟩
    refine ⟨r, hr, ?_⟩
    have := (hold_put hH hl).on (Y := behA kd c g L S) hK (fun _ _ _ hx => ⟨fun _ => hx, fun h => by omega, fun h => by omega, fun h => absurd e h⟩)
    unfold codeA nextA
    rw [if_pos e, if_pos e]
    exact this
  · obtain ⟨hH, hK⟩ := h.later hW
    refine (flush_law W F p k g P L S hH.al (by omega) (by omega) (by omega)).mono ?_
    rintro e' w' ⟨r, hr, hl⟩
    refine ⟨r, hr, ?_⟩
    have := (hold_flush hH hl hLS).on (Y := behA kd c g L S) hK (fun _ _ _ hx => ⟨fun h => by omega, fun _ => hx, fun h => by omega, fun _ h => absurd e h⟩)
    unfold codeA nextA
    rw [if_neg (by omega), if_neg (by omega)]
    exact this
  · obtain ⟨hH, hK⟩ := h.later hW
    refine (merge_law W F p k g P L S hH.al (by omega) (by omega) (by omega)).mono ?_
    rintro e' w' ⟨r, hr, hl⟩
    refine ⟨r, hr, ?_⟩
    have := (hold_merge hH hl hLS).on (Y := behA kd c g L S) hK (fun _ _ _ hx => ⟨fun h => by omega, fun h => by omega, fun _ => hx, fun _ _ h => absurd e h⟩)
    unfold codeA nextA
    rw [if_neg (by omega), if_neg (by omega)]
    exact this
  · obtain ⟨hH, hK⟩ := h.later hW
    have := (acted_none (X := behA kd c g L S) hH ⟨fun h => absurd h e0, fun h => absurd h e1, fun h => absurd h e2, fun _ _ _ => ⟨rfl, rfl, rfl⟩⟩).on (Y := behA kd c g L S) hK (fun _ _ _ hx => hx)
    unfold codeA nextA
    rw [if_neg e0, if_neg e0]
    exact this
end
end Go.Proofs.YtddnnhfffmhpmaaGreatDoor.St
