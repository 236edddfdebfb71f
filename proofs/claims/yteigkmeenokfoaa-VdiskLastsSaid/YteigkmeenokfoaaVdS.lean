
/- VdiskLasts, walked. -/
import Derived.Test.YteigkmeenokfoaaVdR
import Derived.StillTailTactics
import Derived.Deep.DeepCutAuto
import Derived.Deep.RegionWith
namespace Go.Proofs.Yteigkmeenokfoaa.Vd
open Go.RowKit Go.Proofs.Yteigkmeenokfoaa VdM Go.Maps

theorem nums9 (keep : Int) (sz az bz : Nat) (h1 : az ≤ sz) (h2 : sz ≤ bz) (hb : bz ≤ 1048576) (h4 : (sz : Int) = min (bz : Int) ((az : Int) + max 0 (min keep (bz : Int)))) :
    ∃ (mk : Int) (mx sm : Nat), min keep (bz : Int) = mk ∧ max 0 mk = (mx : Int) ∧ wrap64 ((az : Int) + (mx : Int)) = (sm : Int) ∧ min (bz : Int) (sm : Int) = (sz : Int) ∧ IntKind.i64.wrap ((az : Int) + (mx : Int)) = (sm : Int) := by
  obtain ⟨mx, hmx⟩ : ∃ x : Nat, (x : Int) = max 0 (min keep (bz : Int)) := ⟨(max 0 (min keep (bz : Int))).toNat, by omega⟩
  rw [← hmx] at h4
  refine ⟨min keep (bz : Int), mx, az + mx, rfl, hmx.symm, ?_, by omega, ?_⟩
  · unfold wrap64
    omega
  · rw [IntKind.wrap_i64]
    omega
theorem extract_take9 (s : List UInt8) (k : Nat) : (ofBytes s).extract 0 k = ofBytes (s.take k) := by
  apply ByteArray.ext
  apply Array.ext'
  rw [ByteArray.data_extract, Array.toList_extract, ofBytes_list, ofBytes_list]
  simp [List.extract]
set_option maxHeartbeats 4000000 in
set_option maxRecDepth 100000 in
/-- without the guard -/
theorem lasts_out (A1 A2 : Option Addr) (n1 n2 c1 c2 : Nat) (k : Int) (l1 l2 : List ActT) (w : World) (h1 : ActsR w A1 n1 l1) (h2 : ActsR w A2 n2 l2) (s1 : Short l1) (s2 : Short l2) (b1 : n1 ≤ 1000000000000000) (b2 : n2 ≤ 1000000000000000) (hno : ¬ (fewB l1 = true ∧ fewB l2 = true)) :
    Calls Try.prog 3 #[.slice A1 n1 c1, .slice A2 n2 c2, .int .i64 k] w fun e w' => e = .returned (.bool true) ∧ Below w.heap.size w w' := by
  have HA := Lib.hid (awake9_any w)
  have HF1 := Lib.hid (fun W (hb : Below w.heap.size w W) => few_any A1 n1 c1 l1 W (h1.later hb) s1 b1)
  have HF2 := Lib.hid (fun W (hb : Below w.heap.size w W) => few_any A2 n2 c2 l2 W (h2.later hb) s2 b2)
  clear h1 h2 s1 s2 b1 b2
  cases hf1 : fewB l1 with
  | false =>
    rw [hf1] at HF1
    clear hno hf1
    go_enter Try.func3, Try.ntmps3
    go_wp2_with fail
    refine HA.out.mono ?_
    rintro e w1 ⟨rfl, hb⟩
    have HB := Lib.hid hb
    clear hb
    go_wp2_with fail
    refine (HF1.out w1 HB.out).mono ?_
    rintro e w2 ⟨rfl, rfl⟩
    go_wp2
    go_ret
    exact ⟨rfl, HB.out⟩
  | true =>
    have hf2 : fewB l2 = false := by
      cases h : fewB l2 with
      | false => rfl
      | true => exact absurd ⟨hf1, h⟩ hno
    rw [hf1] at HF1
    rw [hf2] at HF2
    clear hno hf1 hf2
    go_enter Try.func3, Try.ntmps3
    go_wp2_with fail
    refine HA.out.mono ?_
    rintro e w1 ⟨rfl, hb⟩
    have HB := Lib.hid hb
    clear hb
    go_wp2_with fail
    refine (HF1.out w1 HB.out).mono ?_
    rintro e w2 ⟨rfl, rfl⟩
    go_wp2_with fail
    refine (HF2.out w1 HB.out).mono ?_
    rintro e w2 ⟨rfl, rfl⟩
    go_wp2
    go_ret
    exact ⟨rfl, HB.out⟩
set_option maxHeartbeats 8000000 in
set_option maxRecDepth 100000 in
theorem lasts_main (A1 A2 : Option Addr) (n1 n2 c1 c2 : Nat) (keep : Int) (l1 l2 : List ActT) (w : World) (h1 : ActsR w A1 n1 l1) (h2 : ActsR w A2 n2 l2) (s1 : Short l1) (s2 : Short l2) (b1 : n1 ≤ 1000000000000000) (b2 : n2 ≤ 1000000000000000) (hf1 : fewB l1 = true) (hf2 : fewB l2 = true) :
    Calls Try.prog 3 #[.slice A1 n1 c1, .slice A2 n2 c2, .int .i64 keep] w fun e w' => e = .returned (.bool true) ∧ Below w.heap.size w w' := by
  have HA := Lib.hid (awake9_any w)
  have HF1 := Lib.hid (fun W (hb : Below w.heap.size w W) => few_any A1 n1 c1 l1 W (h1.later hb) s1 b1)
  have HF2 := Lib.hid (fun W (hb : Below w.heap.size w W) => few_any A2 n2 c2 l2 W (h2.later hb) s2 b2)
  rw [hf1] at HF1
  rw [hf2] at HF2
  have hm1 := few_len hf1
  have hm2 := few_len hf2
  have HL1 := Lib.hid h1.1
  have HL2 := Lib.hid h2.1
  have hn1 : n1 ≤ 150 := by rw [← h1.1]; exact hm1
  have hn2 : n2 ≤ 150 := by rw [← h2.1]; exact hm2
  have HR1 := Lib.hid (fun W (hb : Below w.heap.size w W) => h1.later hb)
  have HR2 := Lib.hid (fun W (hb : Below w.heap.size w W) => h2.later hb)
  clear h1 h2 s1 s2 b1 b2 hf1 hf2 hm1 hm2
  go_enter Try.func3, Try.ntmps3
  go_wp2_with fail
  refine HA.out.mono ?_
  rintro e w1 ⟨rfl, hb⟩
  have HB := Lib.hid hb
  clear hb
  go_wp2_with fail
  refine (HF1.out w1 HB.out).mono ?_
  rintro e w2 ⟨rfl, rfl⟩
  go_wp2_with fail
  refine (HF2.out w1 HB.out).mono ?_
  rintro e w2 ⟨rfl, rfl⟩
  go_wp2_with fail
  refine (step_new w1 1048576 (by decide) (by decide) 1048576 rfl).mono ?_
  rintro e w2 ⟨rfl, hH⟩
  have HH : Hid (Held w1 w2 (fun _ => False) (w1.heap.size + 1) (fresh 1048576)) := Lib.hid (by
    obtain ⟨F, hI, hF, hB⟩ := hH
    exact ⟨F, hI, hF, hB, fun b h => h.elim⟩)
  obtain ⟨d, hd⟩ : ∃ d, d = w1.heap.size + 1 := ⟨_, rfl⟩
  rw [← hd] at HH ⊢
  have HWB : Hid (∀ W E s, Held w1 W E d s → Below w.heap.size w W) := Lib.hid (fun W E s h => HB.out.trans (h.below.mono HB.out.size))
  clear hH hd
  go_wp2
  go_loopw [9] (fun x wr => ∃ (i : Nat) (st : Dsk), x = .int .i64 i ∧ i ≤ n1 ∧ Held w1 wr (fun _ => False) d st ∧ Calm i st) (fun x _ => n1 - (intOf x).toNat)
  case atStart => exact ⟨0, fresh 1048576, rfl, by omega, HH.out, calm_fresh⟩
  case round =>
    obtain ⟨i, st, rfl, hin, hH, hC⟩ := hrel
    have HH1 := Lib.hid hH
    have HC1 := Lib.hid hC
    clear hH hC
    by_cases hlt : i < n1
    · have hmi : (i : Int) < (n1 : Int) := by omega
      have hi0 : (0 : Int) ≤ (i : Int) := by omega
      have hil : i < l1.length := by rw [HL1.out]; exact hlt
      obtain ⟨b, o, rfl, hbl, q0, q1, q2⟩ := (HR1.out wr (HWB.out wr _ _ HH1.out)).2 i hil
      obtain ⟨a, ha⟩ : ∃ a, a = l1[i] := ⟨_, rfl⟩
      rw [← ha] at q0 q1 q2
      clear ha
      cases hk : (a.kind == 0) with
      | false =>
        go_wp2
        go_roundw
        case rel => exact ⟨i + 1, st, by go_num, by omega, HH1.out, HC1.out.mono (by omega)⟩
        case measure => simp [intOf]; omega
      | true =>
        go_wp2
        go_still_tail 11, (by kernel_rfl)
        change wpList _ _ _ _ _ wr.drew
        have HH2 := Lib.hid (HH1.out.later (Below.refl _ _).drew).1
        have HCA := Lib.hid (calm_append HC1.out a.name.data.toList a.s.data.toList)
        clear q0 q1 q2
        generalize wr.drew = w3 at HH2 ⊢
        have HP := Lib.hid (held_append HH2.out a.name a.s (by have := HC1.out.eff; omega))
        go_wp2_with fail
        refine HP.out.mono ?_
        rintro e w4 ⟨⟨e', rfl⟩, hH4, hK4⟩
        have HH4 := Lib.hid hH4
        clear hH4 hK4
        go_wp2
        go_roundw
        case rel => exact ⟨i + 1, _, by go_num, by omega, HH4.out, HCA.out.1⟩
        case measure => simp [intOf]; omega
    · have hmi : ¬ (i : Int) < (n1 : Int) := by omega
      have hmk := mk_texts wr
      obtain ⟨m1, hm1⟩ : ∃ m, m = wr.heap.size := ⟨_, rfl⟩
      have HM1 : Hid (w1.heap.size ≤ m1) := Lib.hid (by have := HH1.out.below.size; omega)
      have HHm := Lib.hid (HH1.out.with_ (pl1 wr (.map #[] 0)) (fun b => b = m1) (fun b e => .inr ⟨by omega, by simp; omega⟩))
      have HO1 : Hid (OwnT (wr.alloc (.map #[] 0)) m1 0 (.map [])) := Lib.hid (by rw [hm1]; exact World.ownsMap_made wr Try.prog 9 _)
      rw [← hm1] at hmk
      have HMZ : Hid (m1 < (wr.alloc (.map #[] 0)).heap.size) := Lib.hid (by simp; omega)
      clear hm1
      go_upto_region 14 with fail
      generalize wr.alloc (.map #[] 0) = wm at HHm HO1 HMZ ⊢
      clear hmk
      have HLS := Lib.hid (held_list HHm.out m1)
      go_wp2_with fail
      refine HLS.out.mono ?_
      rintro e wl ⟨p, c, g, rfl, hnm, hg, hbl⟩
      obtain ⟨L, hL⟩ : ∃ L, L = st.fs.length := ⟨_, rfl⟩
      have HLL : Hid ((st.fs.map (·.1)).length = L) := Lib.hid (by rw [List.length_map, hL])
      rw [← hL]
      have hL64 : L ≤ 64 := by rw [hL]; exact HC1.out.ok.most
      have HHl := Lib.hid (HHm.out.with_ hbl (fun b => b = m1 ∨ b = g) (fun b e => by
        rcases e with e | e
        · exact .inl e
        · rcases hg with h | h
          · exact .inl (by rw [e, h])
          · exact .inr (by rw [e]; exact h)))
      have HOl : Hid (OwnT wl m1 0 (.map [])) := Lib.hid (OwnT.stay HO1.out (hbl.block m1 HMZ.out))
      have HNl := Lib.hid hnm
      have HRI := Lib.hid HC1.out.ok.rise
      clear hnm hg hbl hL
      go_wp2
      go_loopw [12] (fun x wr => ∃ (j : Nat) (st2 : Dsk) (D : TD), x = .int .i64 j ∧ j ≤ L ∧ Held w1 wr (fun b => b = m1 ∨ b = g) d st2 ∧ Calm (i + j) st2 ∧ SynTo st.fs st2.fs j ∧ OwnT wr m1 j D ∧ RepT D (upto st.fs j) ∧ Names wr g p (st.fs.map (·.1))) (fun x _ => L - (intOf x).toNat)
      case atStart => exact ⟨0, st, .map [], rfl, by omega, HHl.out, HC1.out, SynTo.zero _, HOl.out, by rw [upto_zero]; exact RepT.none_, HNl.out⟩
      case round =>
        obtain ⟨j, st2, D, rfl, hjL, hH, hC, hS, hO, hR, hN⟩ := hrel
        have HH2 := Lib.hid hH
        have HC2 := Lib.hid hC
        have HS2 := Lib.hid hS
        have HO2 := Lib.hid hO
        have HR2' := Lib.hid hR
        have HN2 := Lib.hid hN
        clear hH hC hS hO hR hN
        by_cases hjlt : j < L
        · have hmj : (j : Int) < (L : Int) := by omega
          have hj0 : (0 : Int) ≤ (j : Int) := by omega
          have hjl : j < (st.fs.map (·.1)).length := by rw [HLL.out]; exact hjlt
          obtain ⟨rfl, q⟩ := HN2.out j hjl
          obtain ⟨f0, hf0⟩ := name_at HRI.out hjl
          obtain ⟨f, hf, hfb⟩ := HS2.out.look hf0
          have hup := upto_next hjl hf0
          obtain ⟨s', hs', hC', hfs'⟩ := calm_sync HC2.out hf
          have hone := HC2.out.ok.one hf
          have hnx := HS2.out.next HRI.out HC2.out.ok.rise hjl hf
          rw [← hfs'] at hnx
          have hlk' : lkF s'.fs (st.fs.map (·.1))[j] = some (synced f) := by rw [hfs', look_put_same]
          obtain ⟨nl, hnl⟩ : ∃ nl, nl = (st.fs.map (·.1))[j] := ⟨_, rfl⟩
          rw [← hnl] at q hf hup hs' hone hlk'
          obtain ⟨nm, hnm⟩ : ∃ nm : ByteArray, nm = ofBytes nl := ⟨_, rfl⟩
          rw [← hnm] at q
          have hnd : nm.data.toList = nl := by rw [hnm, ofBytes_list]
          have hns : nm.size ≤ 32 := by rw [hnm, size_ofBytes]; exact hone.2.2.2
          obtain ⟨x, hx⟩ : ∃ x, x = f0.bytes := ⟨_, rfl⟩
          have hxl : x.length ≤ 1048576 := by rw [hx, ← hfb]; exact hone.2.1
          rw [← hx] at hup
          have hgm : g ≠ m1 := fun e => by
            obtain ⟨es, clock, hb, _⟩ := HO2.out
            rw [e] at q
            simp [World.cell?, hb] at q
          have HSY := Lib.hid (held_sync HH2.out nm (by omega) (by have := HC2.out.eff; omega) s' 0 (by rw [hnd]; exact hs'))
          have HRD0 := Lib.hid (fun W (hW : Held w1 W (fun b => b = m1 ∨ b = g) d s') => held_read hW nm (by omega) hC'.down (synced f) (by rw [hnd]; exact hlk'))
          rw [show (synced f).bytes = x from by rw [hx, ← hfb]; rfl] at HRD0
          have HNX := Lib.hid hnx
          have HC3 := Lib.hid hC'
          have HUP := Lib.hid hup
          have HND := Lib.hid hnd
          have HGM := Lib.hid hgm
          have HQ := Lib.hid q
          clear hf0 hf hfb hup hs' hC' hfs' hone hnx hlk' hnl hnm hnd hx hgm
          go_wp2_with fail
          refine HSY.out.mono ?_
          rintro e w3 ⟨rfl, hH3, hK3⟩
          have q3 : w3.cell? ⟨g, j, none⟩ = some (.string nm) := (World.cell?_of_block (w := wr) (a := ⟨g, j, none⟩) (hK3.2 g (.inr rfl))).trans HQ.out
          have hO3 : OwnT w3 m1 j D := OwnT.stay HO2.out (hK3.2 m1 (.inl rfl))
          have HN3 := Lib.hid (Names.stay HN2.out (hK3.2 g (.inr rfl)))
          have HRD := Lib.hid (HRD0.out w3.drew (hH3.later (Below.refl _ _).drew).1)
          have HH3 := Lib.hid hH3
          have HO3 := Lib.hid hO3
          have hgl : g < w3.heap.size := by have := World.block_lt_of_cell? w3 _ q3; simpa using this
          have HGL := Lib.hid hgl
          have HQ3 := Lib.hid q3
          clear q hH3 hK3 hO3
          go_upto_region 20 with fail
          go_region_with ((with_reducible refine HRD.out.mono ?_); rintro e w4 ⟨rfl, hb4⟩; have hb34 := (Below.refl w3.heap.size w3).drew.trans hb4; have q4 := (hb34.cell (p := ⟨g, j, none⟩) hgl).trans q3; obtain ⟨w5, hrun, hO5, hg5⟩ := text_put (OwnT.stay HO3.out (hb34.block m1 (World.ownsMap.lt HO3.out))) (by omega) nm (by omega) x (by omega); have HB34 := Lib.hid hb34; have HO5 := Lib.hid hO5; have HG5 := Lib.hid hg5; clear hb4 hb34 hO5 hg5)
          all_goals
            have HH4 := Lib.hid (HH3.out.later HB34.out)
            have HH5 := Lib.hid (HH4.out.1.turn (.inl rfl) HM1.out HG5.out)
            have HN5 := Lib.hid ((Names.stay HN3.out (HB34.out.block g HGL.out)).stay (HH5.out.2.2 g ⟨.inr rfl, HGM.out⟩))
            have HR5 : Hid (RepT (D.put (keyS nm.data.toList) (.lit (.string x))) (upto st.fs (j + 1))) := Lib.hid (by rw [HUP.out, HND.out]; exact HR2'.out.put nl x)
            clear hrun q3 q4 hgl
            go_wp2
            go_roundw
            case rel => exact ⟨j + 1, s', _, by go_num, by omega, HH5.out.1, HC3.out.mono (by omega), HNX.out, HO5.out, HR5.out, HN5.out⟩
            case measure => simp [intOf]; omega
        · have hmj : ¬ (j : Int) < (L : Int) := by omega
          obtain rfl : j = L := by omega
          have HALL : Hid (∀ n, lkF st2.fs n = (lkF st.fs n).map synced) := Lib.hid (by
            have := HS2.out
            rw [← HLL.out] at this
            exact this.all)
          have HRA : Hid (RepT D (fun n => (lkF st.fs n).map (·.bytes))) := Lib.hid (by
            have := HR2'.out
            rw [← HLL.out, upto_all] at this
            exact this)
          clear hjL
          go_wp2
          go_loopw [13] (fun x wr => ∃ (i2 : Nat) (st3 : Dsk), x = .int .i64 i2 ∧ i2 ≤ n2 ∧ Held w1 wr (fun b => b = m1) d st3 ∧ Calm (i + j + i2) st3 ∧ Over st2.fs st3.fs ∧ OwnT wr m1 j D) (fun x _ => n2 - (intOf x).toNat)
          case atStart => exact ⟨0, st2, rfl, by omega, HH2.out.with_ (Below.refl _ _) _ (fun b e => .inl (.inl e)), HC2.out, Over.refl _, HO2.out⟩
          case round =>
            obtain ⟨i2, st3, rfl, hin2, hH, hC, hV, hO⟩ := hrel
            have HH6 := Lib.hid hH
            have HC6 := Lib.hid hC
            have HV6 := Lib.hid hV
            have HO6 := Lib.hid hO
            clear hH hC hV hO
            by_cases hlt2 : i2 < n2
            · have hmi2 : (i2 : Int) < (n2 : Int) := by omega
              have hi20 : (0 : Int) ≤ (i2 : Int) := by omega
              have hil2 : i2 < l2.length := by rw [HL2.out]; exact hlt2
              obtain ⟨b, o, rfl, hbl, q0, q1, q2⟩ := (HR2.out wr (HWB.out wr _ _ HH6.out)).2 i2 hil2
              obtain ⟨a, ha⟩ : ∃ a, a = l2[i2] := ⟨_, rfl⟩
              rw [← ha] at q0 q1 q2
              clear ha
              cases hk : (a.kind == 0) with
              | false =>
                go_wp2
                go_roundw
                case rel => exact ⟨i2 + 1, st3, by go_num, by omega, HH6.out, HC6.out.mono (by omega), HV6.out, HO6.out⟩
                case measure => simp [intOf]; omega
              | true =>
                go_wp2
                go_still_tail 11, (by kernel_rfl)
                change wpList _ _ _ _ _ wr.drew
                have HH7 := Lib.hid (HH6.out.later (Below.refl _ _).drew).1
                have HO7 : Hid (OwnT wr.drew m1 j D) := Lib.hid (OwnT.stay HO6.out rfl)
                have HCA := Lib.hid (calm_append HC6.out a.name.data.toList a.s.data.toList)
                clear q0 q1 q2
                generalize wr.drew = w3 at HH7 HO7 ⊢
                have HP := Lib.hid (held_append HH7.out a.name a.s (by have := HC6.out.eff; omega))
                go_wp2_with fail
                refine HP.out.mono ?_
                rintro e w4 ⟨⟨e', rfl⟩, hH4, hK4⟩
                have HH8 := Lib.hid hH4
                have HO8 := Lib.hid (OwnT.stay HO7.out (hK4.2 m1 rfl))
                have HV8 : Hid (Over st2.fs (append st3 a.name.data.toList a.s.data.toList).1.fs) := Lib.hid (by
                  rcases HCA.out.2 with e | e
                  · rw [e]; exact HV6.out
                  · rw [e]; exact HV6.out.grow _ _)
                clear hH4 hK4
                go_wp2
                go_roundw
                case rel => exact ⟨i2 + 1, _, by go_num, by omega, HH8.out, HCA.out.1, HV8.out, HO8.out⟩
                case measure => simp [intOf]; omega
            · have hmi2 : ¬ (i2 : Int) < (n2 : Int) := by omega
              have hmk := mk_texts wr
              obtain ⟨m2, hm2⟩ : ∃ m, m = wr.heap.size := ⟨_, rfl⟩
              have HM2 : Hid (w1.heap.size ≤ m2) := Lib.hid (by have := HH6.out.below.size; omega)
              have HM12 : Hid (m1 ≠ m2) := Lib.hid (by have := World.ownsMap.lt HO6.out; omega)
              have HHm2 := Lib.hid (HH6.out.with_ (pl1 wr (.map #[] 0)) (fun b => b = m1 ∨ b = m2) (fun b e => by
                rcases e with e | e
                · exact .inl e
                · exact .inr ⟨by omega, by simp; omega⟩))
              have HOm1 : Hid (OwnT (wr.alloc (.map #[] 0)) m1 j D) := Lib.hid (World.ownsMap.alloc HO6.out _)
              have HOm2 : Hid (OwnT (wr.alloc (.map #[] 0)) m2 0 (.map [])) := Lib.hid (by rw [hm2]; exact World.ownsMap_made wr Try.prog 9 _)
              rw [← hm2] at hmk
              clear hm2
              go_upto_region 27 with fail
              generalize wr.alloc (.map #[] 0) = wm2 at HHm2 HOm1 HOm2 ⊢
              clear hmk
              have HLS2 := Lib.hid (held_list HHm2.out m1)
              go_wp2_with fail
              refine HLS2.out.mono ?_
              rintro e wl2 ⟨p2, c3, g2, rfl, hnm, hg, hbl⟩
              obtain ⟨L2, hL2⟩ : ∃ L, L = st3.fs.length := ⟨_, rfl⟩
              have HLL2 : Hid ((st3.fs.map (·.1)).length = L2) := Lib.hid (by rw [List.length_map, hL2])
              have HL2E := Lib.hid hL2
              rw [← hL2]
              have hL264 : L2 ≤ 64 := by rw [hL2]; exact HC6.out.ok.most
              have HHl2 := Lib.hid (HHm2.out.with_ hbl (fun b => b = m1 ∨ b = m2 ∨ b = g2) (fun b e => by
                rcases e with e | e | e
                · exact .inl (.inl e)
                · exact .inl (.inr e)
                · rcases hg with h | h
                  · exact .inl (.inl (by rw [e, h]))
                  · exact .inr (by rw [e]; exact h)))
              have HOl1 : Hid (OwnT wl2 m1 j D) := Lib.hid (OwnT.stay HOm1.out (hbl.block m1 (World.ownsMap.lt HOm1.out)))
              have HOl2 : Hid (OwnT wl2 m2 0 (.map [])) := Lib.hid (OwnT.stay HOm2.out (hbl.block m2 (World.ownsMap.lt HOm2.out)))
              have HNl2 := Lib.hid hnm
              have HRI3 := Lib.hid HC6.out.ok.rise
              clear hnm hg hbl hL2
              go_wp2
              go_loopw [16] (fun x wr => ∃ (t : Nat) (D2 : TD), x = .int .i64 t ∧ t ≤ L2 ∧ Held w1 wr (fun b => b = m1 ∨ b = m2 ∨ b = g2) d st3 ∧ OwnT wr m1 j D ∧ OwnT wr m2 t D2 ∧ RepT D2 (upto st3.fs t) ∧ Names wr g2 p2 (st3.fs.map (·.1))) (fun x _ => L2 - (intOf x).toNat)
              case atStart => exact ⟨0, .map [], rfl, by omega, HHl2.out, HOl1.out, HOl2.out, by rw [upto_zero]; exact RepT.none_, HNl2.out⟩
              case round =>
                obtain ⟨t, D2, rfl, htL, hH, hO1, hO2, hR, hN⟩ := hrel
                have HHa := Lib.hid hH
                have HOa1 := Lib.hid hO1
                have HOa2 := Lib.hid hO2
                have HRa := Lib.hid hR
                have HNa := Lib.hid hN
                clear hH hO1 hO2 hR hN
                by_cases htlt : t < L2
                · have hmt : (t : Int) < (L2 : Int) := by omega
                  have ht0 : (0 : Int) ≤ (t : Int) := by omega
                  have htl : t < (st3.fs.map (·.1)).length := by rw [HLL2.out]; exact htlt
                  obtain ⟨rfl, q⟩ := HNa.out t htl
                  obtain ⟨f, hf⟩ := name_at HRI3.out htl
                  have hup := upto_next htl hf
                  have hone := HC6.out.ok.one hf
                  obtain ⟨nl, hnl⟩ : ∃ nl, nl = (st3.fs.map (·.1))[t] := ⟨_, rfl⟩
                  rw [← hnl] at q hf hup hone
                  obtain ⟨nm, hnm⟩ : ∃ nm : ByteArray, nm = ofBytes nl := ⟨_, rfl⟩
                  rw [← hnm] at q
                  have hnd : nm.data.toList = nl := by rw [hnm, ofBytes_list]
                  have hns : nm.size ≤ 32 := by rw [hnm, size_ofBytes]; exact hone.2.2.2
                  obtain ⟨x, hx⟩ : ∃ x, x = f.bytes := ⟨_, rfl⟩
                  have hxl : x.length ≤ 1048576 := by rw [hx]; exact hone.2.1
                  rw [← hx] at hup
                  have hgm1 : g2 ≠ m1 := fun e => by
                    obtain ⟨es, clock, hb, _⟩ := HOa1.out
                    rw [e] at q
                    simp [World.cell?, hb] at q
                  have hgm2 : g2 ≠ m2 := fun e => by
                    obtain ⟨es, clock, hb, _⟩ := HOa2.out
                    rw [e] at q
                    simp [World.cell?, hb] at q
                  have hgl : g2 < wr.heap.size := by have := World.block_lt_of_cell? wr _ q; simpa using this
                  have hrd := held_read (HHa.out.later (Below.refl _ _).drew).1 nm (by omega) HC6.out.down f (by rw [hnd]; exact hf)
                  rw [← hx] at hrd
                  have HRD := Lib.hid hrd
                  have HUP := Lib.hid hup
                  have HND := Lib.hid hnd
                  have HGM1 := Lib.hid hgm1
                  have HGM2 := Lib.hid hgm2
                  have HGL := Lib.hid hgl
                  clear hf hup hone hnl hnm hnd hx hgm1 hgm2 hrd
                  go_upto_region 31 with fail
                  go_region_with ((with_reducible refine HRD.out.mono ?_); rintro e w4 ⟨rfl, hb4⟩; have hb34 := (Below.refl wr.heap.size wr).drew.trans hb4; have q4 := (hb34.cell (p := ⟨g2, t, none⟩) hgl).trans q; obtain ⟨w5, hrun, hO5, hg5⟩ := text_put (OwnT.stay HOa2.out (hb34.block m2 (World.ownsMap.lt HOa2.out))) (by omega) nm (by omega) x (by omega); have HB34 := Lib.hid hb34; have HO5 := Lib.hid hO5; have HG5 := Lib.hid hg5; clear hb4 hb34 hO5 hg5)
                  all_goals
                    have HH4 := Lib.hid (HHa.out.later HB34.out)
                    have HH5 := Lib.hid (HH4.out.1.turn (.inr (.inl rfl)) HM2.out HG5.out)
                    have HN5 := Lib.hid ((Names.stay HNa.out (HB34.out.block g2 HGL.out)).stay (HH5.out.2.2 g2 ⟨.inr (.inr rfl), HGM2.out⟩))
                    have HO15 := Lib.hid (OwnT.stay (OwnT.stay HOa1.out (HB34.out.block m1 (World.ownsMap.lt HOa1.out))) (HH5.out.2.2 m1 ⟨.inl rfl, HM12.out⟩))
                    have HR5 : Hid (RepT (D2.put (keyS nm.data.toList) (.lit (.string x))) (upto st3.fs (t + 1))) := Lib.hid (by rw [HUP.out, HND.out]; exact HRa.out.put nl x)
                    clear hrun q4 q hgl
                    go_wp2
                    go_roundw
                    case rel => exact ⟨t + 1, _, by go_num, by omega, HH5.out.1, HO15.out, HO5.out, HR5.out, HN5.out⟩
                    case measure => simp [intOf]; omega
                · have hmt : ¬ (t : Int) < (L2 : Int) := by omega
                  obtain rfl : t = L2 := by omega
                  have HRB : Hid (RepT D2 (fun n => (lkF st3.fs n).map (·.bytes))) := Lib.hid (by
                    have := HRa.out
                    rw [← HLL2.out, upto_all] at this
                    exact this)
                  have HCR := Lib.hid (held_crash HHa.out keep { st3 with fs := cutAll keep st3.fs, down := true, at_ := 0, keep := 0 } (by unfold crash; rw [HC6.out.down]; rfl))
                  clear htL
                  go_wp2_with fail
                  refine HCR.out.mono ?_
                  rintro e w6 ⟨rfl, hH6, hK6⟩
                  have HST := Lib.hid (held_start hH6 { st3 with fs := cutAll keep st3.fs, down := false, at_ := 0, keep := 0 } rfl)
                  have HK6 := Lib.hid hK6
                  clear hH6 hK6
                  go_wp2_with fail
                  refine HST.out.mono ?_
                  rintro e w7 ⟨rfl, hH7, hK7⟩
                  have HO71 : Hid (OwnT w7 m1 j D) := Lib.hid (OwnT.stay (OwnT.stay HOa1.out (HK6.out.2 m1 (.inl rfl))) (hK7.2 m1 (.inl rfl)))
                  have HO72 : Hid (OwnT w7 m2 t D2) := Lib.hid (OwnT.stay (OwnT.stay HOa2.out (HK6.out.2 m2 (.inr (.inl rfl)))) (hK7.2 m2 (.inr (.inl rfl))))
                  have HH7 := Lib.hid hH7
                  have hls := held_list hH7 m1
                  have e3 : (cutAll keep st3.fs).length = t := by rw [HL2E.out]; simp [cutAll]
                  have e4 : (cutAll keep st3.fs).map (·.1) = st3.fs.map (·.1) := names_map _ _
                  rw [show ({ st3 with fs := cutAll keep st3.fs, down := false, at_ := 0, keep := 0 } : Dsk).fs = cutAll keep st3.fs from rfl, e3, e4] at hls
                  have HLS3 := Lib.hid hls
                  clear hls e3 e4
                  clear hH7 hK7
                  go_wp2_with fail
                  refine HLS3.out.mono ?_
                  rintro e w8 ⟨p3, c4, g3, rfl, hnm, hg, hbl⟩
                  have HHb := Lib.hid (HH7.out.with_ hbl (fun b => b = m1 ∨ b = m2 ∨ b = g3) (fun b e => by
                    rcases e with e | e | e
                    · exact .inl (.inl e)
                    · exact .inl (.inr (.inl e))
                    · rcases hg with h | h
                      · exact .inl (.inl (by rw [e, h]))
                      · exact .inr (by rw [e]; exact h)))
                  have HO81 : Hid (OwnT w8 m1 j D) := Lib.hid (OwnT.stay HO71.out (hbl.block m1 (World.ownsMap.lt HO71.out)))
                  have HO82 : Hid (OwnT w8 m2 t D2) := Lib.hid (OwnT.stay HO72.out (hbl.block m2 (World.ownsMap.lt HO72.out)))
                  have HN8 := Lib.hid hnm
                  have HWL : Hid (∀ n f, lkF st3.fs n = some f → f.syn ≤ f.bytes.length) := Lib.hid (fun n f h => (HC6.out.ok.one h).1)
                  have hne : ((t : Int) != (t : Int)) = false := by simp
                  clear hnm hg hbl
                  go_wp2
                  go_loopw [18] (fun x wr => ∃ (r : Nat), x = .int .i64 r ∧ r ≤ t ∧ Held w1 wr (fun b => b = m1 ∨ b = m2 ∨ b = g3) d { st3 with fs := cutAll keep st3.fs, down := false, at_ := 0, keep := 0 } ∧ OwnT wr m1 j D ∧ OwnT wr m2 t D2 ∧ Names wr g3 p3 (st3.fs.map (·.1))) (fun x _ => t - (intOf x).toNat)
                  case atStart => exact ⟨0, rfl, by omega, HHb.out, HO81.out, HO82.out, HN8.out⟩
                  case round =>
                    obtain ⟨r, rfl, hrt, hH, hO1, hO2, hN⟩ := hrel
                    have HHc := Lib.hid hH
                    have HOc1 := Lib.hid hO1
                    have HOc2 := Lib.hid hO2
                    have HNc := Lib.hid hN
                    clear hH hO1 hO2 hN
                    by_cases hrlt : r < t
                    · have hmr : (r : Int) < (t : Int) := by omega
                      have hr0 : (0 : Int) ≤ (r : Int) := by omega
                      have hrl : r < (st3.fs.map (·.1)).length := by rw [HLL2.out]; exact hrlt
                      obtain ⟨rfl, q⟩ := HNc.out r hrl
                      obtain ⟨f, hf⟩ := name_at HRI3.out hrl
                      have hone := HC6.out.ok.one hf
                      obtain ⟨nl, hnl⟩ : ∃ nl, nl = (st3.fs.map (·.1))[r] := ⟨_, rfl⟩
                      rw [← hnl] at q hf hone
                      obtain ⟨nm, hnm⟩ : ∃ nm : ByteArray, nm = ofBytes nl := ⟨_, rfl⟩
                      rw [← hnm] at q
                      have hnd : nm.data.toList = nl := by rw [hnm, ofBytes_list]
                      have hns : nm.size ≤ 32 := by rw [hnm, size_ofBytes]; exact hone.2.2.2
                      have hgl : g3 < wr.heap.size := by have := World.block_lt_of_cell? wr _ q; simpa using this
                      have hcl : lkF (cutAll keep st3.fs) nl = some (cutF keep f) := by unfold cutAll; rw [look_map, hf]; rfl
                      have hrd := held_read HHc.out nm (by omega) rfl (cutF keep f) (by rw [hnd]; exact hcl)
                      obtain ⟨a, ha, l1', l2', l3', l4'⟩ := lasts HALL.out HV6.out hf (HWL.out _ _ hf) keep
                      have ht1 := text_look (w := wr) HOc1.out HRA.out nm (by omega)
                      have HLK : Hid (∀ W, OwnT W m1 j D → OwnT W m2 t D2 → (Instr.lookup 34 (.map (some m1)) (.string nm) false).run Try.prog W = .ok (.string (ofBytes a)) W ∧ (Instr.lookup 34 (.map (some m2)) (.string nm) false).run Try.prog W = .ok (.string (ofBytes f.bytes)) W) := Lib.hid (fun W h1 h2 => by
                        have e1 := text_look h1 HRA.out nm (by omega)
                        have e2 := text_look h2 HRB.out nm (by omega)
                        rw [hnd, ha] at e1
                        rw [hnd, hf] at e2
                        exact ⟨e1, e2⟩)
                      obtain ⟨S, hS⟩ : ∃ S, S = ofBytes (cutF keep f).bytes := ⟨_, rfl⟩
                      obtain ⟨Ta, hTa⟩ : ∃ S, S = ofBytes a := ⟨_, rfl⟩
                      obtain ⟨Tb, hTb⟩ : ∃ S, S = ofBytes f.bytes := ⟨_, rfl⟩
                      rw [← hS] at hrd
                      rw [← hTa, ← hTb] at HLK
                      have z1 : S.size = (cutF keep f).bytes.length := by rw [hS, size_ofBytes]
                      have z2 : Ta.size = a.length := by rw [hTa, size_ofBytes]
                      have z3 : Tb.size = f.bytes.length := by rw [hTb, size_ofBytes]
                      rw [← z1, ← z2] at l1'
                      rw [← z1, ← z3] at l2'
                      rw [← z1, ← z2, ← z3] at l4'
                      have hbz : Tb.size ≤ 1048576 := by rw [z3]; exact hone.2.1
                      have d1 : decide (S.size < Ta.size) = false := decide_eq_false (Nat.not_lt.2 l1')
                      have d2 : decide (Tb.size < S.size) = false := decide_eq_false (Nat.not_lt.2 l2')
                      have hext : Tb.extract 0 S.size = S := by rw [hTb, extract_take9, z1, l3', hS]
                      obtain ⟨mk, mx, sm, hM1, hM2, hM3, hM4, hM5⟩ := nums9 keep S.size Ta.size Tb.size l1' l2' hbz l4'
                      have hM6 : ((S.size : Int) != (S.size : Int)) = false := by simp
                      have hsz2 : S.size ≤ Tb.size := l2'
                      have hsz3 : (S.size : Int) ≤ (Tb.size : Int) := Int.ofNat_le.2 l2'
                      have hsz4 : (0 : Int) ≤ (S.size : Int) := Int.natCast_nonneg _
                      have hM := Lib.hid (And.intro hM1 (And.intro hM2 (And.intro hM3 (And.intro hM4 (And.intro hM5 (And.intro hM6 (And.intro hext (And.intro d1 d2))))))))
                      have HRD := Lib.hid hrd
                      have HGL := Lib.hid hgl
                      clear hf hone hnl hnm hnd hcl ha l1' l2' l3' l4' ht1 hS hTa hTb z1 z2 z3 hrd hM1 hM2 hM3 hM4 hM5 hM6 hext d1 d2
                      go_wp2_with fail
                      refine HRD.out.mono ?_
                      rintro e w9 ⟨rfl, hb9⟩
                      have q9 := (hb9.cell (p := ⟨g3, r, none⟩) HGL.out).trans q
                      have HO91 := Lib.hid (OwnT.stay HOc1.out (hb9.block m1 (World.ownsMap.lt HOc1.out)))
                      have HO92 := Lib.hid (OwnT.stay HOc2.out (hb9.block m2 (World.ownsMap.lt HOc2.out)))
                      have HH9 := Lib.hid (HHc.out.later hb9).1
                      have HN9 := Lib.hid (Names.stay HNc.out (hb9.block g3 HGL.out))
                      obtain ⟨k1, k2⟩ := HLK.out w9.drew (OwnT.stay HO91.out rfl) (OwnT.stay HO92.out rfl)
                      clear hb9 q hgl
                      go_wp2
                      go_region
                      all_goals
                        have HH10 : Hid (Held w1 w9.drew (fun b => b = m1 ∨ b = m2 ∨ b = g3) d { st3 with fs := cutAll keep st3.fs, down := false, at_ := 0, keep := 0 }) := Lib.hid (HH9.out.later (Below.refl _ _).drew).1
                        have HO101 : Hid (OwnT w9.drew m1 j D) := Lib.hid (OwnT.stay HO91.out rfl)
                        have HO102 : Hid (OwnT w9.drew m2 t D2) := Lib.hid (OwnT.stay HO92.out rfl)
                        have HN10 : Hid (Names w9.drew g3 (some ⟨g3, 0, none⟩) (st3.fs.map (·.1))) := Lib.hid (Names.stay HN9.out rfl)
                        clear k1 k2 q9
                        generalize w9.drew = w10 at HH10 HO101 HO102 HN10 ⊢
                        obtain ⟨hM1, hM2, hM3, hM4, hM5, hM6, hext, d1, d2⟩ := hM.out
                        clear hM
                        go_wp2

                        go_roundw
                        case rel => exact ⟨r + 1, by go_num, by omega, HH10.out, HO101.out, HO102.out, HN10.out⟩
                        case measure => simp [intOf]; omega
                    · have hmr : ¬ (r : Int) < (t : Int) := by omega
                      have HFB := Lib.hid (HWB.out wr _ _ HHc.out)
                      go_wp2
                      go_ret
                      exact ⟨rfl, HFB.out⟩
end Go.Proofs.Yteigkmeenokfoaa.Vd
