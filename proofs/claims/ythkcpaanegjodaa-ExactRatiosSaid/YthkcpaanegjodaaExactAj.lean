
/- The document's Compare. -/
import Derived.Test.YthkcpaanegjodaaExactAi
import Derived.Test.YthkcpaanegjodaaExactP
namespace Go.Proofs.Ythkcpaanegjodaa
open Go.RowKit

set_option maxHeartbeats 1000000 in
set_option maxRecDepth 100000 in
theorem rcmp_not (p q : Int × Int) (w : World) (hp : R64 p) (hq : R64 q) (hr : (rtB p && rtB q) = false) :
    Calls Try.prog 25 #[rv p, rv q] w fun e w' => e = .returned (.int .i64 0) ∧ Below w.heap.size w w' := by
  obtain ⟨n, d⟩ := p
  obtain ⟨m, f⟩ := q
  have hR1 := fun w => rright_any (n, d) w hp
  have hR2 := fun w => rright_any (m, f) w hq
  unfold rv at hR1 hR2 ⊢
  simp only at hR1 hR2 ⊢
  obtain ⟨V, hV, hB⟩ := bks2 w (.cells #[.int .i64 n, .int .i64 d] 37) (.cells #[.int .i64 m, .int .i64 f] 37)
  have HV := Lib.hid hV
  clear hV
  cases h1 : rtB (n, d) with
  | false =>
    rw [h1] at hR1
    clear hr h1 hR2
    go_enter Try.func25, Try.ntmps25
    go_wp2_with fail
    rw [← HV.out]
    refine (hR1 _).mono ?_
    rintro e V1 ⟨rfl, hb1⟩
    have HB := Lib.hid (hB.later hb1)
    clear hB hb1
    go_wp2
    go_ret
    exact ⟨rfl, HB.out.1⟩
  | true =>
    rw [h1, Bool.true_and] at hr
    rw [h1] at hR1
    rw [hr] at hR2
    clear hr h1
    go_enter Try.func25, Try.ntmps25
    go_wp2_with fail
    rw [← HV.out]
    refine (hR1 _).mono ?_
    rintro e V1 ⟨rfl, hb1⟩
    have hB1 := hB.later hb1
    obtain ⟨⟨c0, c1⟩, _, _⟩ := hB1.pair 1 rfl
    have HB := Lib.hid hB1
    clear hB hb1 hB1
    go_wp2_with fail
    refine (hR2 _).mono ?_
    rintro e V2 ⟨rfl, hb2⟩
    have HB2 := Lib.hid (HB.out.later hb2)
    clear hb2 HB
    go_wp2
    go_ret
    exact ⟨rfl, HB2.out.1⟩

/-- a row of a number lies in no block of a new Big -/
theorem rd_not_zero {w : World} {v : Value} {N k : Nat} {t : TypeId} (h : Rd w v (ExactM.ofN N)) (hk : w.heap[k]? = some (.cells #[.slice none 0 0, .bool false] t (0, 0))) : N = 0 ∨ v.ownBlock ≠ some k := by
  by_cases hN : N = 0
  · exact .inl hN
  · refine .inr (fun e => ?_)
    obtain ⟨A, cp, rfl, hc, hn, hs⟩ := h
    rcases A with _ | ⟨b, o, s⟩
    · simp [Value.ownBlock] at e
    · have e2 : b = k := by simpa [Value.ownBlock] using e
      subst e2
      obtain ⟨rfl, hb, hcell⟩ := hs b o s rfl
      have hne : ExactM.ofN N ≠ [] := by rw [ExactM.ofN_pos hN]; simp
      have hlast := ExactM.ofN_tr N ((ExactM.ofN N).getLast hne) (List.getLast?_eq_some_getLast hne)
      have hlen : 0 < (ExactM.ofN N).length := List.length_pos_iff.2 hne
      have hc1 := hcell ((ExactM.ofN N).length - 1) (by omega)
      rw [List.getLast_eq_getElem] at hlast
      rw [hlast] at hc1
      generalize o + ((ExactM.ofN N).length - 1) = j at hc1
      simp [World.cell?, hk] at hc1
      match j, hc1 with
      | 0, hc1 => simp at hc1
      | 1, hc1 => simp at hc1
      | j + 2, hc1 => simp at hc1
theorem Bg.hop {X w0 : World} {V : Value} {z : Int} (g : Bg X V z) (h : w0 = X ∨ ∃ o, w0 = X.alloc o) : Bg w0 V z := by
  rcases h with rfl | ⟨o, rfl⟩
  · exact g
  · exact g.below (bl1 _ _)
/-- x, as Compare makes it -/
def CmpX (U : World) (z : Int) (y : Value) (wx : World) : Prop :=
  ∃ (k : Nat) (v : Value), y = .pointer (some ⟨k, 0, none⟩) ∧ U.heap.size ≤ k ∧ Below U.heap.size U wx ∧ wx.heap[k]? = some (.cells #[v, .bool (decide (z < 0))] 29 (0, 0)) ∧ Rd wx v (ExactM.ofN z.natAbs) ∧ (z.natAbs = 0 ∨ v.ownBlock ≠ some k)
theorem Rd.nil_store {w : World} {v : Value} {g : Nat} (i : Nat) (u : Value) (h : Rd w v []) : Rd (w.setCell ⟨g, i, none⟩ u) v [] := by
  obtain ⟨A, cp, rfl, hc, hn, hs⟩ := h
  refine ⟨A, cp, rfl, hc, hn, fun b o s hA => ?_⟩
  obtain ⟨h1, h2, h3⟩ := hs b o s hA
  exact ⟨h1, by simpa [World.setCell] using h2, fun k hk => by simp at hk⟩
theorem Rd.store_ {w : World} {v : Value} {N g : Nat} (h : Rd w v (ExactM.ofN N)) (hg : N = 0 ∨ v.ownBlock ≠ some g) (i : Nat) (u : Value) : Rd (w.setCell ⟨g, i, none⟩ u) v (ExactM.ofN N) := by
  rcases hg with rfl | hg
  · rw [ExactM.ofN_zero] at h ⊢
    exact h.nil_store i u
  · exact h.far hg i u
theorem cmpx_old {U w : World} {k : Nat} {v : Value} {z : Int} (hb : Below U.heap.size U w) (kz : Blk U w 29 (.slice none 0 0) (.bool false) k) (r : Rd w v (ExactM.ofN z.natAbs)) :
    CmpX U z (.pointer (some ⟨k, 0, none⟩)) ((w.setCell ⟨k, 0, none⟩ v).setCell ⟨k, 1, none⟩ (.bool (decide (z < 0)))) := by
  have hz := rd_not_zero r kz.2
  have hd := kz.done hb v (.bool (decide (z < 0)))
  exact ⟨k, v, rfl, kz.1, hd.1, hd.2, (r.store_ hz 0 v).store_ hz 1 _, hz⟩
theorem Rd.not_new {w : World} {v : Value} {l : List Bool} (h : Rd w v l) : v.ownBlock ≠ some w.heap.size := by
  intro e
  obtain ⟨A, cp, rfl, hc, hn, hs⟩ := h
  rcases A with _ | ⟨b, o, s⟩
  · simp [Value.ownBlock] at e
  · have e2 : b = w.heap.size := by simpa [Value.ownBlock] using e
    have := (hs b o s rfl).2.1
    omega
theorem cmpx_new {U w : World} {v : Value} {z : Int} (hb : Below U.heap.size U w) (r : Rd w v (ExactM.ofN z.natAbs)) :
    CmpX U z (.pointer (some ⟨w.heap.size, 0, none⟩)) (w.alloc (.cells #[v, .bool (decide (z < 0))] 29)) :=
  ⟨w.heap.size, v, rfl, hb.size, hb.alloc hb.size _, heap_alloc_new _ _, r.below (bl1 w _), .inr r.not_new⟩
/-- x with its sign turned -/
def XAt (U : World) (k : Nat) (v : Value) (z : Int) (wx : World) : Prop := Below U.heap.size U wx ∧ wx.heap[k]? = some (.cells #[v, .bool (decide (z < 0))] 29 (0, 0)) ∧ Rd wx v (ExactM.ofN z.natAbs)
/-- d, as Compare makes it -/
def CmpD (U : World) (z : Int) (y : Value) (wx : World) : Prop :=
  ∃ (k : Nat) (A : Option Addr) (cp : Nat), y = .pointer (some ⟨k, 0, none⟩) ∧ Below U.heap.size U wx ∧ wx.heap[k]? = some (.cells #[.slice A (ExactM.ofN z.natAbs).length cp, .bool (decide (z < 0))] 29 (0, 0))
theorem keep5C {V X w1 : World} {p1 p2 p3 p4 : Addr} {v1 v2 v3 v4 : Value} (hb : Below X.heap.size X w1) (h : X.cell? p1 = some v1 ∧ X.cell? p2 = some v2 ∧ X.cell? p3 = some v3 ∧ X.cell? p4 = some v4 ∧ Below V.heap.size V X) : w1.cell? p1 = some v1 ∧ w1.cell? p2 = some v2 ∧ w1.cell? p3 = some v3 ∧ w1.cell? p4 = some v4 ∧ Below V.heap.size V w1 :=
  ⟨cell_kept hb h.1, cell_kept hb h.2.1, cell_kept hb h.2.2.1, cell_kept hb h.2.2.2.1, h.2.2.2.2.trans (hb.mono h.2.2.2.2.size)⟩
theorem keep5A {V X : World} {p1 p2 p3 p4 : Addr} {v1 v2 v3 v4 : Value} {o : Obj} (h : X.cell? p1 = some v1 ∧ X.cell? p2 = some v2 ∧ X.cell? p3 = some v3 ∧ X.cell? p4 = some v4 ∧ Below V.heap.size V X) : (X.alloc o).cell? p1 = some v1 ∧ (X.alloc o).cell? p2 = some v2 ∧ (X.alloc o).cell? p3 = some v3 ∧ (X.alloc o).cell? p4 = some v4 ∧ Below V.heap.size V (X.alloc o) := keep5C (bl1 X o) h
theorem keep5D {V : World} {p1 p2 p3 p4 : Addr} {v1 v2 v3 v4 : Value} (h1 : V.cell? p1 = some v1) (h2 : V.cell? p2 = some v2) (h3 : V.cell? p3 = some v3) (h4 : V.cell? p4 = some v4) : V.drew.cell? p1 = some v1 ∧ V.drew.cell? p2 = some v2 ∧ V.drew.cell? p3 = some v3 ∧ V.drew.cell? p4 = some v4 ∧ Below V.heap.size V V.drew := ⟨h1, h2, h3, h4, (Below.refl _ _).drew⟩
theorem keep5St {U X : World} {g : Nat} {p1 p2 p3 p4 : Addr} {v1 v2 v3 v4 a b : Value} (h : Below U.heap.size U X) (hg : U.heap.size ≤ g) (h1 : U.cell? p1 = some v1) (h2 : U.cell? p2 = some v2) (h3 : U.cell? p3 = some v3) (h4 : U.cell? p4 = some v4) :
    ((X.setCell ⟨g, 0, none⟩ a).setCell ⟨g, 1, none⟩ b).cell? p1 = some v1 ∧ ((X.setCell ⟨g, 0, none⟩ a).setCell ⟨g, 1, none⟩ b).cell? p2 = some v2 ∧ ((X.setCell ⟨g, 0, none⟩ a).setCell ⟨g, 1, none⟩ b).cell? p3 = some v3 ∧ ((X.setCell ⟨g, 0, none⟩ a).setCell ⟨g, 1, none⟩ b).cell? p4 = some v4 ∧ Below U.heap.size U ((X.setCell ⟨g, 0, none⟩ a).setCell ⟨g, 1, none⟩ b) := by
  have hb : Below U.heap.size U ((X.setCell ⟨g, 0, none⟩ a).setCell ⟨g, 1, none⟩ b) := (h.setCell hg _).setCell hg _
  exact ⟨cell_kept hb h1, cell_kept hb h2, cell_kept hb h3, cell_kept hb h4, hb⟩
theorem sign_flip {z : Int} (h : z ≠ 0) : (!decide (z < 0)) = decide (-z < 0) := by
  rw [Bool.eq_iff_iff]; simp; omega

set_option maxHeartbeats 4000000 in
set_option maxRecDepth 100000 in
theorem rcmp_yes (n1 n2 : Int) (D1 D2 : Nat) (w : World) (h1 : I64n n1) (h2 : I64n n2) (hD1 : I64n (D1 : Int)) (hD2 : I64n (D2 : Int)) (hr1 : rtB (n1, (D1 : Int)) = true) (hr2 : rtB (n2, (D2 : Int)) = true)
    (c : Int) (hc : c = ExactM.cmp (n1, (D1 : Int)) (n2, (D2 : Int))) :
    Calls Try.prog 25 #[.agg #[.int .i64 n1, .int .i64 (D1 : Int)], .agg #[.int .i64 n2, .int .i64 (D2 : Int)]] w fun e w' => e = .returned (.int .i64 c) ∧ Below w.heap.size w w' := by
  have hR1 := fun w => rright_any (n1, (D1 : Int)) w ⟨h1, hD1⟩
  have hR2 := fun w => rright_any (n2, (D2 : Int)) w ⟨h2, hD2⟩
  rw [hr1] at hR1
  rw [hr2] at hR2
  unfold rv at hR1 hR2
  simp only at hR1 hR2
  have H1 := Lib.hid h1
  have H2 := Lib.hid h2
  have HD1 := Lib.hid hD1
  have HD2 := Lib.hid hD2
  have B1 := Lib.hid (big_i64 h1)
  have B2 := Lib.hid (big_i64 h2)
  have BD1 := Lib.hid (big_i64 hD1)
  have BD2 := Lib.hid (big_i64 hD2)
  have BP1 := Lib.hid (big_prod h1 hD2)
  have BP2 := Lib.hid (big_prod h2 hD1)
  have HR1 := Lib.hid hR1
  have HR2 := Lib.hid hR2
  have hcm : (n1 * D2 + -(n2 * D1) = 0 → c = 0) ∧ (n1 * D2 + -(n2 * D1) < 0 → c = -1) ∧ (0 < n1 * D2 + -(n2 * D1) → c = 1) := by
    rw [hc]
    unfold ExactM.cmp
    simp only
    generalize n1 * (D2 : Int) = a
    generalize n2 * (D1 : Int) = b
    refine ⟨fun h => ?_, fun h => ?_, fun h => ?_⟩ <;> (repeat' split) <;> first | rfl | (exfalso; omega)
  have HC := Lib.hid hcm
  obtain ⟨V, hV, hB⟩ := bks2 w (.cells #[.int .i64 n1, .int .i64 (D1 : Int)] 37) (.cells #[.int .i64 n2, .int .i64 (D2 : Int)] 37)
  have HV := Lib.hid hV
  clear hV h1 h2 hD1 hD2 hr1 hr2 hc hR1 hR2 hcm
  go_enter Try.func25, Try.ntmps25
  go_wp2_with fail
  rw [← HV.out]
  refine (HR1.out _).mono ?_
  rintro e V1 ⟨rfl, hb1⟩
  have hB1 := hB.later hb1
  obtain ⟨⟨c0, c1⟩, _, _⟩ := hB1.pair 1 rfl
  have HB1 := Lib.hid hB1
  clear hB hb1 hB1 HR1 HV
  go_wp2_with fail
  refine (HR2.out _).mono ?_
  rintro e U ⟨rfl, hb2⟩
  clear c0 c1 HR2
  have hBU := HB1.out.later hb2
  clear HB1 hb2
  obtain ⟨⟨c0, c1⟩, _, _⟩ := hBU.pair 0 rfl
  rw [Nat.add_zero] at c0 c1
  obtain ⟨⟨c2, c3⟩, _, _⟩ := hBU.pair 1 rfl
  have HBU := Lib.hid hBU
  clear hBU
  go_upto_region 3 with fail
  go_cut [5] (fun y wx => CmpX U (n2 * D1) y wx)
  case first =>
    go_region_held3 (fun w' => w'.cell? ⟨w.heap.size + 1, 0, none⟩ = some (.int .i64 n2) ∧ w'.cell? ⟨w.heap.size, 1, none⟩ = some (.int .i64 (D1 : Int)) ∧ Below U.heap.size U w') ((first | (exact keepC hb (by assumption)) | (exact keepA (by assumption)) | (exact keepA hk.out) | (exact keepSt hk.out.2.2 kz.1 c2 c1) | (exact keepD (by assumption) (by assumption)) | go_keep))
      (first
        | (go_at_call 12; first
            | ((with_reducible refine (rof_any n2 _ H2.out).mono ?_); rintro e w4 ⟨V1, rfl, g1, hb⟩; have hs : Hid (Below U.heap.size U w4) := Lib.hid ((keepC hb (by assumption)).2.2); try (have kz : Blk U w4 29 (.slice none 0 0) (.bool false) _ := blk_kept hb (by first | assumption | (exact blk_new (by first | (exact hid_size (by assumption)) | (exact Nat.le_refl _))))))
            | ((with_reducible refine (rof_any (D1 : Int) _ HD1.out).mono ?_); rintro e w5 ⟨V2, rfl, g2, hb⟩; have g1 := (g1.hop (by first | exact .inl rfl | exact .inr ⟨_, rfl⟩)).below hb; have hs : Hid (Below U.heap.size U w5) := Lib.hid ((keepC hb (by assumption)).2.2); try (have kz : Blk U w5 29 (.slice none 0 0) (.bool false) _ := blk_kept hb (by first | assumption | (exact blk_new (by first | (exact hid_size (by assumption)) | (exact Nat.le_refl _)))))))
        | (go_at_call 14; first
            | ((with_reducible refine (rmul_any _ _ n2 (D1 : Int) _ B2.out BD1.out (g1.hop (by first | exact .inl rfl | exact .inr ⟨_, rfl⟩)) (g2.hop (by first | exact .inl rfl | exact .inr ⟨_, rfl⟩))).mono ?_); rintro e U1 ⟨V3, rfl, g3, hb⟩; have hk : Hid (U1.cell? ⟨w.heap.size + 1, 0, none⟩ = some (.int .i64 n2) ∧ U1.cell? ⟨w.heap.size, 1, none⟩ = some (.int .i64 (D1 : Int)) ∧ Below U.heap.size U U1) := Lib.hid (keepC hb (by assumption)); obtain ⟨v3, rfl, r3⟩ := g3; obtain ⟨A3, cp3, rfl⟩ := r3.len; try (have kz : Blk U U1 29 (.slice none 0 0) (.bool false) _ := blk_kept hb (by first | assumption | (exact blk_new (by first | (exact hid_size (by assumption)) | (exact Nat.le_refl _))))); try (obtain ⟨⟨z1, z2⟩, z3, z4⟩ := kz.cells))))
    all_goals
      go_wp2_with fail
      go_meet
      first
        | (exact cmpx_old hk.out.2.2 kz r3)
        | (exact cmpx_new hk.out.2.2 r3)
  case rest =>
    obtain ⟨k, v, rfl, hk0, hbU, hk, r3, hz⟩ := hcut
    obtain ⟨z, hzd⟩ : ∃ z, z = n2 * (D1 : Int) := ⟨_, rfl⟩
    rw [← hzd] at hk r3 hz
    have BZ : Hid ((ExactM.ofN (-z).natAbs).length ≤ 200) := by
      rw [Int.natAbs_neg, hzd]
      exact BP2
    rw [← hzd] at HC
    obtain ⟨A3, cp3, rfl⟩ := r3.len
    have hl0 := ofN_len0 z.natAbs
    obtain ⟨lx, hlx⟩ : ∃ n, n = (ExactM.ofN z.natAbs).length := ⟨_, rfl⟩
    rw [← hlx] at hk r3 hz hl0
    obtain ⟨x0, x1⟩ := cell_pair hk
    have f1 : wc.frozen? ⟨k, 1, none⟩ = false := by simp [World.frozen?, hk]
    obtain ⟨sg, hsg⟩ : ∃ sg, sg = decide (z < 0) := ⟨_, rfl⟩
    rw [← hsg] at hk x1
    have HSG := Lib.hid hsg
    have HK := Lib.hid hk
    have HR3 := Lib.hid r3
    have HZ := Lib.hid hz
    have HL0 := Lib.hid hl0
    have HBX := Lib.hid hbU
    clear hzd hlx hsg hk r3 hz hl0 hbU c0 c1 c2 c3 BP2
    go_upto_if 25 with fail
    go_cut [] (fun wx => XAt U k (.slice A3 lx cp3) (-z) wx)
    case first =>
      go_wp2_with fail
      · have h0 : 0 < lx := by assumption
        have hz0 : z ≠ 0 := fun e => by
          have := HL0.out
          rw [e, decide_eq_true h0] at this
          simp at this
        have e1 : decide (-z < 0) = !sg := by rw [HSG.out, sign_flip hz0]
        have hne : (Value.slice A3 lx cp3).ownBlock ≠ some k := by
          rcases HZ.out with h | h
          · omega
          · exact h
        go_meet
        refine ⟨HBX.out.setCell (p := ⟨k, 1, none⟩) hk0 _, ?_, by rw [Int.natAbs_neg]; exact HR3.out.far hne _ _⟩
        rw [heap_setCell_row HK.out 1 _, e1]
        simp
      · have h0 : ¬ 0 < lx := by omega
        have hz0 : z = 0 := by
          have := HL0.out
          rw [decide_eq_false h0] at this
          simp at this
          exact this
        have e1 : decide (-z < 0) = sg := by rw [HSG.out, hz0]; rfl
        go_meet
        exact ⟨HBX.out, by rw [e1]; exact HK.out, by rw [Int.natAbs_neg]; exact HR3.out⟩
    case rest =>
      obtain ⟨hbX, hkX, rX⟩ := hcut
      obtain ⟨U3, hU3⟩ : ∃ U3, U3 = wc := ⟨_, rfl⟩
      subst hU3
      have hB3 := HBU.out.later hbX
      obtain ⟨⟨c0, c1⟩, _, _⟩ := hB3.pair 0 rfl
      rw [Nat.add_zero] at c0 c1
      obtain ⟨⟨c2, c3⟩, _, _⟩ := hB3.pair 1 rfl
      obtain ⟨y0, y1⟩ := cell_pair hkX
      have gX : Bg U3.drew (.agg #[.slice A3 lx cp3, .bool (decide (-z < 0))]) (-z) := ⟨_, rfl, rX⟩
      obtain ⟨sx, hsx⟩ : ∃ sx, sx = decide (-z < 0) := ⟨_, rfl⟩
      rw [← hsx] at y1 gX
      have HB3 := Lib.hid hB3
      clear hB3 hbX hkX rX hsx HBX HK HR3 HZ HL0 HSG x0 x1 f1 HBU
      go_upto_region 6 with fail
      go_cut [6] (fun y wx => CmpD U3 (n1 * D2 + -z) y wx)
      case first =>
        go_region_held3 (fun w' => w'.cell? ⟨w.heap.size, 0, none⟩ = some (.int .i64 n1) ∧ w'.cell? ⟨w.heap.size + 1, 1, none⟩ = some (.int .i64 (D2 : Int)) ∧ w'.cell? ⟨k, 0, none⟩ = some (.slice A3 lx cp3) ∧ w'.cell? ⟨k, 1, none⟩ = some (.bool sx) ∧ Below U3.heap.size U3 w') ((first | (exact keep5C hb (by assumption)) | (exact keep5A (by assumption)) | (exact keep5A hk.out) | (exact keep5St hk.out.2.2.2.2 kz.1 c0 c3 y0 y1) | (exact keep5D c0 c3 y0 y1) | go_keep))
          (first
            | (go_at_call 12; first
                | ((with_reducible refine (rof_any n1 _ H1.out).mono ?_); rintro e w4 ⟨V1, rfl, g1, hb⟩; have gX := (gX.hop (by first | exact .inl rfl | exact .inr ⟨_, rfl⟩)).below hb; have hs : Hid (Below U3.heap.size U3 w4) := Lib.hid ((keep5C hb (by assumption)).2.2.2.2); try (have kz : Blk U3 w4 29 (.slice none 0 0) (.bool false) _ := blk_kept hb (by first | assumption | (exact blk_new (by first | (exact hid_size (by assumption)) | (exact Nat.le_refl _))))))
                | ((with_reducible refine (rof_any (D2 : Int) _ HD2.out).mono ?_); rintro e w5 ⟨V2, rfl, g2, hb⟩; have gX := (gX.hop (by first | exact .inl rfl | exact .inr ⟨_, rfl⟩)).below hb; have g1 := (g1.hop (by first | exact .inl rfl | exact .inr ⟨_, rfl⟩)).below hb; have hs : Hid (Below U3.heap.size U3 w5) := Lib.hid ((keep5C hb (by assumption)).2.2.2.2); try (have kz : Blk U3 w5 29 (.slice none 0 0) (.bool false) _ := blk_kept hb (by first | assumption | (exact blk_new (by first | (exact hid_size (by assumption)) | (exact Nat.le_refl _)))))))
            | (go_at_call 11; first
                | ((with_reducible refine (radd_any _ _ (n1 * D2) (-z) _ BP1.out BZ.out (g3.hop (by first | exact .inl rfl | exact .inr ⟨_, rfl⟩)) (gX.hop (by first | exact .inl rfl | exact .inr ⟨_, rfl⟩))).mono ?_); rintro e U1 ⟨V4, rfl, g4, hb⟩; have hk : Hid (U1.cell? ⟨w.heap.size, 0, none⟩ = some (.int .i64 n1) ∧ U1.cell? ⟨w.heap.size + 1, 1, none⟩ = some (.int .i64 (D2 : Int)) ∧ U1.cell? ⟨k, 0, none⟩ = some (.slice A3 lx cp3) ∧ U1.cell? ⟨k, 1, none⟩ = some (.bool sx) ∧ Below U3.heap.size U3 U1) := Lib.hid (keep5C hb (by assumption)); obtain ⟨v4, rfl, r4⟩ := g4; obtain ⟨A4, cp4, rfl⟩ := r4.len; try (have kz : Blk U3 U1 29 (.slice none 0 0) (.bool false) _ := blk_kept hb (by first | assumption | (exact blk_new (by first | (exact hid_size (by assumption)) | (exact Nat.le_refl _))))); try (obtain ⟨⟨z1, z2⟩, z3, z4⟩ := kz.cells)))
            | (go_at_call 14; first
                | ((with_reducible refine (rmul_any _ _ n1 (D2 : Int) _ B1.out BD2.out (g1.hop (by first | exact .inl rfl | exact .inr ⟨_, rfl⟩)) (g2.hop (by first | exact .inl rfl | exact .inr ⟨_, rfl⟩))).mono ?_); rintro e w6 ⟨V3, rfl, g3, hb⟩; have gX := (gX.hop (by first | exact .inl rfl | exact .inr ⟨_, rfl⟩)).below hb; have hs : Hid (Below U3.heap.size U3 w6) := Lib.hid ((keep5C hb (by assumption)).2.2.2.2); try (have kz : Blk U3 w6 29 (.slice none 0 0) (.bool false) _ := blk_kept hb (by first | assumption | (exact blk_new (by first | (exact hid_size (by assumption)) | (exact Nat.le_refl _))))))))
        all_goals
          go_wp2_with fail
          go_meet
          first
            | (exact ⟨_, _, _, rfl, (kz.done hk.out.2.2.2.2 _ _).1, (kz.done hk.out.2.2.2.2 _ _).2⟩)
            | (exact ⟨_, _, _, rfl, hk.out.2.2.2.2.alloc hk.out.2.2.2.2.size _, heap_alloc_new _ _⟩)
      case rest =>
        obtain ⟨k2, A4, cp4, rfl, hb4, hk4⟩ := hcut
        have HB4 := Lib.hid (HB3.out.later hb4).1
        obtain ⟨d, hd⟩ : ∃ d, d = n1 * (D2 : Int) + -z := ⟨_, rfl⟩
        rw [← hd] at hk4 HC
        have hl0 := ofN_len0 d.natAbs
        obtain ⟨ld, hld⟩ : ∃ n, n = (ExactM.ofN d.natAbs).length := ⟨_, rfl⟩
        rw [← hld] at hk4 hl0
        obtain ⟨u0, u1⟩ := cell_pair hk4
        clear hk4 hb4 hd hld HB3 c0 c1 c2 c3 y0 y1 gX BZ
        obtain ⟨e0, e1, e2⟩ := HC.out
        rcases Int.lt_trichotomy d 0 with h | h | h
        · have hc := e1 h
          have s1 : decide (d < 0) = true := decide_eq_true h
          have z1 : ((ld : Int) == 0) = false := by
            have : 0 < d.natAbs := by omega
            rw [decide_eq_true this] at hl0
            simp at hl0
            simp; omega
          rw [s1] at u1
          subst hc
          clear HC e0 e1 e2 s1 h hl0
          go_wp2_with fail
          go_ret
          exact ⟨rfl, HB4.out⟩
        · have hc := e0 h
          have z1 : ((ld : Int) == 0) = true := by
            have : ¬ 0 < d.natAbs := by omega
            rw [decide_eq_false this] at hl0
            simp at hl0
            simp; omega
          subst hc
          clear HC e0 e1 e2 h hl0 u1
          go_wp2_with fail
          go_ret
          exact ⟨rfl, HB4.out⟩
        · have hc := e2 h
          have s1 : decide (d < 0) = false := decide_eq_false (by omega)
          have z1 : ((ld : Int) == 0) = false := by
            have : 0 < d.natAbs := by omega
            rw [decide_eq_true this] at hl0
            simp at hl0
            simp; omega
          rw [s1] at u1
          subst hc
          clear HC e0 e1 e2 s1 h hl0
          go_wp2_with fail
          go_ret
          exact ⟨rfl, HB4.out⟩
theorem rcmp_any (p q : Int × Int) (w : World) (hp : R64 p) (hq : R64 q) :
    Calls Try.prog 25 #[rv p, rv q] w fun e w' => e = .returned (.int .i64 (cmpV p q)) ∧ Below w.heap.size w w' := by
  unfold cmpV
  cases h : (rtB p && rtB q) with
  | true =>
    rw [Bool.and_eq_true] at h
    obtain ⟨n1, d1⟩ := p
    obtain ⟨n2, d2⟩ := q
    have hd1 : 0 < d1 := ((rtB_iff (n1, d1)).1 h.1).1
    have hd2 : 0 < d2 := ((rtB_iff (n2, d2)).1 h.2).1
    obtain ⟨D1, hDd⟩ : ∃ D : Nat, d1 = (D : Int) := ⟨d1.toNat, by omega⟩
    subst hDd
    obtain ⟨D2, hDd⟩ : ∃ D : Nat, d2 = (D : Int) := ⟨d2.toNat, by omega⟩
    subst hDd
    exact rcmp_yes n1 n2 D1 D2 w hp.1 hq.1 hp.2 hq.2 h.1 h.2 _ rfl
  | false => exact rcmp_not p q w hp hq h
end Go.Proofs.Ythkcpaanegjodaa
