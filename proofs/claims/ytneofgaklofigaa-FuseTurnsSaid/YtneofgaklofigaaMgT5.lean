/- FuseTurns: called with any two slices of documents with scores and any four numbers it returns true, and the arguments read behind the call as they read before. No condition. -/
import Derived.Deep.RegionHeld3
import Derived.Test.YtneofgaklofigaaMgT4

/- FuseTurns, walked: the calls and what is the same. -/
namespace Go.Proofs.Ytneofgaklofigaa.Fu
open Go.RowKit Go.Proofs.Ytneofgaklofigaa FuM

set_option maxHeartbeats 4000000 in
set_option maxRecDepth 100000 in
/-- without the guard -/
theorem turns_out (A1 A2 : Option Addr) (n1 n2 cp1 cp2 : Nat) (a b c k : Int) (w : World) (hno : ¬ ((n1 ≤ 60 ∧ n2 ≤ 60) ∧ 1 ≤ k ∧ k ≤ 999)) :
    Calls Try.prog 3 #[.slice A1 n1 cp1, .slice A2 n2 cp2, .int .i64 a, .int .i64 b, .int .i64 c, .int .i64 k] w fun e w' => e = .returned (.bool true) ∧ Below w.heap.size w w' := by
  have HA := Lib.hid (awake8_any w)
  by_cases h1 : n1 ≤ 60
  · have d1 : decide ((60 : Int) < (n1 : Int)) = false := decide_eq_false (by omega)
    by_cases h2 : n2 ≤ 60
    · have d2 : decide ((60 : Int) < (n2 : Int)) = false := decide_eq_false (by omega)
      by_cases h3 : 1 ≤ k
      · have d3 : decide (k < 1) = false := decide_eq_false (by omega)
        have d4 : decide (999 < k) = true := decide_eq_true (by omega)
        clear hno h1 h2 h3
        go_enter Try.func3, Try.ntmps3
        go_wp2_with fail
        refine HA.out.mono ?_
        rintro e w1 ⟨rfl, hb⟩
        go_wp2
        go_ret
        exact ⟨rfl, hb⟩
      · have d3 : decide (k < 1) = true := decide_eq_true (by omega)
        clear hno h1 h2 h3
        go_enter Try.func3, Try.ntmps3
        go_wp2_with fail
        refine HA.out.mono ?_
        rintro e w1 ⟨rfl, hb⟩
        go_wp2
        go_ret
        exact ⟨rfl, hb⟩
    · have d2 : decide ((60 : Int) < (n2 : Int)) = true := decide_eq_true (by omega)
      clear hno h1 h2
      go_enter Try.func3, Try.ntmps3
      go_wp2_with fail
      refine HA.out.mono ?_
      rintro e w1 ⟨rfl, hb⟩
      go_wp2
      go_ret
      exact ⟨rfl, hb⟩
  · have d1 : decide ((60 : Int) < (n1 : Int)) = true := decide_eq_true (by omega)
    clear hno h1
    go_enter Try.func3, Try.ntmps3
    go_wp2_with fail
    refine HA.out.mono ?_
    rintro e w1 ⟨rfl, hb⟩
    go_wp2
    go_ret
    exact ⟨rfl, hb⟩
/-- the same map gives the same rows -/
theorem fused_same {w1 w2 : World} {v1 v2 : Value} {l1 l2 : List FV} {cd : Int} {M1 M2 : VM} {k : Int} (h1 : Fused w1 v1 l1 cd M1 k) (h2 : Fused w2 v2 l2 cd M2 k) (e : ∀ d, M1 d = M2 d) : l2 = l1 := by
  by_cases h0 : cd = 0
  · obtain ⟨o1, ho1, rfl⟩ := h1.2.1 h0
    obtain ⟨o2, ho2, rfl⟩ := h2.2.1 h0
    exact (ho1.best ho2 e _).symm
  · rw [h1.2.2 h0, h2.2.2 h0]
theorem fused_more {w1 w2 : World} {v1 v2 : Value} {l1 l2 : List FV} {cd : Int} {M : VM} {k : Int} (hk : 0 ≤ k) (h1 : Fused w1 v1 l1 cd M k) (h2 : Fused w2 v2 l2 cd M (k + 1)) : l1 = l2.take l1.length ∧ l1.length ≤ l2.length := by
  by_cases h0 : cd = 0
  · obtain ⟨o1, ho1, rfl⟩ := h1.2.1 h0
    obtain ⟨o2, ho2, rfl⟩ := h2.2.1 h0
    rw [ho1.best ho2 (fun _ => rfl), show (k + 1).toNat = k.toNat + 1 by omega]
    exact best_next _ _
  · rw [h1.2.2 h0, h2.2.2 h0]
    exact ⟨rfl, Nat.le_refl _⟩
/-- no more than there are documents -/
theorem fused_len {w1 : World} {v1 : Value} {l1 : List FV} {cd : Int} {f g : Nat → Int → Int × Int} {x y : List (Int × Int)} {k : Int} (h1 : Fused w1 v1 l1 cd (both f g x y) k) (hok : cd = 0 → OkM (both f g x y)) : l1.length ≤ x.length + y.length := by
  by_cases h0 : cd = 0
  · obtain ⟨o1, ho1, rfl⟩ := h1.2.1 h0
    have := off_len ho1 (hok h0)
    rw [FuM.best_len]
    omega
  · rw [h1.2.2 h0]
    exact Nat.zero_le _
theorem rkC_zero {x y : List (Int × Int)} {c k : Int} (h : rkC x y c k = 0) : listB x = true ∧ listB y = true ∧ (1 ≤ c ∧ c ≤ 1000000) ∧ 1 ≤ k ∧ k ≤ 1000 := by
  unfold rkC at h
  split at h
  · cases h
  · split at h
    · cases h
    · rename_i h1 h2
      simp only [Bool.not_eq_false, Bool.and_eq_true, decide_eq_true_eq] at h1 h2
      exact ⟨h1.1, h1.2, h2.1, h2.2⟩
theorem wtC_zero {x y : List (Int × Int)} {a b k : Int} (h : wtC x y a b k = 0) : listB x = true ∧ listB y = true ∧ (0 ≤ a ∧ a ≤ 1000000) ∧ 0 ≤ b ∧ b ≤ 1000000 := by
  unfold wtC at h
  split at h
  · cases h
  · split at h
    · cases h
    · rename_i h1 h2
      simp only [Bool.not_eq_false, Bool.and_eq_true, decide_eq_true_eq] at h1 h2
      exact ⟨h1.1, h1.2, h2.1.1.1, h2.1.1.2⟩
theorem rk_okm {x y : List (Int × Int)} {c k : Int} (h : rkC x y c k = 0) : OkM (both (rkF c) (rkF c) x y) := by
  obtain ⟨h1, h2, hc, _⟩ := rkC_zero h
  have g1 := far_of h1
  have g2 := far_of h2
  exact fun d p hp => both_ok (good_rk c hc x y g1.2.1 g2.2.1) d p hp
theorem wt_okm {x y : List (Int × Int)} {a b k : Int} (h : wtC x y a b k = 0) : OkM (both (wtF a) (wtF b) x y) := by
  obtain ⟨h1, h2, ha, hb⟩ := wtC_zero h
  have g1 := far_of h1
  have g2 := far_of h2
  exact fun d p hp => both_ok (good_wt a b ha hb x y g1.1 g2.1) d p hp
end Go.Proofs.Ytneofgaklofigaa.Fu

/- FuseTurns, walked: within the guard. -/
namespace Go.Proofs.Ytneofgaklofigaa.Fu
open Go.RowKit Go.Proofs.Ytneofgaklofigaa FuM

theorem below_dn {B : Nat} {U W : World} (h : Below B U W) (hB : B ≤ W.heap.size) (q : Nat) : Below B U (W.drewN q) := h.trans ((drewN_below _ _).mono hB)
set_option maxHeartbeats 16000000 in
set_option maxRecDepth 100000 in
theorem turns_main (A1 A2 : Option Addr) (n1 n2 cp1 cp2 : Nat) (x y : List (Int × Int)) (a b c k : Int) (w : World) (hx : Pairs w A1 n1 x) (hy : Pairs w A2 n2 y) (ix : I2 x) (iy : I2 y) (hn1 : n1 ≤ 60) (hn2 : n2 ≤ 60) (hk : 1 ≤ k ∧ k ≤ 999) :
    Calls Try.prog 3 #[.slice A1 n1 cp1, .slice A2 n2 cp2, .int .i64 a, .int .i64 b, .int .i64 c, .int .i64 k] w fun e w' => e = .returned (.bool true) ∧ Below w.heap.size w w' := by
  have HA := Lib.hid (awake8_any w)
  have HX := Lib.hid hx
  have HY := Lib.hid hy
  have R1 := fun W (hW : Below w.heap.size w W) => ranks_any A1 A2 n1 n2 cp1 cp2 x y c k W (hx.later hW) (hy.later hW) ix iy (by omega) (by omega)
  have R2 := fun W (hW : Below w.heap.size w W) => ranks_any A2 A1 n2 n1 cp2 cp1 y x c k W (hy.later hW) (hx.later hW) iy ix (by omega) (by omega)
  have R3 := fun W (hW : Below w.heap.size w W) => ranks_any A1 A2 n1 n2 cp1 cp2 x y c (k + 1) W (hx.later hW) (hy.later hW) ix iy (by omega) (by omega)
  have R4 := fun W (hW : Below w.heap.size w W) => weights_any A1 A2 n1 n2 cp1 cp2 x y a b k W (hx.later hW) (hy.later hW) ix iy (by omega) (by omega)
  have R5 := fun W (hW : Below w.heap.size w W) => weights_any A2 A1 n2 n1 cp2 cp1 y x b a k W (hy.later hW) (hx.later hW) iy ix (by omega) (by omega)
  have R6 := fun W (hW : Below w.heap.size w W) => ranks_any A1 none n1 0 cp1 0 x [] c k W (hx.later hW) ⟨rfl, fun k hk => by simp at hk⟩ ix (fun x hx => by simp at hx) (by omega) (by omega)
  rw [← rkC_turn x y c k] at R2
  rw [← rkC_next x y c k hk] at R3
  rw [← wtC_turn x y a b k] at R5
  have hl1 := hx.1
  have hl2 := hy.1
  have LEN1 := Lib.hid (fun (w1 : World) (v1 : Value) (l1 : List FV) (h : Fused w1 v1 l1 (rkC x y c k) (both (rkF c) (rkF c) x y) k) => fused_len h rk_okm)
  have LEN4 := Lib.hid (fun (w1 : World) (v1 : Value) (l1 : List FV) (h : Fused w1 v1 l1 (wtC x y a b k) (both (wtF a) (wtF b) x y) k) => fused_len h wt_okm)
  obtain ⟨cd, hcd⟩ : ∃ cd, cd = rkC x y c k := ⟨_, rfl⟩
  obtain ⟨cw, hcw⟩ : ∃ cw, cw = wtC x y a b k := ⟨_, rfl⟩
  obtain ⟨cn, hcn⟩ : ∃ cn, cn = rkC x [] c k := ⟨_, rfl⟩
  rw [← hcd] at R1 R2 R3 LEN1
  rw [← hcw] at R4 R5 LEN4
  rw [← hcn] at R6
  obtain ⟨k1, hk1⟩ : ∃ k1, k1 = k + 1 := ⟨_, rfl⟩
  have hwk : IntKind.i64.wrap (k + 1) = k1 := by rw [hk1, IntKind.wrap_i64]; omega
  rw [← hk1] at R3
  have HK1 := Lib.hid hk1
  have HR1 := Lib.hid R1
  have HR2 := Lib.hid R2
  have HR3 := Lib.hid R3
  have HR4 := Lib.hid R4
  have HR5 := Lib.hid R5
  have HR6 := Lib.hid R6
  have HCN := Lib.hid hcn
  have HL := Lib.hid (And.intro hl1 hl2)
  have d1 : decide ((60 : Int) < (n1 : Int)) = false := decide_eq_false (by omega)
  have d2 : decide ((60 : Int) < (n2 : Int)) = false := decide_eq_false (by omega)
  have d3 : decide (k < 1) = false := decide_eq_false (by omega)
  have d4 : decide (999 < k) = false := decide_eq_false (by omega)
  have z1 : (cd != cd) = false := by simp
  have z2 : (cw != cw) = false := by simp
  clear hx hy R1 R2 R3 R4 R5 R6 hcd hcw hcn hk1 hl1 hl2 ix iy
  go_enter Try.func3, Try.ntmps3
  go_wp2_with fail
  refine HA.out.mono ?_
  rintro e w0 ⟨rfl, b0⟩
  have B0 := Lib.hid b0
  clear b0
  go_wp2_with fail
  refine (HR1.out _ B0.out).mono ?_
  rintro e w1 ⟨v1, l1, rfl, f1, b1⟩
  have B1 := Lib.hid (B0.out.trans (b1.mono B0.out.size))
  have F1 := Lib.hid f1
  have V11 := Lib.hid f1.1
  clear f1 b1
  go_wp2_with fail
  refine (HR2.out _ B1.out).mono ?_
  rintro e w2 ⟨v2, l2, rfl, f2, b2⟩
  have B2 := Lib.hid (B1.out.trans (b2.mono B1.out.size))
  have V12 := Lib.hid (V11.out.later b2)
  have hv2 := f2.1
  rw [fused_same F1.out f2 (both_turn _ _ _ _)] at hv2
  have V22 := Lib.hid hv2
  clear f2 b2 hv2
  go_wp2_with fail
  refine (HR3.out _ B2.out).mono ?_
  rintro e w3 ⟨v3, l3, rfl, f3, b3⟩
  have B3 := Lib.hid (B2.out.trans (b3.mono B2.out.size))
  have V13 := Lib.hid (V12.out.later b3)
  have V23 := Lib.hid (V22.out.later b3)
  have V33 := Lib.hid f3.1
  rw [HK1.out] at f3
  have hmore := fused_more (by omega) F1.out f3
  have MORE := Lib.hid hmore
  clear f3 b3 hmore
  go_wp2_with fail
  refine (HR4.out _ B3.out).mono ?_
  rintro e w4 ⟨v4, l4, rfl, f4, b4⟩
  have B4 := Lib.hid (B3.out.trans (b4.mono B3.out.size))
  have V14 := Lib.hid (V13.out.later b4)
  have V24 := Lib.hid (V23.out.later b4)
  have V34 := Lib.hid (V33.out.later b4)
  have F4 := Lib.hid f4
  have V44 := Lib.hid f4.1
  clear f4 b4
  go_wp2_with fail
  refine (HR5.out _ B4.out).mono ?_
  rintro e U ⟨v5, l5, rfl, f5, b5⟩
  have B5 := Lib.hid (B4.out.trans (b5.mono B4.out.size))
  have V15 := Lib.hid (V14.out.later b5)
  have V25 := Lib.hid (V24.out.later b5)
  have V35 := Lib.hid (V34.out.later b5)
  have V45 := Lib.hid (V44.out.later b5)
  have hv5 := f5.1
  rw [fused_same F4.out f5 (both_turn _ _ _ _)] at hv5
  have V55 := Lib.hid hv5
  have hb1 := LEN1.out _ _ _ F1.out
  have hb4 := LEN4.out _ _ _ F4.out
  have hl1 : l1.length ≤ 1000000 := by have := HL.out; omega
  have hl4 : l4.length ≤ 1000000 := by have := HL.out; omega
  clear f5 b5 hv5 hb1 hb4 LEN1 LEN4 V11 V12 V13 V14 V22 V23 V24 V33 V34 V44 B0 B1 B2 B3 B4 HR1 HR2 HR3 HR4 HR5 F1 F4 HA
  obtain ⟨P1, c1, e1, hc1, ha1, hP1⟩ := V15.out
  obtain ⟨P3, c3, e3, hc3, ha3, hP3⟩ := V35.out
  obtain ⟨m1, hm1⟩ : ∃ m1, m1 = l1.length := ⟨_, rfl⟩
  obtain ⟨m3, hm3⟩ : ∃ m3, m3 = l3.length := ⟨_, rfl⟩
  have VT : Hid (Vrd U (.slice P3 m1 c3) l1) := Lib.hid (by
    obtain ⟨t1, t2⟩ := MORE.out
    rw [hm1]
    refine ⟨P3, c3, rfl, by omega, ha3, ?_⟩
    have := hP3.take l1.length t2
    rw [← t1] at this
    exact this)
  have hlt : decide ((m3 : Int) < (m1 : Int)) = false := decide_eq_false (by have := MORE.out.2; omega)
  have hlt2 : decide (m3 < m1) = false := decide_eq_false (by have := MORE.out.2; omega)
  have hcut : m1 ≤ c3 := by have := MORE.out.2; omega
  rw [← hm1] at e1 hl1
  rw [← hm3] at e3 hc3
  have HM1 := Lib.hid hm1
  subst e1
  subst e3
  have O1 := Lib.hid (fun W (hW : Below U.heap.size U W) => (of8_any _ l1 W (V15.out.later hW) (by rw [← HM1.out]; exact hl1)).mono (R' := fun e w' => ∃ v', e = .returned v' ∧ Vrd w' v' l1 ∧ Below W.heap.size W w' ∧ Below U.heap.size U w') (fun e w' ⟨v', h1, h2, h3⟩ => ⟨v', h1, h2, h3, hW.trans (h3.mono hW.size)⟩))
  have O2 := Lib.hid (fun W (hW : Below U.heap.size U W) => (of8_any v2 l1 W (V25.out.later hW) (by rw [← HM1.out]; exact hl1)).mono (R' := fun e w' => ∃ v', e = .returned v' ∧ Vrd w' v' l1 ∧ Below W.heap.size W w' ∧ Below U.heap.size U w') (fun e w' ⟨v', h1, h2, h3⟩ => ⟨v', h1, h2, h3, hW.trans (h3.mono hW.size)⟩))
  have O3 := Lib.hid (fun W (hW : Below U.heap.size U W) => (of8_any _ l1 W (VT.out.later hW) (by rw [← HM1.out]; exact hl1)).mono (R' := fun e w' => ∃ v', e = .returned v' ∧ Vrd w' v' l1 ∧ Below W.heap.size W w' ∧ Below U.heap.size U w') (fun e w' ⟨v', h1, h2, h3⟩ => ⟨v', h1, h2, h3, hW.trans (h3.mono hW.size)⟩))
  have O4 := Lib.hid (fun W (hW : Below U.heap.size U W) => (of8_any v4 l4 W (V45.out.later hW) hl4).mono (R' := fun e w' => ∃ v', e = .returned v' ∧ Vrd w' v' l4 ∧ Below W.heap.size W w' ∧ Below U.heap.size U w') (fun e w' ⟨v', h1, h2, h3⟩ => ⟨v', h1, h2, h3, hW.trans (h3.mono hW.size)⟩))
  have O5 := Lib.hid (fun W (hW : Below U.heap.size U W) => (of8_any v5 l4 W (V55.out.later hW) hl4).mono (R' := fun e w' => ∃ v', e = .returned v' ∧ Vrd w' v' l4 ∧ Below W.heap.size W w' ∧ Below U.heap.size U w') (fun e w' ⟨v', h1, h2, h3⟩ => ⟨v', h1, h2, h3, hW.trans (h3.mono hW.size)⟩))
  have L1 := Lib.hid (show l1.length ≤ 1000000 by rw [← HM1.out]; exact hl1)
  have L4 := Lib.hid hl4
  clear hP1 hP3 ha1 ha3 hm1 hm3 V15 V25 V35 V45 V55 VT MORE hl4
  go_wp2_with fail
  go_region_held3 (fun w' => Below U.heap.size U w')
    ((first | exact hbz | exact (Below.refl U.heap.size U).drew | go_keep))
    (first
      | (go_at_call 9; first | ((with_reducible refine (O1.out _ (by first | assumption | exact (Below.refl _ _).drew)).mono ?_); rintro e wa ⟨va, rfl, hva, hba, hbz⟩) | ((with_reducible refine (O2.out _ (by first | assumption | exact (Below.refl _ _).drew)).mono ?_); rintro e wb ⟨vb, rfl, hvb, hbb, hbz⟩) | ((with_reducible refine (O3.out _ (by first | assumption | exact (Below.refl _ _).drew)).mono ?_); rintro e wb ⟨vb, rfl, hvb, hbb, hbz⟩) | ((with_reducible refine (O4.out _ (by first | assumption | exact (Below.refl _ _).drew)).mono ?_); rintro e wa ⟨va, rfl, hva, hba, hbz⟩) | ((with_reducible refine (O5.out _ (by first | assumption | exact (Below.refl _ _).drew)).mono ?_); rintro e wb ⟨vb, rfl, hvb, hbb, hbz⟩))
      | (go_at_call 8; ((with_reducible refine (same8_any _ _ _ _ (hva.later hbb) hvb (by first | exact L1.out | exact L4.out)).mono ?_); rintro e wc ⟨rfl, q, rfl⟩; have hbz := below_dn hbz hbz.size q)))
  have hZ : Below w.heap.size w (wb.drewN q) := B5.out.trans (hbz.mono B5.out.size)
  generalize wb.drewN q = Z at hZ ⊢
  have HZ := Lib.hid hZ
  clear hZ hbz hba hbb hva hvb O1 O2 O3 O4 O5 L1 L4 HM1 hlt hlt2 hcut hl1
  go_wp2_with fail
  refine (HR6.out _ HZ.out).mono ?_
  rintro e w7 ⟨v6, l6, rfl, f6, b6⟩
  have B7 := Lib.hid (HZ.out.trans (b6.mono HZ.out.size))
  have F6 := Lib.hid f6
  clear f6 b6 HR6 HZ
  obtain ⟨P6, c6, rfl, hc6, hP0, hP6⟩ := F6.out.1
  by_cases h0 : cn = 0
  · obtain ⟨off6, ho6, hl6⟩ := F6.out.2.1 h0
    have hz := rkC_zero (HCN.out.symm.trans h0)
    obtain ⟨_, g2, g3⟩ := far_of hz.1
    obtain ⟨R, hRl, hR, hRs⟩ := alone_off c hz.2.2.1 x g2 g3 off6 ho6
    have hl6' : l6 = R.take k.toNat := by
      rw [hl6]
      unfold FuM.best
      rw [hRs]
    have hlen : l6.length = min k.toNat n1 := by rw [hl6', List.length_take, hRl, HL.out.1]
    have hel : ∀ p (h : p < l6.length) (h2 : p < x.length), l6[p].1 = (x[p].1, 1, c + ((p + 1 : Nat) : Int)) := fun p h h2 => by
      have hp2 : p < R.length := by omega
      have e : l6[p] = R[p] := by
        subst hl6'
        rw [List.getElem_take]
      rw [e]
      exact hR p h2 hp2
    have HEL := Lib.hid hel
    have hcb := hz.2.2.1
    clear hel hl6 hl6' hRs hR hRl ho6 g2 g3 hz F6 HCN
    subst h0
    obtain ⟨m6, hm6⟩ : ∃ m6, m6 = l6.length := ⟨_, rfl⟩
    rw [← hm6] at hlen hc6 ⊢
    have HM6 := Lib.hid hm6
    have HP6 := Lib.hid hP6
    clear hm6 hP6 hP0
    go_wp2
    go_loopw [25] (fun z wr => ∃ p : Nat, z = .int .i64 p ∧ p ≤ m6 ∧ ∃ q, wr = w7.drewN q) (fun z _ => m6 - (intOf z).toNat)
    case atStart => exact ⟨0, by go_num, Nat.zero_le _, 0, rfl⟩
    case round =>
      obtain ⟨p, rfl, hp, q, rfl⟩ := hrel
      by_cases hlt : p < m6
      · have hd1 : decide ((p : Int) < (m6 : Int)) = true := decide_eq_true (by omega)
        have hd2 : decide (p < m6) = true := decide_eq_true hlt
        have hp1 : p < l6.length := by rw [← HM6.out]; exact hlt
        have hp2 : p < x.length := by rw [HL.out.1]; omega
        obtain ⟨b1, o1, rfl, _, y0, y1, y2⟩ := HP6.out.2 p hp1
        obtain ⟨b2, o2, rfl, _, x0, _⟩ := (HX.out.later B7.out).2 p hp2
        rw [HEL.out p hp1 hp2] at y0 y1 y2
        simp only at y0 y1 y2
        obtain ⟨d, hd⟩ : ∃ d, d = x[p].1 := ⟨_, rfl⟩
        rw [← hd] at x0 y0
        obtain ⟨s1, hs1⟩ : ∃ s1, s1 = c + (p : Int) := ⟨_, rfl⟩
        obtain ⟨s2, hs2⟩ : ∃ s2, s2 = c + ((p + 1 : Nat) : Int) := ⟨_, rfl⟩
        rw [← hs2] at y2
        have hw1 : IntKind.i64.wrap (c + (p : Int)) = s1 := by rw [hs1, IntKind.wrap_i64]; omega
        have hw2 : IntKind.i64.wrap (s1 + 1) = s2 := by rw [hs1, hs2, IntKind.wrap_i64]; omega
        have hi0 : (0 : Int) ≤ (p : Int) := by omega
        have hin : (p : Int) < (m6 : Int) := by omega
        have hin2 : (p : Int) < (n1 : Int) := by omega
        have hq1 : (d != d) = false := by simp
        have hq2 : (s2 != s2) = false := by simp
        clear hd hs1 hs2
        go_wp2
        go_quiet (fail)
        go_wp2
        exact ⟨⟨p + 1, by go_num, by omega, _, rfl⟩, by simp [intOf]; omega⟩
      · have hd1 : decide ((p : Int) < (m6 : Int)) = false := decide_eq_false (by omega)
        have hd2 : decide (p < m6) = false := decide_eq_false hlt
        go_wp2
        go_ret
        exact ⟨by rw [show ((min k.toNat n1 : Nat) : Int) = min k (n1 : Int) by omega]; simp, below_dn B7.out B7.out.size q⟩
  · have hl6 := F6.out.2.2 h0
    subst hl6
    have hq : (cn != (0 : Int)) = true := by simpa using h0
    clear h0 F6 hP6
    go_wp2
    go_ret
    exact ⟨rfl, B7.out⟩
end Go.Proofs.Ytneofgaklofigaa.Fu

namespace Go.Proofs.Ytneofgaklofigaa.Fu
open Go.ChangeShapes Go.WideShapes Go.ChangeAt Go.RowKit Go.Proofs.Ytneofgaklofigaa

set_option maxRecDepth 100000 in
theorem fuseturns_lifted (os : Os) (started : os.Started) (H : Type) (enc : TypeId × Value → H) :
    ReturnsInHanded {} Try.checked os 3 .any (Rows.fuseTurnsSpec.pre6 enc Try.prog Try.f3 Rows.fuseTurnsRow.domain false) (Rows.fuseTurnsSpec.post enc Try.prog Try.f3 false true false false) := by
  refine returnsInHanded_of_change (C := Try.checked) knob started (by kernel_rfl) Try.func3
    (ChangeSpec.witness6 (enc := enc) (C := Try.checked) false ⟨#[], #[.slice none 0 0, .slice none 0 0, .int .i64 0, .int .i64 0, .int .i64 0, .int .i64 0], []⟩ 8 (by kernel_rfl) (by kernel_rfl) (by kernel_rfl) (by kernel_rfl)) ?_
  intro W base args ds gs before hval0 hW hcnd _
  have hval : ∀ (j : Nat) t v, Try.f3.params[j]? = some t → args[j]? = some v → Value.okWide Try.prog W .any base t v := hval0
  have hW' := hW
  obtain ⟨p, q, hA0, hV, rfl, hfz, hnd⟩ := hW
  have hA : DataW.TrodAll enc Try.prog W 0 (fun _ => true) true Try.f3.params.toList args.toList ds p := hA0
  rw [Try.params3] at hA hval
  obtain ⟨v0, vs0, d0, ds0, p0, q0, hargs, rfl, rfl, h0, r0⟩ := trodAll_cons hA
  obtain ⟨v1, vs1, d1, ds1, p1, q1, rfl, rfl, rfl, h1, r1⟩ := trodAll_cons r0
  obtain ⟨v2, vs2, d2, ds2, p2, q2, rfl, rfl, rfl, h2, r2⟩ := trodAll_cons r1
  obtain ⟨v3, vs3, d3, ds3, p3, q3, rfl, rfl, rfl, h3, r3⟩ := trodAll_cons r2
  obtain ⟨v4, vs4, d4, ds4, p4, q4, rfl, rfl, rfl, h4, r4⟩ := trodAll_cons r3
  obtain ⟨v5, vs5, d5, ds5, p5, q5, rfl, rfl, rfl, h5, r5⟩ := trodAll_cons r4
  obtain ⟨rfl, rfl, rfl⟩ := trodAll_nil r5
  obtain rfl : args = #[v0, v1, v2, v3, v4, v5] := by cases args; simp_all
  obtain ⟨rfl, rfl⟩ := trodVars_none hV
  obtain ⟨A1, n1, cp1, x, rfl, hx, ix⟩ := scoreds_of_trod (hval 0 22 v0 rfl rfl) (fun z hz => hW'.lt z (by simp [hz])) h0
  obtain ⟨A2, n2, cp2, y, rfl, hy, iy⟩ := scoreds_of_trod (hval 1 22 v1 rfl rfl) (fun z hz => hW'.lt z (by simp [hz])) h1
  obtain ⟨a, rfl, rfl, rfl, _⟩ := open_int Try.underlying3 (hval 2 3 v2 rfl rfl) h2
  obtain ⟨b, rfl, rfl, rfl, _⟩ := open_int Try.underlying3 (hval 3 3 v3 rfl rfl) h3
  obtain ⟨c, rfl, rfl, rfl, _⟩ := open_int Try.underlying3 (hval 4 3 v4 rfl rfl) h4
  obtain ⟨k, rfl, rfl, rfl, _⟩ := open_int Try.underlying3 (hval 5 3 v5 rfl rfl) h5
  have walk : Calls Try.prog 3 #[.slice A1 n1 cp1, .slice A2 n2 cp2, .int .i64 a, .int .i64 b, .int .i64 c, .int .i64 k] W fun e w' => e = .returned (.bool true) ∧ Below W.heap.size W w' := by
    by_cases hc : (n1 ≤ 60 ∧ n2 ≤ 60) ∧ 1 ≤ k ∧ k ≤ 999
    · exact turns_main A1 A2 n1 n2 cp1 cp2 x y a b c k W hx hy ix iy hc.1.1 hc.1.2 hc.2
    · exact turns_out A1 A2 n1 n2 cp1 cp2 a b c k W hc
  refine walk.mono fun e W' ⟨he, hg⟩ => ?_
  subst he
  exact ⟨_, rfl, law_post (s := Rows.fuseTurnsSpec) hW' rfl rfl rfl rfl (by kernel_rfl) (by kernel_rfl) hg⟩
end Go.Proofs.Ytneofgaklofigaa.Fu
namespace Go.Proofs.Ytneofgaklofigaa
open Go.ChangeShapes Go.WideShapes Go.ChangeAt Go.RowKit
theorem fuseturns_holds : Rows.FuseTurnsSaid :=
  OpenClaim.holds_of_wide 3 Try.f3 rfl rfl rfl rfl rfl rfl rfl ⟨rfl, rfl, rfl, rfl, rfl⟩ rfl rfl rfl rfl rfl (by kernel_rfl) Try.func3 (by kernel_rfl)
    (of_decide_eq_true (by kernel_rfl)) (by unfold Func.isWrapper; first | (rw [if_pos (by decide +kernel)]; kernel_rfl) | (rw [if_neg (by decide +kernel)]; exact ⟨rfl, rfl⟩))
    (fun os started H enc _ => Fu.fuseturns_lifted os started H enc)
end Go.Proofs.Ytneofgaklofigaa
