/- ExactOrder: the walk. -/
import Derived.Test.YtkpkgjdjfaallaaExactQ
namespace Go.Proofs.Ytkpkgjdjfaallaa
open Go.RowKit

theorem keep7 {V X w1 : World} {p1 p2 p3 p4 p5 p6 : Addr} {v1 v2 v3 v4 v5 v6 : Value} (hb : Below X.heap.size X w1) (h : X.cell? p1 = some v1 ∧ X.cell? p2 = some v2 ∧ X.cell? p3 = some v3 ∧ X.cell? p4 = some v4 ∧ X.cell? p5 = some v5 ∧ X.cell? p6 = some v6 ∧ Below V.heap.size V X) :
    w1.cell? p1 = some v1 ∧ w1.cell? p2 = some v2 ∧ w1.cell? p3 = some v3 ∧ w1.cell? p4 = some v4 ∧ w1.cell? p5 = some v5 ∧ w1.cell? p6 = some v6 ∧ Below V.heap.size V w1 :=
  ⟨cell_kept hb h.1, cell_kept hb h.2.1, cell_kept hb h.2.2.1, cell_kept hb h.2.2.2.1, cell_kept hb h.2.2.2.2.1, cell_kept hb h.2.2.2.2.2.1, h.2.2.2.2.2.2.trans (hb.mono h.2.2.2.2.2.2.size)⟩
theorem keep7D {V : World} {p1 p2 p3 p4 p5 p6 : Addr} {v1 v2 v3 v4 v5 v6 : Value} (h1 : V.cell? p1 = some v1) (h2 : V.cell? p2 = some v2) (h3 : V.cell? p3 = some v3) (h4 : V.cell? p4 = some v4) (h5 : V.cell? p5 = some v5) (h6 : V.cell? p6 = some v6) :
    V.drew.cell? p1 = some v1 ∧ V.drew.cell? p2 = some v2 ∧ V.drew.cell? p3 = some v3 ∧ V.drew.cell? p4 = some v4 ∧ V.drew.cell? p5 = some v5 ∧ V.drew.cell? p6 = some v6 ∧ Below V.heap.size V V.drew := ⟨h1, h2, h3, h4, h5, h6, (Below.refl _ _).drew⟩

/-- what ExactOrder's calls answer, of right rationals -/
structure OrdIn (n1 d1 n2 d2 n3 d3 ab bc ac ba xn xd yn yd xc yc xy : Int) (rx : Bool) : Prop where
  R1 : ∀ w, Calls Try.prog 20 #[.agg #[.int .i64 n1, .int .i64 d1]] w fun e w' => e = .returned (.bool true) ∧ Below w.heap.size w w'
  R2 : ∀ w, Calls Try.prog 20 #[.agg #[.int .i64 n2, .int .i64 d2]] w fun e w' => e = .returned (.bool true) ∧ Below w.heap.size w w'
  R3 : ∀ w, Calls Try.prog 20 #[.agg #[.int .i64 n3, .int .i64 d3]] w fun e w' => e = .returned (.bool true) ∧ Below w.heap.size w w'
  AB : ∀ w, Calls Try.prog 22 #[.agg #[.int .i64 n1, .int .i64 d1], .agg #[.int .i64 n2, .int .i64 d2]] w fun e w' => e = .returned (.int .i64 ab) ∧ Below w.heap.size w w'
  BC : ∀ w, Calls Try.prog 22 #[.agg #[.int .i64 n2, .int .i64 d2], .agg #[.int .i64 n3, .int .i64 d3]] w fun e w' => e = .returned (.int .i64 bc) ∧ Below w.heap.size w w'
  AC : ∀ w, Calls Try.prog 22 #[.agg #[.int .i64 n1, .int .i64 d1], .agg #[.int .i64 n3, .int .i64 d3]] w fun e w' => e = .returned (.int .i64 ac) ∧ Below w.heap.size w w'
  BA : ∀ w, Calls Try.prog 22 #[.agg #[.int .i64 n2, .int .i64 d2], .agg #[.int .i64 n1, .int .i64 d1]] w fun e w' => e = .returned (.int .i64 ba) ∧ Below w.heap.size w w'
  SX : ∀ w, Calls Try.prog 16 #[.agg #[.int .i64 n1, .int .i64 d1], .agg #[.int .i64 n3, .int .i64 d3]] w fun e w' => e = .returned (.tuple #[.agg #[.int .i64 xn, .int .i64 xd], .int .i64 xc]) ∧ Below w.heap.size w w'
  SY : ∀ w, Calls Try.prog 16 #[.agg #[.int .i64 n2, .int .i64 d2], .agg #[.int .i64 n3, .int .i64 d3]] w fun e w' => e = .returned (.tuple #[.agg #[.int .i64 yn, .int .i64 yd], .int .i64 yc]) ∧ Below w.heap.size w w'
  SZ : ∀ w, Calls Try.prog 16 #[.agg #[.int .i64 n3, .int .i64 d3], .agg #[.int .i64 n1, .int .i64 d1]] w fun e w' => e = .returned (.tuple #[.agg #[.int .i64 xn, .int .i64 xd], .int .i64 xc]) ∧ Below w.heap.size w w'
  XY : xc = 0 → yc = 0 → ∀ w, Calls Try.prog 22 #[.agg #[.int .i64 xn, .int .i64 xd], .agg #[.int .i64 yn, .int .i64 yd]] w fun e w' => e = .returned (.int .i64 xy) ∧ Below w.heap.size w w'
  RX : xc = 0 → ∀ w, Calls Try.prog 20 #[.agg #[.int .i64 xn, .int .i64 xd]] w fun e w' => e = .returned (.bool rx) ∧ Below w.heap.size w w'

set_option maxHeartbeats 4000000 in
set_option maxRecDepth 100000 in
theorem order_walk (n1 d1 n2 d2 n3 d3 ab bc ac ba xn xd yn yd xc yc xy : Int) (rx : Bool) (w : World) (I : OrdIn n1 d1 n2 d2 n3 d3 ab bc ac ba xn xd yn yd xc yc xy rx)
    (h1 : ab = -1 ∨ ab = 0 ∨ ab = 1) (hba : ba = -ab) (hsame : ab = 0 ↔ n1 = n2 ∧ d1 = d2) (htr : ab < 0 → bc < 0 → ac < 0) (hxc : xc = 0 ∨ xc = 1) (hyc : yc = 0 ∨ yc = 1) (hxy : xc = 0 → yc = 0 → xy = ab) (hrx : xc = 0 → rx = true) :
    Calls Try.prog 5 #[.agg #[.int .i64 n1, .int .i64 d1], .agg #[.int .i64 n2, .int .i64 d2], .agg #[.int .i64 n3, .int .i64 d3]] w fun e w' => e = .returned (.bool true) ∧ Below w.heap.size w w' := by
  obtain ⟨V, hV, hB⟩ := bks3 w (.cells #[.int .i64 n1, .int .i64 d1] 37) (.cells #[.int .i64 n2, .int .i64 d2] 37) (.cells #[.int .i64 n3, .int .i64 d3] 37)
  have HV := Lib.hid hV
  have H1 := Lib.hid h1
  have HBA := Lib.hid hba
  have HS := Lib.hid hsame
  have HT := Lib.hid htr
  have HXC := Lib.hid hxc
  have HYC := Lib.hid hyc
  have HXY := Lib.hid hxy
  have HRX := Lib.hid hrx
  clear hV h1 hba hsame htr hxc hyc hxy hrx
  go_enter Try.func5, Try.ntmps5
  go_wp2_with fail
  rw [← HV.out]
  refine (awake3_any _).mono ?_
  rintro e V0 ⟨rfl, hb0⟩
  have hB0 := hB.later hb0
  obtain ⟨⟨c0, c1⟩, _, _⟩ := hB0.pair 0 rfl
  rw [Nat.add_zero] at c0 c1
  have HB0 := Lib.hid hB0
  clear hB hb0 hB0
  go_wp2_with fail
  refine (I.R1 _).mono ?_
  rintro e V1 ⟨rfl, hb1⟩
  clear c0 c1
  have hB1 := HB0.out.later hb1
  obtain ⟨⟨c2, c3⟩, _, _⟩ := hB1.pair 1 rfl
  have HB1 := Lib.hid hB1
  clear HB0 hb1 hB1
  go_wp2_with fail
  refine (I.R2 _).mono ?_
  rintro e V2 ⟨rfl, hb2⟩
  clear c2 c3
  have hB2 := HB1.out.later hb2
  obtain ⟨⟨c4, c5⟩, _, _⟩ := hB2.pair 2 rfl
  have HB2 := Lib.hid hB2
  clear HB1 hb2 hB2
  go_wp2_with fail
  refine (I.R3 _).mono ?_
  rintro e U ⟨rfl, hb3⟩
  clear c4 c5
  have hB3 := HB2.out.later hb3
  obtain ⟨⟨c0, c1⟩, _, _⟩ := hB3.pair 0 rfl
  rw [Nat.add_zero] at c0 c1
  obtain ⟨⟨c2, c3⟩, _, _⟩ := hB3.pair 1 rfl
  obtain ⟨⟨c4, c5⟩, _, _⟩ := hB3.pair 2 rfl
  have HB3 := Lib.hid hB3
  clear HB2 hb3 hB3
  go_upto_region 5 with fail
  go_cut [7, 8, 9] (fun x y z wx => x = .int .i64 ab ∧ y = .int .i64 bc ∧ z = .int .i64 ac ∧ Below U.heap.size U wx)
  case first =>
    go_region_held3 (fun w' => w'.cell? ⟨w.heap.size, 0, none⟩ = some (.int .i64 n1) ∧ w'.cell? ⟨w.heap.size, 1, none⟩ = some (.int .i64 d1) ∧ w'.cell? ⟨w.heap.size + 1, 0, none⟩ = some (.int .i64 n2) ∧ w'.cell? ⟨w.heap.size + 1, 1, none⟩ = some (.int .i64 d2) ∧ w'.cell? ⟨w.heap.size + 2, 0, none⟩ = some (.int .i64 n3) ∧ w'.cell? ⟨w.heap.size + 2, 1, none⟩ = some (.int .i64 d3) ∧ Below U.heap.size U w') ((first | (exact keep7 hb (by assumption)) | (exact keep7D c0 c1 c2 c3 c4 c5) | go_keep))
      (first
        | (go_at_call 22; first | ((with_reducible refine (I.AB _).mono ?_); rintro e w1 ⟨rfl, hb⟩) | ((with_reducible refine (I.BC _).mono ?_); rintro e w1 ⟨rfl, hb⟩) | ((with_reducible refine (I.AC _).mono ?_); rintro e U1 ⟨rfl, hb⟩; have hk := Lib.hid (keep7 hb (by assumption)).2.2.2.2.2.2)))
    all_goals
      go_wp2_with fail
      go_meet
      exact ⟨rfl, rfl, rfl, hk.out⟩
  case rest =>
    obtain ⟨rfl, rfl, rfl, hbU⟩ := hcut
    have hB4 := HB3.out.later hbU
    obtain ⟨U2, hU2⟩ : ∃ U2, U2 = wc := ⟨_, rfl⟩
    subst hU2
    clear c0 c1 c2 c3 c4 c5 hbU HB3
    obtain ⟨⟨c0, c1⟩, _, _⟩ := hB4.pair 0 rfl
    rw [Nat.add_zero] at c0 c1
    obtain ⟨⟨c2, c3⟩, _, _⟩ := hB4.pair 1 rfl
    obtain ⟨⟨c4, c5⟩, _, _⟩ := hB4.pair 2 rfl
    have HB4 := Lib.hid hB4
    clear hB4
    go_upto_region 6 with fail
    go_cut [65] (fun x wx => x = .bool false ∧ Below U2.heap.size U2 wx)
    case first =>
      rcases H1.out with hab | hab | hab
      · have hne : ¬ (n1 = n2 ∧ d1 = d2) := fun k => by have := HS.out.2 k; omega
        have hz1 : ba = 1 := by rw [HBA.out, hab]; rfl
        have BA := I.BA
        rw [hz1] at BA
        have hbc : bc < 0 → ac < 0 := HT.out (by omega)
        have HBC := Lib.hid hbc
        have HNE := Lib.hid hne
        clear hz1 hne hbc
        subst hab
        by_cases hn : n1 = n2
        · have hdn : ¬ d1 = d2 := fun k => HNE.out ⟨hn, k⟩
          subst hn
          go_wp2_with fail
          refine (BA _).mono ?_
          rintro e w1 ⟨rfl, hb⟩
          have k0 := cell_kept hb c0
          have k1 := cell_kept hb c1
          have k2 := cell_kept hb c2
          have k3 := cell_kept hb c3
          clear c0 c1 c2 c3 c4 c5
          go_wp2_with fail
          all_goals
            go_meet
            first
              | (exact ⟨rfl, hb⟩)
              | (refine ⟨?_, hb⟩; have hq := HBC.out (by assumption); simp; omega)
        · clear HNE
          go_wp2_with fail
          refine (BA _).mono ?_
          rintro e w1 ⟨rfl, hb⟩
          have k0 := cell_kept hb c0
          have k1 := cell_kept hb c1
          have k2 := cell_kept hb c2
          have k3 := cell_kept hb c3
          clear c0 c1 c2 c3 c4 c5
          go_wp2_with fail
          all_goals
            go_meet
            first
              | (exact ⟨rfl, hb⟩)
              | (refine ⟨?_, hb⟩; have hq := HBC.out (by assumption); simp; omega)
      · obtain ⟨e1, e2⟩ := HS.out.1 hab
        have hz1 : ba = 0 := by rw [HBA.out, hab]; rfl
        have BA := I.BA
        rw [hz1] at BA
        clear hz1
        subst hab e1 e2
        go_wp2_with fail
        refine (BA _).mono ?_
        rintro e w1 ⟨rfl, hb⟩
        have k0 := cell_kept hb c0
        have k1 := cell_kept hb c1
        have k2 := cell_kept hb c2
        have k3 := cell_kept hb c3
        clear c0 c1 c2 c3 c4 c5
        go_wp2_with fail
        all_goals
          go_meet
          exact ⟨rfl, hb⟩
      · have hne : ¬ (n1 = n2 ∧ d1 = d2) := fun k => by have := HS.out.2 k; omega
        have hz1 : ba = -1 := by rw [HBA.out, hab]
        have BA := I.BA
        rw [hz1] at BA
        have HNE := Lib.hid hne
        clear hz1 hne
        subst hab
        by_cases hn : n1 = n2
        · have hdn : ¬ d1 = d2 := fun k => HNE.out ⟨hn, k⟩
          subst hn
          go_wp2_with fail
          refine (BA _).mono ?_
          rintro e w1 ⟨rfl, hb⟩
          have k0 := cell_kept hb c0
          have k1 := cell_kept hb c1
          have k2 := cell_kept hb c2
          have k3 := cell_kept hb c3
          clear c0 c1 c2 c3 c4 c5
          go_wp2_with fail
          all_goals
            go_meet
            exact ⟨rfl, hb⟩
        · clear HNE
          go_wp2_with fail
          refine (BA _).mono ?_
          rintro e w1 ⟨rfl, hb⟩
          have k0 := cell_kept hb c0
          have k1 := cell_kept hb c1
          have k2 := cell_kept hb c2
          have k3 := cell_kept hb c3
          clear c0 c1 c2 c3 c4 c5
          go_wp2_with fail
          all_goals
            go_meet
            exact ⟨rfl, hb⟩
    case rest =>
      obtain ⟨rfl, hbU⟩ := hcut
      have hB5 := HB4.out.later hbU
      clear c0 c1 c2 c3 c4 c5 hbU HB4
      obtain ⟨⟨c0, c1⟩, _, _⟩ := hB5.pair 0 rfl
      rw [Nat.add_zero] at c0 c1
      obtain ⟨⟨c4, c5⟩, _, _⟩ := hB5.pair 2 rfl
      have HB5 := Lib.hid hB5
      clear hB5
      go_wp2_with fail
      refine (I.SX _).mono ?_
      rintro e W1 ⟨rfl, hb1⟩
      clear c0 c1 c4 c5
      have hB6 := HB5.out.later hb1
      obtain ⟨⟨c2, c3⟩, _, l2⟩ := hB6.pair 1 rfl
      obtain ⟨⟨c4, c5⟩, _, l4⟩ := hB6.pair 2 rfl
      have HB6 := Lib.hid hB6
      clear hB6 hb1 HB5
      go_wp2_with fail
      refine (I.SY _).mono ?_
      rintro e W2 ⟨rfl, hb2⟩
      clear c2 c3 c4 c5 l2 l4
      have hB7 := (HB6.out.later (bl1 _ _)).later hb2
      have hx2 := blk_after hb2
      obtain ⟨⟨c0, c1⟩, _, l0⟩ := hB7.pair 0 rfl
      rw [Nat.add_zero] at c0 c1 l0
      obtain ⟨⟨c4, c5⟩, _, l4⟩ := hB7.pair 2 rfl
      have HB7 := Lib.hid hB7
      have HX2 := Lib.hid hx2
      clear hB7 hb2 HB6 hx2
      go_wp2_with fail
      refine (I.SZ _).mono ?_
      rintro e W3 ⟨rfl, hb3⟩
      clear c0 c1 c4 c5 l0 l4
      have hB8 := (HB7.out.later (bl1 _ _)).later hb3
      have hx3 := blk_past hb3 HX2.out
      have hy3 := blk_after hb3
      obtain ⟨x0, x1⟩ := cell_pair hx3
      obtain ⟨y0, y1⟩ := cell_pair hy3
      have lx := (Array.getElem?_eq_some_iff.1 hx3).1
      have ly := (Array.getElem?_eq_some_iff.1 hy3).1
      have HB8 := Lib.hid hB8
      have HX3 := Lib.hid hx3
      clear hB8 hb3 HB7 HX2 hx3 hy3
      rcases HXC.out with hxc | hxc
      · rcases HYC.out with hyc | hyc
        · have XY := I.XY hxc hyc
          have RX := I.RX hxc
          rw [HXY.out hxc hyc] at XY
          rw [HRX.out hxc] at RX
          subst hxc hyc
          go_wp2_with fail
          refine (XY _).mono ?_
          rintro e W4 ⟨rfl, hb4⟩
          have hx4 := blk_past hb4 HX3.out
          have hB9 := (HB8.out.later (bl1 _ _)).later hb4
          clear x0 x1 y0 y1 lx ly
          obtain ⟨x0, x1⟩ := cell_pair hx4
          have HB9 := Lib.hid hB9
          clear hB9 hb4 HB8 HX3 hx4
          go_wp2_with fail
          refine (RX _).mono ?_
          rintro e W5 ⟨rfl, hb5⟩
          have hB10 := HB9.out.later hb5
          have HB10 := Lib.hid hB10
          clear hB10 hb5 HB9 x0 x1
          go_wp2_with fail
          go_ret
          exact ⟨rfl, HB10.out.1⟩
        · subst hxc hyc
          go_wp2_with fail
          go_ret
          exact ⟨rfl, (HB8.out.later (bl1 _ _)).1⟩
      · subst hxc
        go_wp2_with fail
        go_ret
        exact ⟨rfl, (HB8.out.later (bl1 _ _)).1⟩
end Go.Proofs.Ytkpkgjdjfaallaa
