
/- The document's lowest terms: Euclid over rows. -/
import Derived.Test.YthkcpaanegjodaaExactAb
import Derived.Test.YthkcpaanegjodaaExactI
namespace Go.Proofs.Ythkcpaanegjodaa
open Go.RowKit

theorem Rd.same {w : World} {v : Value} {l l' : List Bool} (h : Rd w v l) (h' : Rd w v l') : l = l' := by
  obtain ⟨A, cp, rfl, hc, hn, hs⟩ := h
  obtain ⟨A', cp', e, hc', hn', hs'⟩ := h'
  injection e with e1 e2 e3
  subst e1
  subst e3
  refine List.ext_getElem e2 (fun k h1 h2 => ?_)
  rcases A with _ | ⟨b, o, s⟩
  · have := hn rfl; omega
  · have c := (hs b o s rfl).2.2 k h1
    have c' := (hs' b o s rfl).2.2 k h2
    rw [c] at c'
    injection c' with c'
    injection c' with c'
theorem keepB4 {w w' : World} {b i : Nat} {u : Value} (hb : Below w.heap.size w w') (hc : w.cell? ⟨b, i, none⟩ = some u) (h : b < w.heap.size) : w'.cell? ⟨b, i, none⟩ = some u := (hb.cell (p := ⟨b, i, none⟩) h).trans hc
theorem keepF4 {w w' : World} {b i : Nat} {u : Bool} (hb : Below w.heap.size w w') (hc : w.frozen? ⟨b, i, none⟩ = u) (h : b < w.heap.size) : w'.frozen? ⟨b, i, none⟩ = u := (hb.frozen (p := ⟨b, i, none⟩) h).trans hc
/-- the number that a row tells in a world -/
noncomputable def rowN (w : World) (v : Value) : Nat := by
  classical
  exact if h : ∃ n, Rd w v (ExactM.ofN n) then h.choose else 0
theorem rowN_is {w : World} {v : Value} {n : Nat} (h : Rd w v (ExactM.ofN n)) : rowN w v = n := by
  classical
  have hex : ∃ n, Rd w v (ExactM.ofN n) := ⟨n, h⟩
  unfold rowN
  rw [dif_pos hex]
  have := hex.choose_spec.same h
  rw [← ExactM.val_ofN hex.choose, this, ExactM.val_ofN]
theorem lo_num (z : Int) (d : Nat) (hd : 0 < d) : (z / (Int.gcd z (d : Int) : Int)).natAbs = z.natAbs / Nat.gcd z.natAbs d ∧ decide (z / (Int.gcd z (d : Int) : Int) < 0) = (decide (z < 0) && decide (0 < z.natAbs / Nat.gcd z.natAbs d)) := by
  have hg : Int.gcd z (d : Int) = Nat.gcd z.natAbs d := by unfold Int.gcd; rw [Int.natAbs_natCast]
  rw [hg]
  have hgp : 0 < Nat.gcd z.natAbs d := Nat.gcd_pos_of_pos_right _ hd
  have hdv : Nat.gcd z.natAbs d ∣ z.natAbs := Nat.gcd_dvd_left _ _
  obtain ⟨G, hG⟩ : ∃ G, G = Nat.gcd z.natAbs d := ⟨_, rfl⟩
  rw [← hG] at hgp hdv ⊢
  obtain ⟨q, hq⟩ := hdv
  rw [hq, Nat.mul_div_cancel_left _ hgp]
  rcases Int.lt_or_le z 0 with hz | hz
  · have e : z = -((G * q : Nat) : Int) := by omega
    have e2 : z / (G : Int) = -(q : Int) := by
      rw [e, Int.natCast_mul, ← Int.mul_neg]
      exact Int.mul_ediv_cancel_left _ (by omega)
    rw [e2]
    refine ⟨by omega, ?_⟩
    rw [Bool.eq_iff_iff]
    simp
    omega
  · have e : z = ((G * q : Nat) : Int) := by omega
    have e2 : z / (G : Int) = (q : Int) := by
      rw [e, Int.natCast_mul]
      exact Int.mul_ediv_cancel_left _ (by omega)
    rw [e2]
    refine ⟨by omega, ?_⟩
    rw [Bool.eq_iff_iff]
    simp
    omega
theorem lo_den (z : Int) (d : Nat) : (d : Int) / (Int.gcd z (d : Int) : Int) = ((d / Nat.gcd z.natAbs d : Nat) : Int) := by
  have hg : Int.gcd z (d : Int) = Nat.gcd z.natAbs d := by unfold Int.gcd; rw [Int.natAbs_natCast]
  rw [hg, Int.natCast_ediv]

set_option maxHeartbeats 4000000 in
set_option maxRecDepth 100000 in
theorem rlow_any (A : Value) (vd : Value) (z : Int) (d : Nat) (w : World) (hz : z.natAbs < 2 ^ 200) (hd0 : 0 < d) (hd : d < 2 ^ 200) (hA : Bg w A z) (hD : Rd w vd (ExactM.ofN d)) :
    Calls Try.prog 57 #[A, vd] w fun e w' => e = .returned (.tuple #[rv (ansV z d), .int .i64 (ansC z d)]) ∧ Below w.heap.size w w' := by
  obtain ⟨va, rfl, ra⟩ := hA
  obtain ⟨Aa, ca, rfl⟩ := ra.len
  obtain ⟨Ad, cd, rfl⟩ := hD.len
  obtain ⟨N, hN⟩ : ∃ N, N = z.natAbs := ⟨_, rfl⟩
  rw [← hN] at ra hz ⊢
  obtain ⟨la, hla⟩ : ∃ m, m = (ExactM.ofN N).length := ⟨_, rfl⟩
  obtain ⟨ld, hld⟩ : ∃ m, m = (ExactM.ofN d).length := ⟨_, rfl⟩
  have hla2 : (ExactM.ofN N).length ≤ 200 := ExactM.len_ofN _ _ hz
  have hld2 : (ExactM.ofN d).length ≤ 200 := ExactM.len_ofN _ _ hd
  rw [← hla] at ⊢
  rw [← hld] at ⊢
  obtain ⟨s, hs⟩ : ∃ s, s = decide (z < 0) := ⟨_, rfl⟩
  rw [← hs]
  have RA : Hid (Rd w (.slice Aa la ca) (ExactM.ofN N)) := Lib.hid (by rw [hla]; exact ra)
  have RD' : Hid (Rd w (.slice Ad ld cd) (ExactM.ofN d)) := Lib.hid (by rw [hld]; exact hD)
  have HZ := Lib.hid hz
  have HD := Lib.hid hd
  have HLA := Lib.hid hla2
  have HLD := Lib.hid hld2
  have HNZ := Lib.hid hN
  have HS := Lib.hid hs
  clear ra hD hz hd hla2 hld2 hla hld hN hs
  go_enter Try.func57, Try.ntmps57
  go_wp2
  have bW := bl2 w (.cells #[.slice Aa la ca, .bool s] 29) (.cells #[.int .i64 0, .int .i64 0] 37)
  have p0 : ((w.alloc (.cells #[.slice Aa la ca, .bool s] 29)).alloc (.cells #[.int .i64 0, .int .i64 0] 37)).cell? ⟨w.heap.size, 0, none⟩ = some (.slice Aa la ca) := by go_simp
  have p1 : ((w.alloc (.cells #[.slice Aa la ca, .bool s] 29)).alloc (.cells #[.int .i64 0, .int .i64 0] 37)).cell? ⟨w.heap.size, 1, none⟩ = some (.bool s) := by go_simp
  have q0 : ((w.alloc (.cells #[.slice Aa la ca, .bool s] 29)).alloc (.cells #[.int .i64 0, .int .i64 0] 37)).cell? ⟨w.heap.size + 1, 0, none⟩ = some (.int .i64 0) := by go_simp
  have q1 : ((w.alloc (.cells #[.slice Aa la ca, .bool s] 29)).alloc (.cells #[.int .i64 0, .int .i64 0] 37)).cell? ⟨w.heap.size + 1, 1, none⟩ = some (.int .i64 0) := by go_simp
  have qf : ∀ i, ((w.alloc (.cells #[.slice Aa la ca, .bool s] 29)).alloc (.cells #[.int .i64 0, .int .i64 0] 37)).frozen? ⟨w.heap.size + 1, i, none⟩ = false := fun i => by go_simp
  have ws : ((w.alloc (.cells #[.slice Aa la ca, .bool s] 29)).alloc (.cells #[.int .i64 0, .int .i64 0] 37)).heap.size = w.heap.size + 2 := by simp
  have WS := Lib.hid ws
  have QF := Lib.hid qf
  clear ws qf
  generalize (w.alloc (.cells #[.slice Aa la ca, .bool s] 29)).alloc (.cells #[.int .i64 0, .int .i64 0] 37) = W at bW p0 p1 q0 q1 QF WS ⊢
  go_loopw [6, 7] (fun a b wr => ∃ x y : Nat, Rd wr a (ExactM.ofN x) ∧ Rd wr b (ExactM.ofN y) ∧ Nat.gcd x y = Nat.gcd N d ∧ (ExactM.ofN x).length ≤ 200 ∧ (ExactM.ofN y).length ≤ 200 ∧ Below W.heap.size W wr) (fun _ b wr => rowN wr b)
  case atStart => exact ⟨N, d, RA.out.below bW, RD'.out.below bW, rfl, HLA.out, HLD.out, Below.refl _ _⟩
  case round =>
    obtain ⟨x, y, rx, ry, hgcd, hxl, hyl, bx⟩ := hrel
    have HGCD := Lib.hid hgcd
    have bw := bW.trans (bx.mono bW.size)
    obtain ⟨Ay, cy, rfl⟩ := ry.len
    have hry := rowN_is ry
    have HRY := Lib.hid hry
    have hl0 := ofN_len0 y
    have hyt := ExactM.ofN_tr y
    have hvy := ExactM.val_ofN y
    have hvx := ExactM.val_ofN x
    by_cases hy0 : y = 0
    · subst hy0
      rw [ExactM.ofN_zero] at *
      have hx : x = Nat.gcd N d := by rw [← hgcd, Nat.gcd_zero_right]
      have hxp : 0 < x := by rw [hx]; exact Nat.gcd_pos_of_pos_right _ hd0
      have ho1 := rover_any (.slice Aa la ca) _ (ExactM.ofN N) (ExactM.ofN x) wr HLA.out hxl (ExactM.ofN_tr x) (by rw [ExactM.val_ofN]; exact hxp) (RA.out.below bw) rx
      rw [ExactM.val_ofN, ExactM.val_ofN] at ho1
      have HO1 := Lib.hid ho1
      have RX := Lib.hid rx
      have HX := Lib.hid hx
      have P0 := (bx.cell (p := ⟨w.heap.size, 0, none⟩) (by rw [WS.out]; simp)).trans p0
      clear ho1 rx hx hry HRY hl0 hyt hvy hvx hgcd ry p0
      have hd0' : decide ((0 : Int) < (([] : List Bool).length : Int)) = false := by decide
      have P1 := (bx.cell (p := ⟨w.heap.size, 1, none⟩) (by simp [WS.out])).trans p1
      have Q0 := (bx.cell (p := ⟨w.heap.size + 1, 0, none⟩) (by simp [WS.out])).trans q0
      have Q1 := (bx.cell (p := ⟨w.heap.size + 1, 1, none⟩) (by simp [WS.out])).trans q1
      have G0 := (bx.frozen (p := ⟨w.heap.size + 1, 0, none⟩) (by simp [WS.out])).trans (QF.out 0)
      have G1 := (bx.frozen (p := ⟨w.heap.size + 1, 1, none⟩) (by simp [WS.out])).trans (QF.out 1)
      have hq : w.heap.size + 1 < wr.heap.size := World.block_lt_of_cell? wr _ Q0
      clear p1 q0 q1 bx bW
      go_wp2_with fail
      refine HO1.out.mono ?_
      rintro e w3 ⟨v1, v1', rfl, r1, _, c3⟩
      have bw3 := bw.trans (c3.mono bw.size)
      have ho2 := rover_any (.slice Ad ld cd) _ (ExactM.ofN d) (ExactM.ofN x) w3 HLD.out hxl (ExactM.ofN_tr x) (by rw [ExactM.val_ofN]; exact hxp) (RD'.out.below bw3) (RX.out.below c3)
      rw [ExactM.val_ofN, ExactM.val_ofN] at ho2
      have HO2 := Lib.hid ho2
      have P1 := keepB4 c3 P1 (by omega)
      have Q0 := keepB4 c3 Q0 hq
      have Q1 := keepB4 c3 Q1 hq
      have G0 := keepF4 c3 G0 hq
      have G1 := keepF4 c3 G1 hq
      have P0 := keepB4 c3 P0 (by omega)
      have hq3 := Nat.lt_of_lt_of_le hq c3.size
      clear ho2 bw c3 HO1
      go_wp2_with fail
      refine HO2.out.mono ?_
      rintro e w4 ⟨v2, v2', rfl, r2, _, c4⟩
      have bw4 := bw3.trans (c4.mono bw3.size)
      have r1 := r1.below c4
      have P1 := keepB4 c4 P1 (by omega)
      have Q0 := keepB4 c4 Q0 hq3
      have Q1 := keepB4 c4 Q1 hq3
      have G0 := keepF4 c4 G0 hq3
      have G1 := keepF4 c4 G1 hq3
      have hq4 := Nat.lt_of_lt_of_le hq3 c4.size
      clear bw3 c4 HO2 P0
      obtain ⟨A1, c1, rfl⟩ := r1.len
      obtain ⟨A2, c2, rfl⟩ := r2.len
      obtain ⟨lo1, lo2⟩ := lo_num z d hd0
      have lo3 := lo_den z d
      rw [← HNZ.out, ← HX.out] at lo1 lo2
      rw [← HNZ.out, ← HX.out] at lo3
      rw [← HS.out] at lo2
      have hnx : (ExactM.ofN (N / x)).length ≤ 200 := ExactM.len_ofN _ _ (Nat.lt_of_le_of_lt (Nat.div_le_self _ _) HZ.out)
      have hdx : (ExactM.ofN (d / x)).length ≤ 200 := ExactM.len_ofN _ _ (Nat.lt_of_le_of_lt (Nat.div_le_self _ _) HD.out)
      have hl1 := ofN_len0 (N / x)
      have han : ansB z d = (fitB (z / (Int.gcd z (d : Int) : Int)) && fitB ((d : Int) / (Int.gcd z (d : Int) : Int))) := rfl
      have hav : ansV z d = if ansB z d = true then (z / (Int.gcd z (d : Int) : Int), (d : Int) / (Int.gcd z (d : Int) : Int)) else (0, 0) := rfl
      obtain ⟨z1, hz1⟩ : ∃ z1, z1 = z / (Int.gcd z (d : Int) : Int) := ⟨_, rfl⟩
      rw [lo3] at han hav
      rw [← hz1] at lo1 lo2 han hav
      obtain ⟨m2, hm2⟩ : ∃ m2, m2 = d / x := ⟨_, rfl⟩
      obtain ⟨m1, hm1⟩ : ∃ m1, m1 = N / x := ⟨_, rfl⟩
      rw [← hm2] at r2 hdx han hav ⊢
      rw [← hm1] at r1 hnx hl1 lo1 lo2 ⊢
      rw [← hl1] at lo2
      have hB1 := rback_any (.agg #[.slice A1 (ExactM.ofN m1).length c1, .bool (decide (z1 < 0))]) z1 w4 (by rw [lo1]; exact hnx) ⟨_, rfl, by rw [lo1]; exact r1⟩
      have hB2 := fun W (hW : Below w4.heap.size w4 W) => rback_any (.agg #[.slice A2 (ExactM.ofN m2).length c2, .bool false]) (m2 : Int) W (by rw [Int.natAbs_natCast]; exact hdx) ⟨_, by rw [decide_eq_false (by omega : ¬ (m2 : Int) < 0)], by rw [Int.natAbs_natCast]; exact r2.below hW⟩
      rw [lo2] at hB1
      obtain ⟨l1, hl1e⟩ : ∃ l, l = (ExactM.ofN m1).length := ⟨_, rfl⟩
      obtain ⟨l2, hl2e⟩ : ∃ l, l = (ExactM.ofN m2).length := ⟨_, rfl⟩
      rw [← hl1e] at hB1 ⊢
      rw [← hl2e] at hB2 ⊢
      obtain ⟨g, hg⟩ : ∃ g, decide (0 < l1) = g := ⟨_, rfl⟩
      have hg2 : decide ((0 : Int) < (l1 : Int)) = g := by rw [← hg, Bool.eq_iff_iff]; simp
      rw [hg] at hB1
      obtain ⟨F1, hF1⟩ : ∃ F, F = fitV z1 := ⟨_, rfl⟩
      obtain ⟨F2, hF2⟩ : ∃ F, F = fitV (m2 : Int) := ⟨_, rfl⟩
      obtain ⟨o1, ho1⟩ : ∃ o, o = fitB z1 := ⟨_, rfl⟩
      obtain ⟨o2, ho2⟩ : ∃ o, o = fitB (m2 : Int) := ⟨_, rfl⟩
      rw [← hF1, ← ho1] at hB1
      rw [← hF2, ← ho2] at hB2
      rw [← ho1, ← ho2] at han
      have hres : ∀ V C, (V = if (o1 && o2) = true then (F1, F2) else ((0, 0) : Int × Int)) → (C = if (o1 && o2) = true then 0 else (1 : Int)) → ansV z d = V ∧ ansC z d = C := fun V C hV hC => by
        have hc : ansC z d = if ansB z d = true then 0 else 1 := rfl
        rw [hav, hc, hV, hC, han]
        refine ⟨?_, rfl⟩
        by_cases hoo : (o1 && o2) = true
        · rw [if_pos hoo, if_pos hoo, hF1, hF2]
          rw [Bool.and_eq_true] at hoo
          unfold fitV
          rw [← ho1, ← ho2, hoo.1, hoo.2]
          rfl
        · rw [if_neg hoo, if_neg hoo]
      have HRES := Lib.hid hres
      have HB2 := Lib.hid hB2
      clear hB2 hres han hav lo1 lo2 lo3 hz1 hm1 hm2 hl1e hl2e hF1 hF2 ho1 ho2 r1 r2 hnx hdx hl1
      cases s with
      | true =>
        rw [Bool.true_and] at hB1
        have HB1 := Lib.hid hB1
        clear hB1
        go_wp2_with fail
        refine HB1.out.mono ?_
        rintro e w5 ⟨rfl, c5⟩
        have bw5 := bw4.trans (c5.mono bw4.size)
        have Q0 := keepB4 c5 Q0 hq4
        have Q1 := keepB4 c5 Q1 hq4
        have G0 := keepF4 c5 G0 hq4
        have G1 := keepF4 c5 G1 hq4
        have hq5 := Nat.lt_of_lt_of_le hq4 c5.size
        have hB2 := HB2.out w5 c5
        have HB3 := Lib.hid hB2
        clear hB2 bw4 c5 HB1 P1 HB2
        go_wp2_with fail
        refine HB3.out.mono ?_
        rintro e w6 ⟨rfl, c6⟩
        have bw6 := bw5.trans (c6.mono bw5.size)
        have Q0 := keepB4 c6 Q0 hq5
        have Q1 := keepB4 c6 Q1 hq5
        have G0 := keepF4 c6 G0 hq5
        have G1 := keepF4 c6 G1 hq5
        clear bw5 c6 HB3
        cases o1 <;> cases o2
        · obtain ⟨e1, e2⟩ := HRES.out (0, 0) 1 (by simp) (by simp)
          have E1 := Lib.hid e1
          have E2 := Lib.hid e2
          clear e1 e2
          go_wp2
          exact bodyPost_ret (v := .tuple #[rv (0, 0), .int .i64 1]) (by simp [results, Try.results57, go_sem, Q0, Q1, rv]) rfl ⟨by rw [E1.out, E2.out], (bw6.setCell (by simp) _).setCell (by simp) _⟩
        · obtain ⟨e1, e2⟩ := HRES.out (0, 0) 1 (by simp) (by simp)
          have E1 := Lib.hid e1
          have E2 := Lib.hid e2
          clear e1 e2
          go_wp2
          exact bodyPost_ret (v := .tuple #[rv (0, 0), .int .i64 1]) (by simp [results, Try.results57, go_sem, Q0, Q1, rv]) rfl ⟨by rw [E1.out, E2.out], (bw6.setCell (by simp) _).setCell (by simp) _⟩
        · obtain ⟨e1, e2⟩ := HRES.out (0, 0) 1 (by simp) (by simp)
          have E1 := Lib.hid e1
          have E2 := Lib.hid e2
          clear e1 e2
          go_wp2
          exact bodyPost_ret (v := .tuple #[rv (0, 0), .int .i64 1]) (by simp [results, Try.results57, go_sem, Q0, Q1, rv]) rfl ⟨by rw [E1.out, E2.out], (bw6.setCell (by simp) _).setCell (by simp) _⟩
        · obtain ⟨e1, e2⟩ := HRES.out (F1, F2) 0 (by simp) (by simp)
          have E1 := Lib.hid e1
          have E2 := Lib.hid e2
          clear e1 e2
          go_wp2
          exact bodyPost_ret (v := .tuple #[rv (F1, F2), .int .i64 0]) (by simp [results, Try.results57, go_sem, Q0, Q1, rv]) rfl ⟨by rw [E1.out, E2.out], (bw6.setCell (by simp) _).setCell (by simp) _⟩
      | false =>
        rw [Bool.false_and] at hB1
        have HB1 := Lib.hid hB1
        clear hB1
        go_wp2_with fail
        refine HB1.out.mono ?_
        rintro e w5 ⟨rfl, c5⟩
        have bw5 := bw4.trans (c5.mono bw4.size)
        have Q0 := keepB4 c5 Q0 hq4
        have Q1 := keepB4 c5 Q1 hq4
        have G0 := keepF4 c5 G0 hq4
        have G1 := keepF4 c5 G1 hq4
        have hq5 := Nat.lt_of_lt_of_le hq4 c5.size
        have hB2 := HB2.out w5 c5
        have HB3 := Lib.hid hB2
        clear hB2 bw4 c5 HB1 P1 HB2
        go_wp2_with fail
        refine HB3.out.mono ?_
        rintro e w6 ⟨rfl, c6⟩
        have bw6 := bw5.trans (c6.mono bw5.size)
        have Q0 := keepB4 c6 Q0 hq5
        have Q1 := keepB4 c6 Q1 hq5
        have G0 := keepF4 c6 G0 hq5
        have G1 := keepF4 c6 G1 hq5
        clear bw5 c6 HB3
        cases o1 <;> cases o2
        · obtain ⟨e1, e2⟩ := HRES.out (0, 0) 1 (by simp) (by simp)
          have E1 := Lib.hid e1
          have E2 := Lib.hid e2
          clear e1 e2
          go_wp2
          exact bodyPost_ret (v := .tuple #[rv (0, 0), .int .i64 1]) (by simp [results, Try.results57, go_sem, Q0, Q1, rv]) rfl ⟨by rw [E1.out, E2.out], (bw6.setCell (by simp) _).setCell (by simp) _⟩
        · obtain ⟨e1, e2⟩ := HRES.out (0, 0) 1 (by simp) (by simp)
          have E1 := Lib.hid e1
          have E2 := Lib.hid e2
          clear e1 e2
          go_wp2
          exact bodyPost_ret (v := .tuple #[rv (0, 0), .int .i64 1]) (by simp [results, Try.results57, go_sem, Q0, Q1, rv]) rfl ⟨by rw [E1.out, E2.out], (bw6.setCell (by simp) _).setCell (by simp) _⟩
        · obtain ⟨e1, e2⟩ := HRES.out (0, 0) 1 (by simp) (by simp)
          have E1 := Lib.hid e1
          have E2 := Lib.hid e2
          clear e1 e2
          go_wp2
          exact bodyPost_ret (v := .tuple #[rv (0, 0), .int .i64 1]) (by simp [results, Try.results57, go_sem, Q0, Q1, rv]) rfl ⟨by rw [E1.out, E2.out], (bw6.setCell (by simp) _).setCell (by simp) _⟩
        · obtain ⟨e1, e2⟩ := HRES.out (F1, F2) 0 (by simp) (by simp)
          have E1 := Lib.hid e1
          have E2 := Lib.hid e2
          clear e1 e2
          go_wp2
          exact bodyPost_ret (v := .tuple #[rv (F1, F2), .int .i64 0]) (by simp [results, Try.results57, go_sem, Q0, Q1, rv]) rfl ⟨by rw [E1.out, E2.out], (bw6.setCell (by simp) _).setCell (by simp) _⟩
    · have hyp : 0 < y := by omega
      have hlp : 0 < (ExactM.ofN y).length := by
        have := hl0
        rw [Bool.eq_iff_iff] at this
        simp at this
        omega
      have ho := rover_any u6 _ (ExactM.ofN x) (ExactM.ofN y) wr hxl hyl hyt (by rw [hvy]; exact hyp) rx ry
      rw [hvx, hvy] at ho
      have HO := Lib.hid ho
      have hgn : Hid (Nat.gcd y (x % y) = Nat.gcd N d) := Lib.hid (by rw [← hgcd, Nat.gcd_comm x y, Nat.gcd_rec y x, Nat.gcd_comm])
      have hml : Hid ((ExactM.ofN (x % y)).length ≤ 200) := Lib.hid (Nat.le_trans (len_mod x y _ hyp (by have := ExactM.val_lt (ExactM.ofN y); rwa [hvy] at this)) hyl)
      have hmlt : Hid (x % y < y) := Lib.hid (Nat.mod_lt _ hyp)
      obtain ⟨ly, hly⟩ : ∃ l, l = (ExactM.ofN y).length := ⟨_, rfl⟩
      have HYL := Lib.hid hyl
      have RY := Lib.hid ry
      rw [← hly] at hlp HO RY HRY ⊢
      have hd0' : decide ((0 : Int) < (ly : Int)) = true := decide_eq_true (by omega)
      have hd1' : decide (0 < ly) = true := decide_eq_true hlp
      clear ho hgcd hl0 hyt hvy hvx rx ry hxl hyl hly hry
      go_wp2_with fail
      refine HO.out.mono ?_
      rintro e w3 ⟨v1, v2, rfl, _, r2, c3⟩
      have R2 := Lib.hid r2
      clear r2
      have bz := bx.trans (c3.mono bx.size)
      have RY3 := Lib.hid (RY.out.below c3)
      clear bx c3
      go_wp2
      refine ⟨⟨y, x % y, RY3.out, R2.out, hgn.out, HYL.out, hml.out, bz⟩, ?_⟩
      show rowN w3 v2 < rowN wr (.slice Ay ly cy)
      rw [rowN_is R2.out, HRY.out]
      exact hmlt.out
end Go.Proofs.Ythkcpaanegjodaa
