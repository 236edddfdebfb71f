
/- ExactRatios: the walk. -/
import Derived.Test.YthkcpaanegjodaaExactAj
import Derived.Test.YthkcpaanegjodaaExactQ
namespace Go.Proofs.Ythkcpaanegjodaa
open Go.RowKit

theorem keepL {w X w1 : World} {p0 p1 p2 p3 p4 p5 p6 p7 p8 p9 p10 p11 p12 p13 p14 p15 : Addr} {v0 v1 v2 v3 v4 v5 v6 v7 v8 v9 v10 v11 v12 v13 v14 v15 : Value} (hb : Below X.heap.size X w1) (h : X.cell? p0 = some v0 ∧ X.cell? p1 = some v1 ∧ X.cell? p2 = some v2 ∧ X.cell? p3 = some v3 ∧ X.cell? p4 = some v4 ∧ X.cell? p5 = some v5 ∧ X.cell? p6 = some v6 ∧ X.cell? p7 = some v7 ∧ X.cell? p8 = some v8 ∧ X.cell? p9 = some v9 ∧ X.cell? p10 = some v10 ∧ X.cell? p11 = some v11 ∧ X.cell? p12 = some v12 ∧ X.cell? p13 = some v13 ∧ X.cell? p14 = some v14 ∧ X.cell? p15 = some v15 ∧ Below w.heap.size w X) :
    w1.cell? p0 = some v0 ∧ w1.cell? p1 = some v1 ∧ w1.cell? p2 = some v2 ∧ w1.cell? p3 = some v3 ∧ w1.cell? p4 = some v4 ∧ w1.cell? p5 = some v5 ∧ w1.cell? p6 = some v6 ∧ w1.cell? p7 = some v7 ∧ w1.cell? p8 = some v8 ∧ w1.cell? p9 = some v9 ∧ w1.cell? p10 = some v10 ∧ w1.cell? p11 = some v11 ∧ w1.cell? p12 = some v12 ∧ w1.cell? p13 = some v13 ∧ w1.cell? p14 = some v14 ∧ w1.cell? p15 = some v15 ∧ Below w.heap.size w w1 :=
  ⟨cell_kept hb h.1, cell_kept hb h.2.1, cell_kept hb h.2.2.1, cell_kept hb h.2.2.2.1, cell_kept hb h.2.2.2.2.1, cell_kept hb h.2.2.2.2.2.1, cell_kept hb h.2.2.2.2.2.2.1, cell_kept hb h.2.2.2.2.2.2.2.1, cell_kept hb h.2.2.2.2.2.2.2.2.1, cell_kept hb h.2.2.2.2.2.2.2.2.2.1, cell_kept hb h.2.2.2.2.2.2.2.2.2.2.1, cell_kept hb h.2.2.2.2.2.2.2.2.2.2.2.1, cell_kept hb h.2.2.2.2.2.2.2.2.2.2.2.2.1, cell_kept hb h.2.2.2.2.2.2.2.2.2.2.2.2.2.1, cell_kept hb h.2.2.2.2.2.2.2.2.2.2.2.2.2.2.1, cell_kept hb h.2.2.2.2.2.2.2.2.2.2.2.2.2.2.2.1, below_on h.2.2.2.2.2.2.2.2.2.2.2.2.2.2.2.2 hb⟩

set_option maxHeartbeats 4000000 in
set_option maxRecDepth 100000 in
theorem ratios_walk (n1 d1 n2 d2 num den xn xd xc sn sd sc tn td tc c : Int) (r : Bool) (w : World)
    (hX : ∀ w, Calls Try.prog 16 #[.int .i64 num, .int .i64 den] w fun e w' => e = .returned (.tuple #[.agg #[.int .i64 xn, .int .i64 xd], .int .i64 xc]) ∧ Below w.heap.size w w')
    (hY : ∀ w, Calls Try.prog 17 #[.int .i64 num, .int .i64 den] w fun e w' => e = .returned (.tuple #[.agg #[.int .i64 xn, .int .i64 xd], .int .i64 xc]) ∧ Below w.heap.size w w')
    (hS : ∀ w, Calls Try.prog 18 #[.agg #[.int .i64 n1, .int .i64 d1], .agg #[.int .i64 n2, .int .i64 d2]] w fun e w' => e = .returned (.tuple #[.agg #[.int .i64 sn, .int .i64 sd], .int .i64 sc]) ∧ Below w.heap.size w w')
    (hT : ∀ w, Calls Try.prog 19 #[.agg #[.int .i64 n1, .int .i64 d1], .agg #[.int .i64 n2, .int .i64 d2]] w fun e w' => e = .returned (.tuple #[.agg #[.int .i64 sn, .int .i64 sd], .int .i64 sc]) ∧ Below w.heap.size w w')
    (hU : ∀ w, Calls Try.prog 20 #[.agg #[.int .i64 n1, .int .i64 d1], .int .i64 num] w fun e w' => e = .returned (.tuple #[.agg #[.int .i64 tn, .int .i64 td], .int .i64 tc]) ∧ Below w.heap.size w w')
    (hV' : ∀ w, Calls Try.prog 21 #[.agg #[.int .i64 n1, .int .i64 d1], .int .i64 num] w fun e w' => e = .returned (.tuple #[.agg #[.int .i64 tn, .int .i64 td], .int .i64 tc]) ∧ Below w.heap.size w w')
    (hR : ∀ w, Calls Try.prog 22 #[.agg #[.int .i64 n1, .int .i64 d1]] w fun e w' => e = .returned (.bool r) ∧ Below w.heap.size w w')
    (hR' : ∀ w, Calls Try.prog 23 #[.agg #[.int .i64 n1, .int .i64 d1]] w fun e w' => e = .returned (.bool r) ∧ Below w.heap.size w w')
    (hC : ∀ w, Calls Try.prog 24 #[.agg #[.int .i64 n1, .int .i64 d1], .agg #[.int .i64 n2, .int .i64 d2]] w fun e w' => e = .returned (.int .i64 c) ∧ Below w.heap.size w w')
    (hC' : ∀ w, Calls Try.prog 25 #[.agg #[.int .i64 n1, .int .i64 d1], .agg #[.int .i64 n2, .int .i64 d2]] w fun e w' => e = .returned (.int .i64 c) ∧ Below w.heap.size w w') :
    Calls Try.prog 4 #[.agg #[.int .i64 n1, .int .i64 d1], .agg #[.int .i64 n2, .int .i64 d2], .int .i64 num, .int .i64 den] w fun e w' => e = .returned (.bool true) ∧ Below w.heap.size w w' := by
  obtain ⟨V, hV, hB⟩ := bks2 w (.cells #[.int .i64 n1, .int .i64 d1] 37) (.cells #[.int .i64 n2, .int .i64 d2] 37)
  have HV := Lib.hid hV
  clear hV
  go_enter Try.func4, Try.ntmps4
  go_wp2_with fail
  rw [← HV.out]
  refine (awake3_any _).mono ?_
  rintro e V0 ⟨rfl, hb0⟩
  have hB0 := hB.later hb0
  have HB0 := Lib.hid hB0
  clear hB hb0 hB0 HV
  go_wp2_with fail
  refine (hX _).mono ?_
  rintro e W1 ⟨rfl, hb⟩
  have hB1 := HB0.out.later hb
  clear hb  HB0
  have HB1 := Lib.hid hB1
  clear hB1
  go_wp2_with fail
  refine (hY _).mono ?_
  rintro e W2 ⟨rfl, hb⟩
  have hB2 := (HB1.out.later (bl1 _ _)).later hb
  have hx := blk_after hb
  obtain ⟨kx, hkx⟩ : ∃ k, k = W1.heap.size := ⟨_, rfl⟩
  rw [← hkx] at hx ⊢
  clear hkx
  have Hx := Lib.hid hx
  clear hb hx HB1
  obtain ⟨⟨a0, a1⟩, _, la⟩ := hB2.pair 0 rfl
  rw [Nat.add_zero] at a0 a1 la
  obtain ⟨⟨b0, b1⟩, _, lb⟩ := hB2.pair 1 rfl
  have HB2 := Lib.hid hB2
  clear hB2
  go_wp2_with fail
  refine (hS _).mono ?_
  rintro e W3 ⟨rfl, hb⟩
  have hB3 := (HB2.out.later (bl1 _ _)).later hb
  have hy := blk_after hb
  obtain ⟨ky, hky⟩ : ∃ k, k = W2.heap.size := ⟨_, rfl⟩
  rw [← hky] at hy ⊢
  clear hky
  have hx := blk_past hb Hx.out
  have Hx := Lib.hid hx
  have Hy := Lib.hid hy
  clear hb hx hy HB2
  clear a0 a1 b0 b1 la lb
  obtain ⟨⟨a0, a1⟩, _, la⟩ := hB3.pair 0 rfl
  rw [Nat.add_zero] at a0 a1 la
  obtain ⟨⟨b0, b1⟩, _, lb⟩ := hB3.pair 1 rfl
  have HB3 := Lib.hid hB3
  clear hB3
  go_wp2_with fail
  refine (hT _).mono ?_
  rintro e W4 ⟨rfl, hb⟩
  have hB4 := (HB3.out.later (bl1 _ _)).later hb
  have hs := blk_after hb
  obtain ⟨ks, hks⟩ : ∃ k, k = W3.heap.size := ⟨_, rfl⟩
  rw [← hks] at hs ⊢
  clear hks
  have hx := blk_past hb Hx.out
  have hy := blk_past hb Hy.out
  have Hx := Lib.hid hx
  have Hy := Lib.hid hy
  have Hs := Lib.hid hs
  clear hb hx hy hs HB3
  clear a0 a1 b0 b1 la lb
  obtain ⟨⟨a0, a1⟩, _, la⟩ := hB4.pair 0 rfl
  rw [Nat.add_zero] at a0 a1 la
  obtain ⟨⟨b0, b1⟩, _, lb⟩ := hB4.pair 1 rfl
  have HB4 := Lib.hid hB4
  clear hB4
  go_wp2_with fail
  refine (hU _).mono ?_
  rintro e W5 ⟨rfl, hb⟩
  have hB5 := (HB4.out.later (bl1 _ _)).later hb
  have ht := blk_after hb
  obtain ⟨kt, hkt⟩ : ∃ k, k = W4.heap.size := ⟨_, rfl⟩
  rw [← hkt] at ht ⊢
  clear hkt
  have hx := blk_past hb Hx.out
  have hy := blk_past hb Hy.out
  have hs := blk_past hb Hs.out
  have Hx := Lib.hid hx
  have Hy := Lib.hid hy
  have Hs := Lib.hid hs
  have Ht := Lib.hid ht
  clear hb hx hy hs ht HB4
  clear a0 a1 b0 b1 la lb
  obtain ⟨⟨a0, a1⟩, _, la⟩ := hB5.pair 0 rfl
  rw [Nat.add_zero] at a0 a1 la
  obtain ⟨⟨b0, b1⟩, _, lb⟩ := hB5.pair 1 rfl
  have HB5 := Lib.hid hB5
  clear hB5
  go_wp2_with fail
  refine (hV' _).mono ?_
  rintro e W6 ⟨rfl, hb⟩
  have hB6 := (HB5.out.later (bl1 _ _)).later hb
  have hu := blk_after hb
  obtain ⟨ku, hku⟩ : ∃ k, k = W5.heap.size := ⟨_, rfl⟩
  rw [← hku] at hu ⊢
  clear hku
  have hx := blk_past hb Hx.out
  have hy := blk_past hb Hy.out
  have hs := blk_past hb Hs.out
  have ht := blk_past hb Ht.out
  have Hx := Lib.hid hx
  have Hy := Lib.hid hy
  have Hs := Lib.hid hs
  have Ht := Lib.hid ht
  have Hu := Lib.hid hu
  clear hb hx hy hs ht hu HB5
  clear a0 a1 b0 b1 la lb
  obtain ⟨⟨a0, a1⟩, _, la⟩ := hB6.pair 0 rfl
  rw [Nat.add_zero] at a0 a1 la
  obtain ⟨⟨b0, b1⟩, _, lb⟩ := hB6.pair 1 rfl
  have HB6 := Lib.hid hB6
  clear hB6
  go_upto_region 9 with fail
  have hB7 := HB6.out.later (bl1 W6 (.cells #[.int .i64 tn, .int .i64 td] 37))
  have hv := heap_alloc_new W6 (.cells #[.int .i64 tn, .int .i64 td] 37)
  have hx := blk_on (bl1 W6 (.cells #[.int .i64 tn, .int .i64 td] 37)) Hx.out
  have hy := blk_on (bl1 W6 (.cells #[.int .i64 tn, .int .i64 td] 37)) Hy.out
  have hs := blk_on (bl1 W6 (.cells #[.int .i64 tn, .int .i64 td] 37)) Hs.out
  have ht := blk_on (bl1 W6 (.cells #[.int .i64 tn, .int .i64 td] 37)) Ht.out
  have hu := blk_on (bl1 W6 (.cells #[.int .i64 tn, .int .i64 td] 37)) Hu.out
  generalize W6.alloc (.cells #[.int .i64 tn, .int .i64 td] 37) = U at *
  obtain ⟨kv, hkv⟩ : ∃ k, k = W6.heap.size := ⟨_, rfl⟩
  rw [← hkv] at hv ⊢
  clear a0 a1 b0 b1 la lb
  obtain ⟨⟨a0, a1⟩, _, la⟩ := hB7.pair 0 rfl
  rw [Nat.add_zero] at a0 a1 la
  obtain ⟨⟨b0, b1⟩, _, lb⟩ := hB7.pair 1 rfl
  obtain ⟨x0, x1⟩ := cell_pair hx
  obtain ⟨y0, y1⟩ := cell_pair hy
  obtain ⟨s0, s1⟩ := cell_pair hs
  obtain ⟨t0, t1⟩ := cell_pair ht
  obtain ⟨u0, u1⟩ := cell_pair hu
  obtain ⟨v0, v1⟩ := cell_pair hv
  have HBw := Lib.hid hB7.1
  clear hkv hB7 HB6 hx hy hs ht hu hv Hx Hy Hs Ht Hu
  go_region_held3 (fun w' => w'.cell? ⟨w.heap.size, 0, none⟩ = some (.int .i64 n1) ∧ w'.cell? ⟨w.heap.size, 1, none⟩ = some (.int .i64 d1) ∧ w'.cell? ⟨w.heap.size + 1, 0, none⟩ = some (.int .i64 n2) ∧ w'.cell? ⟨w.heap.size + 1, 1, none⟩ = some (.int .i64 d2) ∧ w'.cell? ⟨kx, 0, none⟩ = some (.int .i64 xn) ∧ w'.cell? ⟨kx, 1, none⟩ = some (.int .i64 xd) ∧ w'.cell? ⟨ky, 0, none⟩ = some (.int .i64 xn) ∧ w'.cell? ⟨ky, 1, none⟩ = some (.int .i64 xd) ∧ w'.cell? ⟨ks, 0, none⟩ = some (.int .i64 sn) ∧ w'.cell? ⟨ks, 1, none⟩ = some (.int .i64 sd) ∧ w'.cell? ⟨kt, 0, none⟩ = some (.int .i64 sn) ∧ w'.cell? ⟨kt, 1, none⟩ = some (.int .i64 sd) ∧ w'.cell? ⟨ku, 0, none⟩ = some (.int .i64 tn) ∧ w'.cell? ⟨ku, 1, none⟩ = some (.int .i64 td) ∧ w'.cell? ⟨kv, 0, none⟩ = some (.int .i64 tn) ∧ w'.cell? ⟨kv, 1, none⟩ = some (.int .i64 td) ∧ Below w.heap.size w w') ((first | exact keepL hb (by assumption) | exact ⟨a0, a1, b0, b1, x0, x1, y0, y1, s0, s1, t0, t1, u0, u1, v0, v1, HBw.out.drew⟩ | go_keep))
    (first
      | (go_at_call 22; (with_reducible refine (hR _).mono ?_); rintro e u1 ⟨rfl, hb⟩)
      | (go_at_call 23; (with_reducible refine (hR' _).mono ?_); rintro e u2 ⟨rfl, hb⟩)
      | (go_at_call 24; (with_reducible refine (hC _).mono ?_); rintro e u3 ⟨rfl, hb⟩)
      | (go_at_call 25; (with_reducible refine (hC' _).mono ?_); rintro e u4 ⟨rfl, hb⟩; have hk := Lib.hid ((keepL hb (by assumption)).2.2.2.2.2.2.2.2.2.2.2.2.2.2.2.2)))
  go_wp2
  go_ret
  exact ⟨rfl, hk.out⟩
theorem ratios_main (p q : Int × Int) (num den : Int) (w : World) (hp : R64 p) (hq : R64 q) (hn : I64n num) (hd : I64n den) :
    Calls Try.prog 4 #[rv p, rv q, .int .i64 num, .int .i64 den] w fun e w' => e = .returned (.bool true) ∧ Below w.heap.size w w' :=
  ratios_walk p.1 p.2 q.1 q.2 num den _ _ _ _ _ _ _ _ _ _ _ w (fun w => ratio_any num den w hn hd) (fun w => rratio_any num den w hn hd) (fun w => sum_any p q w hp hq) (fun w => rsum_any p q w hp hq)
    (fun w => times_any p num w hp hn) (fun w => rtim_any p num w hp hn) (fun w => right_any p w hp) (fun w => rright_any p w hp) (fun w => compare_any p q w hp hq) (fun w => rcmp_any p q w hp hq)
end Go.Proofs.Ythkcpaanegjodaa
