
/- One more is offered where as many are kept as may be. -/
import Derived.Test.YtjdlocmchmeipaaTopF
namespace Go.Proofs.Ytjdlocmchmeipaa
open Go.RowKit

set_option maxHeartbeats 4000000 in
set_option maxRecDepth 100000 in
theorem offer_none (base t : Nat) (v : Value) (h : List (Int × Int)) (p : Int × Int) (w : World) (hx : TopAt w base t 0 v h) :
    Calls Try.prog 35 #[.pointer (some ⟨t, 0, none⟩), sv p] w fun e w' => e = .returned (.bool false) ∧ Below w.heap.size w w' := by
  obtain ⟨A, cap, hv, hcap, hA⟩ := hx.row.form
  obtain ⟨p1, p2⟩ := p
  unfold sv
  obtain ⟨n, hn⟩ : ∃ n, n = h.length := ⟨_, rfl⟩
  have hb1 : Below w.heap.size w (w.alloc (.cells #[.int .i64 p1, .int .i64 p2] 54)) := (Below.refl _ w).alloc (Nat.le_refl _) _
  have x1 := hx.later hb1
  have hd1 : decide ((n : Int) < ((0 : Nat) : Int)) = false := decide_eq_false (by omega)
  have hd2 : decide (n < 0) = false := decide_eq_false (by omega)
  have hw : ∀ W (hW : TopAt W base t 0 v h), _ := fun W hW => worst_no base t 0 v h W hW (by unfold fullB; simp)
  have HW := Lib.hid hw
  have HN := Lib.hid hn
  have HV := Lib.hid hv
  clear hx hn hv hw
  go_enter Try.func35, Try.ntmps35
  go_wp2
  generalize w.alloc (.cells #[.int .i64 p1, .int .i64 p2] 54) = w1 at hb1 x1 ⊢
  have c0 := x1.c0
  have c2 := x1.c2
  rw [HV.out, ← HN.out] at c2
  go_quiet (fail)
  have x2 := x1.drewN nq
  have hb2 := bdrewN hb1 nq
  clear x1 hb1 c0 c2
  generalize w1.drewN nq = w2 at x2 hb2 ⊢
  go_wp2_with fail
  refine (HW.out _ x2).mono ?_
  rintro e w3 ⟨rfl, hb3⟩
  have hb := hb2.trans (hb3.mono hb2.size)
  unfold sv
  clear hb2 hb3 x2
  go_wp2
  go_quiet (fail)
  go_wp2
  go_ret
  exact ⟨rfl, bdrewN (hb.alloc hb.size _) _⟩

theorem keep2c {w : World} {o1 o2 : Obj} {b i : Nat} {u : Value} (hc : w.cell? ⟨b, i, none⟩ = some u) (h : b < w.heap.size) : ((w.alloc o1).alloc o2).drew.cell? ⟨b, i, none⟩ = some u := ((((Below.refl w.heap.size w).alloc (Nat.le_refl _) o1).alloc (by simp) o2).drew.cell (p := ⟨b, i, none⟩) h).trans hc
set_option maxHeartbeats 4000000 in
set_option maxRecDepth 100000 in
theorem offer_no (base t k : Nat) (v : Value) (h : List (Int × Int)) (p : Int × Int) (w : World) (hx : TopAt w base t k v h) (hk : 0 < k) (hl : k ≤ h.length) (hbt : TopM.bet p (TopM.at_ h 0) = false) :
    Calls Try.prog 35 #[.pointer (some ⟨t, 0, none⟩), sv p] w fun e w' => e = .returned (.bool false) ∧ Below w.heap.size w w' := by
  obtain ⟨A, cap, hv, hcap, hA⟩ := hx.row.form
  obtain ⟨p1, p2⟩ := p
  obtain ⟨n, hn⟩ : ∃ n, n = h.length := ⟨_, rfl⟩
  have hd1 : decide ((n : Int) < (k : Int)) = false := decide_eq_false (by omega)
  have hd2 : decide (n < k) = false := decide_eq_false (by omega)
  have hw : ∀ W (hW : TopAt W base t k v h), _ := fun W hW => worst_yes base t k v h W hW (by unfold fullB; simp; omega)
  have hbet := fun W => better_any (p1, p2) (TopM.at_ h 0) W
  rw [hbt] at hbet
  obtain ⟨⟨q1, q2⟩, hq⟩ : ∃ q, q = TopM.at_ h 0 := ⟨_, rfl⟩
  rw [← hq] at hw hbet
  unfold sv at *
  have hb1 : Below w.heap.size w (w.alloc (.cells #[.int .i64 p1, .int .i64 p2] 54)) := (Below.refl _ w).alloc (Nat.le_refl _) _
  have x1 := hx.later hb1
  have z0 : (w.alloc (.cells #[.int .i64 p1, .int .i64 p2] 54)).cell? ⟨w.heap.size, 0, none⟩ = some (.int .i64 p1) := by go_simp
  have z1 : (w.alloc (.cells #[.int .i64 p1, .int .i64 p2] 54)).cell? ⟨w.heap.size, 1, none⟩ = some (.int .i64 p2) := by go_simp
  have hs1 : w.heap.size < (w.alloc (.cells #[.int .i64 p1, .int .i64 p2] 54)).heap.size := by simp
  have HW := Lib.hid hw
  have HN := Lib.hid hn
  have HV := Lib.hid hv
  have HBT := Lib.hid hbet
  clear hx hn hv hw hbet hbt hq hk hl
  go_enter Try.func35, Try.ntmps35
  go_wp2
  obtain ⟨B, hB⟩ : ∃ B, B = w.heap.size := ⟨_, rfl⟩
  rw [← hB] at z0 z1 hs1 ⊢
  have HB := Lib.hid hB
  generalize w.alloc (.cells #[.int .i64 p1, .int .i64 p2] 54) = w1 at hb1 x1 z0 z1 hs1 ⊢
  clear hB
  have c0 := x1.c0
  have c2 := x1.c2
  rw [HV.out, ← HN.out] at c2
  go_quiet (fail)
  have x2 := x1.drewN nq
  have hb2 := bdrewN hb1 nq
  have s2 : B < (w1.drewN nq).heap.size := hs1
  have y0 : (w1.drewN nq).cell? ⟨B, 0, none⟩ = some (.int .i64 p1) := z0
  have y1 : (w1.drewN nq).cell? ⟨B, 1, none⟩ = some (.int .i64 p2) := z1
  clear x1 hb1 z0 z1 c0 c2 hs1
  generalize w1.drewN nq = w2 at x2 hb2 y0 y1 s2 ⊢
  go_wp2_with fail
  refine (HW.out _ x2).mono ?_
  rintro e w3 ⟨rfl, hb3⟩
  have hb := hb2.trans (hb3.mono hb2.size)
  have y0 := (hb3.cell (p := ⟨B, 0, none⟩) s2).trans y0
  have y1 := (hb3.cell (p := ⟨B, 1, none⟩) s2).trans y1
  have x3 := x2.later hb3
  have s3 : B < w3.heap.size := Nat.lt_of_lt_of_le s2 hb3.size
  clear hb2 hb3 x2 s2
  have hs4 := x3.lt
  have c1 : w3.cell? ⟨t, 1, none⟩ = some (.func (.func 32) #[] #[]) := x3.c1
  have hb4 : Below w3.heap.size w3 (w3.alloc (.cells #[.int .i64 q1, .int .i64 q2] 54)) := (Below.refl _ w3).alloc (Nat.le_refl _) _
  have u0 : (w3.alloc (.cells #[.int .i64 q1, .int .i64 q2] 54)).cell? ⟨w3.heap.size, 0, none⟩ = some (.int .i64 q1) := by go_simp
  have u1 : (w3.alloc (.cells #[.int .i64 q1, .int .i64 q2] 54)).cell? ⟨w3.heap.size, 1, none⟩ = some (.int .i64 q2) := by go_simp
  have s4 : w3.heap.size < (w3.alloc (.cells #[.int .i64 q1, .int .i64 q2] 54)).heap.size := by simp
  go_wp2
  obtain ⟨C, hC⟩ : ∃ C, C = w3.heap.size := ⟨_, rfl⟩
  rw [← hC] at u0 u1 s4 ⊢
  have HC := Lib.hid hC
  have b0 := (hb4.cell (p := ⟨B, 0, none⟩) s3).trans y0
  have b1 := (hb4.cell (p := ⟨B, 1, none⟩) s3).trans y1
  have x4 := x3.later hb4
  have hbw := hb.trans (hb4.mono hb.size)
  have s5 : B < (w3.alloc (.cells #[.int .i64 q1, .int .i64 q2] 54)).heap.size := Nat.lt_of_lt_of_le s3 hb4.size
  clear y0 y1 x3 hb hb4 c1 s3 hC hs4
  generalize w3.alloc (.cells #[.int .i64 q1, .int .i64 q2] 54) = w4 at u0 u1 s4 b0 b1 x4 hbw s5 ⊢
  have hs4 := x4.lt
  have c1 : w4.cell? ⟨t, 1, none⟩ = some (.func (.func 32) #[] #[]) := x4.c1
  have HX4 := Lib.hid x4
  clear x4
  go_region_held3 (fun w' => w'.cell? ⟨t, 1, none⟩ = some (.func (.func 32) #[] #[]) ∧ w'.cell? ⟨B, 0, none⟩ = some (.int .i64 p1) ∧ w'.cell? ⟨B, 1, none⟩ = some (.int .i64 p2) ∧ w'.cell? ⟨C, 0, none⟩ = some (.int .i64 q1) ∧ w'.cell? ⟨C, 1, none⟩ = some (.int .i64 q2))
    (first
      | exact ⟨keep2c c1 hs4, keep2c b0 s5, keep2c b1 s5, keep2c u0 s4, keep2c u1 s4⟩
      | go_keep)
    ((first | ((with_reducible refine (HBT.out _).mono ?_); rintro e w5 ⟨rfl, o1, o2, rfl⟩)))
  have hbz : Below w.heap.size w ((w4.alloc o1).alloc o2).drew := ((hbw.alloc hbw.size o1).alloc (Nat.le_trans hbw.size (by simp)) o2).drew
  generalize ((w4.alloc o1).alloc o2).drew = w5 at hbz ⊢
  go_wp2
  go_ret
  exact ⟨rfl, hbz⟩
set_option maxHeartbeats 4000000 in
set_option maxRecDepth 100000 in
theorem offer_yes (base t k : Nat) (v : Value) (h : List (Int × Int)) (p : Int × Int) (w : World) (hx : TopAt w base t k v h) (hk : 0 < k) (hl : k ≤ h.length) (hh : TopM.Heap h) (hl6 : h.length ≤ 1000000) (hbt : TopM.bet p (TopM.at_ h 0) = true) :
    Calls Try.prog 35 #[.pointer (some ⟨t, 0, none⟩), sv p] w fun e w' => e = .returned (.bool true) ∧ ∃ h', TopAt w' base t k v h' ∧ TopM.Heap h' ∧ h'.Perm (h.set 0 p) ∧ Only (own2 t v) w w' := by
  obtain ⟨A, cap, hv, hcap, hA⟩ := hx.row.form
  obtain ⟨p1, p2⟩ := p
  obtain ⟨n, hn⟩ : ∃ n, n = h.length := ⟨_, rfl⟩
  have hd1 : decide ((n : Int) < (k : Int)) = false := decide_eq_false (by omega)
  have hd2 : decide (n < k) = false := decide_eq_false (by omega)
  have hw : ∀ W (hW : TopAt W base t k v h), _ := fun W hW => worst_yes base t k v h W hW (by unfold fullB; simp; omega)
  have hbet := fun W => better_any (p1, p2) (TopM.at_ h 0) W
  rw [hbt] at hbet
  obtain ⟨⟨q1, q2⟩, hq⟩ : ∃ q, q = TopM.at_ h 0 := ⟨_, rfl⟩
  rw [← hq] at hw hbet
  unfold sv at *
  have hb1 : Below w.heap.size w (w.alloc (.cells #[.int .i64 p1, .int .i64 p2] 54)) := (Below.refl _ w).alloc (Nat.le_refl _) _
  have x1 := hx.later hb1
  have z0 : (w.alloc (.cells #[.int .i64 p1, .int .i64 p2] 54)).cell? ⟨w.heap.size, 0, none⟩ = some (.int .i64 p1) := by go_simp
  have z1 : (w.alloc (.cells #[.int .i64 p1, .int .i64 p2] 54)).cell? ⟨w.heap.size, 1, none⟩ = some (.int .i64 p2) := by go_simp
  have hs1 : w.heap.size < (w.alloc (.cells #[.int .i64 p1, .int .i64 p2] 54)).heap.size := by simp
  have HW := Lib.hid hw
  have HN := Lib.hid hn
  have HV := Lib.hid hv
  have HBT := Lib.hid hbet
  have HL := Lib.hid hl6
  have hn0 : 0 < n := by omega
  clear hx hn hv hw hbet hbt hq hk hl hl6
  go_enter Try.func35, Try.ntmps35
  go_wp2
  obtain ⟨B, hB⟩ : ∃ B, B = w.heap.size := ⟨_, rfl⟩
  rw [← hB] at z0 z1 hs1 ⊢
  have HB := Lib.hid hB
  generalize w.alloc (.cells #[.int .i64 p1, .int .i64 p2] 54) = w1 at hb1 x1 z0 z1 hs1 ⊢
  clear hB
  have c0 := x1.c0
  have c2 := x1.c2
  rw [HV.out, ← HN.out] at c2
  go_quiet (fail)
  have x2 := x1.drewN nq
  have hb2 := bdrewN hb1 nq
  have s2 : B < (w1.drewN nq).heap.size := hs1
  have y0 : (w1.drewN nq).cell? ⟨B, 0, none⟩ = some (.int .i64 p1) := z0
  have y1 : (w1.drewN nq).cell? ⟨B, 1, none⟩ = some (.int .i64 p2) := z1
  clear x1 hb1 z0 z1 c0 c2 hs1
  generalize w1.drewN nq = w2 at x2 hb2 y0 y1 s2 ⊢
  go_wp2_with fail
  refine (HW.out _ x2).mono ?_
  rintro e w3 ⟨rfl, hb3⟩
  have hb := hb2.trans (hb3.mono hb2.size)
  have y0 := (hb3.cell (p := ⟨B, 0, none⟩) s2).trans y0
  have y1 := (hb3.cell (p := ⟨B, 1, none⟩) s2).trans y1
  have x3 := x2.later hb3
  have s3 : B < w3.heap.size := Nat.lt_of_lt_of_le s2 hb3.size
  clear hb2 hb3 x2 s2
  have hs4 := x3.lt
  have c1 : w3.cell? ⟨t, 1, none⟩ = some (.func (.func 32) #[] #[]) := x3.c1
  have hb4 : Below w3.heap.size w3 (w3.alloc (.cells #[.int .i64 q1, .int .i64 q2] 54)) := (Below.refl _ w3).alloc (Nat.le_refl _) _
  have u0 : (w3.alloc (.cells #[.int .i64 q1, .int .i64 q2] 54)).cell? ⟨w3.heap.size, 0, none⟩ = some (.int .i64 q1) := by go_simp
  have u1 : (w3.alloc (.cells #[.int .i64 q1, .int .i64 q2] 54)).cell? ⟨w3.heap.size, 1, none⟩ = some (.int .i64 q2) := by go_simp
  have s4 : w3.heap.size < (w3.alloc (.cells #[.int .i64 q1, .int .i64 q2] 54)).heap.size := by simp
  go_wp2
  obtain ⟨C, hC⟩ : ∃ C, C = w3.heap.size := ⟨_, rfl⟩
  rw [← hC] at u0 u1 s4 ⊢
  have HC := Lib.hid hC
  have b0 := (hb4.cell (p := ⟨B, 0, none⟩) s3).trans y0
  have b1 := (hb4.cell (p := ⟨B, 1, none⟩) s3).trans y1
  have x4 := x3.later hb4
  have hbw := hb.trans (hb4.mono hb.size)
  have s5 : B < (w3.alloc (.cells #[.int .i64 q1, .int .i64 q2] 54)).heap.size := Nat.lt_of_lt_of_le s3 hb4.size
  clear y0 y1 x3 hb hb4 c1 s3 hC hs4
  generalize w3.alloc (.cells #[.int .i64 q1, .int .i64 q2] 54) = w4 at u0 u1 s4 b0 b1 x4 hbw s5 ⊢
  have hs4 := x4.lt
  have c1 : w4.cell? ⟨t, 1, none⟩ = some (.func (.func 32) #[] #[]) := x4.c1
  have HX4 := Lib.hid x4
  clear x4
  go_region_held3 (fun w' => w'.cell? ⟨t, 1, none⟩ = some (.func (.func 32) #[] #[]) ∧ w'.cell? ⟨B, 0, none⟩ = some (.int .i64 p1) ∧ w'.cell? ⟨B, 1, none⟩ = some (.int .i64 p2) ∧ w'.cell? ⟨C, 0, none⟩ = some (.int .i64 q1) ∧ w'.cell? ⟨C, 1, none⟩ = some (.int .i64 q2))
    (first
      | exact ⟨keep2c c1 hs4, keep2c b0 s5, keep2c b1 s5, keep2c u0 s4, keep2c u1 s4⟩
      | go_keep)
    ((first | ((with_reducible refine (HBT.out _).mono ?_); rintro e w5 ⟨rfl, o1, o2, rfl⟩)))
  have hbz : Below w.heap.size w ((w4.alloc o1).alloc o2).drew := ((hbw.alloc hbw.size o1).alloc (Nat.le_trans hbw.size (by simp)) o2).drew
  have x5 : TopAt ((w4.alloc o1).alloc o2).drew base t k v h := ((HX4.out.alloc o1).alloc o2).drew
  have e0 : ((w4.alloc o1).alloc o2).drew.cell? ⟨B, 0, none⟩ = some (.int .i64 p1) := keep2c b0 s5
  have e1 : ((w4.alloc o1).alloc o2).drew.cell? ⟨B, 1, none⟩ = some (.int .i64 p2) := keep2c b1 s5
  clear b0 b1 u0 u1 c1 hbw
  generalize ((w4.alloc o1).alloc o2).drew = w5 at hbz x5 e0 e1 ⊢
  obtain ⟨g, cap2, hv2, hbg, hg, hcap2, hfz, hc⟩ := x5.row.cells (by rw [← HN.out]; exact hn0)
  obtain ⟨g0, g1⟩ := hc 0 (by rw [← HN.out]; exact hn0)
  rw [Nat.zero_mul] at g0 g1
  have f0 := hfz 0
  have f1 := hfz 1
  have c2 := x5.c2
  rw [hv2, ← HN.out] at c2
  have hn0' : (0 : Int) < (n : Int) := by omega
  have HV2 := Lib.hid hv2
  have HX5 := Lib.hid x5
  clear hc hfz hv2 x5
  go_wp2
  go_region
  all_goals
    have hx6 := HX5.out.set_ HV2.out 0 (p1, p2) (by rw [← HN.out]; exact hn0)
    have hS : own2 t v g := Or.inr (by rw [HV2.out]; rfl)
    have o6 := (((Only.of_below (own2 t v) hbz).set_ hS 0 (.int .i64 p1)).set_ hS 1 (.int .i64 p2)).drew
    have hx6d := hx6.drew
    rw [Nat.zero_mul, Nat.zero_add] at hx6d
    clear hx6 c2 f0 f1 g0 g1 e0 e1
    generalize ((w5.setCell ⟨g, 0, none⟩ (.int .i64 p1)).setCell ⟨g, 1, none⟩ (.int .i64 p2)).drew = w6 at hx6d o6 ⊢
    have hdn := TopM.dn_start hh (p1, p2) (by rw [← HN.out]; exact hn0)
    have hsk := sink_any base t k v (h.set 0 (p1, p2)) n w6 hx6d (by rw [List.length_set, ← HN.out]) hn0 hdn (by have := HL.out; rw [← HN.out] at this; omega)
    have HSK := Lib.hid hsk
    clear hsk hdn hx6d
    go_wp2_with fail
    refine HSK.out.mono ?_
    rintro e w7 ⟨rfl, h', x7, hh7, hp7, o7⟩
    go_wp2
    go_ret
    exact ⟨rfl, h', x7, hh7, hp7, o6.trans o7⟩
end Go.Proofs.Ytjdlocmchmeipaa
