
/- The list of a bound: a copy, put in order by a closure. -/
import Derived.Test.YtjdlocmchmeipaaTopH
import Derived.Test.YtjdlocmchmeipaaSortLay
import Derived.Shelf.SlSortCmp.NoneTotal
namespace Go.Proofs.Ytjdlocmchmeipaa
open Go.RowKit Go.Sort

theorem PairRow.prd {w : World} {base : Nat} {v : Value} {l : List (Int × Int)} (h : PairRow w base v l) : Prd w v l := by
  obtain ⟨A, cap, rfl, hc, hA⟩ := h.form
  obtain ⟨A', cap', e, hp⟩ := h.pairs
  injection e with e1 e2 e3
  subst e1
  exact ⟨A, cap, rfl, hc, hA, hp⟩

/-- the world has grown by draws and blocks alone -/
def Gr (w w' : World) : Prop := ∃ q os, w' = grow (w.drewN q) os
theorem keep2 {w : World} {o1 o2 : Obj} {b i : Nat} {u : Value} (hc : w.cell? ⟨b, i, none⟩ = some u) : ((w.alloc o1).alloc o2).cell? ⟨b, i, none⟩ = some u :=
  (((Below.refl w.heap.size w).alloc (Nat.le_refl _) o1).alloc (by simp) o2).cell (p := ⟨b, i, none⟩) (World.block_lt_of_cell? w _ hc) |>.trans hc
theorem Gr.refl (w : World) : Gr w w := ⟨0, #[], by simp [World.drewN_zero]⟩
theorem Gr.alloc {w w' : World} (h : Gr w w') (o : Obj) : Gr w (w'.alloc o) := by
  obtain ⟨q, os, rfl⟩ := h
  exact ⟨q, os ++ #[o], by rw [alloc_eq_grow, grow_grow]⟩
theorem Gr.drew {w w' : World} (h : Gr w w') : Gr w w'.drew := by
  obtain ⟨q, os, rfl⟩ := h
  exact ⟨q + 1, os, rfl⟩

/-- below 0, 0 or above 0 as the closure tells -/
def cmpP (a b : Int × Int) : Int := if TopM.bet a b = true then -1 else if TopM.bet b a = true then 1 else 0
theorem lt_cmpP (a b : Int × Int) : ltOf cmpP a b = TopM.bet a b := by
  unfold ltOf cmpP
  cases h1 : TopM.bet a b with
  | true => simp
  | false =>
    cases h2 : TopM.bet b a <;> simp
theorem swo_cmpP : SWO (ltOf cmpP) where
  irrefl x := by rw [lt_cmpP]; exact TopM.irr x
  trans x y z h1 h2 := by rw [lt_cmpP] at *; exact TopM.tr h1 h2
  ntrans x y z h1 h2 := by rw [lt_cmpP] at *; exact TopM.ntr h1 h2

set_option maxHeartbeats 4000000 in
set_option maxRecDepth 100000 in
theorem closure_any (a b : Int × Int) (x t : Nat) (w : World) (c0 : w.cell? ⟨x, 0, none⟩ = some (.pointer (some ⟨t, 0, none⟩))) (c1 : w.cell? ⟨t, 1, none⟩ = some (.func (.func 32) #[] #[])) :
    Calls Try.prog 38 #[sv a, sv b, .pointer (some ⟨x, 0, none⟩)] w fun e w' => e = .returned (.int .i64 (cmpP a b)) ∧ Gr w w' := by
  have hx := World.block_lt_of_cell? w _ c0
  have ht := World.block_lt_of_cell? w _ c1
  simp only at hx ht
  obtain ⟨a1, a2⟩ := a
  obtain ⟨b1, b2⟩ := b
  have h1 := fun W => better_any (a1, a2) (b1, b2) W
  have h2 := fun W => better_any (b1, b2) (a1, a2) W
  unfold sv at *
  have gW : Gr w ((w.alloc (.cells #[.int .i64 a1, .int .i64 a2] 54)).alloc (.cells #[.int .i64 b1, .int .i64 b2] 54)) := ((Gr.refl w).alloc _).alloc _
  have k0 : ((w.alloc (.cells #[.int .i64 a1, .int .i64 a2] 54)).alloc (.cells #[.int .i64 b1, .int .i64 b2] 54)).cell? ⟨x, 0, none⟩ = some (.pointer (some ⟨t, 0, none⟩)) := keep2 c0
  have k1 : ((w.alloc (.cells #[.int .i64 a1, .int .i64 a2] 54)).alloc (.cells #[.int .i64 b1, .int .i64 b2] 54)).cell? ⟨t, 1, none⟩ = some (.func (.func 32) #[] #[]) := keep2 c1
  have za0 : ((w.alloc (.cells #[.int .i64 a1, .int .i64 a2] 54)).alloc (.cells #[.int .i64 b1, .int .i64 b2] 54)).cell? ⟨w.heap.size, 0, none⟩ = some (.int .i64 a1) := by go_simp
  have za1 : ((w.alloc (.cells #[.int .i64 a1, .int .i64 a2] 54)).alloc (.cells #[.int .i64 b1, .int .i64 b2] 54)).cell? ⟨w.heap.size, 1, none⟩ = some (.int .i64 a2) := by go_simp
  have zb0 : ((w.alloc (.cells #[.int .i64 a1, .int .i64 a2] 54)).alloc (.cells #[.int .i64 b1, .int .i64 b2] 54)).cell? ⟨w.heap.size + 1, 0, none⟩ = some (.int .i64 b1) := by go_simp
  have zb1 : ((w.alloc (.cells #[.int .i64 a1, .int .i64 a2] 54)).alloc (.cells #[.int .i64 b1, .int .i64 b2] 54)).cell? ⟨w.heap.size + 1, 1, none⟩ = some (.int .i64 b2) := by go_simp
  cases hb1 : TopM.bet (a1, a2) (b1, b2) with
  | true =>
    have hc : cmpP (a1, a2) (b1, b2) = -1 := by unfold cmpP; rw [if_pos hb1]
    rw [hc]
    rw [hb1] at h1
    have H1 := Lib.hid h1
    clear h1 h2 hc hb1
    go_enter Try.func38, Try.ntmps38
    go_wp2
    generalize ((w.alloc (.cells #[.int .i64 a1, .int .i64 a2] 54)).alloc (.cells #[.int .i64 b1, .int .i64 b2] 54)) = W at gW k0 k1 za0 za1 zb0 zb1 ⊢
    go_still_tail 6, (by kernel_rfl)
    change wpList _ _ _ _ _ W.drew
    go_wp2_with fail
    refine (H1.out _).mono ?_
    rintro e w3 ⟨rfl, o1, o2, rfl⟩
    go_wp2
    go_ret
    exact ⟨rfl, (gW.drew.alloc _).alloc _⟩
  | false =>
    rw [hb1] at h1
    have H1 := Lib.hid h1
    cases hb2 : TopM.bet (b1, b2) (a1, a2) with
    | true =>
      have hc : cmpP (a1, a2) (b1, b2) = 1 := by unfold cmpP; rw [if_neg (by rw [hb1]; decide), if_pos hb2]
      rw [hc]
      rw [hb2] at h2
      have H2 := Lib.hid h2
      clear h1 h2 hc hb1 hb2
      go_enter Try.func38, Try.ntmps38
      go_wp2
      generalize ((w.alloc (.cells #[.int .i64 a1, .int .i64 a2] 54)).alloc (.cells #[.int .i64 b1, .int .i64 b2] 54)) = W at gW k0 k1 za0 za1 zb0 zb1 ⊢
      go_still_tail 6, (by kernel_rfl)
      change wpList _ _ _ _ _ W.drew
      go_wp2_with fail
      refine (H1.out _).mono ?_
      rintro e w3 ⟨rfl, o1, o2, rfl⟩
      have gV : Gr w ((W.drew.alloc o1).alloc o2) := (gW.drew.alloc o1).alloc o2
      have j0 : ((W.drew.alloc o1).alloc o2).cell? ⟨x, 0, none⟩ = some (.pointer (some ⟨t, 0, none⟩)) := keep2 (w := W.drew) k0
      have j1 : ((W.drew.alloc o1).alloc o2).cell? ⟨t, 1, none⟩ = some (.func (.func 32) #[] #[]) := keep2 (w := W.drew) k1
      have ya0 : ((W.drew.alloc o1).alloc o2).cell? ⟨w.heap.size, 0, none⟩ = some (.int .i64 a1) := keep2 (w := W.drew) za0
      have ya1 : ((W.drew.alloc o1).alloc o2).cell? ⟨w.heap.size, 1, none⟩ = some (.int .i64 a2) := keep2 (w := W.drew) za1
      have yb0 : ((W.drew.alloc o1).alloc o2).cell? ⟨w.heap.size + 1, 0, none⟩ = some (.int .i64 b1) := keep2 (w := W.drew) zb0
      have yb1 : ((W.drew.alloc o1).alloc o2).cell? ⟨w.heap.size + 1, 1, none⟩ = some (.int .i64 b2) := keep2 (w := W.drew) zb1
      clear gW k0 k1 za0 za1 zb0 zb1
      generalize (W.drew.alloc o1).alloc o2 = V at gV j0 j1 ya0 ya1 yb0 yb1 ⊢
      go_wp2
      go_still_tail 6, (by kernel_rfl)
      change wpList _ _ _ _ _ V.drew
      go_wp2_with fail
      refine (H2.out _).mono ?_
      rintro e w3 ⟨rfl, o3, o4, rfl⟩
      go_wp2
      go_ret
      exact ⟨rfl, (gV.drew.alloc _).alloc _⟩
    | false =>
      have hc : cmpP (a1, a2) (b1, b2) = 0 := by unfold cmpP; rw [if_neg (by rw [hb1]; decide), if_neg (by rw [hb2]; decide)]
      rw [hc]
      rw [hb2] at h2
      have H2 := Lib.hid h2
      clear h1 h2 hc hb1 hb2
      go_enter Try.func38, Try.ntmps38
      go_wp2
      generalize ((w.alloc (.cells #[.int .i64 a1, .int .i64 a2] 54)).alloc (.cells #[.int .i64 b1, .int .i64 b2] 54)) = W at gW k0 k1 za0 za1 zb0 zb1 ⊢
      go_still_tail 6, (by kernel_rfl)
      change wpList _ _ _ _ _ W.drew
      go_wp2_with fail
      refine (H1.out _).mono ?_
      rintro e w3 ⟨rfl, o1, o2, rfl⟩
      have gV : Gr w ((W.drew.alloc o1).alloc o2) := (gW.drew.alloc o1).alloc o2
      have j0 : ((W.drew.alloc o1).alloc o2).cell? ⟨x, 0, none⟩ = some (.pointer (some ⟨t, 0, none⟩)) := keep2 (w := W.drew) k0
      have j1 : ((W.drew.alloc o1).alloc o2).cell? ⟨t, 1, none⟩ = some (.func (.func 32) #[] #[]) := keep2 (w := W.drew) k1
      have ya0 : ((W.drew.alloc o1).alloc o2).cell? ⟨w.heap.size, 0, none⟩ = some (.int .i64 a1) := keep2 (w := W.drew) za0
      have ya1 : ((W.drew.alloc o1).alloc o2).cell? ⟨w.heap.size, 1, none⟩ = some (.int .i64 a2) := keep2 (w := W.drew) za1
      have yb0 : ((W.drew.alloc o1).alloc o2).cell? ⟨w.heap.size + 1, 0, none⟩ = some (.int .i64 b1) := keep2 (w := W.drew) zb0
      have yb1 : ((W.drew.alloc o1).alloc o2).cell? ⟨w.heap.size + 1, 1, none⟩ = some (.int .i64 b2) := keep2 (w := W.drew) zb1
      clear gW k0 k1 za0 za1 zb0 zb1
      generalize (W.drew.alloc o1).alloc o2 = V at gV j0 j1 ya0 ya1 yb0 yb1 ⊢
      go_wp2
      go_still_tail 6, (by kernel_rfl)
      change wpList _ _ _ _ _ V.drew
      go_wp2_with fail
      refine (H2.out _).mono ?_
      rintro e w3 ⟨rfl, o3, o4, rfl⟩
      go_wp2
      go_ret
      exact ⟨rfl, (gV.drew.alloc _).alloc _⟩
end Go.Proofs.Ytjdlocmchmeipaa
