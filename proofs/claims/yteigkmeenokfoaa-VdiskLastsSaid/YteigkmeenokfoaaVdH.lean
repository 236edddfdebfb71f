
/- A file comes into the map, or goes. -/
import Derived.Test.YteigkmeenokfoaaVdG
namespace Go.Proofs.Yteigkmeenokfoaa.Vd
open Go.RowKit Go.Proofs.Yteigkmeenokfoaa VdM Go.Maps

section
variable {w w' : World} {F : Nat → Prop} {d m : Nat} {D : MD} {V : Name → Value} {s : Dsk}
/-- the map's datum, behind a file that has come -/
def putD (D : MD) (n : Name) (v : Value) (f : Fil) : MD := D.put (keyS n) (.held (fileV v f.syn))
theorem At.stored (h : At w F d m D V s) {n : Name} {f : Fil} {v : Value} {nn : Nat} (hrow : ByteRow w v f.bytes) (hap : ∀ n' f', n' ≠ n → lkF s.fs n' = some f' → ∀ g, v.ownBlock = some g → (V n').ownBlock ≠ some g)
    (hok : Ok { s with fs := ptF n f s.fs }) (hg : w.grownBy w' (some m)) (ho : Own w' m nn (putD D n v f)) :
    At w' (fun b => F b ∨ v.ownBlock = some b) d m (putD D n v f) (updV V n v) { s with fs := ptF n f s.fs } := by
  have hrep := h.rep.put n v f
  have hm : m < w.heap.size := h.lt m h.fm
  have hmv : v.ownBlock ≠ some m := fun e => by
    obtain ⟨cur, hc⟩ := hrow.blk e
    obtain ⟨es, clock, hb, _⟩ := h.own
    rw [hb] at hc
    cases hc
  have hst : ∀ (u : Value) (l : List UInt8), ByteRow w u l → u.ownBlock ≠ some m → ByteRow w' u l := fun u l hu hne => hu.stay fun g hgu => hg.block g (hu.lt hgu) (fun e => hne (by rw [hgu, e]))
  refine ⟨(hg.block d h.dlt (fun e => h.md (by injection e with e; exact e.symm))).trans h.ob, ?_, hrep, fun n' f' hl => ?_, fun n1 f1 n2 f2 hl1 hl2 hne g hg1 => ?_, .inl h.fd, .inl h.fm, fun n' f' hl g hgg => ?_, fun b hb => ?_, hok⟩
  · have := own_exact ho
    rw [size_rep ho hrep hok.rise] at this
    exact this
  · by_cases e : n' = n
    · subst e
      rw [look_put_same] at hl
      injection hl with hl
      subst hl
      rw [updV_same]
      exact hst v _ hrow hmv
    · have hl' : lkF s.fs n' = some f' := by rw [← look_put_other f e]; exact hl
      rw [updV_other V v e]
      exact hst _ _ (h.row n' f' hl') (fun e2 => (h.gd hl' e2).2 rfl)
  · by_cases e1 : n1 = n
    · subst e1
      have hne2 : n2 ≠ n1 := fun e => hne e.symm
      have hl2' : lkF s.fs n2 = some f2 := by rw [← look_put_other f hne2]; exact hl2
      rw [updV_same] at hg1
      rw [updV_other V v hne2]
      exact hap n2 f2 hne2 hl2' g hg1
    · have hl1' : lkF s.fs n1 = some f1 := by rw [← look_put_other f e1]; exact hl1
      rw [updV_other V v e1] at hg1
      by_cases e2 : n2 = n
      · subst e2
        rw [updV_same]
        exact fun hv => hap n1 f1 e1 hl1' g hv hg1
      · have hl2' : lkF s.fs n2 = some f2 := by rw [← look_put_other f e2]; exact hl2
        rw [updV_other V v e2]
        exact h.apart n1 f1 n2 f2 hl1' hl2' hne g hg1
  · by_cases e : n' = n
    · subst e
      rw [updV_same] at hgg
      exact .inr hgg
    · have hl' : lkF s.fs n' = some f' := by rw [← look_put_other f e]; exact hl
      rw [updV_other V v e] at hgg
      exact .inl (h.fv n' f' hl' g hgg)
  · refine Nat.lt_of_lt_of_le ?_ hg.size
    rcases hb with hb | hb
    · exact h.lt b hb
    · exact hrow.lt hb
theorem At.dropped (h : At w F d m D V s) {n : Name} {nn : Nat} (hok : Ok { s with fs := dlF n s.fs }) (hg : w.grownBy w' (some m)) (ho : Own w' m nn (D.del (keyS n))) :
    At w' F d m (D.del (keyS n)) V { s with fs := dlF n s.fs } := by
  have hrep := h.rep.del n
  have hsub : ∀ n' f', lkF (dlF n s.fs) n' = some f' → lkF s.fs n' = some f' := fun n' f' hl => by
    by_cases e : n' = n
    · subst e
      rw [look_del_same] at hl
      cases hl
    · rw [← look_del_other e]
      exact hl
  refine ⟨(hg.block d h.dlt (fun e => h.md (by injection e with e; exact e.symm))).trans h.ob, ?_, hrep, fun n' f' hl => ?_, fun n1 f1 n2 f2 hl1 hl2 => h.apart n1 f1 n2 f2 (hsub _ _ hl1) (hsub _ _ hl2), h.fd, h.fm, fun n' f' hl => h.fv n' f' (hsub _ _ hl), fun b hb => Nat.lt_of_lt_of_le (h.lt b hb) hg.size, hok⟩
  · have := own_exact ho
    rw [size_rep ho hrep hok.rise] at this
    exact this
  · have hl' := hsub n' f' hl
    have hr := h.row n' f' hl'
    exact hr.stay fun g hgu => hg.block g (hr.lt hgu) (fun e => by injection e with e; exact (h.gd hl' hgu).2 e)
end
theorem put_run {w : World} {F : Nat → Prop} {d m : Nat} {D : MD} {V : Name → Value} {s : Dsk} (h : At w F d m D V s) (nm : ByteArray) (hn : nm.size ≤ 1000000000) (p : Option Addr) (n c : Nat) (f : Fil) :
    ∃ w' nn, (Instr.mapUpdate 44 (.map (some m)) (.string nm) (fileV (.slice p n c) f.syn)).run Try.prog w = .ok () w' ∧ Own w' m nn (putD D nm.data.toList (.slice p n c) f) ∧ w.grownBy w' (some m) := by
  have hm := h.ok.most
  obtain ⟨w', h1, h2, h3⟩ := World.ownsMap.store h.own key_law Try.underlying44 (by unfold maxLen; omega) (key_is nm hn) (fileElem_mk p n c f.syn)
  exact ⟨w', _, h1, h2, h3.grown⟩
set_option maxHeartbeats 2000000 in
set_option maxRecDepth 100000 in
theorem put_any (w : World) (F : Nat → Prop) (d m : Nat) (D : MD) (V : Name → Value) (s : Dsk) (h : At w F d m D V s) (nm : ByteArray) (hn : nm.size ≤ 1000000) (p : Option Addr) (n c : Nat) (f : Fil) (hrow : ByteRow w (.slice p n c) f.bytes)
    (hap : ∀ n' f', n' ≠ nm.data.toList → lkF s.fs n' = some f' → ∀ g, (Value.slice p n c).ownBlock = some g → (V n').ownBlock ≠ some g) (hok : Ok { s with fs := ptF nm.data.toList f s.fs }) :
    Calls Try.prog 22 #[.pointer (some ⟨d, 0, none⟩), .string nm, fileV (.slice p n c) f.syn] w fun e w' => e = .returned (.tuple #[]) ∧ Turned (fun b => b = m) w w' ∧ At w' (fun b => F b ∨ (Value.slice p n c).ownBlock = some b) d m (putD D nm.data.toList (.slice p n c) f) (updV V nm.data.toList (.slice p n c)) { s with fs := ptF nm.data.toList f s.fs } := by
  obtain ⟨c0, c1, c2, c3, c4, c5⟩ := h.cells
  have hdl := h.dlt
  obtain ⟨sy, hsy⟩ : ∃ x : Int, x = (f.syn : Int) := ⟨_, rfl⟩
  have hBX := pl1 w (.cells #[.slice p n c, .int .i64 sy] 56)
  have hX : FileAt (w.alloc (.cells #[.slice p n c, .int .i64 sy] 56)) w.heap.size (.slice p n c) sy := heap_alloc_new w (.cells #[.slice p n c, .int .i64 sy] 56)
  have y1 := (hBX.cell (p := ⟨d, 1, none⟩) hdl).trans c1
  have hAt := h.later hBX
  have hrow1 := hrow.stay (w' := w.alloc (.cells #[.slice p n c, .int .i64 sy] 56)) fun g hg => hBX.block g (hrow.lt hg)
  have hds : d < (w.alloc (.cells #[.slice p n c, .int .i64 sy] 56)).heap.size := by simp; omega
  have hxs : w.heap.size < (w.alloc (.cells #[.slice p n c, .int .i64 sy] 56)).heap.size := by simp
  rw [← hsy]
  obtain ⟨X, hXE⟩ : ∃ X, X = w.heap.size := ⟨_, rfl⟩
  have HBX := Lib.hid hBX
  have HSY := Lib.hid hsy
  clear c0 c1 c2 c3 c4 c5 h hdl hrow hBX hsy
  go_enter Try.func22, Try.ntmps22
  go_wp2
  rw [← hXE] at hX hxs ⊢
  generalize w.alloc (.cells #[.slice p n c, .int .i64 sy] 56) = U at hX hds hxs y1 hAt hrow1 HBX ⊢
  obtain ⟨x0, x1, e0, e1⟩ := file_cells hX
  have HC := Lib.hid (clone_any nm U.drew (by omega))
  have HAT := Lib.hid hAt
  have HROW := Lib.hid hrow1
  have HAP := Lib.hid hap
  have HOK := Lib.hid hok
  have HXE := Lib.hid hXE
  clear hAt hrow1 hap hok hX e0 e1 hXE
  go_region_with (go_at_call 36; ((with_reducible refine HC.out.mono ?_); rintro e w2 ⟨rfl, hb2⟩; have hb3 := (Below.refl U.heap.size U).drew.trans hb2; have z1 := (hb3.cell (p := ⟨d, 1, none⟩) hds).trans y1; have z2 := (hb3.cell (p := ⟨X, 0, none⟩) hxs).trans x0; have z3 := (hb3.cell (p := ⟨X, 1, none⟩) hxs).trans x1; have HB3 := Lib.hid hb3; have hA2 := HAT.out.later hb3; obtain ⟨w5, nn, hrun, hown5, hg5⟩ := put_run hA2 nm (by omega) p n c f; rw [← HSY.out] at hrun; have HO5 := Lib.hid hown5; have HG5 := Lib.hid hg5; have HA2 := Lib.hid hA2; clear hb2 hb3 hA2 hown5 hg5))
  all_goals
    go_wp2
    go_end0
    exact ⟨rfl, (Turned.of_below (HBX.out.trans (HB3.out.mono HBX.out.size))).trans (Turned.of_grown HG5.out rfl), HA2.out.stored (HROW.out.stay fun g hg => HB3.out.block g (HROW.out.lt hg)) HAP.out HOK.out HG5.out HO5.out⟩
end Go.Proofs.Yteigkmeenokfoaa.Vd
