
/- Sync, Remove, Rename, walked. -/
import Derived.Test.YteigkmeenokfoaaVdL
namespace Go.Proofs.Yteigkmeenokfoaa.Vd
open Go.RowKit Go.Proofs.Yteigkmeenokfoaa VdM Go.Maps

theorem Dsk.same_fs {s1 s : Dsk} (h : s1.fs = s.fs) : { s1 with fs := s.fs } = s1 := by rw [← h]
theorem nothing_does (w : World) (F X : Nat → Prop) (d m : Nat) (D : MD) (V : Name → Value) (s : Dsk) : Does w F X d m D V s 29 #[] s.fs := by
  refine ⟨enters_of Try.func29 (by kernel_rfl) rfl, ?_⟩
  rintro W s1 hTW h hfs hqu
  refine (nothing_any W).mono ?_
  rintro e W' ⟨rfl, rfl⟩
  rw [Dsk.same_fs hfs]
  exact ⟨rfl, (Went.same ⟨m, D, V, h⟩ (Below.refl _ _)).x X⟩
theorem synced_ok {s1 : Dsk} (h : Ok s1) {n : Name} {f : Fil} (hl : lkF s1.fs n = some f) : Ok { s1 with fs := ptF n (synced f) s1.fs } := by
  have h1 := h.one hl
  have h2 := h.fits
  refine h.put ⟨h1.2.2.1, h1.2.2.2⟩ (Nat.le_refl _) ?_ (by rw [hl]; exact .inl rfl)
  rw [hl]
  simp [lenOf, synced]
  omega
set_option maxHeartbeats 4000000 in
set_option maxRecDepth 100000 in
theorem syncc_any (w : World) (F : Nat → Prop) (d m : Nat) (D : MD) (V : Name → Value) (s : Dsk) (nm : ByteArray) (R B0 B1 : Nat) (p : Option Addr) (k c : Nat) (sy : Int) (f : Fil) (hn : nm.size ≤ 1000000) (hR : FileAt w R (.slice p k c) sy) (b0 : Box w B0 (.pointer (some ⟨d, 0, none⟩))) (b1 : Box w B1 (.string nm)) (nR : ¬ F R) (n0 : ¬ F B0) (n1 : ¬ F B1) (r0 : R ≠ B0) (r1 : R ≠ B1)
    (hl : lkF s.fs nm.data.toList = some f) (hV : V nm.data.toList = .slice p k c) :
    Does w F (fun b => b = R) d m D V s 27 #[.pointer (some ⟨R, 0, none⟩), .pointer (some ⟨B0, 0, none⟩), .pointer (some ⟨B1, 0, none⟩)] (ptF nm.data.toList (synced f) s.fs) := by
  refine ⟨enters_of Try.func27 (by kernel_rfl) rfl, ?_⟩
  rintro W s1 hTW h hfs hqu
  rw [← hfs] at hl ⊢
  have hRl : R < w.heap.size := (Array.getElem?_eq_some_iff.1 hR).1
  have hl0 := World.block_lt_of_cell? w _ b0
  have hl1 := World.block_lt_of_cell? w _ b1
  simp only at hl0 hl1
  have a0 := (hTW.cell (p := ⟨B0, 0, none⟩) hl0 n0).trans b0
  have a1 := (hTW.cell (p := ⟨B1, 0, none⟩) hl1 n1).trans b1
  have hRW : FileAt W R (.slice p k c) sy := (hTW.block R hRl nR).trans hR
  have hrow := h.row _ f hl
  rw [hV] at hrow
  have hk := (slice_bytes hrow).1
  have HS := Lib.hid (fsync_any W R p k c sy hRW)
  have HAT := Lib.hid h
  have HL := Lib.hid hl
  have HV := Lib.hid hV
  have HK := Lib.hid hk
  have HTW := Lib.hid hTW
  have HRL := Lib.hid hRl
  have hz0 : B0 < W.heap.size := Nat.lt_of_lt_of_le hl0 hTW.size
  have hz1 : B1 < W.heap.size := Nat.lt_of_lt_of_le hl1 hTW.size
  have HZ0 := Lib.hid hz0
  have HZ1 := Lib.hid hz1
  have HA0 := Lib.hid a0
  have HA1 := Lib.hid a1
  clear h hl hV hk hrow hTW hR hRW hRl b0 b1 hfs hqu hl0 hl1 hz0 hz1
  go_enter Try.func27, Try.ntmps27
  go_wp2_with fail
  refine HS.out.mono ?_
  rintro e w2 ⟨rfl, hR2, hT2⟩
  have x0 := (hT2.cell (p := ⟨B0, 0, none⟩) HZ0.out (fun e => r0 e.symm)).trans HA0.out
  have x1 := (hT2.cell (p := ⟨B1, 0, none⟩) HZ1.out (fun e => r1 e.symm)).trans HA1.out
  obtain ⟨q0, q1, -, -⟩ := file_cells hR2
  have hA2 : At w2 F d m D V s1 := HAT.out.stay hT2.size fun b hb => hT2.block b (HAT.out.lt b hb) (fun e => nR (e ▸ hb))
  have hrow2 := hA2.row _ f HL.out
  rw [HV.out] at hrow2
  have hP := put_any w2 F d m D V s1 hA2 nm hn p k c (synced f) hrow2 (fun n' f' hne hl' g hg hv => by
    rw [← HV.out] at hg
    exact HAT.out.apart _ f n' f' HL.out hl' (fun e => hne e.symm) g hg hv) (synced_ok HAT.out.ok HL.out)
  rw [show ((synced f).syn : Int) = (k : Int) from by rw [HK.out]; rfl] at hP
  have HP := Lib.hid hP
  have HT2 : Hid (Turned (fun b => F b ∨ b = R) W w2) := Lib.hid (hT2.wide fun b hb => .inr hb)
  clear hP hA2 hrow2 hR2 hT2 a0 a1
  go_wp2_with fail
  refine HP.out.mono ?_
  rintro e w3 ⟨rfl, hT3, hA3⟩
  have HA3 := Lib.hid hA3
  have HT3 := Lib.hid hT3
  clear hA3 hT3
  go_wp2
  go_end0
  exact ⟨rfl, HT2.out.trans (HT3.out.wide fun b hb => .inl (by rw [hb]; exact HAT.out.fm)), _, ⟨m, _, _, HA3.out⟩, fun b hb => hb.elim .inl (fun hh => .inl (HAT.out.fv _ f HL.out b (by rw [HV.out]; exact hh)))⟩
theorem boxes2 (w : World) (v0 v1 : Value) (t0 t1 : TypeId) (W : World) (hW : W = (w.alloc (.cells #[v0] t0)).alloc (.cells #[v1] t1)) : Box W w.heap.size v0 ∧ Box W (w.heap.size + 1) v1 ∧ Below w.heap.size w W ∧ W.heap.size = w.heap.size + 2 := by
  subst hW
  have h0 := heap_alloc_new w (.cells #[v0] t0)
  have h1 := heap_alloc_new (w.alloc (.cells #[v0] t0)) (.cells #[v1] t1)
  have e1 : (w.alloc (.cells #[v0] t0)).heap.size = w.heap.size + 1 := by simp
  rw [e1] at h1
  have g0 := blk_stay (pl1 (w.alloc (.cells #[v0] t0)) (.cells #[v1] t1)) h0
  exact ⟨cell_of_cells g0 rfl, cell_of_cells h1 rfl, (pl1 w _).trans ((pl1 _ _).mono (by simp)), by simp⟩
theorem find_yes {s : Dsk} {n : Name} (h : findE s n = 0) : s.down = false ∧ ∃ f, lkF s.fs n = some f := by
  unfold findE at h
  cases hd : s.down with
  | true => rw [hd] at h; simp at h
  | false =>
    rw [hd] at h
    cases hl : lkF s.fs n with
    | none => rw [hl] at h; simp at h
    | some f => exact ⟨rfl, f, rfl⟩
set_option maxHeartbeats 4000000 in
set_option maxRecDepth 100000 in
theorem sync_any (w : World) (F : Nat → Prop) (d : Nat) (s : Dsk) (h : Is w F d s) (nm : ByteArray) (hn : nm.size ≤ 1000000) (he : s.eff + 1 ≤ 1000000000) :
    Calls Try.prog 9 #[.pointer (some ⟨d, 0, none⟩), .string nm] w fun e w' => e = .returned (.int .i64 (sync s nm.data.toList).2) ∧ Went w w' F d (sync s nm.data.toList).1 := by
  obtain ⟨W, hW⟩ : ∃ W, W = (w.alloc (.cells #[.pointer (some ⟨d, 0, none⟩)] 25)).alloc (.cells #[.string nm] 9) := ⟨_, rfl⟩
  obtain ⟨b0, b1, hbW, hsz⟩ := boxes2 w _ _ _ _ W hW
  have hIW := h.later hbW
  have hlt := h.lt
  have HNF : Hid (∀ R, w.heap.size ≤ R → ¬ F R) := Lib.hid (fun R hR hF => by have := hlt R hF; omega)
  obtain ⟨m, D, V, hA⟩ := hIW
  obtain ⟨hfr, hfs, hfg⟩ := hA.found nm.data.toList
  obtain ⟨p, c, hsh⟩ := hfr.shape
  obtain ⟨k, hk⟩ : ∃ k, k = (getF s nm.data.toList).bytes.length := ⟨_, rfl⟩
  rw [← hk] at hsh
  have hfi := find_any W F d m D V s hA nm (by omega)
  rw [hsh] at hfi
  obtain ⟨sy, hsy⟩ : ∃ x, x = findS s nm.data.toList := ⟨_, rfl⟩
  obtain ⟨en, hen⟩ : ∃ x, x = findE s nm.data.toList := ⟨_, rfl⟩
  rw [← hsy, ← hen] at hfi
  have HFI := Lib.hid hfi
  have HA := Lib.hid hA
  have HBW := Lib.hid hbW
  have HW := Lib.hid hW
  have HSZ := Lib.hid hsz
  have HSM := Lib.hid (fun W' (hb : Below W.heap.size W W') => Went.on (Turned.of_below hbW) (Went.same ⟨m, D, V, hA⟩ hb))
  unfold sync
  rw [← hen]
  by_cases h0 : en = 0
  · rw [if_pos h0]
    have hb : ((en : Int) != 0) = false := by rw [h0]; rfl
    rw [h0] at hen
    obtain ⟨hd, f, hl⟩ := find_yes hen.symm
    have hV : V nm.data.toList = .slice p k c := by
      rw [← hsh]
      unfold findV
      rw [hd, hl]
      rfl
    have hfn : syncD s nm.data.toList = { s with fs := ptF nm.data.toList (synced f) s.fs } := by unfold syncD; rw [hl]; rfl
    have HL := Lib.hid hl
    have HV := Lib.hid hV
    have HFN := Lib.hid hfn
    rw [hfn]
    clear h hlt hA hfr hfs hfg hsh hk hfi hsy hen hbW hW hsz h0 hd hl hV hfn
    go_enter Try.func9, Try.ntmps9
    go_upto_region 1 with fail
    rw [← HW.out]
    go_wp2_with fail
    refine HFI.out.mono ?_
    rintro e w1 ⟨rfl, hb1⟩
    have hz1 : W.heap.size ≤ w1.heap.size := hb1.size
    have hbU : Below W.heap.size W (w1.alloc (.cells #[.slice p k c, .int .i64 sy] 56)) := hb1.trans ((pl1 w1 _).mono hb1.size)
    have hRU : FileAt (w1.alloc (.cells #[.slice p k c, .int .i64 sy] 56)) w1.heap.size (.slice p k c) sy := heap_alloc_new w1 (.cells #[.slice p k c, .int .i64 sy] 56)
    have y0 := (hbU.cell (p := ⟨w.heap.size, 0, none⟩) (by have := HSZ.out; simp only; omega)).trans b0
    have y1 := (hbU.cell (p := ⟨w.heap.size + 1, 0, none⟩) (by have := HSZ.out; simp only; omega)).trans b1
    have hzz := HSZ.out
    have hc := syncc_any _ F d m D V s nm w1.heap.size w.heap.size (w.heap.size + 1) p k c sy f hn hRU y0 y1 (HNF.out _ (by omega)) (HNF.out _ (by omega)) (HNF.out _ (by omega)) (by omega) (by omega) HL.out HV.out
    have HD := Lib.hid (do_any _ F _ d m D V s (HA.out.later hbU) _ _ _ _ _ _ hc (fun _ => nothing_does _ F _ d m D V s) he)
    have HBU := Lib.hid hbU
    have HZ1 := Lib.hid hz1
    clear hb1 hbU hRU hc hzz hz1
    go_wp2_with fail
    refine HD.out.mono ?_
    rintro e w3 ⟨rfl, hw3⟩
    have HW3 := Lib.hid (hw3.went (Turned.of_below (HBW.out.trans (HBU.out.mono HBW.out.size))) (fun b hb => by have h1 := HZ1.out; have h2 := HSZ.out; rw [hb]; omega))
    clear hw3
    go_wp2
    go_ret
    exact ⟨rfl, HW3.out⟩
  · rw [if_neg h0]
    have hb : ((en : Int) != 0) = true := by simpa using h0
    clear h hlt hA hfr hfs hfg hsh hk hfi hsy hen hbW hW hsz h0
    go_enter Try.func9, Try.ntmps9
    go_upto_region 1 with fail
    rw [← HW.out]
    go_wp2_with fail
    refine HFI.out.mono ?_
    rintro e w1 ⟨rfl, hb1⟩
    have HBU := Lib.hid (hb1.trans ((pl1 w1 (.cells #[.slice p k c, .int .i64 sy] 56)).mono hb1.size))
    clear hb1
    go_wp2
    go_ret
    exact ⟨rfl, HSM.out _ HBU.out⟩
end Go.Proofs.Yteigkmeenokfoaa.Vd
