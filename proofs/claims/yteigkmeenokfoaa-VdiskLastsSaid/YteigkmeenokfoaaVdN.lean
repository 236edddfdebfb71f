
/- Remove, Rename, walked. -/
import Derived.Test.YteigkmeenokfoaaVdM
namespace Go.Proofs.Yteigkmeenokfoaa.Vd
open Go.RowKit Go.Proofs.Yteigkmeenokfoaa VdM Go.Maps

theorem del_run {w : World} {F : Nat → Prop} {d m : Nat} {D : MD} {V : Name → Value} {s : Dsk} (h : At w F d m D V s) (nm : ByteArray) (hn : nm.size ≤ 1000000000) :
    ∃ w' nn, (∀ ty, (Builtin.delete_ #[44, 9] ty #[.map (some m), .string nm]).run Try.prog w = .ok (.tuple #[]) w') ∧ Own w' m nn (D.del (keyS nm.data.toList)) ∧ w.grownBy w' (some m) := by
  obtain ⟨w', h1, h2, h3⟩ := World.ownsMap.drop h.own key_law Try.underlying44 (key_is nm hn) 0
  exact ⟨w', _, fun ty => h1, h2, h3.grown⟩
theorem length_del_lt {n : Name} {f : Fil} : ∀ {l : Fils}, lkF l n = some f → (dlF n l).length < l.length
  | [], h => by cases h
  | x :: t, h => by
    rw [lkF] at h
    unfold dlF
    by_cases e : x.1 = n
    · rw [if_pos e]
      have := length_del n t
      rw [List.length_cons]
      omega
    · rw [if_neg e] at h ⊢
      have := length_del_lt h
      rw [List.length_cons, List.length_cons]
      omega
set_option maxHeartbeats 4000000 in
set_option maxRecDepth 100000 in
theorem remc_any (w : World) (F X : Nat → Prop) (d m : Nat) (D : MD) (V : Name → Value) (s : Dsk) (nm : ByteArray) (B0 B1 : Nat) (hn : nm.size ≤ 1000000) (b0 : Box w B0 (.pointer (some ⟨d, 0, none⟩))) (b1 : Box w B1 (.string nm)) (n0 : ¬ F B0) (n1 : ¬ F B1) :
    Does w F X d m D V s 32 #[.pointer (some ⟨B0, 0, none⟩), .pointer (some ⟨B1, 0, none⟩)] (dlF nm.data.toList s.fs) := by
  refine ⟨enters_of Try.func32 (by kernel_rfl) rfl, ?_⟩
  rintro W s1 hTW h hfs hqu
  rw [← hfs]
  have hl0 := World.block_lt_of_cell? w _ b0
  have hl1 := World.block_lt_of_cell? w _ b1
  simp only at hl0 hl1
  have a0 := (hTW.cell (p := ⟨B0, 0, none⟩) hl0 n0).trans b0
  have a1 := (hTW.cell (p := ⟨B1, 0, none⟩) hl1 n1).trans b1
  have c1 := h.cells.2.1
  obtain ⟨w2, nn, hrun, hown, hg⟩ := del_run (w := W.drew) (h.later (Below.refl _ _).drew) nm (by omega)
  have HA2 := Lib.hid ((h.later (Below.refl _ _).drew).dropped (h.ok.del nm.data.toList) hg hown)
  have HT2 : Hid (Turned F W w2) := Lib.hid ((Turned.refl F W).drew.trans (Turned.of_grown hg h.fm))
  clear h hTW hfs hqu b0 b1 hl0 hl1 hown hg
  go_enter Try.func32, Try.ntmps32
  go_wp2
  go_region
  all_goals
    go_end0
    exact ⟨rfl, Went.x ⟨HT2.out, F, ⟨m, _, V, HA2.out⟩, fun b hb => .inl hb⟩ X⟩
set_option maxHeartbeats 4000000 in
set_option maxRecDepth 100000 in
theorem remove_any (w : World) (F : Nat → Prop) (d : Nat) (s : Dsk) (h : Is w F d s) (nm : ByteArray) (hn : nm.size ≤ 1000000) (he : s.eff + 1 ≤ 1000000000) :
    Calls Try.prog 14 #[.pointer (some ⟨d, 0, none⟩), .string nm] w fun e w' => e = .returned (.int .i64 (remove s nm.data.toList).2) ∧ Went w w' F d (remove s nm.data.toList).1 := by
  obtain ⟨W, hW⟩ : ∃ W, W = (w.alloc (.cells #[.pointer (some ⟨d, 0, none⟩)] 25)).alloc (.cells #[.string nm] 9) := ⟨_, rfl⟩
  obtain ⟨b0, b1, hbW, hsz⟩ := boxes2 w _ _ _ _ W hW
  have hIW := h.later hbW
  have hlt := h.lt
  have HNF : Hid (∀ R, w.heap.size ≤ R → ¬ F R) := Lib.hid (fun R hR hF => by have := hlt R hF; omega)
  obtain ⟨m, D, V, hA⟩ := hIW
  obtain ⟨hfr, hfs, hfg⟩ := hA.found nm.data.toList
  obtain ⟨p, c, hsh⟩ := hfr.shape
  obtain ⟨k, hk⟩ : ∃ k, k = (getF s nm.data.toList).bytes.length := ⟨_, rfl⟩
  rw [← hk] at hsh
  have hfi := find_any W F d m D V s hA nm (by omega)
  rw [hsh] at hfi
  obtain ⟨sy, hsy⟩ : ∃ x, x = findS s nm.data.toList := ⟨_, rfl⟩
  obtain ⟨en, hen⟩ : ∃ x, x = findE s nm.data.toList := ⟨_, rfl⟩
  rw [← hsy, ← hen] at hfi
  have HFI := Lib.hid hfi
  have HA := Lib.hid hA
  have HBW := Lib.hid hbW
  have HW := Lib.hid hW
  have HSZ := Lib.hid hsz
  have HSM := Lib.hid (fun W' (hb : Below W.heap.size W W') => Went.on (Turned.of_below hbW) (Went.same ⟨m, D, V, hA⟩ hb))
  unfold remove
  rw [← hen]
  by_cases h0 : en = 0
  · rw [if_pos h0]
    have hb : ((en : Int) != 0) = false := by rw [h0]; rfl
    clear h hlt hA hfr hfs hfg hsh hk hfi hsy hen hbW hW hsz h0
    go_enter Try.func14, Try.ntmps14
    go_upto_region 1 with fail
    rw [← HW.out]
    go_wp2_with fail
    refine HFI.out.mono ?_
    rintro e w1 ⟨rfl, hb1⟩
    have hz1 : W.heap.size ≤ w1.heap.size := hb1.size
    have hbU : Below W.heap.size W (w1.alloc (.cells #[.slice p k c, .int .i64 sy] 56)) := hb1.trans ((pl1 w1 _).mono hb1.size)
    have y0 := (hbU.cell (p := ⟨w.heap.size, 0, none⟩) (by have := HSZ.out; simp only; omega)).trans b0
    have y1 := (hbU.cell (p := ⟨w.heap.size + 1, 0, none⟩) (by have := HSZ.out; simp only; omega)).trans b1
    have hc := remc_any _ F (fun _ => False) d m D V s nm w.heap.size (w.heap.size + 1) hn y0 y1 (HNF.out _ (by omega)) (HNF.out _ (by omega))
    have HD := Lib.hid (do_any _ F _ d m D V s (HA.out.later hbU) _ _ _ _ _ _ hc (fun _ => nothing_does _ F _ d m D V s) he)
    have HBU := Lib.hid hbU
    clear hb1 hbU hc hz1
    go_wp2_with fail
    refine HD.out.mono ?_
    rintro e w3 ⟨rfl, hw3⟩
    have HW3 := Lib.hid (hw3.went (Turned.of_below (HBW.out.trans (HBU.out.mono HBW.out.size))) (fun _ h => h.elim))
    clear hw3
    go_wp2
    go_ret
    exact ⟨rfl, HW3.out⟩
  · rw [if_neg h0]
    have hb : ((en : Int) != 0) = true := by simpa using h0
    clear h hlt hA hfr hfs hfg hsh hk hfi hsy hen hbW hW hsz h0
    go_enter Try.func14, Try.ntmps14
    go_upto_region 1 with fail
    rw [← HW.out]
    go_wp2_with fail
    refine HFI.out.mono ?_
    rintro e w1 ⟨rfl, hb1⟩
    have HBU := Lib.hid (hb1.trans ((pl1 w1 (.cells #[.slice p k c, .int .i64 sy] 56)).mono hb1.size))
    clear hb1
    go_wp2
    go_ret
    exact ⟨rfl, HSM.out _ HBU.out⟩
theorem renamed_ok {s1 : Dsk} (h : Ok s1) {n tn : Name} {f : Fil} (hl : lkF s1.fs n = some f) (ht : nameB tn = true) : Ok { s1 with fs := ptF tn f (dlF n s1.fs) } := by
  have h1 := h.one hl
  have h2 := h.fits
  have h3 := used_del h.rise (n := n)
  have h4 := length_del_lt hl
  have h5 := h.most
  rw [hl] at h3
  simp only [lenOf] at h3
  unfold nameB at ht
  simp only [Bool.and_eq_true, decide_eq_true_eq] at ht
  refine (h.del n).put ht h1.1 ?_ (.inr ?_)
  · show usF (dlF n s1.fs) + f.bytes.length ≤ s1.quota + _
    omega
  · show (dlF n s1.fs).length < 64
    omega
set_option maxHeartbeats 4000000 in
set_option maxRecDepth 100000 in
theorem renc_any (w : World) (F X : Nat → Prop) (d m : Nat) (D : MD) (V : Name → Value) (s : Dsk) (nm tn : ByteArray) (B0 B1 B2 R : Nat) (p : Option Addr) (k c : Nat) (f : Fil) (hn : nm.size ≤ 1000000) (hto : nameB tn.data.toList = true) (hR : FileAt w R (.slice p k c) (f.syn : Int)) (b0 : Box w B0 (.pointer (some ⟨d, 0, none⟩))) (b1 : Box w B1 (.string nm)) (b2 : Box w B2 (.string tn)) (nR : ¬ F R) (n0 : ¬ F B0) (n1 : ¬ F B1) (n2 : ¬ F B2)
    (hl : lkF s.fs nm.data.toList = some f) (hV : V nm.data.toList = .slice p k c) :
    Does w F X d m D V s 31 #[.pointer (some ⟨B0, 0, none⟩), .pointer (some ⟨B1, 0, none⟩), .pointer (some ⟨B2, 0, none⟩), .pointer (some ⟨R, 0, none⟩)] (ptF tn.data.toList f (dlF nm.data.toList s.fs)) := by
  refine ⟨enters_of Try.func31 (by kernel_rfl) rfl, ?_⟩
  rintro W s1 hTW h hfs hqu
  rw [← hfs] at hl ⊢
  have hRl : R < w.heap.size := (Array.getElem?_eq_some_iff.1 hR).1
  have hl0 := World.block_lt_of_cell? w _ b0
  have hl1 := World.block_lt_of_cell? w _ b1
  have hl2 := World.block_lt_of_cell? w _ b2
  simp only at hl0 hl1 hl2
  have a0 := (hTW.cell (p := ⟨B0, 0, none⟩) hl0 n0).trans b0
  have a1 := (hTW.cell (p := ⟨B1, 0, none⟩) hl1 n1).trans b1
  have a2 := (hTW.cell (p := ⟨B2, 0, none⟩) hl2 n2).trans b2
  have hRW : FileAt W R (.slice p k c) (f.syn : Int) := (hTW.block R hRl nR).trans hR
  have c1 := h.cells.2.1
  have hto32 : tn.size ≤ 32 := by
    have h1 := hto
    unfold nameB at h1
    simp only [Bool.and_eq_true, decide_eq_true_eq] at h1
    rw [size_list] at h1
    exact h1.2
  have hfm := h.fm
  obtain ⟨w2, nn, hrun, hown, hg⟩ := del_run (w := W.drew) (h.later (Below.refl _ _).drew) nm (by omega)
  have hA2 := (h.later (Below.refl _ _).drew).dropped (h.ok.del nm.data.toList) hg hown
  have hne : ∀ B, ¬ F B → some B ≠ some m := fun B hB e => hB (by injection e with e; rw [e]; exact hfm)
  have y0 := (cell_of_grown hg (p := ⟨B0, 0, none⟩) (Nat.lt_of_lt_of_le hl0 hTW.size) (hne B0 n0)).trans a0
  have y2 := (cell_of_grown hg (p := ⟨B2, 0, none⟩) (Nat.lt_of_lt_of_le hl2 hTW.size) (hne B2 n2)).trans a2
  have hR2 : FileAt w2 R (.slice p k c) (f.syn : Int) := (hg.block R (Nat.lt_of_lt_of_le hRl hTW.size) (hne R nR)).trans hRW
  obtain ⟨q0, q1, -, -⟩ := file_cells hR2
  have hrow := h.row _ f hl
  have hrow2 : ByteRow w2 (V nm.data.toList) f.bytes := hrow.stay fun g hgv => hg.block g (hrow.lt hgv) (fun e => by injection e with e; exact (h.gd hl hgv).2 e)
  rw [hV] at hrow2
  have hP := put_any w2 F d m _ V _ hA2 tn (by omega) p k c f hrow2 (fun n' f' hne' hl' g hgv hv => by
    rw [← hV] at hgv
    have hnn : n' ≠ nm.data.toList := fun e => by
      rw [e] at hl'
      rw [show lkF (dlF nm.data.toList s1.fs) nm.data.toList = none from look_del_same _ _] at hl'
      cases hl'
    have hl2' : lkF s1.fs n' = some f' := by rw [← look_del_other hnn]; exact hl'
    exact h.apart _ f n' f' hl hl2' (fun e => hnn e.symm) g hgv hv) (renamed_ok h.ok hl hto)
  have HP := Lib.hid hP
  have HT2 : Hid (Turned F W w2) := Lib.hid ((Turned.refl F W).drew.trans (Turned.of_grown hg h.fm))
  have HFM := Lib.hid hfm
  have HOW : Hid (∀ b, (Value.slice p k c).ownBlock = some b → F b) := Lib.hid (fun b hb => h.fv _ f hl b (by rw [hV]; exact hb))
  obtain ⟨sy, hsy⟩ : ∃ x : Int, x = (f.syn : Int) := ⟨_, rfl⟩
  rw [← hsy] at q1 HP
  clear h hTW hfs hqu b0 b1 b2 hl0 hl1 hl2 hown hg hA2 hP hrow hrow2 hR2 hRW hR hl hV hne hfm hsy hRl
  go_enter Try.func31, Try.ntmps31
  go_wp2
  go_region
  all_goals
    clear a0 a1 a2 c1 hrun
    go_wp2_with fail
    refine HP.out.mono ?_
    rintro e w3 ⟨rfl, hT3, hA3⟩
    have HA3 := Lib.hid hA3
    have HT3 := Lib.hid hT3
    clear hA3 hT3
    go_wp2
    go_end0
    exact ⟨rfl, Went.x ⟨HT2.out.trans (HT3.out.wide fun b hb => by rw [hb]; exact HFM.out), _, ⟨m, _, _, HA3.out⟩, fun b hb => hb.elim .inl (fun hh => .inl (HOW.out b hh))⟩ X⟩
set_option maxHeartbeats 4000000 in
set_option maxRecDepth 100000 in
theorem rename_any (w : World) (F : Nat → Prop) (d : Nat) (s : Dsk) (h : Is w F d s) (nm tn : ByteArray) (hn : nm.size ≤ 1000000) (he : s.eff + 1 ≤ 1000000000) :
    Calls Try.prog 13 #[.pointer (some ⟨d, 0, none⟩), .string nm, .string tn] w fun e w' => e = .returned (.int .i64 (rename s nm.data.toList tn.data.toList).2) ∧ Went w w' F d (rename s nm.data.toList tn.data.toList).1 := by
  obtain ⟨W, hW⟩ : ∃ W, W = ((w.alloc (.cells #[.pointer (some ⟨d, 0, none⟩)] 25)).alloc (.cells #[.string nm] 9)).alloc (.cells #[.string tn] 9) := ⟨_, rfl⟩
  obtain ⟨b0, b1, b2, hbW, hsz⟩ := boxes3 w _ _ _ _ _ _ W hW
  have hIW := h.later hbW
  have hlt := h.lt
  have HNF : Hid (∀ R, w.heap.size ≤ R → ¬ F R) := Lib.hid (fun R hR hF => by have := hlt R hF; omega)
  obtain ⟨m, D, V, hA⟩ := hIW
  obtain ⟨hfr, hfs, hfg⟩ := hA.found nm.data.toList
  obtain ⟨p, c, hsh⟩ := hfr.shape
  obtain ⟨k, hk⟩ : ∃ k, k = (getF s nm.data.toList).bytes.length := ⟨_, rfl⟩
  rw [← hk] at hsh
  have hfi := find_any W F d m D V s hA nm (by omega)
  rw [hsh] at hfi
  obtain ⟨sy, hsy⟩ : ∃ x, x = findS s nm.data.toList := ⟨_, rfl⟩
  obtain ⟨en, hen⟩ : ∃ x, x = findE s nm.data.toList := ⟨_, rfl⟩
  rw [← hsy, ← hen] at hfi
  have HFI := Lib.hid hfi
  have HA := Lib.hid hA
  have HBW := Lib.hid hbW
  have HW := Lib.hid hW
  have HSZ := Lib.hid hsz
  have HSM := Lib.hid (fun W' (hb : Below W.heap.size W W') => Went.on (Turned.of_below hbW) (Went.same ⟨m, D, V, hA⟩ hb))
  unfold rename
  rw [← hen]
  by_cases h0 : en = 0
  · rw [if_pos h0]
    have hb : ((en : Int) != 0) = false := by rw [h0]; rfl
    rw [h0] at hen
    obtain ⟨hd, f, hl⟩ := find_yes hen.symm
    have hV : V nm.data.toList = .slice p k c := by
      rw [← hsh]
      unfold findV
      rw [hd, hl]
      rfl
    have hsf : sy = (f.syn : Int) := by
      rw [hsy]
      unfold findS
      rw [hd, hl]
      rfl
    have hfn : renD s nm.data.toList tn.data.toList = { s with fs := ptF tn.data.toList f (dlF nm.data.toList s.fs) } := by unfold renD; rw [hl]; rfl
    rw [hfn]
    have HL := Lib.hid hl
    have HV := Lib.hid hV
    have HSF := Lib.hid hsf
    cases hnb : nameB tn.data.toList with
    | false =>
      rw [if_neg (by simp)]
      have HN := Lib.hid (fun W => isname_any tn W)
      rw [hnb] at HN
      clear h hlt hA hfr hfs hfg hsh hk hfi hsy hen hbW hW hsz h0 hd hl hV hfn hsf hnb
      go_enter Try.func13, Try.ntmps13
      go_upto_region 1 with fail
      rw [← HW.out]
      go_wp2_with fail
      refine HFI.out.mono ?_
      rintro e w1 ⟨rfl, hb1⟩
      have hz1 : W.heap.size ≤ w1.heap.size := hb1.size
      have hbU : Below W.heap.size W (w1.alloc (.cells #[.slice p k c, .int .i64 sy] 56)) := hb1.trans ((pl1 w1 _).mono hb1.size)
      have y2 := (hbU.cell (p := ⟨w.heap.size + 1 + 1, 0, none⟩) (by have := HSZ.out; simp only; omega)).trans b2
      have HBU := Lib.hid hbU
      clear hb1 hbU hz1
      go_wp2_with fail
      refine (HN.out _).mono ?_
      rintro e w2 ⟨rfl, rfl⟩
      go_wp2
      go_ret
      exact ⟨rfl, HSM.out _ HBU.out⟩
    | true =>
      rw [if_pos rfl]
      have HN := Lib.hid (fun W => isname_any tn W)
      rw [hnb] at HN
      have HNB := Lib.hid hnb
      clear h hlt hA hfr hfs hfg hsh hk hfi hsy hen hbW hW hsz h0 hd hl hV hfn hsf hnb
      go_enter Try.func13, Try.ntmps13
      go_upto_region 1 with fail
      rw [← HW.out]
      go_wp2_with fail
      refine HFI.out.mono ?_
      rintro e w1 ⟨rfl, hb1⟩
      have hz1 : W.heap.size ≤ w1.heap.size := hb1.size
      have hbU : Below W.heap.size W (w1.alloc (.cells #[.slice p k c, .int .i64 sy] 56)) := hb1.trans ((pl1 w1 _).mono hb1.size)
      have hRU : FileAt (w1.alloc (.cells #[.slice p k c, .int .i64 sy] 56)) w1.heap.size (.slice p k c) sy := heap_alloc_new w1 (.cells #[.slice p k c, .int .i64 sy] 56)
      rw [show FileAt (w1.alloc (.cells #[.slice p k c, .int .i64 sy] 56)) w1.heap.size (.slice p k c) sy = FileAt (w1.alloc (.cells #[.slice p k c, .int .i64 sy] 56)) w1.heap.size (.slice p k c) (f.syn : Int) from by rw [← HSF.out]] at hRU
      have y0 := (hbU.cell (p := ⟨w.heap.size, 0, none⟩) (by have := HSZ.out; simp only; omega)).trans b0
      have y1 := (hbU.cell (p := ⟨w.heap.size + 1, 0, none⟩) (by have := HSZ.out; simp only; omega)).trans b1
      have y2 := (hbU.cell (p := ⟨w.heap.size + 1 + 1, 0, none⟩) (by have := HSZ.out; simp only; omega)).trans b2
      have hzz := HSZ.out
      have hc := renc_any _ F (fun _ => False) d m D V s nm tn w.heap.size (w.heap.size + 1) (w.heap.size + 1 + 1) w1.heap.size p k c f hn HNB.out hRU y0 y1 y2 (HNF.out _ (by omega)) (HNF.out _ (by omega)) (HNF.out _ (by omega)) (HNF.out _ (by omega)) HL.out HV.out
      have HD := Lib.hid (do_any _ F _ d m D V s (HA.out.later hbU) _ _ _ _ _ _ hc (fun _ => nothing_does _ F _ d m D V s) he)
      have HBU := Lib.hid hbU
      clear hb1 hbU hRU hc hzz hz1
      go_wp2_with fail
      refine (HN.out _).mono ?_
      rintro e w2 ⟨rfl, rfl⟩
      go_wp2_with fail
      refine HD.out.mono ?_
      rintro e w3 ⟨rfl, hw3⟩
      have HW3 := Lib.hid (hw3.went (Turned.of_below (HBW.out.trans (HBU.out.mono HBW.out.size))) (fun _ h => h.elim))
      clear hw3
      go_wp2
      go_ret
      exact ⟨rfl, HW3.out⟩
  · rw [if_neg h0]
    have hb : ((en : Int) != 0) = true := by simpa using h0
    clear h hlt hA hfr hfs hfg hsh hk hfi hsy hen hbW hW hsz h0
    go_enter Try.func13, Try.ntmps13
    go_upto_region 1 with fail
    rw [← HW.out]
    go_wp2_with fail
    refine HFI.out.mono ?_
    rintro e w1 ⟨rfl, hb1⟩
    have HBU := Lib.hid (hb1.trans ((pl1 w1 (.cells #[.slice p k c, .int .i64 sy] 56)).mono hb1.size))
    clear hb1
    go_wp2
    go_ret
    exact ⟨rfl, HSM.out _ HBU.out⟩
end Go.Proofs.Yteigkmeenokfoaa.Vd
