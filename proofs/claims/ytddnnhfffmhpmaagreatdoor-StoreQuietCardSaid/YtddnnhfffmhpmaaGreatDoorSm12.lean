/- Own texts, merged (12 of 42). -/
import Derived.Test.YtddnnhfffmhpmaaGreatDoorSm11
import Derived.Shelf.Abstract
import Derived.Deep.DeepCutAuto
import Derived.Laws.BitsAllLaws

/- Append, walked. -/
namespace Go.Proofs.YtddnnhfffmhpmaaGreatDoor.Vd
open Go.RowKit Go.Proofs.YtddnnhfffmhpmaaGreatDoor VdM Go.Maps

def bytesOf : Option Fil → List UInt8
  | none => []
  | some f => f.bytes
theorem grow_bytes (q : Option Fil) (x : List UInt8) : (grow q x).bytes = bytesOf q ++ x := by cases q <;> simp [grow, bytesOf]
theorem grow_syn (q : Option Fil) (x : List UInt8) : ((grow q x).syn : Int) = synOf q := by cases q <;> rfl
theorem At.rowq {w : World} {F : Nat → Prop} {d m : Nat} {D : MD} {V : Name → Value} {s : Dsk} (h : At w F d m D V s) (n : Name) : ∃ p k c, rowOf V n (lkF s.fs n) = .slice p k c ∧ ByteRow w (.slice p k c) (bytesOf (lkF s.fs n)) := by
  cases hl : lkF s.fs n with
  | none => exact ⟨none, 0, 0, rfl, ByteRow.nil_ w⟩
  | some f =>
    have hr := h.row n f hl
    obtain ⟨p, c, e⟩ := hr.shape
    rw [e] at hr
    exact ⟨p, _, c, e, hr⟩
theorem At.touched {w w' : World} {F : Nat → Prop} {d m : Nat} {D : MD} {V : Name → Value} {s : Dsk} (h : At w F d m D V s) (n : Name) {R : Nat} (hR : ¬ F R) (hT : Turned (fun b => b = R ∨ (rowOf V n (lkF s.fs n)).ownBlock = some b) w w') (hrow : ByteRow w' (rowOf V n (lkF s.fs n)) (bytesOf (lkF s.fs n))) : At w' F d m D V s := by
  have hno : ∀ b, F b → (∀ f, lkF s.fs n = some f → (V n).ownBlock ≠ some b) → w'.heap[b]? = w.heap[b]? := fun b hb hv => hT.block b (h.lt b hb) (fun x => by
    rcases x with x | x
    · exact hR (x ▸ hb)
    · cases hl : lkF s.fs n with
      | none => rw [hl] at x; simp [rowOf, nilS, Value.ownBlock] at x
      | some f => rw [hl] at x; exact hv f hl x)
  have hd := hno d h.fd (fun f hl e => (h.gd hl e).1 rfl)
  have hm := hno m h.fm (fun f hl e => (h.gd hl e).2 rfl)
  refine ⟨hd.trans h.ob, Own.stay h.own hm, h.rep, fun n' f' hl => ?_, h.apart, h.fd, h.fm, h.fv, fun b hb => Nat.lt_of_lt_of_le (h.lt b hb) hT.size, h.ok⟩
  by_cases e : n' = n
  · subst e
    rw [hl] at hrow
    exact hrow
  · exact (h.row n' f' hl).stay fun g hg => hno g (h.fv n' f' hl g hg) (fun f hl' hx => h.apart n f n' f' hl' hl (fun e' => e e'.symm) g hx hg)
/-- a variable's box -/
abbrev Box (w : World) (B : Nat) (v : Value) : Prop := w.cell? ⟨B, 0, none⟩ = some v
set_option maxHeartbeats 4000000 in
set_option maxRecDepth 100000 in
theorem addc_any (w : World) (F X : Nat → Prop) (d m : Nat) (D : MD) (V : Name → Value) (s : Dsk) (nm x : ByteArray) (B0 B1 B2 : Nat) (hn : nm.size ≤ 1000000) (b0 : Box w B0 (.pointer (some ⟨d, 0, none⟩))) (b1 : Box w B1 (.string nm)) (b2 : Box w B2 (.string x)) (n0 : ¬ F B0) (n1 : ¬ F B1) (n2 : ¬ F B2)
    (hx : x.size ≤ 1048576) (hok : ∀ s1 : Dsk, Ok s1 → s1.fs = s.fs → s1.quota = s.quota → Ok { s1 with fs := ptF nm.data.toList (grow (lkF s.fs nm.data.toList) x.data.toList) s.fs }) :
    Does w F X d m D V s 119 #[.pointer (some ⟨B0, 0, none⟩), .pointer (some ⟨B1, 0, none⟩), .pointer (some ⟨B2, 0, none⟩)] (ptF nm.data.toList (grow (lkF s.fs nm.data.toList) x.data.toList) s.fs) := by
  refine ⟨enters_of Tryz.func119 (by kernel_rfl) rfl, ?_⟩
  rintro W s1 hTW h hfs hqu
  have hok1 := hok s1 h.ok hfs hqu
  rw [← hfs] at hok1 ⊢
  have hl0 := World.block_lt_of_cell? w _ b0
  have hl1 := World.block_lt_of_cell? w _ b1
  have hl2 := World.block_lt_of_cell? w _ b2
  simp only at hl0 hl1 hl2
  have a0 := (hTW.cell (p := ⟨B0, 0, none⟩) hl0 n0).trans b0
  have a1 := (hTW.cell (p := ⟨B1, 0, none⟩) hl1 n1).trans b1
  have a2 := (hTW.cell (p := ⟨B2, 0, none⟩) hl2 n2).trans b2
  have c1 := h.cells.2.1
  obtain ⟨p, k, c, hsl, hrow⟩ := h.rowq nm.data.toList
  obtain ⟨q, hq⟩ : ∃ q, lkF s1.fs nm.data.toList = q := ⟨_, rfl⟩
  have hkey := key_is nm (by omega)
  have hr1 := look_run (w := W.drew) h.own h.rep nm hkey q hq
  have hr2 := look_run (w := (W.alloc (.cells #[nilS, .int .i64 0] 72)).drew) (World.ownsMap.alloc h.own _).drew h.rep nm hkey q hq
  rw [hq] at hsl
  rw [hsl] at hr1 hr2
  have hlen : (bytesOf q).length + x.size ≤ 1000000000 := by
    cases hl : q with
    | none => simp [bytesOf]; omega
    | some f =>
      rw [hl] at hq
      have := (h.ok.one hq).2.1
      simp [bytesOf]
      omega
  obtain ⟨sy, hsy⟩ : ∃ y, y = synOf q := ⟨_, rfl⟩
  rw [← hsy] at hr1 hr2
  rw [hq] at hok1 hrow
  have HSY := Lib.hid hsy
  have HQ := Lib.hid hq
  have HSL := Lib.hid hsl
  have HROW := Lib.hid hrow
  have HAT := Lib.hid h
  have HOK := Lib.hid hok1
  have HLEN := Lib.hid hlen
  have HNF : Hid (∀ R, W.heap.size ≤ R → ¬ F R) := Lib.hid (fun R hR hF => by have := h.lt R hF; omega)
  have HOWN : Hid (∀ g, (Value.slice p k c).ownBlock = some g → F g) := Lib.hid (fun g hg => by
    cases hl : q with
    | none => rw [hl] at hsl; rw [← hsl] at hg; simp [rowOf, nilS, Value.ownBlock] at hg
    | some f =>
      rw [hl] at hsl hq
      rw [← hsl] at hg
      exact h.fv _ f hq g hg)
  have HVN : Hid (∀ f, q = some f → V nm.data.toList = .slice p k c) := Lib.hid (fun f hf => by rw [hf] at hsl; exact hsl)
  have hd1 := h.dlt
  have z0 : B0 < W.heap.size := Nat.lt_of_lt_of_le hl0 hTW.size
  have z1 : B1 < W.heap.size := Nat.lt_of_lt_of_le hl1 hTW.size
  have z2 : B2 < W.heap.size := Nat.lt_of_lt_of_le hl2 hTW.size
  have hBU : Below W.heap.size W (W.alloc (.cells #[.slice p k c, .int .i64 sy] 72)).drew := (pl1 W _).drew
  have hRU : FileAt (W.alloc (.cells #[.slice p k c, .int .i64 sy] 72)).drew W.heap.size (.slice p k c) sy := heap_alloc_new W (.cells #[.slice p k c, .int .i64 sy] 72)
  have HBU := Lib.hid hBU
  have HRU := Lib.hid hRU
  have HY0 := Lib.hid ((hBU.cell (p := ⟨B0, 0, none⟩) z0).trans a0)
  have HY1 := Lib.hid ((hBU.cell (p := ⟨B1, 0, none⟩) z1).trans a1)
  have HY2 := Lib.hid ((hBU.cell (p := ⟨B2, 0, none⟩) z2).trans a2)
  have HZ : Hid (B0 < W.heap.size ∧ B1 < W.heap.size ∧ B2 < W.heap.size) := Lib.hid ⟨z0, z1, z2⟩
  obtain ⟨R, hRE⟩ : ∃ R, R = W.heap.size := ⟨_, rfl⟩
  have HRE := Lib.hid hRE
  clear h hsy hq hsl hrow hok1 hok hlen hfs hqu hTW b0 b1 b2 hkey hl0 hl1 hl2 hBU hRU
  go_enter Tryz.func119, Tryz.ntmps119
  go_wp2
  go_region
  all_goals
    rw [← hRE] at HRU ⊢
    clear a0 a1 a2 c1 hr1 hr2 z0 z1 z2 hRE hd1
    generalize (W.alloc (.cells #[.slice p k c, .int .i64 sy] 72)).drew = U at HBU HRU HY0 HY1 HY2 ⊢
    have y0 := HY0.out
    have y1 := HY1.out
    have y2 := HY2.out
    have hrowU := HROW.out.stay (w' := U) fun g hg => HBU.out.block g (HROW.out.lt hg)
    have HA := Lib.hid (add_any U R p k c sy _ x HRU.out hrowU HLEN.out)
    clear hrowU
    go_wp2_with fail
    refine HA.out.mono ?_
    rintro e w2 ⟨rfl, p', n', c', hR2, hrow2, hold2, hT2, hat2⟩
    have hUz : W.heap.size ≤ U.heap.size := HBU.out.size
    have hA2 : At w2 F d m D V s1 := (HAT.out.later HBU.out).touched nm.data.toList (HNF.out R (by rw [HRE.out]; exact Nat.le_refl _)) (by rw [HQ.out, HSL.out]; exact hT2) (by rw [HQ.out, HSL.out]; exact hold2)
    have hno : ∀ B, B < W.heap.size → ¬ F B → ¬ (B = R ∨ (Value.slice p k c).ownBlock = some B) := fun B hB hF hh => hh.elim (fun e => by rw [e, HRE.out] at hB; exact Nat.lt_irrefl _ hB) (fun e => hF (HOWN.out B e))
    have x0 := (hT2.cell (p := ⟨B0, 0, none⟩) (Nat.lt_of_lt_of_le HZ.out.1 hUz) (hno B0 HZ.out.1 n0)).trans y0
    have x1 := (hT2.cell (p := ⟨B1, 0, none⟩) (Nat.lt_of_lt_of_le HZ.out.2.1 hUz) (hno B1 HZ.out.2.1 n1)).trans y1
    obtain ⟨r0, r1, -, -⟩ := file_cells hR2
    have hrow3 : ByteRow w2 (.slice p' n' c') (grow q x.data.toList).bytes := by rw [grow_bytes]; exact hrow2
    have hap : ∀ n2 f2, n2 ≠ nm.data.toList → lkF s1.fs n2 = some f2 → ∀ g, (Value.slice p' n' c').ownBlock = some g → (V n2).ownBlock ≠ some g := fun n2 f2 hne hl2 g hg hv => by
      rcases hat2 with e | e
      · rw [e] at hg
        cases hq : q with
        | none =>
          have := HSL.out
          rw [hq] at this
          rw [← this] at hg
          simp [rowOf, nilS, Value.ownBlock] at hg
        | some f =>
          have hV := HVN.out f hq
          rw [← hV] at hg
          have hq2 := HQ.out
          rw [hq] at hq2
          exact HAT.out.apart _ f n2 f2 hq2 hl2 (fun e => hne e.symm) g hg hv
      · rw [e] at hg
        injection hg with hg
        have := (HAT.out.row n2 f2 hl2).lt hv
        omega
    have hP := put_any w2 F d m D V s1 hA2 nm hn p' n' c' (grow q x.data.toList) hrow3 hap HOK.out
    rw [grow_syn, ← HSY.out] at hP
    have HP := Lib.hid hP
    have HT2 : Hid (Turned F W w2) := Lib.hid ((Turned.of_below HBU.out).from_new (hT2.wide fun b hb => hb.elim (fun e => .inr (by rw [e, HRE.out]; exact Nat.le_refl _)) (fun e => .inl (HOWN.out b e))))
    have HAT2 : Hid (∀ g, (Value.slice p' n' c').ownBlock = some g → F g ∨ W.heap.size ≤ g) := Lib.hid (fun g hg => by
      rcases hat2 with e | e
      · rw [e] at hg
        exact .inl (HOWN.out g hg)
      · rw [e] at hg
        injection hg with hg
        exact .inr (by omega))
    have HFM := Lib.hid HAT.out.fm
    clear hP hap hrow3 hR2 hrow2 hold2 hT2 hat2 hA2 hno y0 y1 y2 hUz
    go_wp2_with fail
    refine HP.out.mono ?_
    rintro e w3 ⟨rfl, hT3, hA3⟩
    have HA3 := Lib.hid hA3
    have HT3 := Lib.hid hT3
    clear hA3 hT3
    go_wp2
    go_end0
    rw [HQ.out]
    exact ⟨rfl, Went.x ⟨HT2.out.trans (HT3.out.wide fun b hb => by rw [hb]; exact HFM.out), _, ⟨m, _, _, HA3.out⟩, fun b hb => hb.elim .inl (HAT2.out b)⟩ X⟩
theorem added_ok {s : Dsk} (n : Name) (x : List UInt8) (hn : nameB n = true) (hr : roomB s n x.length = true) (s1 : Dsk) (h : Ok s1) (hf : s1.fs = s.fs) (hq : s1.quota = s.quota) : Ok { s1 with fs := ptF n (grow (lkF s.fs n) x) s.fs } := by
  unfold nameB at hn
  unfold roomB at hr
  simp only [Bool.and_eq_true, Bool.or_eq_true, decide_eq_true_eq] at hn hr
  rw [← hf]
  refine h.put hn ?_ ?_ ?_
  · cases hl : lkF s1.fs n with
    | none => simp [grow]
    | some f =>
      have := (h.one hl).1
      simp [grow]
      omega
  · cases hl : lkF s1.fs n with
    | none =>
      simp [grow, lenOf]
      rw [hf]
      omega
    | some f =>
      simp [grow, lenOf]
      rw [hf]
      omega
  · rw [hf]
    exact hr.1
theorem boxes3 (w : World) (v0 v1 v2 : Value) (t0 t1 t2 : TypeId) (W : World) (hW : W = ((w.alloc (.cells #[v0] t0)).alloc (.cells #[v1] t1)).alloc (.cells #[v2] t2)) : Box W w.heap.size v0 ∧ Box W (w.heap.size + 1) v1 ∧ Box W (w.heap.size + 1 + 1) v2 ∧ Below w.heap.size w W ∧ W.heap.size = w.heap.size + 3 := by
  subst hW
  have h0 := heap_alloc_new w (.cells #[v0] t0)
  have h1 := heap_alloc_new (w.alloc (.cells #[v0] t0)) (.cells #[v1] t1)
  have h2 := heap_alloc_new ((w.alloc (.cells #[v0] t0)).alloc (.cells #[v1] t1)) (.cells #[v2] t2)
  have e1 : (w.alloc (.cells #[v0] t0)).heap.size = w.heap.size + 1 := by simp
  have e2 : ((w.alloc (.cells #[v0] t0)).alloc (.cells #[v1] t1)).heap.size = w.heap.size + 2 := by simp
  rw [e1] at h1
  rw [e2] at h2
  have g1 := blk_stay (pl1 ((w.alloc (.cells #[v0] t0)).alloc (.cells #[v1] t1)) (.cells #[v2] t2)) h1
  have g0 := blk_stay (pl1 ((w.alloc (.cells #[v0] t0)).alloc (.cells #[v1] t1)) (.cells #[v2] t2)) (blk_stay (pl1 (w.alloc (.cells #[v0] t0)) (.cells #[v1] t1)) h0)
  exact ⟨cell_of_cells g0 rfl, cell_of_cells g1 rfl, cell_of_cells h2 rfl, ((pl1 w _).trans ((pl1 _ _).mono (by simp))).trans ((pl1 _ _).mono (by simp; omega)), by simp⟩
set_option maxHeartbeats 4000000 in
set_option maxRecDepth 100000 in
theorem append_any (w : World) (F : Nat → Prop) (d : Nat) (s : Dsk) (h : Is w F d s) (nm x : ByteArray) (he : s.eff + 1 ≤ 1000000000) :
    Calls Tryz.prog 81 #[.pointer (some ⟨d, 0, none⟩), .string nm, .string x] w fun e w' => e = .returned (.int .i64 (append s nm.data.toList x.data.toList).2) ∧ Went w w' F d (append s nm.data.toList x.data.toList).1 := by
  obtain ⟨W, hW⟩ : ∃ W, W = ((w.alloc (.cells #[.pointer (some ⟨d, 0, none⟩)] 25)).alloc (.cells #[.string nm] 9)).alloc (.cells #[.string x] 9) := ⟨_, rfl⟩
  obtain ⟨b0, b1, b2, hbW, hsz⟩ := boxes3 w _ _ _ _ _ _ W hW
  have hIW := h.later hbW
  have hlt := h.lt
  have HNF : Hid (∀ R, w.heap.size ≤ R → ¬ F R) := Lib.hid (fun R hR hF => by have := hlt R hF; omega)
  have hdn : W.cell? ⟨d, 2, none⟩ = some (.bool s.down) := by
    obtain ⟨m, D, V, hA⟩ := hIW
    exact hA.cells.2.2.1
  have HIW := Lib.hid hIW
  have HBW := Lib.hid hbW
  have HN := Lib.hid (isname_any nm W)
  have HW := Lib.hid hW
  have HSZ := Lib.hid hsz
  have HB := Lib.hid (And.intro b0 (And.intro b1 b2))
  have HSM := Lib.hid (fun W' (hb : Below W.heap.size W W') => Went.on (Turned.of_below HBW.out) (Went.same HIW.out hb))
  clear h hlt hIW hbW hsz hW
  unfold append
  cases hd : s.down with
  | true =>
    rw [hd] at hdn
    rw [if_pos rfl]
    clear hd
    go_enter Tryz.func81, Tryz.ntmps81
    go_upto_region 1 with fail
    rw [← HW.out]
    go_wp2
    go_ret
    exact ⟨rfl, HSM.out W (Below.refl _ _)⟩
  | false =>
    rw [hd] at hdn
    rw [if_neg (by simp)]
    clear hd
    cases hnb : nameB nm.data.toList with
    | false =>
      rw [hnb] at HN
      rw [if_pos rfl]
      clear hnb
      go_enter Tryz.func81, Tryz.ntmps81
      go_upto_region 1 with fail
      rw [← HW.out]
      go_wp2_with fail
      refine HN.out.mono ?_
      rintro e w2 ⟨rfl, rfl⟩
      go_wp2
      go_ret
      exact ⟨rfl, HSM.out W (Below.refl _ _)⟩
    | true =>
      rw [hnb] at HN
      rw [if_neg (by simp)]
      have hn32 : nm.size ≤ 32 := by
        have h1 := hnb
        unfold nameB at h1
        simp only [Bool.and_eq_true, decide_eq_true_eq] at h1
        rw [size_list] at h1
        exact h1.2
      have HR := Lib.hid (hasroom_any W F d s HIW.out nm x.size (by omega))
      have HNB := Lib.hid hnb
      clear hnb
      rw [size_list]
      cases hrb : roomB s nm.data.toList x.size with
      | false =>
        rw [hrb] at HR
        rw [if_pos rfl]
        clear hrb
        go_enter Tryz.func81, Tryz.ntmps81
        go_upto_region 1 with fail
        rw [← HW.out]
        go_wp2_with fail
        refine HN.out.mono ?_
        rintro e w2 ⟨rfl, rfl⟩
        go_wp2_with fail
        refine HR.out.mono ?_
        rintro e w2 ⟨rfl, hb2⟩
        have HB2 := Lib.hid hb2
        clear hb2
        go_wp2
        go_ret
        exact ⟨rfl, HSM.out w2 HB2.out⟩
      | true =>
        rw [hrb] at HR
        rw [if_neg (by simp)]
        have hx20 : x.size ≤ 1048576 := by
          have h1 := hrb
          unfold roomB at h1
          simp only [Bool.and_eq_true, decide_eq_true_eq] at h1
          have := HIW.out.ok.q2
          omega
        have HOK := Lib.hid (added_ok (s := s) nm.data.toList x.data.toList HNB.out (by rw [size_list]; exact hrb))
        clear hrb
        have HNZ : Hid (W.heap.size = w.heap.size + 3) := HSZ
        go_enter Tryz.func81, Tryz.ntmps81
        go_upto_region 1 with fail
        rw [← HW.out]
        go_wp2_with fail
        refine HN.out.mono ?_
        rintro e w2 ⟨rfl, rfl⟩
        go_wp2_with fail
        refine HR.out.mono ?_
        rintro e w2 ⟨rfl, hb2⟩
        have y0 := (hb2.cell (p := ⟨w.heap.size, 0, none⟩) (by have := HSZ.out; simp only; omega)).trans b0
        have y1 := (hb2.cell (p := ⟨w.heap.size + 1, 0, none⟩) (by have := HSZ.out; simp only; omega)).trans b1
        have y2 := (hb2.cell (p := ⟨w.heap.size + 1 + 1, 0, none⟩) (by have := HSZ.out; simp only; omega)).trans b2
        obtain ⟨m, D, V, hA2⟩ := HIW.out.later hb2
        have hdo := addc_any w2 F (fun _ => False) d m D V s nm x w.heap.size (w.heap.size + 1) (w.heap.size + 1 + 1) (by omega) y0 y1 y2 (HNF.out _ (by omega)) (HNF.out _ (by omega)) (HNF.out _ (by omega)) hx20 (fun s1 h1 h2 h3 => HOK.out s1 h1 h2 h3)
        have HD := Lib.hid (do_any w2 F _ d m D V s hA2 _ _ _ _ _ _ hdo (fun _ => hdo) he)
        have HB2 := Lib.hid hb2
        clear hb2 hdo hA2
        go_wp2_with fail
        refine HD.out.mono ?_
        rintro e w3 ⟨rfl, hw3⟩
        have HW3 := Lib.hid (hw3.went (Turned.of_below (HBW.out.trans (HB2.out.mono HBW.out.size))) (fun _ h => h.elim))
        clear hw3
        go_wp2
        go_ret
        exact ⟨rfl, HW3.out⟩
end Go.Proofs.YtddnnhfffmhpmaaGreatDoor.Vd

/- Sync, Remove, Rename, walked. -/
namespace Go.Proofs.YtddnnhfffmhpmaaGreatDoor.Vd
open Go.RowKit Go.Proofs.YtddnnhfffmhpmaaGreatDoor VdM Go.Maps

theorem Dsk.same_fs {s1 s : Dsk} (h : s1.fs = s.fs) : { s1 with fs := s.fs } = s1 := by rw [← h]
theorem nothing_does (w : World) (F X : Nat → Prop) (d m : Nat) (D : MD) (V : Name → Value) (s : Dsk) : Does w F X d m D V s 124 #[] s.fs := by
  refine ⟨enters_of Tryz.func124 (by kernel_rfl) rfl, ?_⟩
  rintro W s1 hTW h hfs hqu
  refine (nothing_any W).mono ?_
  rintro e W' ⟨rfl, rfl⟩
  rw [Dsk.same_fs hfs]
  exact ⟨rfl, (Went.same ⟨m, D, V, h⟩ (Below.refl _ _)).x X⟩
theorem synced_ok {s1 : Dsk} (h : Ok s1) {n : Name} {f : Fil} (hl : lkF s1.fs n = some f) : Ok { s1 with fs := ptF n (synced f) s1.fs } := by
  have h1 := h.one hl
  have h2 := h.fits
  refine h.put ⟨h1.2.2.1, h1.2.2.2⟩ (Nat.le_refl _) ?_ (by rw [hl]; exact .inl rfl)
  rw [hl]
  simp [lenOf, synced]
  omega
set_option maxHeartbeats 4000000 in
set_option maxRecDepth 100000 in
theorem syncc_any (w : World) (F : Nat → Prop) (d m : Nat) (D : MD) (V : Name → Value) (s : Dsk) (nm : ByteArray) (R B0 B1 : Nat) (p : Option Addr) (k c : Nat) (sy : Int) (f : Fil) (hn : nm.size ≤ 1000000) (hR : FileAt w R (.slice p k c) sy) (b0 : Box w B0 (.pointer (some ⟨d, 0, none⟩))) (b1 : Box w B1 (.string nm)) (nR : ¬ F R) (n0 : ¬ F B0) (n1 : ¬ F B1) (r0 : R ≠ B0) (r1 : R ≠ B1)
    (hl : lkF s.fs nm.data.toList = some f) (hV : V nm.data.toList = .slice p k c) :
    Does w F (fun b => b = R) d m D V s 123 #[.pointer (some ⟨R, 0, none⟩), .pointer (some ⟨B0, 0, none⟩), .pointer (some ⟨B1, 0, none⟩)] (ptF nm.data.toList (synced f) s.fs) := by
  refine ⟨enters_of Tryz.func123 (by kernel_rfl) rfl, ?_⟩
  rintro W s1 hTW h hfs hqu
  rw [← hfs] at hl ⊢
  have hRl : R < w.heap.size := (Array.getElem?_eq_some_iff.1 hR).1
  have hl0 := World.block_lt_of_cell? w _ b0
  have hl1 := World.block_lt_of_cell? w _ b1
  simp only at hl0 hl1
  have a0 := (hTW.cell (p := ⟨B0, 0, none⟩) hl0 n0).trans b0
  have a1 := (hTW.cell (p := ⟨B1, 0, none⟩) hl1 n1).trans b1
  have hRW : FileAt W R (.slice p k c) sy := (hTW.block R hRl nR).trans hR
  have hrow := h.row _ f hl
  rw [hV] at hrow
  have hk := (slice_bytes hrow).1
  have HS := Lib.hid (fsync_any W R p k c sy hRW)
  have HAT := Lib.hid h
  have HL := Lib.hid hl
  have HV := Lib.hid hV
  have HK := Lib.hid hk
  have HTW := Lib.hid hTW
  have HRL := Lib.hid hRl
  have hz0 : B0 < W.heap.size := Nat.lt_of_lt_of_le hl0 hTW.size
  have hz1 : B1 < W.heap.size := Nat.lt_of_lt_of_le hl1 hTW.size
  have HZ0 := Lib.hid hz0
  have HZ1 := Lib.hid hz1
  have HA0 := Lib.hid a0
  have HA1 := Lib.hid a1
  clear h hl hV hk hrow hTW hR hRW hRl b0 b1 hfs hqu hl0 hl1 hz0 hz1
  go_enter Tryz.func123, Tryz.ntmps123
  go_wp2_with fail
  refine HS.out.mono ?_
  rintro e w2 ⟨rfl, hR2, hT2⟩
  have x0 := (hT2.cell (p := ⟨B0, 0, none⟩) HZ0.out (fun e => r0 e.symm)).trans HA0.out
  have x1 := (hT2.cell (p := ⟨B1, 0, none⟩) HZ1.out (fun e => r1 e.symm)).trans HA1.out
  obtain ⟨q0, q1, -, -⟩ := file_cells hR2
  have hA2 : At w2 F d m D V s1 := HAT.out.stay hT2.size fun b hb => hT2.block b (HAT.out.lt b hb) (fun e => nR (e ▸ hb))
  have hrow2 := hA2.row _ f HL.out
  rw [HV.out] at hrow2
  have hP := put_any w2 F d m D V s1 hA2 nm hn p k c (synced f) hrow2 (fun n' f' hne hl' g hg hv => by
    rw [← HV.out] at hg
    exact HAT.out.apart _ f n' f' HL.out hl' (fun e => hne e.symm) g hg hv) (synced_ok HAT.out.ok HL.out)
  rw [show ((synced f).syn : Int) = (k : Int) from by rw [HK.out]; rfl] at hP
  have HP := Lib.hid hP
  have HT2 : Hid (Turned (fun b => F b ∨ b = R) W w2) := Lib.hid (hT2.wide fun b hb => .inr hb)
  clear hP hA2 hrow2 hR2 hT2 a0 a1
  go_wp2_with fail
  refine HP.out.mono ?_
  rintro e w3 ⟨rfl, hT3, hA3⟩
  have HA3 := Lib.hid hA3
  have HT3 := Lib.hid hT3
  clear hA3 hT3
  go_wp2
  go_end0
  exact ⟨rfl, HT2.out.trans (HT3.out.wide fun b hb => .inl (by rw [hb]; exact HAT.out.fm)), _, ⟨m, _, _, HA3.out⟩, fun b hb => hb.elim .inl (fun hh => .inl (HAT.out.fv _ f HL.out b (by rw [HV.out]; exact hh)))⟩
theorem boxes2 (w : World) (v0 v1 : Value) (t0 t1 : TypeId) (W : World) (hW : W = (w.alloc (.cells #[v0] t0)).alloc (.cells #[v1] t1)) : Box W w.heap.size v0 ∧ Box W (w.heap.size + 1) v1 ∧ Below w.heap.size w W ∧ W.heap.size = w.heap.size + 2 := by
  subst hW
  have h0 := heap_alloc_new w (.cells #[v0] t0)
  have h1 := heap_alloc_new (w.alloc (.cells #[v0] t0)) (.cells #[v1] t1)
  have e1 : (w.alloc (.cells #[v0] t0)).heap.size = w.heap.size + 1 := by simp
  rw [e1] at h1
  have g0 := blk_stay (pl1 (w.alloc (.cells #[v0] t0)) (.cells #[v1] t1)) h0
  exact ⟨cell_of_cells g0 rfl, cell_of_cells h1 rfl, (pl1 w _).trans ((pl1 _ _).mono (by simp)), by simp⟩
theorem find_yes {s : Dsk} {n : Name} (h : findE s n = 0) : s.down = false ∧ ∃ f, lkF s.fs n = some f := by
  unfold findE at h
  cases hd : s.down with
  | true => rw [hd] at h; simp at h
  | false =>
    rw [hd] at h
    cases hl : lkF s.fs n with
    | none => rw [hl] at h; simp at h
    | some f => exact ⟨rfl, f, rfl⟩
set_option maxHeartbeats 4000000 in
set_option maxRecDepth 100000 in
theorem sync_any (w : World) (F : Nat → Prop) (d : Nat) (s : Dsk) (h : Is w F d s) (nm : ByteArray) (hn : nm.size ≤ 1000000) (he : s.eff + 1 ≤ 1000000000) :
    Calls Tryz.prog 83 #[.pointer (some ⟨d, 0, none⟩), .string nm] w fun e w' => e = .returned (.int .i64 (sync s nm.data.toList).2) ∧ Went w w' F d (sync s nm.data.toList).1 := by
  obtain ⟨W, hW⟩ : ∃ W, W = (w.alloc (.cells #[.pointer (some ⟨d, 0, none⟩)] 25)).alloc (.cells #[.string nm] 9) := ⟨_, rfl⟩
  obtain ⟨b0, b1, hbW, hsz⟩ := boxes2 w _ _ _ _ W hW
  have hIW := h.later hbW
  have hlt := h.lt
  have HNF : Hid (∀ R, w.heap.size ≤ R → ¬ F R) := Lib.hid (fun R hR hF => by have := hlt R hF; omega)
  obtain ⟨m, D, V, hA⟩ := hIW
  obtain ⟨hfr, hfs, hfg⟩ := hA.found nm.data.toList
  obtain ⟨p, c, hsh⟩ := hfr.shape
  obtain ⟨k, hk⟩ : ∃ k, k = (getF s nm.data.toList).bytes.length := ⟨_, rfl⟩
  rw [← hk] at hsh
  have hfi := find_any W F d m D V s hA nm (by omega)
  rw [hsh] at hfi
  obtain ⟨sy, hsy⟩ : ∃ x, x = findS s nm.data.toList := ⟨_, rfl⟩
  obtain ⟨en, hen⟩ : ∃ x, x = findE s nm.data.toList := ⟨_, rfl⟩
  rw [← hsy, ← hen] at hfi
  have HFI := Lib.hid hfi
  have HA := Lib.hid hA
  have HBW := Lib.hid hbW
  have HW := Lib.hid hW
  have HSZ := Lib.hid hsz
  have HSM := Lib.hid (fun W' (hb : Below W.heap.size W W') => Went.on (Turned.of_below hbW) (Went.same ⟨m, D, V, hA⟩ hb))
  unfold sync
  rw [← hen]
  by_cases h0 : en = 0
  · rw [if_pos h0]
    have hb : ((en : Int) != 0) = false := by rw [h0]; rfl
    rw [h0] at hen
    obtain ⟨hd, f, hl⟩ := find_yes hen.symm
    have hV : V nm.data.toList = .slice p k c := by
      rw [← hsh]
      unfold findV
      rw [hd, hl]
      rfl
    have hfn : syncD s nm.data.toList = { s with fs := ptF nm.data.toList (synced f) s.fs } := by unfold syncD; rw [hl]; rfl
    have HL := Lib.hid hl
    have HV := Lib.hid hV
    have HFN := Lib.hid hfn
    rw [hfn]
    clear h hlt hA hfr hfs hfg hsh hk hfi hsy hen hbW hW hsz h0 hd hl hV hfn
    go_enter Tryz.func83, Tryz.ntmps83
    go_upto_region 1 with fail
    rw [← HW.out]
    go_wp2_with fail
    refine HFI.out.mono ?_
    rintro e w1 ⟨rfl, hb1⟩
    have hz1 : W.heap.size ≤ w1.heap.size := hb1.size
    have hbU : Below W.heap.size W (w1.alloc (.cells #[.slice p k c, .int .i64 sy] 72)) := hb1.trans ((pl1 w1 _).mono hb1.size)
    have hRU : FileAt (w1.alloc (.cells #[.slice p k c, .int .i64 sy] 72)) w1.heap.size (.slice p k c) sy := heap_alloc_new w1 (.cells #[.slice p k c, .int .i64 sy] 72)
    have y0 := (hbU.cell (p := ⟨w.heap.size, 0, none⟩) (by have := HSZ.out; simp only; omega)).trans b0
    have y1 := (hbU.cell (p := ⟨w.heap.size + 1, 0, none⟩) (by have := HSZ.out; simp only; omega)).trans b1
    have hzz := HSZ.out
    have hc := syncc_any _ F d m D V s nm w1.heap.size w.heap.size (w.heap.size + 1) p k c sy f hn hRU y0 y1 (HNF.out _ (by omega)) (HNF.out _ (by omega)) (HNF.out _ (by omega)) (by omega) (by omega) HL.out HV.out
    have HD := Lib.hid (do_any _ F _ d m D V s (HA.out.later hbU) _ _ _ _ _ _ hc (fun _ => nothing_does _ F _ d m D V s) he)
    have HBU := Lib.hid hbU
    have HZ1 := Lib.hid hz1
    clear hb1 hbU hRU hc hzz hz1
    go_wp2_with fail
    refine HD.out.mono ?_
    rintro e w3 ⟨rfl, hw3⟩
    have HW3 := Lib.hid (hw3.went (Turned.of_below (HBW.out.trans (HBU.out.mono HBW.out.size))) (fun b hb => by have h1 := HZ1.out; have h2 := HSZ.out; rw [hb]; omega))
    clear hw3
    go_wp2
    go_ret
    exact ⟨rfl, HW3.out⟩
  · rw [if_neg h0]
    have hb : ((en : Int) != 0) = true := by simpa using h0
    clear h hlt hA hfr hfs hfg hsh hk hfi hsy hen hbW hW hsz h0
    go_enter Tryz.func83, Tryz.ntmps83
    go_upto_region 1 with fail
    rw [← HW.out]
    go_wp2_with fail
    refine HFI.out.mono ?_
    rintro e w1 ⟨rfl, hb1⟩
    have HBU := Lib.hid (hb1.trans ((pl1 w1 (.cells #[.slice p k c, .int .i64 sy] 72)).mono hb1.size))
    clear hb1
    go_wp2
    go_ret
    exact ⟨rfl, HSM.out _ HBU.out⟩
end Go.Proofs.YtddnnhfffmhpmaaGreatDoor.Vd

/- Remove, Rename, walked. -/
namespace Go.Proofs.YtddnnhfffmhpmaaGreatDoor.Vd
open Go.RowKit Go.Proofs.YtddnnhfffmhpmaaGreatDoor VdM Go.Maps

theorem del_run {w : World} {F : Nat → Prop} {d m : Nat} {D : MD} {V : Name → Value} {s : Dsk} (h : At w F d m D V s) (nm : ByteArray) (hn : nm.size ≤ 1000000000) :
    ∃ w' nn, (∀ ty, (Builtin.delete_ #[62, 9] ty #[.map (some m), .string nm]).run Tryz.prog w = .ok (.tuple #[]) w') ∧ Own w' m nn (D.del (keyS nm.data.toList)) ∧ w.grownBy w' (some m) := by
  obtain ⟨w', h1, h2, h3⟩ := World.ownsMap.drop h.own key_law Tryz.underlying62 (key_is nm hn) 0
  exact ⟨w', _, fun ty => h1, h2, h3.grown⟩
theorem length_del_lt {n : Name} {f : Fil} : ∀ {l : Fils}, lkF l n = some f → (dlF n l).length < l.length
  | [], h => by cases h
  | x :: t, h => by
    rw [lkF] at h
    unfold dlF
    by_cases e : x.1 = n
    · rw [if_pos e]
      have := length_del n t
      rw [List.length_cons]
      omega
    · rw [if_neg e] at h ⊢
      have := length_del_lt h
      rw [List.length_cons, List.length_cons]
      omega
set_option maxHeartbeats 4000000 in
set_option maxRecDepth 100000 in
theorem remc_any (w : World) (F X : Nat → Prop) (d m : Nat) (D : MD) (V : Name → Value) (s : Dsk) (nm : ByteArray) (B0 B1 : Nat) (hn : nm.size ≤ 1000000) (b0 : Box w B0 (.pointer (some ⟨d, 0, none⟩))) (b1 : Box w B1 (.string nm)) (n0 : ¬ F B0) (n1 : ¬ F B1) :
    Does w F X d m D V s 154 #[.pointer (some ⟨B0, 0, none⟩), .pointer (some ⟨B1, 0, none⟩)] (dlF nm.data.toList s.fs) := by
  refine ⟨enters_of Tryz.func154 (by kernel_rfl) rfl, ?_⟩
  rintro W s1 hTW h hfs hqu
  rw [← hfs]
  have hl0 := World.block_lt_of_cell? w _ b0
  have hl1 := World.block_lt_of_cell? w _ b1
  simp only at hl0 hl1
  have a0 := (hTW.cell (p := ⟨B0, 0, none⟩) hl0 n0).trans b0
  have a1 := (hTW.cell (p := ⟨B1, 0, none⟩) hl1 n1).trans b1
  have c1 := h.cells.2.1
  obtain ⟨w2, nn, hrun, hown, hg⟩ := del_run (w := W.drew) (h.later (Below.refl _ _).drew) nm (by omega)
  have HA2 := Lib.hid ((h.later (Below.refl _ _).drew).dropped (h.ok.del nm.data.toList) hg hown)
  have HT2 : Hid (Turned F W w2) := Lib.hid ((Turned.refl F W).drew.trans (Turned.of_grown hg h.fm))
  clear h hTW hfs hqu b0 b1 hl0 hl1 hown hg
  go_enter Tryz.func154, Tryz.ntmps154
  go_wp2
  go_region
  all_goals
    go_end0
    exact ⟨rfl, Went.x ⟨HT2.out, F, ⟨m, _, V, HA2.out⟩, fun b hb => .inl hb⟩ X⟩
set_option maxHeartbeats 4000000 in
set_option maxRecDepth 100000 in
theorem remove_any (w : World) (F : Nat → Prop) (d : Nat) (s : Dsk) (h : Is w F d s) (nm : ByteArray) (hn : nm.size ≤ 1000000) (he : s.eff + 1 ≤ 1000000000) :
    Calls Tryz.prog 102 #[.pointer (some ⟨d, 0, none⟩), .string nm] w fun e w' => e = .returned (.int .i64 (remove s nm.data.toList).2) ∧ Went w w' F d (remove s nm.data.toList).1 := by
  obtain ⟨W, hW⟩ : ∃ W, W = (w.alloc (.cells #[.pointer (some ⟨d, 0, none⟩)] 25)).alloc (.cells #[.string nm] 9) := ⟨_, rfl⟩
  obtain ⟨b0, b1, hbW, hsz⟩ := boxes2 w _ _ _ _ W hW
  have hIW := h.later hbW
  have hlt := h.lt
  have HNF : Hid (∀ R, w.heap.size ≤ R → ¬ F R) := Lib.hid (fun R hR hF => by have := hlt R hF; omega)
  obtain ⟨m, D, V, hA⟩ := hIW
  obtain ⟨hfr, hfs, hfg⟩ := hA.found nm.data.toList
  obtain ⟨p, c, hsh⟩ := hfr.shape
  obtain ⟨k, hk⟩ : ∃ k, k = (getF s nm.data.toList).bytes.length := ⟨_, rfl⟩
  rw [← hk] at hsh
  have hfi := find_any W F d m D V s hA nm (by omega)
  rw [hsh] at hfi
  obtain ⟨sy, hsy⟩ : ∃ x, x = findS s nm.data.toList := ⟨_, rfl⟩
  obtain ⟨en, hen⟩ : ∃ x, x = findE s nm.data.toList := ⟨_, rfl⟩
  rw [← hsy, ← hen] at hfi
  have HFI := Lib.hid hfi
  have HA := Lib.hid hA
  have HBW := Lib.hid hbW
  have HW := Lib.hid hW
  have HSZ := Lib.hid hsz
  have HSM := Lib.hid (fun W' (hb : Below W.heap.size W W') => Went.on (Turned.of_below hbW) (Went.same ⟨m, D, V, hA⟩ hb))
  unfold remove
  rw [← hen]
  by_cases h0 : en = 0
  · rw [if_pos h0]
    have hb : ((en : Int) != 0) = false := by rw [h0]; rfl
    clear h hlt hA hfr hfs hfg hsh hk hfi hsy hen hbW hW hsz h0
    go_enter Tryz.func102, Tryz.ntmps102
    go_upto_region 1 with fail
    rw [← HW.out]
    go_wp2_with fail
    refine HFI.out.mono ?_
    rintro e w1 ⟨rfl, hb1⟩
    have hz1 : W.heap.size ≤ w1.heap.size := hb1.size
    have hbU : Below W.heap.size W (w1.alloc (.cells #[.slice p k c, .int .i64 sy] 72)) := hb1.trans ((pl1 w1 _).mono hb1.size)
    have y0 := (hbU.cell (p := ⟨w.heap.size, 0, none⟩) (by have := HSZ.out; simp only; omega)).trans b0
    have y1 := (hbU.cell (p := ⟨w.heap.size + 1, 0, none⟩) (by have := HSZ.out; simp only; omega)).trans b1
    have hc := remc_any _ F (fun _ => False) d m D V s nm w.heap.size (w.heap.size + 1) hn y0 y1 (HNF.out _ (by omega)) (HNF.out _ (by omega))
    have HD := Lib.hid (do_any _ F _ d m D V s (HA.out.later hbU) _ _ _ _ _ _ hc (fun _ => nothing_does _ F _ d m D V s) he)
    have HBU := Lib.hid hbU
    clear hb1 hbU hc hz1
    go_wp2_with fail
    refine HD.out.mono ?_
    rintro e w3 ⟨rfl, hw3⟩
    have HW3 := Lib.hid (hw3.went (Turned.of_below (HBW.out.trans (HBU.out.mono HBW.out.size))) (fun _ h => h.elim))
    clear hw3
    go_wp2
    go_ret
    exact ⟨rfl, HW3.out⟩
  · rw [if_neg h0]
    have hb : ((en : Int) != 0) = true := by simpa using h0
    clear h hlt hA hfr hfs hfg hsh hk hfi hsy hen hbW hW hsz h0
    go_enter Tryz.func102, Tryz.ntmps102
    go_upto_region 1 with fail
    rw [← HW.out]
    go_wp2_with fail
    refine HFI.out.mono ?_
    rintro e w1 ⟨rfl, hb1⟩
    have HBU := Lib.hid (hb1.trans ((pl1 w1 (.cells #[.slice p k c, .int .i64 sy] 72)).mono hb1.size))
    clear hb1
    go_wp2
    go_ret
    exact ⟨rfl, HSM.out _ HBU.out⟩
theorem renamed_ok {s1 : Dsk} (h : Ok s1) {n tn : Name} {f : Fil} (hl : lkF s1.fs n = some f) (ht : nameB tn = true) : Ok { s1 with fs := ptF tn f (dlF n s1.fs) } := by
  have h1 := h.one hl
  have h2 := h.fits
  have h3 := used_del h.rise (n := n)
  have h4 := length_del_lt hl
  have h5 := h.most
  rw [hl] at h3
  simp only [lenOf] at h3
  unfold nameB at ht
  simp only [Bool.and_eq_true, decide_eq_true_eq] at ht
  refine (h.del n).put ht h1.1 ?_ (.inr ?_)
  · show usF (dlF n s1.fs) + f.bytes.length ≤ s1.quota + _
    omega
  · show (dlF n s1.fs).length < 64
    omega
set_option maxHeartbeats 4000000 in
set_option maxRecDepth 100000 in
theorem renc_any (w : World) (F X : Nat → Prop) (d m : Nat) (D : MD) (V : Name → Value) (s : Dsk) (nm tn : ByteArray) (B0 B1 B2 R : Nat) (p : Option Addr) (k c : Nat) (f : Fil) (hn : nm.size ≤ 1000000) (hto : nameB tn.data.toList = true) (hR : FileAt w R (.slice p k c) (f.syn : Int)) (b0 : Box w B0 (.pointer (some ⟨d, 0, none⟩))) (b1 : Box w B1 (.string nm)) (b2 : Box w B2 (.string tn)) (nR : ¬ F R) (n0 : ¬ F B0) (n1 : ¬ F B1) (n2 : ¬ F B2)
    (hl : lkF s.fs nm.data.toList = some f) (hV : V nm.data.toList = .slice p k c) :
    Does w F X d m D V s 158 #[.pointer (some ⟨B0, 0, none⟩), .pointer (some ⟨B1, 0, none⟩), .pointer (some ⟨B2, 0, none⟩), .pointer (some ⟨R, 0, none⟩)] (ptF tn.data.toList f (dlF nm.data.toList s.fs)) := by
  refine ⟨enters_of Tryz.func158 (by kernel_rfl) rfl, ?_⟩
  rintro W s1 hTW h hfs hqu
  rw [← hfs] at hl ⊢
  have hRl : R < w.heap.size := (Array.getElem?_eq_some_iff.1 hR).1
  have hl0 := World.block_lt_of_cell? w _ b0
  have hl1 := World.block_lt_of_cell? w _ b1
  have hl2 := World.block_lt_of_cell? w _ b2
  simp only at hl0 hl1 hl2
  have a0 := (hTW.cell (p := ⟨B0, 0, none⟩) hl0 n0).trans b0
  have a1 := (hTW.cell (p := ⟨B1, 0, none⟩) hl1 n1).trans b1
  have a2 := (hTW.cell (p := ⟨B2, 0, none⟩) hl2 n2).trans b2
  have hRW : FileAt W R (.slice p k c) (f.syn : Int) := (hTW.block R hRl nR).trans hR
  have c1 := h.cells.2.1
  have hto32 : tn.size ≤ 32 := by
    have h1 := hto
    unfold nameB at h1
    simp only [Bool.and_eq_true, decide_eq_true_eq] at h1
    rw [size_list] at h1
    exact h1.2
  have hfm := h.fm
  obtain ⟨w2, nn, hrun, hown, hg⟩ := del_run (w := W.drew) (h.later (Below.refl _ _).drew) nm (by omega)
  have hA2 := (h.later (Below.refl _ _).drew).dropped (h.ok.del nm.data.toList) hg hown
  have hne : ∀ B, ¬ F B → some B ≠ some m := fun B hB e => hB (by injection e with e; rw [e]; exact hfm)
  have y0 := (cell_of_grown hg (p := ⟨B0, 0, none⟩) (Nat.lt_of_lt_of_le hl0 hTW.size) (hne B0 n0)).trans a0
  have y2 := (cell_of_grown hg (p := ⟨B2, 0, none⟩) (Nat.lt_of_lt_of_le hl2 hTW.size) (hne B2 n2)).trans a2
  have hR2 : FileAt w2 R (.slice p k c) (f.syn : Int) := (hg.block R (Nat.lt_of_lt_of_le hRl hTW.size) (hne R nR)).trans hRW
  obtain ⟨q0, q1, -, -⟩ := file_cells hR2
  have hrow := h.row _ f hl
  have hrow2 : ByteRow w2 (V nm.data.toList) f.bytes := hrow.stay fun g hgv => hg.block g (hrow.lt hgv) (fun e => by injection e with e; exact (h.gd hl hgv).2 e)
  rw [hV] at hrow2
  have hP := put_any w2 F d m _ V _ hA2 tn (by omega) p k c f hrow2 (fun n' f' hne' hl' g hgv hv => by
    rw [← hV] at hgv
    have hnn : n' ≠ nm.data.toList := fun e => by
      rw [e] at hl'
      rw [show lkF (dlF nm.data.toList s1.fs) nm.data.toList = none from look_del_same _ _] at hl'
      cases hl'
    have hl2' : lkF s1.fs n' = some f' := by rw [← look_del_other hnn]; exact hl'
    exact h.apart _ f n' f' hl hl2' (fun e => hnn e.symm) g hgv hv) (renamed_ok h.ok hl hto)
  have HP := Lib.hid hP
  have HT2 : Hid (Turned F W w2) := Lib.hid ((Turned.refl F W).drew.trans (Turned.of_grown hg h.fm))
  have HFM := Lib.hid hfm
  have HOW : Hid (∀ b, (Value.slice p k c).ownBlock = some b → F b) := Lib.hid (fun b hb => h.fv _ f hl b (by rw [hV]; exact hb))
  obtain ⟨sy, hsy⟩ : ∃ x : Int, x = (f.syn : Int) := ⟨_, rfl⟩
  rw [← hsy] at q1 HP
  clear h hTW hfs hqu b0 b1 b2 hl0 hl1 hl2 hown hg hA2 hP hrow hrow2 hR2 hRW hR hl hV hne hfm hsy hRl
  go_enter Tryz.func158, Tryz.ntmps158
  go_wp2
  go_region
  all_goals
    clear a0 a1 a2 c1 hrun
    go_wp2_with fail
    refine HP.out.mono ?_
    rintro e w3 ⟨rfl, hT3, hA3⟩
    have HA3 := Lib.hid hA3
    have HT3 := Lib.hid hT3
    clear hA3 hT3
    go_wp2
    go_end0
    exact ⟨rfl, Went.x ⟨HT2.out.trans (HT3.out.wide fun b hb => by rw [hb]; exact HFM.out), _, ⟨m, _, _, HA3.out⟩, fun b hb => hb.elim .inl (fun hh => .inl (HOW.out b hh))⟩ X⟩
set_option maxHeartbeats 4000000 in
set_option maxRecDepth 100000 in
theorem rename_any (w : World) (F : Nat → Prop) (d : Nat) (s : Dsk) (h : Is w F d s) (nm tn : ByteArray) (hn : nm.size ≤ 1000000) (he : s.eff + 1 ≤ 1000000000) :
    Calls Tryz.prog 106 #[.pointer (some ⟨d, 0, none⟩), .string nm, .string tn] w fun e w' => e = .returned (.int .i64 (rename s nm.data.toList tn.data.toList).2) ∧ Went w w' F d (rename s nm.data.toList tn.data.toList).1 := by
  obtain ⟨W, hW⟩ : ∃ W, W = ((w.alloc (.cells #[.pointer (some ⟨d, 0, none⟩)] 25)).alloc (.cells #[.string nm] 9)).alloc (.cells #[.string tn] 9) := ⟨_, rfl⟩
  obtain ⟨b0, b1, b2, hbW, hsz⟩ := boxes3 w _ _ _ _ _ _ W hW
  have hIW := h.later hbW
  have hlt := h.lt
  have HNF : Hid (∀ R, w.heap.size ≤ R → ¬ F R) := Lib.hid (fun R hR hF => by have := hlt R hF; omega)
  obtain ⟨m, D, V, hA⟩ := hIW
  obtain ⟨hfr, hfs, hfg⟩ := hA.found nm.data.toList
  obtain ⟨p, c, hsh⟩ := hfr.shape
  obtain ⟨k, hk⟩ : ∃ k, k = (getF s nm.data.toList).bytes.length := ⟨_, rfl⟩
  rw [← hk] at hsh
  have hfi := find_any W F d m D V s hA nm (by omega)
  rw [hsh] at hfi
  obtain ⟨sy, hsy⟩ : ∃ x, x = findS s nm.data.toList := ⟨_, rfl⟩
  obtain ⟨en, hen⟩ : ∃ x, x = findE s nm.data.toList := ⟨_, rfl⟩
  rw [← hsy, ← hen] at hfi
  have HFI := Lib.hid hfi
  have HA := Lib.hid hA
  have HBW := Lib.hid hbW
  have HW := Lib.hid hW
  have HSZ := Lib.hid hsz
  have HSM := Lib.hid (fun W' (hb : Below W.heap.size W W') => Went.on (Turned.of_below hbW) (Went.same ⟨m, D, V, hA⟩ hb))
  unfold rename
  rw [← hen]
  by_cases h0 : en = 0
  · rw [if_pos h0]
    have hb : ((en : Int) != 0) = false := by rw [h0]; rfl
    rw [h0] at hen
    obtain ⟨hd, f, hl⟩ := find_yes hen.symm
    have hV : V nm.data.toList = .slice p k c := by
      rw [← hsh]
      unfold findV
      rw [hd, hl]
      rfl
    have hsf : sy = (f.syn : Int) := by
      rw [hsy]
      unfold findS
      rw [hd, hl]
      rfl
    have hfn : renD s nm.data.toList tn.data.toList = { s with fs := ptF tn.data.toList f (dlF nm.data.toList s.fs) } := by unfold renD; rw [hl]; rfl
    rw [hfn]
    have HL := Lib.hid hl
    have HV := Lib.hid hV
    have HSF := Lib.hid hsf
    cases hnb : nameB tn.data.toList with
    | false =>
      rw [if_neg (by simp)]
      have HN := Lib.hid (fun W => isname_any tn W)
      rw [hnb] at HN
      clear h hlt hA hfr hfs hfg hsh hk hfi hsy hen hbW hW hsz h0 hd hl hV hfn hsf hnb
      go_enter Tryz.func106, Tryz.ntmps106
      go_upto_region 1 with fail
      rw [← HW.out]
      go_wp2_with fail
      refine HFI.out.mono ?_
      rintro e w1 ⟨rfl, hb1⟩
      have hz1 : W.heap.size ≤ w1.heap.size := hb1.size
      have hbU : Below W.heap.size W (w1.alloc (.cells #[.slice p k c, .int .i64 sy] 72)) := hb1.trans ((pl1 w1 _).mono hb1.size)
      have y2 := (hbU.cell (p := ⟨w.heap.size + 1 + 1, 0, none⟩) (by have := HSZ.out; simp only; omega)).trans b2
      have HBU := Lib.hid hbU
      clear hb1 hbU hz1
      go_wp2_with fail
      refine (HN.out _).mono ?_
      rintro e w2 ⟨rfl, rfl⟩
      go_wp2
      go_ret
      exact ⟨rfl, HSM.out _ HBU.out⟩
    | true =>
      rw [if_pos rfl]
      have HN := Lib.hid (fun W => isname_any tn W)
      rw [hnb] at HN
      have HNB := Lib.hid hnb
      clear h hlt hA hfr hfs hfg hsh hk hfi hsy hen hbW hW hsz h0 hd hl hV hfn hsf hnb
      go_enter Tryz.func106, Tryz.ntmps106
      go_upto_region 1 with fail
      rw [← HW.out]
      go_wp2_with fail
      refine HFI.out.mono ?_
      rintro e w1 ⟨rfl, hb1⟩
      have hz1 : W.heap.size ≤ w1.heap.size := hb1.size
      have hbU : Below W.heap.size W (w1.alloc (.cells #[.slice p k c, .int .i64 sy] 72)) := hb1.trans ((pl1 w1 _).mono hb1.size)
      have hRU : FileAt (w1.alloc (.cells #[.slice p k c, .int .i64 sy] 72)) w1.heap.size (.slice p k c) sy := heap_alloc_new w1 (.cells #[.slice p k c, .int .i64 sy] 72)
      rw [show FileAt (w1.alloc (.cells #[.slice p k c, .int .i64 sy] 72)) w1.heap.size (.slice p k c) sy = FileAt (w1.alloc (.cells #[.slice p k c, .int .i64 sy] 72)) w1.heap.size (.slice p k c) (f.syn : Int) from by rw [← HSF.out]] at hRU
      have y0 := (hbU.cell (p := ⟨w.heap.size, 0, none⟩) (by have := HSZ.out; simp only; omega)).trans b0
      have y1 := (hbU.cell (p := ⟨w.heap.size + 1, 0, none⟩) (by have := HSZ.out; simp only; omega)).trans b1
      have y2 := (hbU.cell (p := ⟨w.heap.size + 1 + 1, 0, none⟩) (by have := HSZ.out; simp only; omega)).trans b2
      have hzz := HSZ.out
      have hc := renc_any _ F (fun _ => False) d m D V s nm tn w.heap.size (w.heap.size + 1) (w.heap.size + 1 + 1) w1.heap.size p k c f hn HNB.out hRU y0 y1 y2 (HNF.out _ (by omega)) (HNF.out _ (by omega)) (HNF.out _ (by omega)) (HNF.out _ (by omega)) HL.out HV.out
      have HD := Lib.hid (do_any _ F _ d m D V s (HA.out.later hbU) _ _ _ _ _ _ hc (fun _ => nothing_does _ F _ d m D V s) he)
      have HBU := Lib.hid hbU
      clear hb1 hbU hRU hc hzz hz1
      go_wp2_with fail
      refine (HN.out _).mono ?_
      rintro e w2 ⟨rfl, rfl⟩
      go_wp2_with fail
      refine HD.out.mono ?_
      rintro e w3 ⟨rfl, hw3⟩
      have HW3 := Lib.hid (hw3.went (Turned.of_below (HBW.out.trans (HBU.out.mono HBW.out.size))) (fun _ h => h.elim))
      clear hw3
      go_wp2
      go_ret
      exact ⟨rfl, HW3.out⟩
  · rw [if_neg h0]
    have hb : ((en : Int) != 0) = true := by simpa using h0
    clear h hlt hA hfr hfs hfg hsh hk hfi hsy hen hbW hW hsz h0
    go_enter Tryz.func106, Tryz.ntmps106
    go_upto_region 1 with fail
    rw [← HW.out]
    go_wp2_with fail
    refine HFI.out.mono ?_
    rintro e w1 ⟨rfl, hb1⟩
    have HBU := Lib.hid (hb1.trans ((pl1 w1 (.cells #[.slice p k c, .int .i64 sy] 72)).mono hb1.size))
    clear hb1
    go_wp2
    go_ret
    exact ⟨rfl, HSM.out _ HBU.out⟩
end Go.Proofs.YtddnnhfffmhpmaaGreatDoor.Vd

/- Flip, walked. -/
namespace Go.Proofs.YtddnnhfffmhpmaaGreatDoor.Vd
open Go.RowKit Go.Proofs.YtddnnhfffmhpmaaGreatDoor VdM Go.Maps

end Go.Proofs.YtddnnhfffmhpmaaGreatDoor.Vd
