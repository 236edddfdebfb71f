
/- Append, walked. -/
import Derived.Test.YteigkmeenokfoaaVdK
import Derived.Shelf.Abstract
import Derived.Deep.DeepCutAuto
namespace Go.Proofs.Yteigkmeenokfoaa.Vd
open Go.RowKit Go.Proofs.Yteigkmeenokfoaa VdM Go.Maps

def bytesOf : Option Fil → List UInt8
  | none => []
  | some f => f.bytes
theorem grow_bytes (q : Option Fil) (x : List UInt8) : (grow q x).bytes = bytesOf q ++ x := by cases q <;> simp [grow, bytesOf]
theorem grow_syn (q : Option Fil) (x : List UInt8) : ((grow q x).syn : Int) = synOf q := by cases q <;> rfl
theorem At.rowq {w : World} {F : Nat → Prop} {d m : Nat} {D : MD} {V : Name → Value} {s : Dsk} (h : At w F d m D V s) (n : Name) : ∃ p k c, rowOf V n (lkF s.fs n) = .slice p k c ∧ ByteRow w (.slice p k c) (bytesOf (lkF s.fs n)) := by
  cases hl : lkF s.fs n with
  | none => exact ⟨none, 0, 0, rfl, ByteRow.nil_ w⟩
  | some f =>
    have hr := h.row n f hl
    obtain ⟨p, c, e⟩ := hr.shape
    rw [e] at hr
    exact ⟨p, _, c, e, hr⟩
theorem At.touched {w w' : World} {F : Nat → Prop} {d m : Nat} {D : MD} {V : Name → Value} {s : Dsk} (h : At w F d m D V s) (n : Name) {R : Nat} (hR : ¬ F R) (hT : Turned (fun b => b = R ∨ (rowOf V n (lkF s.fs n)).ownBlock = some b) w w') (hrow : ByteRow w' (rowOf V n (lkF s.fs n)) (bytesOf (lkF s.fs n))) : At w' F d m D V s := by
  have hno : ∀ b, F b → (∀ f, lkF s.fs n = some f → (V n).ownBlock ≠ some b) → w'.heap[b]? = w.heap[b]? := fun b hb hv => hT.block b (h.lt b hb) (fun x => by
    rcases x with x | x
    · exact hR (x ▸ hb)
    · cases hl : lkF s.fs n with
      | none => rw [hl] at x; simp [rowOf, nilS, Value.ownBlock] at x
      | some f => rw [hl] at x; exact hv f hl x)
  have hd := hno d h.fd (fun f hl e => (h.gd hl e).1 rfl)
  have hm := hno m h.fm (fun f hl e => (h.gd hl e).2 rfl)
  refine ⟨hd.trans h.ob, Own.stay h.own hm, h.rep, fun n' f' hl => ?_, h.apart, h.fd, h.fm, h.fv, fun b hb => Nat.lt_of_lt_of_le (h.lt b hb) hT.size, h.ok⟩
  by_cases e : n' = n
  · subst e
    rw [hl] at hrow
    exact hrow
  · exact (h.row n' f' hl).stay fun g hg => hno g (h.fv n' f' hl g hg) (fun f hl' hx => h.apart n f n' f' hl' hl (fun e' => e e'.symm) g hx hg)
/-- a variable's box -/
abbrev Box (w : World) (B : Nat) (v : Value) : Prop := w.cell? ⟨B, 0, none⟩ = some v
set_option maxHeartbeats 4000000 in
set_option maxRecDepth 100000 in
theorem addc_any (w : World) (F X : Nat → Prop) (d m : Nat) (D : MD) (V : Name → Value) (s : Dsk) (nm x : ByteArray) (B0 B1 B2 : Nat) (hn : nm.size ≤ 1000000) (b0 : Box w B0 (.pointer (some ⟨d, 0, none⟩))) (b1 : Box w B1 (.string nm)) (b2 : Box w B2 (.string x)) (n0 : ¬ F B0) (n1 : ¬ F B1) (n2 : ¬ F B2)
    (hx : x.size ≤ 1048576) (hok : ∀ s1 : Dsk, Ok s1 → s1.fs = s.fs → s1.quota = s.quota → Ok { s1 with fs := ptF nm.data.toList (grow (lkF s.fs nm.data.toList) x.data.toList) s.fs }) :
    Does w F X d m D V s 20 #[.pointer (some ⟨B0, 0, none⟩), .pointer (some ⟨B1, 0, none⟩), .pointer (some ⟨B2, 0, none⟩)] (ptF nm.data.toList (grow (lkF s.fs nm.data.toList) x.data.toList) s.fs) := by
  refine ⟨enters_of Try.func20 (by kernel_rfl) rfl, ?_⟩
  rintro W s1 hTW h hfs hqu
  have hok1 := hok s1 h.ok hfs hqu
  rw [← hfs] at hok1 ⊢
  have hl0 := World.block_lt_of_cell? w _ b0
  have hl1 := World.block_lt_of_cell? w _ b1
  have hl2 := World.block_lt_of_cell? w _ b2
  simp only at hl0 hl1 hl2
  have a0 := (hTW.cell (p := ⟨B0, 0, none⟩) hl0 n0).trans b0
  have a1 := (hTW.cell (p := ⟨B1, 0, none⟩) hl1 n1).trans b1
  have a2 := (hTW.cell (p := ⟨B2, 0, none⟩) hl2 n2).trans b2
  have c1 := h.cells.2.1
  obtain ⟨p, k, c, hsl, hrow⟩ := h.rowq nm.data.toList
  obtain ⟨q, hq⟩ : ∃ q, lkF s1.fs nm.data.toList = q := ⟨_, rfl⟩
  have hkey := key_is nm (by omega)
  have hr1 := look_run (w := W.drew) h.own h.rep nm hkey q hq
  have hr2 := look_run (w := (W.alloc (.cells #[nilS, .int .i64 0] 56)).drew) (World.ownsMap.alloc h.own _).drew h.rep nm hkey q hq
  rw [hq] at hsl
  rw [hsl] at hr1 hr2
  have hlen : (bytesOf q).length + x.size ≤ 1000000000 := by
    cases hl : q with
    | none => simp [bytesOf]; omega
    | some f =>
      rw [hl] at hq
      have := (h.ok.one hq).2.1
      simp [bytesOf]
      omega
  obtain ⟨sy, hsy⟩ : ∃ y, y = synOf q := ⟨_, rfl⟩
  rw [← hsy] at hr1 hr2
  rw [hq] at hok1 hrow
  have HSY := Lib.hid hsy
  have HQ := Lib.hid hq
  have HSL := Lib.hid hsl
  have HROW := Lib.hid hrow
  have HAT := Lib.hid h
  have HOK := Lib.hid hok1
  have HLEN := Lib.hid hlen
  have HNF : Hid (∀ R, W.heap.size ≤ R → ¬ F R) := Lib.hid (fun R hR hF => by have := h.lt R hF; omega)
  have HOWN : Hid (∀ g, (Value.slice p k c).ownBlock = some g → F g) := Lib.hid (fun g hg => by
    cases hl : q with
    | none => rw [hl] at hsl; rw [← hsl] at hg; simp [rowOf, nilS, Value.ownBlock] at hg
    | some f =>
      rw [hl] at hsl hq
      rw [← hsl] at hg
      exact h.fv _ f hq g hg)
  have HVN : Hid (∀ f, q = some f → V nm.data.toList = .slice p k c) := Lib.hid (fun f hf => by rw [hf] at hsl; exact hsl)
  have hd1 := h.dlt
  have z0 : B0 < W.heap.size := Nat.lt_of_lt_of_le hl0 hTW.size
  have z1 : B1 < W.heap.size := Nat.lt_of_lt_of_le hl1 hTW.size
  have z2 : B2 < W.heap.size := Nat.lt_of_lt_of_le hl2 hTW.size
  have hBU : Below W.heap.size W (W.alloc (.cells #[.slice p k c, .int .i64 sy] 56)).drew := (pl1 W _).drew
  have hRU : FileAt (W.alloc (.cells #[.slice p k c, .int .i64 sy] 56)).drew W.heap.size (.slice p k c) sy := heap_alloc_new W (.cells #[.slice p k c, .int .i64 sy] 56)
  have HBU := Lib.hid hBU
  have HRU := Lib.hid hRU
  have HY0 := Lib.hid ((hBU.cell (p := ⟨B0, 0, none⟩) z0).trans a0)
  have HY1 := Lib.hid ((hBU.cell (p := ⟨B1, 0, none⟩) z1).trans a1)
  have HY2 := Lib.hid ((hBU.cell (p := ⟨B2, 0, none⟩) z2).trans a2)
  have HZ : Hid (B0 < W.heap.size ∧ B1 < W.heap.size ∧ B2 < W.heap.size) := Lib.hid ⟨z0, z1, z2⟩
  obtain ⟨R, hRE⟩ : ∃ R, R = W.heap.size := ⟨_, rfl⟩
  have HRE := Lib.hid hRE
  clear h hsy hq hsl hrow hok1 hok hlen hfs hqu hTW b0 b1 b2 hkey hl0 hl1 hl2 hBU hRU
  go_enter Try.func20, Try.ntmps20
  go_wp2
  go_region
  all_goals
    rw [← hRE] at HRU ⊢
    clear a0 a1 a2 c1 hr1 hr2 z0 z1 z2 hRE hd1
    generalize (W.alloc (.cells #[.slice p k c, .int .i64 sy] 56)).drew = U at HBU HRU HY0 HY1 HY2 ⊢
    have y0 := HY0.out
    have y1 := HY1.out
    have y2 := HY2.out
    have hrowU := HROW.out.stay (w' := U) fun g hg => HBU.out.block g (HROW.out.lt hg)
    have HA := Lib.hid (add_any U R p k c sy _ x HRU.out hrowU HLEN.out)
    clear hrowU
    go_wp2_with fail
    refine HA.out.mono ?_
    rintro e w2 ⟨rfl, p', n', c', hR2, hrow2, hold2, hT2, hat2⟩
    have hUz : W.heap.size ≤ U.heap.size := HBU.out.size
    have hA2 : At w2 F d m D V s1 := (HAT.out.later HBU.out).touched nm.data.toList (HNF.out R (by rw [HRE.out]; exact Nat.le_refl _)) (by rw [HQ.out, HSL.out]; exact hT2) (by rw [HQ.out, HSL.out]; exact hold2)
    have hno : ∀ B, B < W.heap.size → ¬ F B → ¬ (B = R ∨ (Value.slice p k c).ownBlock = some B) := fun B hB hF hh => hh.elim (fun e => by rw [e, HRE.out] at hB; exact Nat.lt_irrefl _ hB) (fun e => hF (HOWN.out B e))
    have x0 := (hT2.cell (p := ⟨B0, 0, none⟩) (Nat.lt_of_lt_of_le HZ.out.1 hUz) (hno B0 HZ.out.1 n0)).trans y0
    have x1 := (hT2.cell (p := ⟨B1, 0, none⟩) (Nat.lt_of_lt_of_le HZ.out.2.1 hUz) (hno B1 HZ.out.2.1 n1)).trans y1
    obtain ⟨r0, r1, -, -⟩ := file_cells hR2
    have hrow3 : ByteRow w2 (.slice p' n' c') (grow q x.data.toList).bytes := by rw [grow_bytes]; exact hrow2
    have hap : ∀ n2 f2, n2 ≠ nm.data.toList → lkF s1.fs n2 = some f2 → ∀ g, (Value.slice p' n' c').ownBlock = some g → (V n2).ownBlock ≠ some g := fun n2 f2 hne hl2 g hg hv => by
      rcases hat2 with e | e
      · rw [e] at hg
        cases hq : q with
        | none =>
          have := HSL.out
          rw [hq] at this
          rw [← this] at hg
          simp [rowOf, nilS, Value.ownBlock] at hg
        | some f =>
          have hV := HVN.out f hq
          rw [← hV] at hg
          have hq2 := HQ.out
          rw [hq] at hq2
          exact HAT.out.apart _ f n2 f2 hq2 hl2 (fun e => hne e.symm) g hg hv
      · rw [e] at hg
        injection hg with hg
        have := (HAT.out.row n2 f2 hl2).lt hv
        omega
    have hP := put_any w2 F d m D V s1 hA2 nm hn p' n' c' (grow q x.data.toList) hrow3 hap HOK.out
    rw [grow_syn, ← HSY.out] at hP
    have HP := Lib.hid hP
    have HT2 : Hid (Turned F W w2) := Lib.hid ((Turned.of_below HBU.out).from_new (hT2.wide fun b hb => hb.elim (fun e => .inr (by rw [e, HRE.out]; exact Nat.le_refl _)) (fun e => .inl (HOWN.out b e))))
    have HAT2 : Hid (∀ g, (Value.slice p' n' c').ownBlock = some g → F g ∨ W.heap.size ≤ g) := Lib.hid (fun g hg => by
      rcases hat2 with e | e
      · rw [e] at hg
        exact .inl (HOWN.out g hg)
      · rw [e] at hg
        injection hg with hg
        exact .inr (by omega))
    have HFM := Lib.hid HAT.out.fm
    clear hP hap hrow3 hR2 hrow2 hold2 hT2 hat2 hA2 hno y0 y1 y2 hUz
    go_wp2_with fail
    refine HP.out.mono ?_
    rintro e w3 ⟨rfl, hT3, hA3⟩
    have HA3 := Lib.hid hA3
    have HT3 := Lib.hid hT3
    clear hA3 hT3
    go_wp2
    go_end0
    rw [HQ.out]
    exact ⟨rfl, Went.x ⟨HT2.out.trans (HT3.out.wide fun b hb => by rw [hb]; exact HFM.out), _, ⟨m, _, _, HA3.out⟩, fun b hb => hb.elim .inl (HAT2.out b)⟩ X⟩
theorem added_ok {s : Dsk} (n : Name) (x : List UInt8) (hn : nameB n = true) (hr : roomB s n x.length = true) (s1 : Dsk) (h : Ok s1) (hf : s1.fs = s.fs) (hq : s1.quota = s.quota) : Ok { s1 with fs := ptF n (grow (lkF s.fs n) x) s.fs } := by
  unfold nameB at hn
  unfold roomB at hr
  simp only [Bool.and_eq_true, Bool.or_eq_true, decide_eq_true_eq] at hn hr
  rw [← hf]
  refine h.put hn ?_ ?_ ?_
  · cases hl : lkF s1.fs n with
    | none => simp [grow]
    | some f =>
      have := (h.one hl).1
      simp [grow]
      omega
  · cases hl : lkF s1.fs n with
    | none =>
      simp [grow, lenOf]
      rw [hf]
      omega
    | some f =>
      simp [grow, lenOf]
      rw [hf]
      omega
  · rw [hf]
    exact hr.1
theorem boxes3 (w : World) (v0 v1 v2 : Value) (t0 t1 t2 : TypeId) (W : World) (hW : W = ((w.alloc (.cells #[v0] t0)).alloc (.cells #[v1] t1)).alloc (.cells #[v2] t2)) : Box W w.heap.size v0 ∧ Box W (w.heap.size + 1) v1 ∧ Box W (w.heap.size + 1 + 1) v2 ∧ Below w.heap.size w W ∧ W.heap.size = w.heap.size + 3 := by
  subst hW
  have h0 := heap_alloc_new w (.cells #[v0] t0)
  have h1 := heap_alloc_new (w.alloc (.cells #[v0] t0)) (.cells #[v1] t1)
  have h2 := heap_alloc_new ((w.alloc (.cells #[v0] t0)).alloc (.cells #[v1] t1)) (.cells #[v2] t2)
  have e1 : (w.alloc (.cells #[v0] t0)).heap.size = w.heap.size + 1 := by simp
  have e2 : ((w.alloc (.cells #[v0] t0)).alloc (.cells #[v1] t1)).heap.size = w.heap.size + 2 := by simp
  rw [e1] at h1
  rw [e2] at h2
  have g1 := blk_stay (pl1 ((w.alloc (.cells #[v0] t0)).alloc (.cells #[v1] t1)) (.cells #[v2] t2)) h1
  have g0 := blk_stay (pl1 ((w.alloc (.cells #[v0] t0)).alloc (.cells #[v1] t1)) (.cells #[v2] t2)) (blk_stay (pl1 (w.alloc (.cells #[v0] t0)) (.cells #[v1] t1)) h0)
  exact ⟨cell_of_cells g0 rfl, cell_of_cells g1 rfl, cell_of_cells h2 rfl, ((pl1 w _).trans ((pl1 _ _).mono (by simp))).trans ((pl1 _ _).mono (by simp; omega)), by simp⟩
set_option maxHeartbeats 4000000 in
set_option maxRecDepth 100000 in
theorem append_any (w : World) (F : Nat → Prop) (d : Nat) (s : Dsk) (h : Is w F d s) (nm x : ByteArray) (he : s.eff + 1 ≤ 1000000000) :
    Calls Try.prog 7 #[.pointer (some ⟨d, 0, none⟩), .string nm, .string x] w fun e w' => e = .returned (.int .i64 (append s nm.data.toList x.data.toList).2) ∧ Went w w' F d (append s nm.data.toList x.data.toList).1 := by
  obtain ⟨W, hW⟩ : ∃ W, W = ((w.alloc (.cells #[.pointer (some ⟨d, 0, none⟩)] 25)).alloc (.cells #[.string nm] 9)).alloc (.cells #[.string x] 9) := ⟨_, rfl⟩
  obtain ⟨b0, b1, b2, hbW, hsz⟩ := boxes3 w _ _ _ _ _ _ W hW
  have hIW := h.later hbW
  have hlt := h.lt
  have HNF : Hid (∀ R, w.heap.size ≤ R → ¬ F R) := Lib.hid (fun R hR hF => by have := hlt R hF; omega)
  have hdn : W.cell? ⟨d, 2, none⟩ = some (.bool s.down) := by
    obtain ⟨m, D, V, hA⟩ := hIW
    exact hA.cells.2.2.1
  have HIW := Lib.hid hIW
  have HBW := Lib.hid hbW
  have HN := Lib.hid (isname_any nm W)
  have HW := Lib.hid hW
  have HSZ := Lib.hid hsz
  have HB := Lib.hid (And.intro b0 (And.intro b1 b2))
  have HSM := Lib.hid (fun W' (hb : Below W.heap.size W W') => Went.on (Turned.of_below HBW.out) (Went.same HIW.out hb))
  clear h hlt hIW hbW hsz hW
  unfold append
  cases hd : s.down with
  | true =>
    rw [hd] at hdn
    rw [if_pos rfl]
    clear hd
    go_enter Try.func7, Try.ntmps7
    go_upto_region 1 with fail
    rw [← HW.out]
    go_wp2
    go_ret
    exact ⟨rfl, HSM.out W (Below.refl _ _)⟩
  | false =>
    rw [hd] at hdn
    rw [if_neg (by simp)]
    clear hd
    cases hnb : nameB nm.data.toList with
    | false =>
      rw [hnb] at HN
      rw [if_pos rfl]
      clear hnb
      go_enter Try.func7, Try.ntmps7
      go_upto_region 1 with fail
      rw [← HW.out]
      go_wp2_with fail
      refine HN.out.mono ?_
      rintro e w2 ⟨rfl, rfl⟩
      go_wp2
      go_ret
      exact ⟨rfl, HSM.out W (Below.refl _ _)⟩
    | true =>
      rw [hnb] at HN
      rw [if_neg (by simp)]
      have hn32 : nm.size ≤ 32 := by
        have h1 := hnb
        unfold nameB at h1
        simp only [Bool.and_eq_true, decide_eq_true_eq] at h1
        rw [size_list] at h1
        exact h1.2
      have HR := Lib.hid (hasroom_any W F d s HIW.out nm x.size (by omega))
      have HNB := Lib.hid hnb
      clear hnb
      rw [size_list]
      cases hrb : roomB s nm.data.toList x.size with
      | false =>
        rw [hrb] at HR
        rw [if_pos rfl]
        clear hrb
        go_enter Try.func7, Try.ntmps7
        go_upto_region 1 with fail
        rw [← HW.out]
        go_wp2_with fail
        refine HN.out.mono ?_
        rintro e w2 ⟨rfl, rfl⟩
        go_wp2_with fail
        refine HR.out.mono ?_
        rintro e w2 ⟨rfl, hb2⟩
        have HB2 := Lib.hid hb2
        clear hb2
        go_wp2
        go_ret
        exact ⟨rfl, HSM.out w2 HB2.out⟩
      | true =>
        rw [hrb] at HR
        rw [if_neg (by simp)]
        have hx20 : x.size ≤ 1048576 := by
          have h1 := hrb
          unfold roomB at h1
          simp only [Bool.and_eq_true, decide_eq_true_eq] at h1
          have := HIW.out.ok.q2
          omega
        have HOK := Lib.hid (added_ok (s := s) nm.data.toList x.data.toList HNB.out (by rw [size_list]; exact hrb))
        clear hrb
        have HNZ : Hid (W.heap.size = w.heap.size + 3) := HSZ
        go_enter Try.func7, Try.ntmps7
        go_upto_region 1 with fail
        rw [← HW.out]
        go_wp2_with fail
        refine HN.out.mono ?_
        rintro e w2 ⟨rfl, rfl⟩
        go_wp2_with fail
        refine HR.out.mono ?_
        rintro e w2 ⟨rfl, hb2⟩
        have y0 := (hb2.cell (p := ⟨w.heap.size, 0, none⟩) (by have := HSZ.out; simp only; omega)).trans b0
        have y1 := (hb2.cell (p := ⟨w.heap.size + 1, 0, none⟩) (by have := HSZ.out; simp only; omega)).trans b1
        have y2 := (hb2.cell (p := ⟨w.heap.size + 1 + 1, 0, none⟩) (by have := HSZ.out; simp only; omega)).trans b2
        obtain ⟨m, D, V, hA2⟩ := HIW.out.later hb2
        have hdo := addc_any w2 F (fun _ => False) d m D V s nm x w.heap.size (w.heap.size + 1) (w.heap.size + 1 + 1) (by omega) y0 y1 y2 (HNF.out _ (by omega)) (HNF.out _ (by omega)) (HNF.out _ (by omega)) hx20 (fun s1 h1 h2 h3 => HOK.out s1 h1 h2 h3)
        have HD := Lib.hid (do_any w2 F _ d m D V s hA2 _ _ _ _ _ _ hdo (fun _ => hdo) he)
        have HB2 := Lib.hid hb2
        clear hb2 hdo hA2
        go_wp2_with fail
        refine HD.out.mono ?_
        rintro e w3 ⟨rfl, hw3⟩
        have HW3 := Lib.hid (hw3.went (Turned.of_below (HBW.out.trans (HB2.out.mono HBW.out.size))) (fun _ h => h.elim))
        clear hw3
        go_wp2
        go_ret
        exact ⟨rfl, HW3.out⟩
end Go.Proofs.Yteigkmeenokfoaa.Vd
