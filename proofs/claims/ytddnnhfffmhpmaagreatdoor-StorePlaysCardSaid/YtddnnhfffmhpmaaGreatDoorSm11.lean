/- Own texts, merged (11 of 42). -/
import Derived.Test.YtddnnhfffmhpmaaGreatDoorSm8
import Derived.Deep.QuietTactic
import Derived.BigQuiet
import Derived.StillTailTactics
import Derived.Test.YtddnnhfffmhpmaaGreatDoorSm2

/- What lasts of a file. -/
namespace Go.Proofs.YtddnnhfffmhpmaaGreatDoor.Vd
open Go.RowKit Go.Proofs.YtddnnhfffmhpmaaGreatDoor VdM Go.Maps

theorem ByteRow.take {w : World} {p : Option Addr} {n c : Nat} {l : List UInt8} (h : ByteRow w (.slice p n c) l) (k : Nat) (hk : k ≤ l.length) : ByteRow w (.slice p k c) (l.take k) := by
  have hl : (l.take k).length = k := by simp; omega
  refine ⟨by simp, ?_⟩
  rcases h.2 with ⟨e, e2⟩ | ⟨g, cap, cur, e, hb, hg, hnc, hcm, hcs, ht⟩
  · injection e with e1 e2' e3
    subst e1
    subst e3
    left
    have : k = 0 := by omega
    subst this
    exact ⟨rfl, hl⟩
  · injection e with e1 e2' e3
    subst e1
    subst e3
    right
    refine ⟨g, c, cur, by rw [hl], hb, hg, by omega, hcm, hcs, ?_⟩
    rw [hl, List.map_take, ← ht, List.take_take]
    congr 1
    omega
theorem slice_bytes {w : World} {p : Option Addr} {n c : Nat} {l : List UInt8} (h : ByteRow w (.slice p n c) l) : n = l.length ∧ l.length ≤ c ∧ (p = none ∧ c = 0 ∨ ∃ g, p = some ⟨g, 0, none⟩) := by
  rcases h.2 with ⟨e, e2⟩ | ⟨g, cap, cur, e, hb, hg, hnc, hcm, hcs, ht⟩
  · injection e with e1 e3 e4
    exact ⟨by omega, by omega, .inl ⟨e1, e4⟩⟩
  · injection e with e1 e3 e4
    exact ⟨e3, by omega, .inr ⟨g, e1⟩⟩
set_option maxHeartbeats 1000000 in
set_option maxRecDepth 100000 in
theorem fsync_any (w : World) (R : Nat) (p : Option Addr) (n c : Nat) (sy : Int) (hR : FileAt w R (.slice p n c) sy) :
    Calls Tryz.prog 53 #[.pointer (some ⟨R, 0, none⟩)] w fun e w' => e = .returned (.tuple #[]) ∧ FileAt w' R (.slice p n c) (n : Int) ∧ Turned (fun b => b = R) w w' := by
  obtain ⟨c0, c1, f0, f1⟩ := file_cells hR
  have HR := Lib.hid hR
  clear hR
  go_enter Tryz.func53, Tryz.ntmps53
  go_wp2
  go_end0
  refine ⟨rfl, ?_, Turned.setc (F := fun b => b = R) rfl _ _⟩
  have := heap_setCell_row HR.out 1 (.int .i64 (n : Int))
  simpa using this
set_option maxHeartbeats 1000000 in
set_option maxRecDepth 100000 in
theorem fail_any (w : World) (R n c sy : Nat) (p : Option Addr) (keep : Int) (hR : FileAt w R (.slice p n c) (sy : Int)) (hs : sy ≤ n) (hn : n ≤ 1048576) (hc : n ≤ c) :
    Calls Tryz.prog 28 #[.pointer (some ⟨R, 0, none⟩), .int .i64 keep] w fun e w' => e = .returned (.tuple #[]) ∧ FileAt w' R (.slice p (sy + min keep.toNat (n - sy)) c) ((sy + min keep.toNat (n - sy) : Nat) : Int) ∧ Turned (fun b => b = R) w w' := by
  obtain ⟨c0, c1, f0, f1⟩ := file_cells hR
  have hw : IntKind.i64.wrap ((n : Int) - (sy : Int)) = (n : Int) - (sy : Int) := by rw [IntKind.wrap_i64]; omega
  have HR := Lib.hid hR
  clear hR
  go_enter Tryz.func28, Tryz.ntmps28
  go_wp2
  go_quiet (fail)
  have hbq := below_drewN_p w nq
  have hR2 := blk_stay hbq HR.out
  have HBQ := Lib.hid hbq
  generalize w.drewN nq = w2 at hR2 HBQ ⊢
  clear c0 c1 f0 f1 hbq HR
  obtain ⟨c0, c1, f0, f1⟩ := file_cells hR2
  obtain ⟨tl, htl⟩ : ∃ x : Nat, x = n - sy := ⟨_, rfl⟩
  have htI : (n : Int) - (sy : Int) = (tl : Int) := by omega
  rw [htI]
  obtain ⟨kk, hkk⟩ : ∃ x : Nat, x = keep.toNat := ⟨_, rfl⟩
  obtain ⟨kp, hkp⟩ : ∃ x : Nat, x = min kk tl := ⟨_, rfl⟩
  obtain ⟨kn, hkn⟩ : ∃ x : Nat, x = sy + kp := ⟨_, rfl⟩
  have hm1 : (if keep < 0 then 0 else keep) = (kk : Int) := by split <;> omega
  have hm2 : (if (tl : Int) < (kk : Int) then (tl : Int) else (kk : Int)) = (kp : Int) := by split <;> omega
  have hm3 : (if tl < kk then (tl : Int) else (kk : Int)) = (kp : Int) := by split <;> omega
  have hw2 : IntKind.i64.wrap ((sy : Int) + (kp : Int)) = (kn : Int) := by rw [IntKind.wrap_i64]; omega
  have hk1 : kn ≤ n := by omega
  have hk2 : kn ≤ c := by omega
  have hkc : (kn : Int) ≤ (c : Int) := by omega
  have hk0 : (0 : Int) ≤ (kn : Int) := by omega
  have hres : sy + min keep.toNat (n - sy) = kn := by rw [hkn, hkp, htl, hkk]
  have HRES := Lib.hid hres
  have HR2 := Lib.hid hR2
  clear hR2 htl htI hkk hkp hkn hw hres
  go_wp2
  go_still_tail 17, (by kernel_rfl)
  change wpList _ _ _ _ _ w2.drew
  have hR3 : FileAt w2.drew R (.slice p n c) (sy : Int) := HR2.out
  have HB3 := Lib.hid (HBQ.out.drew)
  clear HBQ HR2 c0 c1 f0 f1
  generalize w2.drew = w3 at hR3 HB3 ⊢
  obtain ⟨c0, c1, f0, f1⟩ := file_cells hR3
  have hR4 : FileAt (w3.setCell ⟨R, 0, none⟩ (.slice p kn c)) R (.slice p kn c) (sy : Int) := by
    have := heap_setCell_row hR3 0 (.slice p kn c)
    simpa using this
  have HS := Lib.hid (fsync_any _ R _ kn c _ hR4)
  clear hR3 hR4
  go_wp2_with fail
  refine HS.out.mono ?_
  rintro e w5 ⟨rfl, hR5, hT5⟩
  have HR5 := Lib.hid hR5
  have HT5 := Lib.hid hT5
  clear hR5 hT5
  go_wp2
  go_end0
  rw [HRES.out]
  exact ⟨rfl, HR5.out, ((Turned.of_below (S := fun b => b = R) HB3.out).set_ rfl 0 _).trans HT5.out⟩
end Go.Proofs.YtddnnhfffmhpmaaGreatDoor.Vd

/- The power fails. -/
namespace Go.Proofs.YtddnnhfffmhpmaaGreatDoor.Vd
open Go.RowKit Go.Proofs.YtddnnhfffmhpmaaGreatDoor VdM Go.Maps

theorem Rep.cong {D : MD} {V V' : Name → Value} {fs fs' : Fils} (h : Rep D V fs) (he : ∀ n, lkF fs' n = lkF fs n) (hV : ∀ n f, lkF fs n = some f → V' n = V n) : Rep D V' fs' :=
  ⟨h.map, fun n => by rw [h.has, he], fun n f hl z => by
    rw [he] at hl
    rw [h.at_ n f hl z, hV n f hl]⟩
theorem lk_mapn (g : Name → Fil → Fil) (n : Name) : ∀ l : Fils, lkF (l.map fun x => (x.1, g x.1 x.2)) n = (lkF l n).map (g n)
  | [] => rfl
  | x :: t => by
    rw [List.map_cons, lkF, lkF]
    by_cases e : x.1 = n
    · rw [if_pos e, if_pos e, e]; rfl
    · rw [if_neg e, if_neg e, lk_mapn g n t]
/-- the files, of which those that have come are cut -/
def midG (keep : Int) (left : Lit → Bool) (n : Name) (f : Fil) : Fil := if left (keyS n) then f else cutF keep f
def mid (keep : Int) (left : Lit → Bool) (fs : Fils) : Fils := fs.map fun x => (x.1, midG keep left x.1 x.2)
def shr (v : Value) (k : Nat) : Value :=
  match v with
  | .slice p _ c => .slice p k c
  | v => v
def midV (keep : Int) (left : Lit → Bool) (fs : Fils) (V : Name → Value) (n : Name) : Value :=
  match lkF fs n with
  | none => V n
  | some f => if left (keyS n) then V n else shr (V n) (cutF keep f).bytes.length
theorem mid_rep {D : MD} {V : Name → Value} {fs : Fils} (h : Rep D V fs) (keep : Int) : Rep D (midV keep (Maps.has D) fs V) (mid keep (Maps.has D) fs) := by
  refine h.cong (fun n => ?_) (fun n f hl => ?_)
  · unfold mid
    rw [lk_mapn]
    cases hl : lkF fs n with
    | none => rfl
    | some f =>
      show some (midG keep _ n f) = some f
      unfold midG
      rw [h.has, hl]
      rfl
  · unfold midV
    rw [hl]
    show (if Maps.has D (keyS n) = true then _ else _) = _
    rw [h.has, hl]
    rfl
theorem mid_step {D : MD} {V : Name → Value} {fs : Fils} {keep : Int} {left : Lit → Bool} (h : Rep D (midV keep left fs V) (mid keep left fs)) {n : Name} {f : Fil} (hl : lkF fs n = some f) {p : Option Addr} {k c : Nat} (hV : V n = .slice p k c) :
    Rep (putD D n (.slice p (cutF keep f).bytes.length c) (cutF keep f)) (midV keep (fun z => left z && !z.sameKey (keyS n)) fs V) (mid keep (fun z => left z && !z.sameKey (keyS n)) fs) := by
  have hp := h.put n (.slice p (cutF keep f).bytes.length c) (cutF keep f)
  have hoth : ∀ m : Name, m ≠ n → (keyS m).sameKey (keyS n) = false := fun m hm => by rw [sameKey_s, decide_eq_false hm]
  have hsame : (keyS n).sameKey (keyS n) = true := by rw [sameKey_s, decide_eq_true rfl]
  refine hp.cong (fun m => ?_) (fun m g hm => ?_)
  · by_cases e : m = n
    · subst e
      rw [look_put_same]
      unfold mid
      rw [lk_mapn, hl]
      show some (midG keep _ m f) = _
      unfold midG
      simp only [hsame, Bool.not_true, Bool.and_false]
      rfl
    · rw [look_put_other _ e]
      unfold mid
      rw [lk_mapn, lk_mapn]
      cases lkF fs m with
      | none => rfl
      | some g =>
        show some (midG keep _ m g) = some (midG keep _ m g)
        unfold midG
        simp only [hoth m e, Bool.not_false, Bool.and_true]
  · by_cases e : m = n
    · subst e
      rw [updV_same]
      unfold midV
      rw [hl]
      simp only [hsame, Bool.not_true, Bool.and_false, hV]
      rfl
    · rw [updV_other _ _ e]
      unfold midV
      cases lkF fs m with
      | none => rfl
      | some g =>
        simp only [hoth m e, Bool.not_false, Bool.and_true]
theorem mid_end {D : MD} {V : Name → Value} {fs : Fils} {keep : Int} {left : Lit → Bool} (h : Rep D (midV keep left fs V) (mid keep left fs)) (hl : ∀ kl, left kl = false) :
    Rep D (midV keep left fs V) (cutAll keep fs) ∧ ∀ n f, lkF fs n = some f → midV keep left fs V n = shr (V n) (cutF keep f).bytes.length := by
  refine ⟨h.cong (fun n => ?_) (fun _ _ _ => rfl), fun n f hf => ?_⟩
  · unfold mid cutAll
    rw [lk_mapn, look_map]
    cases lkF fs n with
    | none => rfl
    | some g =>
      show some (cutF keep g) = some (midG keep _ n g)
      unfold midG
      rw [hl]
      rfl
  · unfold midV
    rw [hf]
    show (if _ then _ else _) = _
    rw [hl]
    rfl
theorem cut_len (keep : Int) (f : Fil) (h : f.syn ≤ f.bytes.length) : (cutF keep f).bytes.length = f.syn + min keep.toNat (f.bytes.length - f.syn) := by
  simp [cutF]
  omega
section
variable {w w' : World} {F : Nat → Prop} {d m : Nat} {D D' : MD} {V V' : Name → Value} {s : Dsk}
theorem At.cut (h : At w F d m D V s) (keep : Int) {nn : Nat} (hT : Turned (fun b => b = m) w w') (ho : Own w' m nn D') (hrep : Rep D' V' (cutAll keep s.fs)) (hV : ∀ n f, lkF s.fs n = some f → V' n = shr (V n) (cutF keep f).bytes.length) :
    At w' F d m D' V' { s with fs := cutAll keep s.fs } := by
  have hlk : ∀ n f', lkF (cutAll keep s.fs) n = some f' → ∃ f, lkF s.fs n = some f ∧ f' = cutF keep f := fun n f' hl => by
    unfold cutAll at hl
    rw [look_map] at hl
    cases hf : lkF s.fs n with
    | none => rw [hf] at hl; cases hl
    | some f =>
      rw [hf] at hl
      injection hl with hl
      exact ⟨f, rfl, hl.symm⟩
  have hsh : ∀ n f, lkF s.fs n = some f → ∃ p c, V n = .slice p f.bytes.length c ∧ V' n = .slice p (cutF keep f).bytes.length c := fun n f hf => by
    obtain ⟨p, c, e⟩ := (h.row n f hf).shape
    exact ⟨p, c, e, by rw [hV n f hf, e]; rfl⟩
  have hob : ∀ n f, lkF s.fs n = some f → (V' n).ownBlock = (V n).ownBlock := fun n f hf => by
    obtain ⟨p, c, e1, e2⟩ := hsh n f hf
    rw [e1, e2]
    cases p <;> rfl
  have hri : Rising (cutAll keep s.fs) := rising_map _ h.ok.rise
  refine ⟨(hT.block d h.dlt (fun e => h.md e.symm)).trans h.ob, ?_, hrep, fun n f' hl => ?_, fun n f1 n' f2 hl hl' hne g hg => ?_, h.fd, h.fm, fun n f' hl g hg => ?_, fun b hb => Nat.lt_of_lt_of_le (h.lt b hb) hT.size, ?_⟩
  · have := own_exact ho
    rw [size_rep ho hrep hri] at this
    exact this
  · obtain ⟨f, hf, rfl⟩ := hlk n f' hl
    obtain ⟨p, c, e1, e2⟩ := hsh n f hf
    have hr := h.row n f hf
    have hr' : ByteRow w' (V n) f.bytes := hr.stay fun g hg => hT.block g (hr.lt hg) (h.gd hf hg).2
    rw [e1] at hr'
    rw [e2]
    have hs := (h.ok.one hf).1
    have := hr'.take (cutF keep f).bytes.length (by simp [cutF]; omega)
    have e3 : f.bytes.take (cutF keep f).bytes.length = (cutF keep f).bytes := by
      rw [cut_len keep f hs]
      rfl
    rw [e3] at this
    exact this
  · obtain ⟨f, hf, rfl⟩ := hlk n f1 hl
    obtain ⟨f', hf', rfl⟩ := hlk n' f2 hl'
    rw [hob n f hf] at hg
    rw [hob n' f' hf']
    exact h.apart n f n' f' hf hf' hne g hg
  · obtain ⟨f, hf, rfl⟩ := hlk n f' hl
    rw [hob n f hf] at hg
    exact h.fv n f hf g hg
  · have h1 := h.ok
    refine ⟨h1.q1, h1.q2, hri, fun x hx => ?_, fun x hx => ?_, Nat.le_trans (used_cut keep s.fs) h1.fits, by simpa [cutAll] using h1.most, h1.at0⟩
    · obtain ⟨y, hy, rfl⟩ := List.mem_map.1 hx
      exact h1.names y hy
    · obtain ⟨y, hy, rfl⟩ := List.mem_map.1 hx
      have := h1.syn y hy
      show (cutF keep y.2).syn ≤ (cutF keep y.2).bytes.length
      rw [cut_len keep y.2 this]
      exact Nat.le_refl _
end
set_option maxHeartbeats 4000000 in
set_option maxRecDepth 100000 in
theorem crash_any (w : World) (F : Nat → Prop) (d : Nat) (s : Dsk) (h : Is w F d s) (keep : Int) :
    Calls Tryz.prog 9 #[.pointer (some ⟨d, 0, none⟩), .int .i64 keep] w fun e w' => e = .returned (.tuple #[]) ∧ Turned F w w' ∧ Is w' F d (crash s keep) := by
  obtain ⟨m, D, V, h⟩ := h
  obtain ⟨c0, c1, c2, c3, c4, c5⟩ := h.cells
  unfold crash
  cases hd : s.down with
  | true =>
    rw [hd] at c2
    have HI : Hid (Is w F d s) := Lib.hid ⟨m, D, V, h⟩
    clear h hd c0 c1 c3 c4 c5
    go_enter Tryz.func9, Tryz.ntmps9
    go_wp2
    exact bodyPost_ret (v := .tuple #[]) (by simp [results, Tryz.results9, go_sem]) rfl ⟨rfl, Turned.refl _ _, HI.out⟩
  | false =>
    rw [hd] at c2
    have hown := h.own
    have hmd := h.md
    have hml := hown.lt
    have hdl := h.dlt
    have hmo := h.ok.most
    obtain ⟨nn, hnn⟩ : ∃ n, n = s.fs.length := ⟨_, rfl⟩
    rw [← hnn] at hown hmo
    have HMO := Lib.hid hmo
    have HAT := Lib.hid h
    have HD := Lib.hid hd
    have HMD := Lib.hid hmd
    have HSH : Hid (∀ n f, lkF s.fs n = some f → ∃ p c, V n = .slice p f.bytes.length c ∧ f.bytes.length ≤ c ∧ f.syn ≤ f.bytes.length ∧ f.bytes.length ≤ 1048576) := Lib.hid (fun n f hl => by
      have hr := h.row n f hl
      obtain ⟨p, c, e⟩ := hr.shape
      rw [e] at hr
      exact ⟨p, c, e, (slice_bytes hr).2.1, (h.ok.one hl).1, (h.ok.one hl).2.1⟩)
    clear h hd hmd hmo hnn c0 c3 c4 c5
    go_enter Tryz.func9, Tryz.ntmps9
    go_wp2_with (at_range; refine wpList_range_own _ rfl _ 62 rfl 9 72 key_law Tryz.underlying62 _ m nn _ rfl hown ?_; intro w0 hrg0 hg0 hs0)
    have HB0 : Hid (Below w.heap.size w w0) := Lib.hid ((Below.refl _ _).grown hg0 (Nat.le_refl _) (fun q hq => by cases hq))
    obtain ⟨r, hrE⟩ : ∃ r, r = w.heap.size := ⟨_, rfl⟩
    rw [← hrE]
    rw [← hrE] at hrg0
    have HRE := Lib.hid hrE
    clear hown hg0 hs0 hrE c1 c2
    go_frame
    go_loopw [] (fun wr => ∃ (left : Lit → Bool) (cnt : Nat) (D' : MD), Rng wr m r nn D' left cnt ∧ Rep D' (midV keep left s.fs V) (mid keep left s.fs) ∧ Turned (fun b => b = m) w wr) (fun wr => wr.rangeLeft m r)
    case atStart => exact ⟨_, _, D, hrg0, mid_rep HAT.out.rep keep, Turned.of_below HB0.out⟩
    case round =>
      obtain ⟨left, cnt, D', hrg, hrep, hT⟩ := hrel
      have HREP := Lib.hid hrep
      have HT := Lib.hid hT
      have HRG := Lib.hid hrg
      have hwz : w.heap.size ≤ wr.heap.size := hT.size
      clear hrep hT
      go_wp2_with (at_next; refine wpList_next_file rfl _ rfl m r nn D' _ _ left cnt rfl hrg HREP.out ?_ ?_)
      · intro hc0 hl0
        have HL := Lib.hid hl0
        clear hl0 hc0 hrg
        have hE := mid_end HREP.out HL.out
        have hA := HAT.out.cut keep HT.out (World.ranges.owns HRG.out) hE.1 hE.2
        obtain ⟨-, -, k2, k3, k4, -⟩ := hA.cells
        have f2 := hA.free 2
        have f3 := hA.free 3
        have f4 := hA.free 4
        have hok := hA.ok
        have hA3 := hA.set 3 (.int .i64 0) { s with fs := cutAll keep s.fs, at_ := 0 } rfl ⟨hok.q1, hok.q2, hok.rise, hok.names, hok.syn, hok.fits, hok.most, by simp⟩ rfl
        have hok3 := hA3.ok
        have hA4 := hA3.set 4 (.int .i64 0) { s with fs := cutAll keep s.fs, at_ := 0, keep := 0 } rfl ⟨hok3.q1, hok3.q2, hok3.rise, hok3.names, hok3.syn, hok3.fits, hok3.most, by simp⟩ rfl
        have hok4 := hA4.ok
        have HA2 := Lib.hid (hA4.set 2 (.bool true) { s with fs := cutAll keep s.fs, at_ := 0, keep := 0, down := true } rfl ⟨hok4.q1, hok4.q2, hok4.rise, hok4.names, hok4.syn, hok4.fits, hok4.most, by simp⟩ rfl)
        have HFD := Lib.hid (And.intro hA.fd hA.fm)
        have HTF : Hid (Turned F w wr) := Lib.hid (HT.out.wide fun b hb => by rw [hb]; exact HFD.out.2)
        clear hE hA hok hA3 hok3 hA4 hok4
        go_wp2
        go_end0
        exact ⟨rfl, ((HTF.out.set_ HFD.out.1 3 _).set_ HFD.out.1 4 _).set_ HFD.out.1 2 _, m, _, _, HA2.out⟩
      · intro nm f p k c w1 cnt1 hnm hlk hlf hV hrg1 hlt hg1 hs1 hen
        have hlk0 : lkF s.fs nm.data.toList = some f ∧ V nm.data.toList = .slice p k c := by
          unfold mid at hlk
          rw [lk_mapn] at hlk
          cases hl : lkF s.fs nm.data.toList with
          | none => rw [hl] at hlk; cases hlk
          | some f0 =>
            rw [hl] at hlk
            injection hlk with hlk
            unfold midG at hlk
            rw [if_pos hlf] at hlk
            subst hlk
            unfold midV at hV
            rw [hl] at hV
            simp only [hlf, if_true] at hV
            exact ⟨rfl, hV⟩
        obtain ⟨p', c', hV', hkc, hsy, hbd⟩ := HSH.out _ f hlk0.1
        rw [hlk0.2] at hV'
        injection hV' with hp hk hc
        subst hp hc
        have hhas : Maps.has D' (keyS nm.data.toList) = true := by rw [HREP.out.has, hlk]; rfl
        obtain ⟨kn, hkn⟩ : ∃ x, x = f.syn + min keep.toNat (k - f.syn) := ⟨_, rfl⟩
        have hstep := mid_step HREP.out hlk0.1 hlk0.2
        have hcl : (cutF keep f).bytes.length = kn ∧ (cutF keep f).syn = kn := ⟨by rw [cut_len keep f hsy, hkn, hk], by rw [hkn, hk]; rfl⟩
        unfold putD at hstep
        rw [hcl.1, hcl.2] at hstep
        have HSTEP := Lib.hid hstep
        obtain ⟨sy, hsyE⟩ : ∃ x, x = f.syn := ⟨_, rfl⟩
        rw [← hsyE] at hen hkn hsy ⊢
        have hT1 : Turned (fun b => b = m) w w1 := HT.out.from_new (Turned.of_grown hg1 (.inr (by rw [HRE.out]; exact Nat.le_refl _)))
        have hm1 : m < w1.heap.size := Nat.lt_of_lt_of_le hml hT1.size
        have hr1 : r < w1.heap.size := World.ranges.lt hrg1
        have hw1 := hT1.size
        have hF := fail_any _ w1.heap.size k c sy p keep (heap_alloc_new w1 (.cells #[.slice p k c, .int .i64 (sy : Int)] 72)) (by omega) (by omega) (by omega)
        rw [← hkn] at hF
        have HF := Lib.hid hF
        have HG1 := Lib.hid hrg1
        have HLT := Lib.hid hlt
        have HT1 := Lib.hid hT1
        have HHAS := Lib.hid hhas
        have hnl := (HAT.out.ok.one hlk0.1).2.2.2
        rw [size_list] at hnl
        have HKEY := Lib.hid (key_is nm (by omega))
        clear hlk hlk0 hV hlf hkc hsy hbd hhas hstep hcl hsyE hkn hk hrg1 hlt hg1 hs1 hT1 hF hrg hnm hnl
        go_wp2_with fail
        refine HF.out.mono ?_
        rintro e w2 ⟨rfl, hR2, hT2⟩
        have hsz : (w1.alloc (.cells #[.slice p k c, .int .i64 (sy : Int)] 72)).heap.size = w1.heap.size + 1 := by simp
        have hbl : ∀ b, b < w1.heap.size → w2.heap[b]? = w1.heap[b]? := fun b hb => (hT2.block b (by omega) (by omega)).trans ((pl1 w1 _).block b hb)
        have hT12 : Turned (fun b => b = m) w w2 := (HT1.out.alloc (.cells #[.slice p k c, .int .i64 (sy : Int)] 72)).from_new (hT2.wide fun b hb => .inr (by omega))
        have hR2' : w1.heap.size < w2.heap.size := by have := hT2.size; omega
        have hG2 : Rng w2.drew m r nn D' _ cnt1 := Rng.stay HG1.out (hbl m hm1) (hbl r hr1)
        have hd2 : w2.cell? ⟨d, 1, none⟩ = some (.map (some m)) := (hT12.cell (p := ⟨d, 1, none⟩) hdl (fun e => HMD.out e.symm)).trans HAT.out.cells.2.1
        obtain ⟨w6, hrun, hG6, hM6⟩ := ranges_store hG2 key_law Tryz.underlying62 (by have := HMO.out; unfold maxLen; omega) HKEY.out (fileElem_mk p kn c (kn : Int)) HHAS.out
        obtain ⟨x0, x1, -, -⟩ := file_cells hR2
        have HG6 := Lib.hid hG6
        have HT6 : Hid (Turned (fun b => b = m) w w6) := Lib.hid ((hT12.drew).trans (Turned.of_grown hM6.grown rfl))
        obtain ⟨R, hRE⟩ : ∃ R, R = w1.heap.size := ⟨_, rfl⟩
        rw [← hRE] at x0 x1 ⊢
        clear hR2 hT2 hsz hbl hT12 hR2' hG2 hG6 hM6 hRE hm1 hr1 hw1
        go_wp2
        go_region
        all_goals
          go_wp2
          go_roundw
          case rel => exact ⟨_, cnt1, _, HG6.out, HSTEP.out, HT6.out⟩
          case measure =>
            rw [World.ranges.left_eq HG6.out, World.ranges.left_eq HRG.out]
            exact HLT.out
end Go.Proofs.YtddnnhfffmhpmaaGreatDoor.Vd

/- An effect is done, or the power fails ahead of it. -/
namespace Go.Proofs.YtddnnhfffmhpmaaGreatDoor.Vd
open Go.RowKit Go.Proofs.YtddnnhfffmhpmaaGreatDoor VdM Go.Maps

/-- as Went; variables of the caller's, X, may turn besides -/
def WentX (w w' : World) (F X : Nat → Prop) (d : Nat) (s' : Dsk) : Prop := Turned (fun b => F b ∨ X b) w w' ∧ ∃ F', Is w' F' d s' ∧ ∀ b, F' b → F b ∨ w.heap.size ≤ b
theorem Went.x {w w' : World} {F : Nat → Prop} {d : Nat} {s' : Dsk} (h : Went w w' F d s') (X : Nat → Prop) : WentX w w' F X d s' := ⟨h.1.wide fun _ => .inl, h.2⟩
theorem WentX.went {w0 w w' : World} {F X : Nat → Prop} {d : Nat} {s' : Dsk} (h : WentX w w' F X d s') (hT : Turned F w0 w) (hX : ∀ b, X b → w0.heap.size ≤ b) : Went w0 w' F d s' := by
  obtain ⟨h1, F', h2, h3⟩ := h
  exact ⟨hT.from_new (h1.wide fun b hb => hb.elim .inl (fun x => .inr (hX b x))), F', h2, fun b hb => (h3 b hb).elim .inl (fun x => .inr (Nat.le_trans hT.size x))⟩
/-- what a closure does to the disk's files -/
def Does (w : World) (F X : Nat → Prop) (d m : Nat) (D : MD) (V : Name → Value) (s : Dsk) (f : FuncId) (B : Array Value) (fs' : Fils) : Prop :=
  (∀ args w, (callFunc f args).run Tryz.prog w = .ok (.enter f args) w) ∧ ∀ W s1, Turned F w W → At W F d m D V s1 → s1.fs = s.fs → s1.quota = s.quota → Calls Tryz.prog f B W fun e W' => e = .returned (.tuple #[]) ∧ WentX W W' F X d { s1 with fs := fs' }
theorem Went.on {w w1 w' : World} {F : Nat → Prop} {d : Nat} {s' : Dsk} (hT : Turned F w w1) (h : Went w1 w' F d s') : Went w w' F d s' := by
  obtain ⟨h1, F', h2, h3⟩ := h
  exact ⟨hT.trans h1, F', h2, fun b hb => (h3 b hb).elim .inl (fun x => .inr (Nat.le_trans hT.size x))⟩
theorem WentX.on {w w1 w' : World} {F X : Nat → Prop} {d : Nat} {s' : Dsk} (hT : Turned F w w1) (h : WentX w1 w' F X d s') : WentX w w' F X d s' := by
  obtain ⟨h1, F', h2, h3⟩ := h
  exact ⟨(hT.wide fun _ => .inl).trans h1, F', h2, fun b hb => (h3 b hb).elim .inl (fun x => .inr (Nat.le_trans hT.size x))⟩
set_option maxHeartbeats 4000000 in
set_option maxRecDepth 100000 in
theorem do_any (w : World) (F X : Nat → Prop) (d m : Nat) (D : MD) (V : Name → Value) (s : Dsk) (h : At w F d m D V s) (f1 f2 : FuncId) (B1 B2 : Array Value) (wf ef : Fils) (h1 : Does w F X d m D V s f1 B1 wf) (h2 : s.at_ = 1 → Does w F X d m D V s f2 B2 ef) (he : s.eff + 1 ≤ 1000000000) :
    Calls Tryz.prog 122 #[.pointer (some ⟨d, 0, none⟩), .func (.func f1) #[] B1, .func (.func f2) #[] B2] w fun e w' => e = .returned (.int .i64 (effE s)) ∧ WentX w w' F X d (eff s { s with fs := wf } { s with fs := ef }) := by
  have hIs := h
  obtain ⟨c0, c1, c2, c3, c4, c5⟩ := h.cells
  have f3 := h.free 3
  have hat := h.ok.at0
  obtain ⟨a, ha⟩ : ∃ a, a = s.at_ := ⟨_, rfl⟩
  rw [← ha] at c3 hat
  by_cases hc : a = 1
  · have hE : effE s = 7 := by unfold effE; rw [← ha, if_pos hc]
    have hS : eff s { s with fs := wf } { s with fs := ef } = crash { s with fs := ef } s.keep := by unfold eff; rw [← ha, if_pos hc]
    rw [hE, hS]
    have hb : ((a : Int) == 1) = true := by rw [hc]; rfl
    obtain ⟨eg, hcall⟩ := h2 (by rw [← ha]; exact hc)
    have HC := Lib.hid (hcall w s (Turned.refl _ _) hIs rfl rfl)
    have HIS := Lib.hid hIs
    obtain ⟨kp, hkp⟩ : ∃ x, x = s.keep := ⟨_, rfl⟩
    rw [← hkp]
    have HKP := Lib.hid hkp
    clear hE hS hc ha hat hcall h1 h2 h hIs c0 c1 c2 c4 c5 f3 he hkp
    go_enter Tryz.func122, Tryz.ntmps122
    go_wp2_with fail
    refine HC.out.mono ?_
    rintro e w1 ⟨rfl, hw⟩
    obtain ⟨hT, F', hI, hF⟩ := hw
    have HCR := Lib.hid (crash_any w1 F' d _ hI kp)
    obtain ⟨m', D', V', hA⟩ := hI
    have k4 := hA.cells.2.2.2.2.1
    simp only at k4
    rw [← HKP.out] at k4
    have HT := Lib.hid hT
    have HF := Lib.hid hF
    clear hT hF hA eg
    go_wp2_with fail
    refine HCR.out.mono ?_
    rintro e w2 ⟨rfl, hT2, hI2⟩
    have HW := Lib.hid (show WentX w w2 F X d (crash { s with fs := ef } kp) from ⟨HT.out.from_new (hT2.wide fun b hb => (HF.out b hb).elim (fun x => .inl (.inl x)) .inr), F', hI2, HF.out⟩)
    clear hT2 hI2
    go_wp2
    go_ret
    exact ⟨rfl, by have hh := HW.out; rw [HKP.out] at hh ⊢; exact hh⟩
  · have hE : effE s = 0 := by unfold effE; rw [← ha, if_neg hc]
    have hS : eff s { s with fs := wf } { s with fs := ef } = { s with fs := wf, at_ := max (a - 1) 0, eff := s.eff + 1 } := by unfold eff; rw [← ha, if_neg hc]
    rw [hE, hS]
    have hb : ((a : Int) == 1) = false := by simpa using hc
    obtain ⟨eg, hcall⟩ := h1
    obtain ⟨a1, ha1⟩ : ∃ x, x = a - 1 := ⟨_, rfl⟩
    obtain ⟨a2, ha2⟩ : ∃ x, x = max (a - 1) 0 := ⟨_, rfl⟩
    rw [← ha2]
    have hw1 : IntKind.i64.wrap (a - 1) = a1 := by rw [IntKind.wrap_i64]; omega
    have hw2 : (if a1 < 0 then 0 else a1) = a2 := by split <;> omega
    have hok := h.ok
    have hA3 := h.set 3 (.int .i64 a2) { s with at_ := a2 } rfl ⟨hok.q1, hok.q2, hok.rise, hok.names, hok.syn, hok.fits, hok.most, by show 0 ≤ a2 ∧ a2 ≤ _; omega⟩ rfl
    have hT3 : Turned F w (w.setCell ⟨d, 3, none⟩ (.int .i64 a2)) := Turned.setc h.fd 3 _
    have HC := Lib.hid (hcall _ { s with at_ := a2 } hT3 hA3 rfl rfl)
    have HT3 := Lib.hid hT3
    have HE := Lib.hid he
    clear hE hS hc hat hcall h2 h hIs c0 c1 c2 c4 c5 he ha ha1 ha2 hok hA3 hT3
    go_enter Tryz.func122, Tryz.ntmps122
    go_wp2_with fail
    refine HC.out.mono ?_
    rintro e w1 ⟨rfl, hw⟩
    obtain ⟨hT, F', hI, hF⟩ := hw
    obtain ⟨m', D', V', hA⟩ := hI
    have HI := Lib.hid (iadd9_any d 5 s.eff w1 HE.out hA.cells.2.2.2.2.2 (hA.free 5))
    have hok := hA.ok
    have hA5 := hA.set 5 (.int .i64 ((s.eff + 1 : Nat) : Int)) { s with fs := wf, at_ := a2, eff := s.eff + 1 } rfl ⟨hok.q1, hok.q2, hok.rise, hok.names, hok.syn, hok.fits, hok.most, hok.at0⟩ rfl
    have hT5 : Turned F' w1 (w1.setCell ⟨d, 5, none⟩ (.int .i64 ((s.eff + 1 : Nat) : Int))) := Turned.setc hA.fd 5 _
    have HW := Lib.hid (WentX.on HT3.out (show WentX (w.setCell ⟨d, 3, none⟩ (.int .i64 a2)) (w1.setCell ⟨d, 5, none⟩ (.int .i64 ((s.eff + 1 : Nat) : Int))) F X d { s with fs := wf, at_ := a2, eff := s.eff + 1 } from ⟨hT.from_new (hT5.wide fun b hb => (hF b hb).elim (fun x => .inl (.inl x)) .inr), F', ⟨m', D', V', hA5⟩, hF⟩))
    clear hT hF hA hok hA5 hT5 eg
    go_wp2_with fail
    refine HI.out.mono ?_
    rintro e w2 ⟨rfl, rfl⟩
    go_wp2
    go_ret
    exact ⟨rfl, HW.out⟩
end Go.Proofs.YtddnnhfffmhpmaaGreatDoor.Vd
