
/- The power fails. -/
import Derived.Test.YteigkmeenokfoaaVdI
import Derived.Test.YteigkmeenokfoaaRangePut
namespace Go.Proofs.Yteigkmeenokfoaa.Vd
open Go.RowKit Go.Proofs.Yteigkmeenokfoaa VdM Go.Maps

theorem Rep.cong {D : MD} {V V' : Name → Value} {fs fs' : Fils} (h : Rep D V fs) (he : ∀ n, lkF fs' n = lkF fs n) (hV : ∀ n f, lkF fs n = some f → V' n = V n) : Rep D V' fs' :=
  ⟨h.map, fun n => by rw [h.has, he], fun n f hl z => by
    rw [he] at hl
    rw [h.at_ n f hl z, hV n f hl]⟩
theorem lk_mapn (g : Name → Fil → Fil) (n : Name) : ∀ l : Fils, lkF (l.map fun x => (x.1, g x.1 x.2)) n = (lkF l n).map (g n)
  | [] => rfl
  | x :: t => by
    rw [List.map_cons, lkF, lkF]
    by_cases e : x.1 = n
    · rw [if_pos e, if_pos e, e]; rfl
    · rw [if_neg e, if_neg e, lk_mapn g n t]
/-- the files, of which those that have come are cut -/
def midG (keep : Int) (left : Lit → Bool) (n : Name) (f : Fil) : Fil := if left (keyS n) then f else cutF keep f
def mid (keep : Int) (left : Lit → Bool) (fs : Fils) : Fils := fs.map fun x => (x.1, midG keep left x.1 x.2)
def shr (v : Value) (k : Nat) : Value :=
  match v with
  | .slice p _ c => .slice p k c
  | v => v
def midV (keep : Int) (left : Lit → Bool) (fs : Fils) (V : Name → Value) (n : Name) : Value :=
  match lkF fs n with
  | none => V n
  | some f => if left (keyS n) then V n else shr (V n) (cutF keep f).bytes.length
theorem mid_rep {D : MD} {V : Name → Value} {fs : Fils} (h : Rep D V fs) (keep : Int) : Rep D (midV keep (Maps.has D) fs V) (mid keep (Maps.has D) fs) := by
  refine h.cong (fun n => ?_) (fun n f hl => ?_)
  · unfold mid
    rw [lk_mapn]
    cases hl : lkF fs n with
    | none => rfl
    | some f =>
      show some (midG keep _ n f) = some f
      unfold midG
      rw [h.has, hl]
      rfl
  · unfold midV
    rw [hl]
    show (if Maps.has D (keyS n) = true then _ else _) = _
    rw [h.has, hl]
    rfl
theorem mid_step {D : MD} {V : Name → Value} {fs : Fils} {keep : Int} {left : Lit → Bool} (h : Rep D (midV keep left fs V) (mid keep left fs)) {n : Name} {f : Fil} (hl : lkF fs n = some f) {p : Option Addr} {k c : Nat} (hV : V n = .slice p k c) :
    Rep (putD D n (.slice p (cutF keep f).bytes.length c) (cutF keep f)) (midV keep (fun z => left z && !z.sameKey (keyS n)) fs V) (mid keep (fun z => left z && !z.sameKey (keyS n)) fs) := by
  have hp := h.put n (.slice p (cutF keep f).bytes.length c) (cutF keep f)
  have hoth : ∀ m : Name, m ≠ n → (keyS m).sameKey (keyS n) = false := fun m hm => by rw [sameKey_s, decide_eq_false hm]
  have hsame : (keyS n).sameKey (keyS n) = true := by rw [sameKey_s, decide_eq_true rfl]
  refine hp.cong (fun m => ?_) (fun m g hm => ?_)
  · by_cases e : m = n
    · subst e
      rw [look_put_same]
      unfold mid
      rw [lk_mapn, hl]
      show some (midG keep _ m f) = _
      unfold midG
      simp only [hsame, Bool.not_true, Bool.and_false]
      rfl
    · rw [look_put_other _ e]
      unfold mid
      rw [lk_mapn, lk_mapn]
      cases lkF fs m with
      | none => rfl
      | some g =>
        show some (midG keep _ m g) = some (midG keep _ m g)
        unfold midG
        simp only [hoth m e, Bool.not_false, Bool.and_true]
  · by_cases e : m = n
    · subst e
      rw [updV_same]
      unfold midV
      rw [hl]
      simp only [hsame, Bool.not_true, Bool.and_false, hV]
      rfl
    · rw [updV_other _ _ e]
      unfold midV
      cases lkF fs m with
      | none => rfl
      | some g =>
        simp only [hoth m e, Bool.not_false, Bool.and_true]
theorem mid_end {D : MD} {V : Name → Value} {fs : Fils} {keep : Int} {left : Lit → Bool} (h : Rep D (midV keep left fs V) (mid keep left fs)) (hl : ∀ kl, left kl = false) :
    Rep D (midV keep left fs V) (cutAll keep fs) ∧ ∀ n f, lkF fs n = some f → midV keep left fs V n = shr (V n) (cutF keep f).bytes.length := by
  refine ⟨h.cong (fun n => ?_) (fun _ _ _ => rfl), fun n f hf => ?_⟩
  · unfold mid cutAll
    rw [lk_mapn, look_map]
    cases lkF fs n with
    | none => rfl
    | some g =>
      show some (cutF keep g) = some (midG keep _ n g)
      unfold midG
      rw [hl]
      rfl
  · unfold midV
    rw [hf]
    show (if _ then _ else _) = _
    rw [hl]
    rfl
theorem cut_len (keep : Int) (f : Fil) (h : f.syn ≤ f.bytes.length) : (cutF keep f).bytes.length = f.syn + min keep.toNat (f.bytes.length - f.syn) := by
  simp [cutF]
  omega
section
variable {w w' : World} {F : Nat → Prop} {d m : Nat} {D D' : MD} {V V' : Name → Value} {s : Dsk}
theorem At.cut (h : At w F d m D V s) (keep : Int) {nn : Nat} (hT : Turned (fun b => b = m) w w') (ho : Own w' m nn D') (hrep : Rep D' V' (cutAll keep s.fs)) (hV : ∀ n f, lkF s.fs n = some f → V' n = shr (V n) (cutF keep f).bytes.length) :
    At w' F d m D' V' { s with fs := cutAll keep s.fs } := by
  have hlk : ∀ n f', lkF (cutAll keep s.fs) n = some f' → ∃ f, lkF s.fs n = some f ∧ f' = cutF keep f := fun n f' hl => by
    unfold cutAll at hl
    rw [look_map] at hl
    cases hf : lkF s.fs n with
    | none => rw [hf] at hl; cases hl
    | some f =>
      rw [hf] at hl
      injection hl with hl
      exact ⟨f, rfl, hl.symm⟩
  have hsh : ∀ n f, lkF s.fs n = some f → ∃ p c, V n = .slice p f.bytes.length c ∧ V' n = .slice p (cutF keep f).bytes.length c := fun n f hf => by
    obtain ⟨p, c, e⟩ := (h.row n f hf).shape
    exact ⟨p, c, e, by rw [hV n f hf, e]; rfl⟩
  have hob : ∀ n f, lkF s.fs n = some f → (V' n).ownBlock = (V n).ownBlock := fun n f hf => by
    obtain ⟨p, c, e1, e2⟩ := hsh n f hf
    rw [e1, e2]
    cases p <;> rfl
  have hri : Rising (cutAll keep s.fs) := rising_map _ h.ok.rise
  refine ⟨(hT.block d h.dlt (fun e => h.md e.symm)).trans h.ob, ?_, hrep, fun n f' hl => ?_, fun n f1 n' f2 hl hl' hne g hg => ?_, h.fd, h.fm, fun n f' hl g hg => ?_, fun b hb => Nat.lt_of_lt_of_le (h.lt b hb) hT.size, ?_⟩
  · have := own_exact ho
    rw [size_rep ho hrep hri] at this
    exact this
  · obtain ⟨f, hf, rfl⟩ := hlk n f' hl
    obtain ⟨p, c, e1, e2⟩ := hsh n f hf
    have hr := h.row n f hf
    have hr' : ByteRow w' (V n) f.bytes := hr.stay fun g hg => hT.block g (hr.lt hg) (h.gd hf hg).2
    rw [e1] at hr'
    rw [e2]
    have hs := (h.ok.one hf).1
    have := hr'.take (cutF keep f).bytes.length (by simp [cutF]; omega)
    have e3 : f.bytes.take (cutF keep f).bytes.length = (cutF keep f).bytes := by
      rw [cut_len keep f hs]
      rfl
    rw [e3] at this
    exact this
  · obtain ⟨f, hf, rfl⟩ := hlk n f1 hl
    obtain ⟨f', hf', rfl⟩ := hlk n' f2 hl'
    rw [hob n f hf] at hg
    rw [hob n' f' hf']
    exact h.apart n f n' f' hf hf' hne g hg
  · obtain ⟨f, hf, rfl⟩ := hlk n f' hl
    rw [hob n f hf] at hg
    exact h.fv n f hf g hg
  · have h1 := h.ok
    refine ⟨h1.q1, h1.q2, hri, fun x hx => ?_, fun x hx => ?_, Nat.le_trans (used_cut keep s.fs) h1.fits, by simpa [cutAll] using h1.most, h1.at0⟩
    · obtain ⟨y, hy, rfl⟩ := List.mem_map.1 hx
      exact h1.names y hy
    · obtain ⟨y, hy, rfl⟩ := List.mem_map.1 hx
      have := h1.syn y hy
      show (cutF keep y.2).syn ≤ (cutF keep y.2).bytes.length
      rw [cut_len keep y.2 this]
      exact Nat.le_refl _
end
set_option maxHeartbeats 4000000 in
set_option maxRecDepth 100000 in
theorem crash_any (w : World) (F : Nat → Prop) (d : Nat) (s : Dsk) (h : Is w F d s) (keep : Int) :
    Calls Try.prog 11 #[.pointer (some ⟨d, 0, none⟩), .int .i64 keep] w fun e w' => e = .returned (.tuple #[]) ∧ Turned F w w' ∧ Is w' F d (crash s keep) := by
  obtain ⟨m, D, V, h⟩ := h
  obtain ⟨c0, c1, c2, c3, c4, c5⟩ := h.cells
  unfold crash
  cases hd : s.down with
  | true =>
    rw [hd] at c2
    have HI : Hid (Is w F d s) := Lib.hid ⟨m, D, V, h⟩
    clear h hd c0 c1 c3 c4 c5
    go_enter Try.func11, Try.ntmps11
    go_wp2
    exact bodyPost_ret (v := .tuple #[]) (by simp [results, Try.results11, go_sem]) rfl ⟨rfl, Turned.refl _ _, HI.out⟩
  | false =>
    rw [hd] at c2
    have hown := h.own
    have hmd := h.md
    have hml := hown.lt
    have hdl := h.dlt
    have hmo := h.ok.most
    obtain ⟨nn, hnn⟩ : ∃ n, n = s.fs.length := ⟨_, rfl⟩
    rw [← hnn] at hown hmo
    have HMO := Lib.hid hmo
    have HAT := Lib.hid h
    have HD := Lib.hid hd
    have HMD := Lib.hid hmd
    have HSH : Hid (∀ n f, lkF s.fs n = some f → ∃ p c, V n = .slice p f.bytes.length c ∧ f.bytes.length ≤ c ∧ f.syn ≤ f.bytes.length ∧ f.bytes.length ≤ 1048576) := Lib.hid (fun n f hl => by
      have hr := h.row n f hl
      obtain ⟨p, c, e⟩ := hr.shape
      rw [e] at hr
      exact ⟨p, c, e, (slice_bytes hr).2.1, (h.ok.one hl).1, (h.ok.one hl).2.1⟩)
    clear h hd hmd hmo hnn c0 c3 c4 c5
    go_enter Try.func11, Try.ntmps11
    go_wp2_with (at_range; refine wpList_range_own _ rfl _ 44 rfl 9 56 key_law Try.underlying44 _ m nn _ rfl hown ?_; intro w0 hrg0 hg0 hs0)
    have HB0 : Hid (Below w.heap.size w w0) := Lib.hid ((Below.refl _ _).grown hg0 (Nat.le_refl _) (fun q hq => by cases hq))
    obtain ⟨r, hrE⟩ : ∃ r, r = w.heap.size := ⟨_, rfl⟩
    rw [← hrE]
    rw [← hrE] at hrg0
    have HRE := Lib.hid hrE
    clear hown hg0 hs0 hrE c1 c2
    go_frame
    go_loopw [] (fun wr => ∃ (left : Lit → Bool) (cnt : Nat) (D' : MD), Rng wr m r nn D' left cnt ∧ Rep D' (midV keep left s.fs V) (mid keep left s.fs) ∧ Turned (fun b => b = m) w wr) (fun wr => wr.rangeLeft m r)
    case atStart => exact ⟨_, _, D, hrg0, mid_rep HAT.out.rep keep, Turned.of_below HB0.out⟩
    case round =>
      obtain ⟨left, cnt, D', hrg, hrep, hT⟩ := hrel
      have HREP := Lib.hid hrep
      have HT := Lib.hid hT
      have HRG := Lib.hid hrg
      have hwz : w.heap.size ≤ wr.heap.size := hT.size
      clear hrep hT
      go_wp2_with (at_next; refine wpList_next_file rfl _ rfl m r nn D' _ _ left cnt rfl hrg HREP.out ?_ ?_)
      · intro hc0 hl0
        have HL := Lib.hid hl0
        clear hl0 hc0 hrg
        have hE := mid_end HREP.out HL.out
        have hA := HAT.out.cut keep HT.out (World.ranges.owns HRG.out) hE.1 hE.2
        obtain ⟨-, -, k2, k3, k4, -⟩ := hA.cells
        have f2 := hA.free 2
        have f3 := hA.free 3
        have f4 := hA.free 4
        have hok := hA.ok
        have hA3 := hA.set 3 (.int .i64 0) { s with fs := cutAll keep s.fs, at_ := 0 } rfl ⟨hok.q1, hok.q2, hok.rise, hok.names, hok.syn, hok.fits, hok.most, by simp⟩ rfl
        have hok3 := hA3.ok
        have hA4 := hA3.set 4 (.int .i64 0) { s with fs := cutAll keep s.fs, at_ := 0, keep := 0 } rfl ⟨hok3.q1, hok3.q2, hok3.rise, hok3.names, hok3.syn, hok3.fits, hok3.most, by simp⟩ rfl
        have hok4 := hA4.ok
        have HA2 := Lib.hid (hA4.set 2 (.bool true) { s with fs := cutAll keep s.fs, at_ := 0, keep := 0, down := true } rfl ⟨hok4.q1, hok4.q2, hok4.rise, hok4.names, hok4.syn, hok4.fits, hok4.most, by simp⟩ rfl)
        have HFD := Lib.hid (And.intro hA.fd hA.fm)
        have HTF : Hid (Turned F w wr) := Lib.hid (HT.out.wide fun b hb => by rw [hb]; exact HFD.out.2)
        clear hE hA hok hA3 hok3 hA4 hok4
        go_wp2
        go_end0
        exact ⟨rfl, ((HTF.out.set_ HFD.out.1 3 _).set_ HFD.out.1 4 _).set_ HFD.out.1 2 _, m, _, _, HA2.out⟩
      · intro nm f p k c w1 cnt1 hnm hlk hlf hV hrg1 hlt hg1 hs1 hen
        have hlk0 : lkF s.fs nm.data.toList = some f ∧ V nm.data.toList = .slice p k c := by
          unfold mid at hlk
          rw [lk_mapn] at hlk
          cases hl : lkF s.fs nm.data.toList with
          | none => rw [hl] at hlk; cases hlk
          | some f0 =>
            rw [hl] at hlk
            injection hlk with hlk
            unfold midG at hlk
            rw [if_pos hlf] at hlk
            subst hlk
            unfold midV at hV
            rw [hl] at hV
            simp only [hlf, if_true] at hV
            exact ⟨rfl, hV⟩
        obtain ⟨p', c', hV', hkc, hsy, hbd⟩ := HSH.out _ f hlk0.1
        rw [hlk0.2] at hV'
        injection hV' with hp hk hc
        subst hp hc
        have hhas : Maps.has D' (keyS nm.data.toList) = true := by rw [HREP.out.has, hlk]; rfl
        obtain ⟨kn, hkn⟩ : ∃ x, x = f.syn + min keep.toNat (k - f.syn) := ⟨_, rfl⟩
        have hstep := mid_step HREP.out hlk0.1 hlk0.2
        have hcl : (cutF keep f).bytes.length = kn ∧ (cutF keep f).syn = kn := ⟨by rw [cut_len keep f hsy, hkn, hk], by rw [hkn, hk]; rfl⟩
        unfold putD at hstep
        rw [hcl.1, hcl.2] at hstep
        have HSTEP := Lib.hid hstep
        obtain ⟨sy, hsyE⟩ : ∃ x, x = f.syn := ⟨_, rfl⟩
        rw [← hsyE] at hen hkn hsy ⊢
        have hT1 : Turned (fun b => b = m) w w1 := HT.out.from_new (Turned.of_grown hg1 (.inr (by rw [HRE.out]; exact Nat.le_refl _)))
        have hm1 : m < w1.heap.size := Nat.lt_of_lt_of_le hml hT1.size
        have hr1 : r < w1.heap.size := World.ranges.lt hrg1
        have hw1 := hT1.size
        have hF := fail_any _ w1.heap.size k c sy p keep (heap_alloc_new w1 (.cells #[.slice p k c, .int .i64 (sy : Int)] 56)) (by omega) (by omega) (by omega)
        rw [← hkn] at hF
        have HF := Lib.hid hF
        have HG1 := Lib.hid hrg1
        have HLT := Lib.hid hlt
        have HT1 := Lib.hid hT1
        have HHAS := Lib.hid hhas
        have hnl := (HAT.out.ok.one hlk0.1).2.2.2
        rw [size_list] at hnl
        have HKEY := Lib.hid (key_is nm (by omega))
        clear hlk hlk0 hV hlf hkc hsy hbd hhas hstep hcl hsyE hkn hk hrg1 hlt hg1 hs1 hT1 hF hrg hnm hnl
        go_wp2_with fail
        refine HF.out.mono ?_
        rintro e w2 ⟨rfl, hR2, hT2⟩
        have hsz : (w1.alloc (.cells #[.slice p k c, .int .i64 (sy : Int)] 56)).heap.size = w1.heap.size + 1 := by simp
        have hbl : ∀ b, b < w1.heap.size → w2.heap[b]? = w1.heap[b]? := fun b hb => (hT2.block b (by omega) (by omega)).trans ((pl1 w1 _).block b hb)
        have hT12 : Turned (fun b => b = m) w w2 := (HT1.out.alloc (.cells #[.slice p k c, .int .i64 (sy : Int)] 56)).from_new (hT2.wide fun b hb => .inr (by omega))
        have hR2' : w1.heap.size < w2.heap.size := by have := hT2.size; omega
        have hG2 : Rng w2.drew m r nn D' _ cnt1 := Rng.stay HG1.out (hbl m hm1) (hbl r hr1)
        have hd2 : w2.cell? ⟨d, 1, none⟩ = some (.map (some m)) := (hT12.cell (p := ⟨d, 1, none⟩) hdl (fun e => HMD.out e.symm)).trans HAT.out.cells.2.1
        obtain ⟨w6, hrun, hG6, hM6⟩ := ranges_store hG2 key_law Try.underlying44 (by have := HMO.out; unfold maxLen; omega) HKEY.out (fileElem_mk p kn c (kn : Int)) HHAS.out
        obtain ⟨x0, x1, -, -⟩ := file_cells hR2
        have HG6 := Lib.hid hG6
        have HT6 : Hid (Turned (fun b => b = m) w w6) := Lib.hid ((hT12.drew).trans (Turned.of_grown hM6.grown rfl))
        obtain ⟨R, hRE⟩ : ∃ R, R = w1.heap.size := ⟨_, rfl⟩
        rw [← hRE] at x0 x1 ⊢
        clear hR2 hT2 hsz hbl hT12 hR2' hG2 hG6 hM6 hRE hm1 hr1 hw1
        go_wp2
        go_region
        all_goals
          go_wp2
          go_roundw
          case rel => exact ⟨_, cnt1, _, HG6.out, HSTEP.out, HT6.out⟩
          case measure =>
            rw [World.ranges.left_eq HG6.out, World.ranges.left_eq HRG.out]
            exact HLT.out
end Go.Proofs.Yteigkmeenokfoaa.Vd
