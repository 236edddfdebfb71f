/- Own texts, merged (34 of 42). -/
import Derived.Test.YtddnnhfffmhpmaaGreatDoorSm33

/- A disk whose power fails, and a store that is opened on it. -/
namespace Go.Proofs.YtddnnhfffmhpmaaGreatDoor.St
open Go.RowKit Go.Proofs.YtddnnhfffmhpmaaGreatDoor DocM StoM Do
open VdM

/-- a disk beside other memory -/
structure Disc (w0 w : World) (E : Nat → Prop) (F : Nat → Prop) (d : Nat) (k : Dsk) (g : Gst) (P : List Int) (L S : Nat) : Prop where
  is : Vd.Is w F d k
  kept : Kept k g P L S
  low : ∀ b, F b → w0.heap.size ≤ b
  beh : Below w0.heap.size w0 w
  off : ∀ b, E b → ¬ F b ∧ b < w.heap.size
  few : Few k P L S
section
variable {w0 w w' : World} {E : Nat → Prop} {p : Pl} {F : Nat → Prop} {d : Nat} {k : Dsk} {g : Gst} {P : List Int} {L S : Nat}
theorem Hold.disc (h : Hold w0 w E p F k g P L S) : Disc w0 w E F p.d k g P L S := ⟨h.al.st.disk, h.al.kept, fun b hb => h.bs.low b (.inl hb), h.bs.beh, fun b hb => ⟨fun hf => (h.bs.off b hb).1 (.inl hf), (h.bs.off b hb).2⟩, h.few⟩
theorem Lost.disc (h : Lost w0 w E p F k g P L S) : Disc w0 w E F p.d k g P L S ∧ k.down = true := by
  obtain ⟨hd, lg, bg, hS⟩ := h.dead
  exact ⟨⟨hS.disk, h.kept, fun b hb => h.bs.low b (.inl hb), h.bs.beh, fun b hb => ⟨fun hf => (h.bs.off b hb).1 (.inl hf), (h.bs.off b hb).2⟩, h.few⟩, hd⟩
theorem Disc.turned {k' : Dsk} (h : Disc w0 w E F d k g P L S) (hT : Turned F w w') (hI : Vd.Is w' F d k') (hk : Kept k' g P L S) (hf : Few k' P L S) : Disc w0 w' E F d k' g P L S ∧ KeptE E w w' := ⟨⟨hI, hk, h.low, hT.below h.beh h.low, fun b he => ⟨(h.off b he).1, Nat.lt_of_lt_of_le (h.off b he).2 hT.size⟩, hf⟩, hT.size, fun b he => hT.block b (h.off b he).2 (h.off b he).1⟩
theorem Kept.cut_ (h : Kept k g P L S) (keep : Int) : Kept (crash k keep) g P L S := by
  refine ⟨?_, h.ok, nm_crash h.nm keep, h.cnt⟩
  unfold crash
  split
  · exact h.told
  · exact h.told.cut keep
theorem Few.cut_ (h : Few k P L S) (keep : Int) : Few (crash k keep) P L S := by
  refine ⟨h.plen, ?_, by rw [crash_eff]; exact h.eff⟩
  unfold crash
  split
  · exact h.used
  · exact Nat.le_trans (used_cut keep k.fs) h.used
theorem disc_crash (h : Disc w0 w E F d k g P L S) (keep : Int) :
    Calls Tryz.prog 9 #[.pointer (some ⟨d, 0, none⟩), .int .i64 keep] w fun e w' => e = .returned (.tuple #[]) ∧ KeptE E w w' ∧ Disc w0 w' E F d (crash k keep) g P L S := by
  refine (Vd.crash_any w F d k h.is keep).mono ?_
  rintro e w' ⟨he, hT, hI⟩
  have := h.turned hT hI (h.kept.cut_ keep) (h.few.cut_ keep)
  exact ⟨he, this.2, this.1⟩
theorem disc_start (h : Disc w0 w E F d k g P L S) :
    Calls Tryz.prog 10 #[.pointer (some ⟨d, 0, none⟩)] w fun e w' => e = .returned (.tuple #[]) ∧ KeptE E w w' ∧ Disc w0 w' E F d { k with down := false } g P L S := by
  refine (Vd.start_any w F d k h.is).mono ?_
  rintro e w' ⟨he, hT, hI⟩
  have := h.turned hT hI ⟨h.kept.told, h.kept.ok, h.kept.nm, h.kept.cnt⟩ ⟨h.few.plen, h.few.used, h.few.eff⟩
  exact ⟨he, this.2, this.1⟩
theorem disc_open (h : Disc w0 w E F d k g P L S) (hd : k.down = false) (hLS : L + S ≤ 60) :
    Calls Tryz.prog 11 #[.pointer (some ⟨d, 0, none⟩)] w fun e w' => ∃ p, e = .returned (.tuple #[.pointer (some ⟨p.s, 0, none⟩), .int .i64 0]) ∧ p.d = d ∧ NewP w p ∧ KeptE E w w' ∧ Below w.heap.size w w' ∧ Hold w0 w' E p F k (gOpen g) P L S := by
  have hpl := h.few.plen
  refine (open_law w F d k g P L S h.is h.kept hd (by omega) (by omega)).mono ?_
  rintro e w' ⟨p, he, hpd, hn, hb, hA⟩
  have hz := h.beh.size
  refine ⟨p, he, hpd, hn, ⟨hb.size, fun b hb' => hb.block b (h.off b hb').2⟩, hb, hA, ⟨fun b hf => ?_, h.beh.trans (hb.mono hz), fun b he' => ⟨fun hf => ?_, Nat.lt_of_lt_of_le (h.off b he').2 hb.size⟩⟩, h.few⟩
  · obtain ⟨n1, n2, n3, n4⟩ := hn
    rcases hf with hf | rfl | rfl | rfl | rfl
    · exact h.low b hf
    all_goals omega
  · obtain ⟨n1, n2, n3, n4⟩ := hn
    have hlt := (h.off b he').2
    rcases hf with hf | rfl | rfl | rfl | rfl
    · exact (h.off b he').1 hf
    all_goals omega
/-- a disk is armed, its store open -/
theorem hold_arm (h : Hold w0 w E p F k g P L S) (a keep : Int) (ha : a ≤ 9223372036854775807) :
    Calls Tryz.prog 18 #[.pointer (some ⟨p.d, 0, none⟩), .agg #[.int .i64 a, .int .i64 keep]] w fun e w' => e = .returned (.tuple #[]) ∧ KeptE E w w' ∧ ∃ F', Hold w0 w' E p F' (Vd.armD k a keep) g P L S := by
  refine (Vd.arm_any w F p.d k h.al.st.disk a keep ha).mono ?_
  rintro e w' ⟨he, hw⟩
  have harm : (Vd.armD k a keep).fs = k.fs ∧ (Vd.armD k a keep).down = k.down ∧ (Vd.armD k a keep).eff = k.eff := by
    unfold Vd.armD
    split <;> exact ⟨rfl, rfl, rfl⟩
  obtain ⟨Fd', hS, hF⟩ := h.al.st.went hw
  have hA : After w F p w' fun F' k' => k' = Vd.armD k a keep ∧ StAt w' F' p k' g.first (segNos g) (logNo g) g.begun false (live g) (settled g) (came g) := ⟨hw.1.wide fun _ => .inl, Fd', _, hF, rfl, hS⟩
  obtain ⟨hK, F', k', hB, rfl, hS'⟩ := beside_after h.bs hA
  have hkp : Kept (Vd.armD k a keep) g P L S := ⟨by rw [harm.1]; exact h.al.kept.told, h.al.kept.ok, by rw [harm.1]; exact h.al.kept.nm, h.al.kept.cnt⟩
  exact ⟨he, hK, F', ⟨hS', hkp, by rw [harm.2.1]; exact h.al.up⟩, hB, ⟨h.few.plen, by rw [harm.1]; exact h.few.used, by rw [harm.2.2]; exact h.few.eff⟩⟩
/-- a disk is armed whose store is lost -/
theorem disc_arm (h : Disc w0 w E F d k g P L S) (a keep : Int) (ha : a ≤ 9223372036854775807) :
    Calls Tryz.prog 18 #[.pointer (some ⟨d, 0, none⟩), .agg #[.int .i64 a, .int .i64 keep]] w fun e w' => e = .returned (.tuple #[]) ∧ KeptE E w w' ∧ ∃ F', Disc w0 w' E F' d (Vd.armD k a keep) g P L S := by
  refine (Vd.arm_any w F d k h.is a keep ha).mono ?_
  rintro e w' ⟨he, hT, F', hI, hF⟩
  have harm : (Vd.armD k a keep).fs = k.fs ∧ (Vd.armD k a keep).eff = k.eff := by
    unfold Vd.armD
    split <;> exact ⟨rfl, rfl⟩
  have hz := h.beh.size
  refine ⟨he, ⟨hT.size, fun b he => hT.block b (h.off b he).2 (h.off b he).1⟩, F', hI, ⟨by rw [harm.1]; exact h.kept.told, h.kept.ok, by rw [harm.1]; exact h.kept.nm, h.kept.cnt⟩, fun b hb => (hF b hb).elim (h.low b) (fun x => Nat.le_trans hz x), hT.below h.beh h.low, fun b hb => ⟨fun hf => ?_, Nat.lt_of_lt_of_le (h.off b hb).2 hT.size⟩, ⟨h.few.plen, by rw [harm.1]; exact h.few.used, by rw [harm.2]; exact h.few.eff⟩⟩
  rcases hF b hf with x | x
  · exact (h.off b hb).1 x
  · have := (h.off b hb).2
    omega
end
end Go.Proofs.YtddnnhfffmhpmaaGreatDoor.St

/- Law 11's awake answers true. -/
namespace Go.Proofs.YtddnnhfffmhpmaaGreatDoor.St
open Go.RowKit Go.Proofs.YtddnnhfffmhpmaaGreatDoor DocM StoM Do
open VdM

section
variable {w0 w w' : World} {E : Nat → Prop} {p : Pl} {F : Nat → Prop} {k : Dsk} {g : Gst} {P : List Int} {L S : Nat}
/-- an act that the document allows, where there is room and no cut -/
theorem Acted.calm {next : Chs} {X : Gst → Nat → Nat → Prop} {r : Int} (h : Acted w0 w E p k g L S 0 next X r w') (hat : k.at_ = 0) (hLS : L + S ≤ 52) (h1 : usB (L + 1) S ≤ k.quota) (h2 : usB L (S + 1) ≤ k.quota) :
    r = 0 ∧ KeptE E w w' ∧ ∃ F' k' g' P' L' S', Hold w0 w' E p F' k' g' P' L' S' ∧ X g' L' S' ∧ live g' = next ∧ k'.at_ = 0 ∧ k'.quota = k.quota := by
  obtain ⟨hK, F', k', g', P', L', S', hE, h3⟩ := h
  rcases h3 with ⟨hH, hr, hl, hx, _⟩ | ⟨_, _, _, _, hno⟩ | ⟨hr, _⟩
  · exact ⟨hr, hK, F', k', g', P', L', S', hH, hx hr, hl, (hE.calm hat).2, hE.quota⟩
  · exact (hno hLS h1 h2).elim
  · exact absurd hr (hE.calm hat).1
/-- an act that the document refuses -/
theorem Acted.no {code : Int} {next : Chs} {X : Gst → Nat → Nat → Prop} {r : Int} (h : Acted w0 w E p k g L S code next X r w') (hc : code ≠ 0) (hat : k.at_ = 0) :
    r = code ∧ KeptE E w w' ∧ ∃ F' k' P', Hold w0 w' E p F' k' g P' L S ∧ k'.at_ = 0 ∧ k'.quota = k.quota := by
  obtain ⟨hK, F', k', g', P', L', S', hE, h3⟩ := h
  rcases h3 with ⟨hH, hr, hl, _, hx⟩ | ⟨_, _, h0, _⟩ | ⟨hr, _⟩
  · obtain ⟨rfl, rfl, rfl⟩ := hx (by rw [hr]; exact hc)
    exact ⟨hr, hK, F', k', P', hH, (hE.calm hat).2, hE.quota⟩
  · exact absurd h0 hc
  · exact absurd hr (hE.calm hat).1
/-- a change in memory of its own is put -/
theorem put_new (h : Hold w0 w E p F k g P L S) (c : Ch) (T V : Value) (hT : Prd w' T c.ts) (hV : Vrd w' V c.v) (hb : Below w.heap.size w w') (hnT : NewS w.heap.size T) (hnV : NewS w.heap.size V) (hts : c.ts.length ≤ 1000000) (hvs : c.v.length ≤ 1000000) (hLS : L + S ≤ 53) :
    Calls Tryz.prog 25 #[.pointer (some ⟨p.s, 0, none⟩), chV c T V] w' fun e w'' => ∃ r : Int, e = .returned (.int .i64 r) ∧ Acted w0 w' E p k g L S (putE (live g) c) (putD (live g) c) (fun g' L' S' => g' = gPut g c ∧ L' = L + 1 ∧ S' = S) r w'' := by
  obtain ⟨hH, _⟩ := h.later hb
  have heff := h.few.eff
  have hpl := h.few.plen
  have hlt := h.al.st.lt
  refine (put_law w' F p k g P L S c T V hH.al ⟨hT, hV, fun A n cp e hn a ha hf => ?_, fun A n cp e hn a ha hf => ?_⟩ hts hvs (by omega) (by omega) (by omega)).mono ?_
  · have h1 := hlt _ hf
    have h2 := hnT A n cp e a ha
    omega
  · have h1 := hlt _ hf
    have h2 := hnV A n cp e a ha
    omega
  · rintro e' w'' ⟨r, hr, hl⟩
    exact ⟨r, hr, hold_put hH hl⟩
end
section
variable {w0 w : World} {E : Nat → Prop} {p : Pl} {F : Nat → Prop} {k : Dsk} {g : Gst} {P : List Int} {L S : Nat}
theorem flush_step (h : Hold w0 w E p F k g P L S) (hLS : L + S ≤ 53) :
    Calls Tryz.prog 21 #[.pointer (some ⟨p.s, 0, none⟩)] w fun e w' => ∃ r : Int, e = .returned (.int .i64 r) ∧ Acted w0 w E p k g L S 0 (live g) (fun g' L' S' => (came g = [] → g' = g ∧ L' = L ∧ S' = S) ∧ (came g ≠ [] → g' = gFlush g ∧ L' = L ∧ S' = S + 1)) r w' := by
  have heff := h.few.eff
  have hpl := h.few.plen
  refine (flush_law w F p k g P L S h.al (by omega) (by omega) (by omega)).mono ?_
  rintro e' w' ⟨r, hr, hl⟩
  exact ⟨r, hr, hold_flush h hl hLS⟩
theorem merge_step (h : Hold w0 w E p F k g P L S) (hLS : L + S ≤ 53) :
    Calls Tryz.prog 22 #[.pointer (some ⟨p.s, 0, none⟩)] w fun e w' => ∃ r : Int, e = .returned (.int .i64 r) ∧ Acted w0 w E p k g L S 0 (live g) (fun g' L' S' => (segNos g = [] → g' = g ∧ L' = L ∧ S' = S) ∧ (segNos g ≠ [] → g' = gMerge g ∧ L' = L ∧ S' = S + 1)) r w' := by
  have heff := h.few.eff
  have hpl := h.few.plen
  refine (merge_law w F p k g P L S h.al (by omega) (by omega) (by omega)).mono ?_
  rintro e' w' ⟨r, hr, hl⟩
  exact ⟨r, hr, hold_merge h hl hLS⟩
end
def k5 : Ch := ⟨5, [], nz, 0, false⟩
def k6 : Ch := ⟨6, [], nz, 0, false⟩
def k7 : Ch := ⟨7, [], [], 0, true⟩
theorem k_code : putE [] k5 = 0 ∧ putE [k5] k6 = 0 ∧ putE [k5, k6] k7 = 4 ∧ putD [] k5 = [k5] ∧ putD [k5] k6 = [k5, k6] := by
  have r5 : rightC k5 = 0 := by decide +kernel
  have r6 : rightC k6 = 0 := by decide +kernel
  have r7 : rightC k7 = 0 := by decide +kernel
  unfold putD putE
  rw [r5, r6, r7]
  decide +kernel
def gA1 : Gst := gPut g0 k5
def gA2 : Gst := gFlush gA1
def gA3 : Gst := gPut gA2 k6
def gA4 : Gst := gOpen gA3
def gA5 : Gst := gMerge gA4
theorem gA_live : live g0 = [] ∧ live gA1 = [k5] ∧ live gA2 = [k5] ∧ live gA3 = [k5, k6] ∧ live gA4 = [k5, k6] := ⟨rfl, rfl, rfl, rfl, rfl⟩
theorem gA_seg : came gA1 ≠ [] ∧ segNos gA4 ≠ [] ∧ (segNos gA5).length = 1 ∧ live gA5 = [k5, k6] := ⟨by decide +kernel, by decide +kernel, rfl, rfl⟩
/-- eight noughts, newly made -/
theorem nz_new (w : World) : Vrd (w.alloc (.cells #[.int .i64 0, .int .i64 0, .int .i64 0, .int .i64 0, .int .i64 0, .int .i64 0, .int .i64 0, .int .i64 0] 3)) (.slice (some ⟨w.heap.size, 0, none⟩) 8 8) nz := by
  refine ⟨_, 8, rfl, rfl, fun k hk => ⟨w.heap.size, 0, rfl, by simp, ?_⟩⟩
  have hb := heap_alloc_new w (.cells #[.int .i64 0, .int .i64 0, .int .i64 0, .int .i64 0, .int .i64 0, .int .i64 0, .int .i64 0, .int .i64 0] 3)
  have hk8 : k < 8 := hk
  rw [Nat.zero_add]
  match k, hk8 with
  | 0, _ => exact cell_of_cells (i := 0) hb rfl
  | 1, _ => exact cell_of_cells (i := 1) hb rfl
  | 2, _ => exact cell_of_cells (i := 2) hb rfl
  | 3, _ => exact cell_of_cells (i := 3) hb rfl
  | 4, _ => exact cell_of_cells (i := 4) hb rfl
  | 5, _ => exact cell_of_cells (i := 5) hb rfl
  | 6, _ => exact cell_of_cells (i := 6) hb rfl
  | 7, _ => exact cell_of_cells (i := 7) hb rfl
theorem new_at (N : Nat) (n c : Nat) : NewS N (.slice (some ⟨N, 0, none⟩) n c) := fun A n' c' e a ha => by
  injection e with e _ _
  rw [ha] at e
  injection e with e
  rw [← e]
  exact Nat.le_refl _
theorem new_none (N : Nat) : NewS N (.slice none 0 0) := fun A n' c' e a ha => by
  injection e with e _ _
  rw [ha] at e
  cases e
set_option maxHeartbeats 8000000 in
set_option maxRecDepth 100000 in
theorem awake11_any (w : World) : Calls Tryz.prog 6 #[] w fun e w' => e = .returned (.bool true) ∧ Below w.heap.size w w' := by
  obtain ⟨kc1, kc2, kc3, kn1, kn2⟩ := k_code
  obtain ⟨lv0, lv1, lv2, lv3, lv4⟩ := gA_live
  obtain ⟨sg1, sg2, sg3, lv5⟩ := gA_seg
  have HMADE := Lib.hid (made_any w 10000 (by decide) (by decide))
  have HNO := Lib.hid noughts_any
  have HP1 := Lib.hid (fun (W : World) p F (hA : Alive W F p (Vd.fresh 10000) g0 [] 0 0) (hl : ∀ b, fullF p F b → w.heap.size ≤ b) (hb : Below w.heap.size w W) => (show Hold w W (fun _ => False) p F (Vd.fresh 10000) g0 [] 0 0 from ⟨hA, ⟨hl, hb, fun b hb => hb.elim⟩, ⟨by decide, by decide, by decide⟩⟩))
  go_enter Tryz.func6, Tryz.ntmps6
  go_wp2_with fail
  refine HMADE.out.mono ?_
  rintro e w1 ⟨p, F, rfl, hA, hl, hb⟩
  have hH0 := HP1.out w1 p F hA hl hb
  have HH0 := Lib.hid hH0
  have HN1 := Lib.hid (fun W (hW : Below (w1.alloc (.cells #[.int .i64 0, .int .i64 0, .int .i64 0, .int .i64 0, .int .i64 0, .int .i64 0, .int .i64 0, .int .i64 0] 3)).heap.size (w1.alloc (.cells #[.int .i64 0, .int .i64 0, .int .i64 0, .int .i64 0, .int .i64 0, .int .i64 0, .int .i64 0, .int .i64 0] 3)) W) => put_new (w' := W) hH0 k5 (.slice none 0 0) (.slice (some ⟨w1.heap.size, 0, none⟩) 8 8) (prd_nil _) ((nz_new w1).later hW) ((pl1 w1 _).trans (hW.mono (pl1 w1 _).size)) (new_none _) (new_at _ _ _) (by decide) (by decide) (by decide))
  rw [lv0] at HN1
  rw [kc1, kn1] at HN1
  clear hH0 hA hl hb HP1 HMADE
  go_wp2_with fail
  refine (HNO.out w1).mono ?_
  rintro e w2 ⟨rfl, rfl⟩
  go_wp2_with fail
  refine (HN1.out _ (pl1 _ _)).mono ?_
  rintro e w3 ⟨r, rfl, hact⟩
  obtain ⟨rfl, -, F1, k1, g1, P1, L1, S1, hH1, ⟨rfl, rfl, rfl⟩, -, ha1, hq1⟩ := hact.calm rfl (by decide) (by decide) (by decide)
  have HH1 := Lib.hid hH1
  have HFL := Lib.hid (flush_step hH1 (by decide))
  have HK1 := Lib.hid (And.intro ha1 hq1)
  clear hact hH1 ha1 hq1 HN1 HH0
  go_wp2_with fail
  refine HFL.out.mono ?_
  rintro e w4 ⟨r, rfl, hact⟩
  obtain ⟨rfl, -, F2, k2, g2, P2, L2, S2, hH2, ⟨-, hx⟩, -, ha2, hq2⟩ := hact.calm HK1.out.1 (by decide) (by rw [HK1.out.2]; decide) (by rw [HK1.out.2]; decide)
  obtain ⟨rfl, rfl, rfl⟩ := hx sg1
  have HK2 := Lib.hid (And.intro ha2 (hq2.trans HK1.out.2))
  have HN2 := Lib.hid (fun W (hW : Below (w4.alloc (.cells #[.int .i64 0, .int .i64 0, .int .i64 0, .int .i64 0, .int .i64 0, .int .i64 0, .int .i64 0, .int .i64 0] 3)).heap.size (w4.alloc (.cells #[.int .i64 0, .int .i64 0, .int .i64 0, .int .i64 0, .int .i64 0, .int .i64 0, .int .i64 0, .int .i64 0] 3)) W) => put_new (w' := W) hH2 k6 (.slice none 0 0) (.slice (some ⟨w4.heap.size, 0, none⟩) 8 8) (prd_nil _) ((nz_new w4).later hW) ((pl1 w4 _).trans (hW.mono (pl1 w4 _).size)) (new_none _) (new_at _ _ _) (by decide) (by decide) (by decide))
  have lv2' : live (gFlush (gPut g0 k5)) = [k5] := lv2
  rw [lv2'] at HN2
  rw [kc2, kn2] at HN2
  clear hact hH2 ha2 hq2 hx HFL HH1 HK1 lv2'
  go_wp2_with fail
  refine (HNO.out w4).mono ?_
  rintro e w5 ⟨rfl, rfl⟩
  go_wp2_with fail
  refine (HN2.out _ (Below.refl _ _)).mono ?_
  rintro e w6 ⟨r, rfl, hact⟩
  obtain ⟨rfl, -, F3, k3, g3, P3, L3, S3, hH3, ⟨rfl, rfl, rfl⟩, -, ha3, hq3⟩ := hact.calm HK2.out.1 (by decide) (by rw [HK2.out.2]; decide) (by rw [HK2.out.2]; decide)
  have HN3 := Lib.hid (put_new (w' := w6) hH3 k7 (.slice none 0 0) (.slice none 0 0) (prd_nil _) (vrd_nil _) (Below.refl _ _) (new_none _) (new_none _) (by decide) (by decide) (by decide))
  have HK3 := Lib.hid (And.intro ha3 (hq3.trans HK2.out.2))
  have lv3' : live (gPut (gFlush (gPut g0 k5)) k6) = [k5, k6] := lv3
  rw [lv3'] at HN3
  rw [kc3] at HN3
  clear hact hH3 ha3 hq3 HN2 HK2 lv3'
  go_wp2_with fail
  refine HN3.out.mono ?_
  rintro e w7 ⟨r, rfl, hact⟩
  obtain ⟨rfl, -, F4, k4, P4, hH4, ha4, hq4⟩ := hact.no (by decide) HK3.out.1
  have HCR := Lib.hid (disc_crash hH4.disc 0)
  have HK4 := Lib.hid (And.intro ha4 (hq4.trans HK3.out.2))
  clear hact hH4 ha4 hq4 HN3 HK3
  go_wp2_with fail
  refine HCR.out.mono ?_
  rintro e w8 ⟨rfl, -, hD⟩
  have hdn : (crash k4 0).down = true := by
    unfold crash
    split
    · assumption
    · rfl
  have hqc : (crash k4 0).quota = 10000 := by
    have := HK4.out.2
    unfold crash
    split <;> exact this
  have hac : (crash k4 0).at_ = 0 := by
    have := HK4.out.1
    unfold crash
    split
    · exact this
    · rfl
  have HOD := Lib.hid (open_down w8 _ _ _ hD.is hdn)
  have HST := Lib.hid (disc_start hD)
  have HKC := Lib.hid (And.intro hac hqc)
  clear hdn hqc hac hD HCR HK4
  go_wp2_with fail
  refine HOD.out.mono ?_
  rintro e w9 ⟨rfl, rfl⟩
  go_wp2_with fail
  refine HST.out.mono ?_
  rintro e w10 ⟨rfl, -, hD⟩
  have HOP := Lib.hid (disc_open hD rfl (by decide))
  clear hD HST HOD
  go_wp2_with fail
  refine HOP.out.mono ?_
  rintro e w11 ⟨p2, rfl, -, -, -, -, hH5⟩
  have HDC := Lib.hid (docs_any hH5.al.st (by decide))
  have HH5 := Lib.hid hH5
  have lv4' : live (gOpen (gPut (gFlush (gPut g0 k5)) k6)) = [k5, k6] := lv4
  rw [lv4'] at HDC
  clear hH5 HOP lv4'
  go_wp2_with fail
  refine HDC.out.mono ?_
  rintro e w12 ⟨A, cp, rfl, hrow, hb⟩
  have hH6 : Hold w w12 (fun b => (Value.slice A 2 cp).ownBlock = some b) p2 _ _ _ _ _ _ := (HH5.out.later hb).1.with_ (fun b he => ⟨fun hf => by
    have h1 := HH5.out.al.st.lt b hf
    have h2 := (World.ownsRow.lt hrow b he).1
    omega, (World.ownsRow.lt hrow b he).2⟩)
  have HROW := Lib.hid hrow
  have HMG := Lib.hid (merge_step hH6 (by decide))
  clear hrow hb hH6 HDC HH5
  go_wp2_with fail
  refine HMG.out.mono ?_
  rintro e w13 ⟨r, rfl, hact⟩
  obtain ⟨rfl, hK, F6, k6', g6, P6, L6, S6, hH7, ⟨-, hx⟩, -, -, -⟩ := hact.calm HKC.out.1 (by decide) (by show usB _ _ ≤ (crash k4 0).quota; rw [HKC.out.2]; decide) (by show usB _ _ ≤ (crash k4 0).quota; rw [HKC.out.2]; decide)
  obtain ⟨rfl, rfl, rfl⟩ := hx sg2
  have hrow := row_kept HROW.out (fun g hg => hK.2 g hg)
  have HROW2 := Lib.hid (fun W (hb : Below w13.heap.size w13 W) => row_later hrow hb)
  have hrt : ∀ c ∈ live (gMerge (gOpen (gPut (gFlush (gPut g0 k5)) k6))), rightC c = 0 := fun c hc => (hH7.al.kept.ok.live.2.2 c hc).1
  have HGET := Lib.hid (get_any hH7.al.st 5 (by decide) hrt)
  have HSG := Lib.hid (fun W (hb : Below w13.heap.size w13 W) => segments_any (hH7.later hb).1.al.st)
  have HBZ := Lib.hid hH7.bs.beh
  have lv5' : live (gMerge (gOpen (gPut (gFlush (gPut g0 k5)) k6))) = [k5, k6] := lv5
  have sg3' : (segNos (gMerge (gOpen (gPut (gFlush (gPut g0 k5)) k6)))).length = 1 := sg3
  rw [lv5'] at HGET
  rw [sg3'] at HSG
  clear hact hK hH7 hx hrow hrt HROW HMG HKC lv5' sg3'
  go_wp2_with fail
  refine HGET.out.mono ?_
  rintro e w14 ⟨T, V, rfl, hT, hV, -, -, hb14⟩
  have hlk : lkC [k5, k6] 5 = some k5 := rfl
  rw [hlk] at hT hV ⊢
  have HB14 := Lib.hid hb14
  obtain ⟨A5, c5, rfl, -⟩ := hT
  obtain ⟨A6, c6, rfl, -⟩ := hV
  have hbx := pl1 w14 (.cells #[.int .i64 k5.doc, .slice A5 k5.ts.length c5, .slice A6 k5.v.length c6, .int .i64 k5.tags] 33)
  have hbX := HB14.out.trans (hbx.mono HB14.out.size)
  have hbk := heap_alloc_new w14 (.cells #[.int .i64 k5.doc, .slice A5 k5.ts.length c5, .slice A6 k5.v.length c6, .int .i64 k5.tags] 33)
  have hrX := HROW2.out _ hbX
  have HSX := Lib.hid (HSG.out _ hbX)
  have HEND := Lib.hid (HBZ.out.trans (hbX.mono HBZ.out.size))
  generalize hXe : w14.alloc (.cells #[.int .i64 k5.doc, .slice A5 k5.ts.length c5, .slice A6 k5.v.length c6, .int .i64 k5.tags] 33) = X at hbk hrX HSX HEND
  have HXE := Lib.hid hXe
  obtain ⟨gg, hA, q0, q1⟩ : ∃ gg, A = some ⟨gg, 0, none⟩ ∧ X.cell? ⟨gg, 0, none⟩ = some (.int .i64 5) ∧ X.cell? ⟨gg, 1, none⟩ = some (.int .i64 6) := by
    rcases row_form hrX with ⟨_, h0⟩ | ⟨gg, c9, e9, _, _, _, hc⟩
    · exact absurd h0 (by decide)
    · injection e9 with e9
      exact ⟨gg, e9, hc 0 _ rfl, hc 1 _ rfl⟩
  subst hA
  have z0 : X.cell? ⟨w14.heap.size, 0, none⟩ = some (.int .i64 5) := cell_of_cells (i := 0) hbk rfl
  clear hb14 HGET hlk hbx hbX hbk hrX hXe HROW2 HSG HBZ
  go_wp2_with (first | (rw [HXE.out]) | fail)
  refine HSX.out.mono ?_
  rintro e w15 ⟨rfl, rfl⟩
  go_wp2
  go_ret
  exact ⟨rfl, HEND.out⟩
end Go.Proofs.YtddnnhfffmhpmaaGreatDoor.St

/- StorePlays answers true. -/
namespace Go.Proofs.YtddnnhfffmhpmaaGreatDoor.St
open Go.RowKit Go.Proofs.YtddnnhfffmhpmaaGreatDoor DocM StoM Do
open VdM

/-- the store, and the document's documents, behind some acts; X: other memory -/
def PlayR (w : World) (d : Nat) (q : Nat) (i : Nat) (s : Nat) (vm : Value) (X : Nat → Prop) (wr : World) : Prop :=
  ∃ (p : Pl) (F : Nat → Prop) (k : Dsk) (g : Gst) (P : List Int) (L S : Nat) (xs : List Cx) (base : Nat), Hold w wr (fun b => vm.ownBlock = some b ∨ X b) p F k g P L S ∧ p.d = d ∧ p.s = s ∧ L + S ≤ i ∧ k.at_ = 0 ∧ k.quota = q ∧ live g = xs.map (·.1) ∧ Drow w wr base vm xs
theorem Drow.kept {W0 w w' : World} {base : Nat} {v : Value} {xs : List Cx} {E : Nat → Prop} (h : Drow W0 w base v xs) (hK : KeptE E w w') (hE : ∀ b, v.ownBlock = some b → E b) : Drow W0 w' base v xs := ⟨row_kept h.own fun g hg => hK.2 g (hE g hg), h.rd⟩
def PlayD (w : World) (d : Nat) (q : Nat) (i : Nat) (vm : Value) (X : Nat → Prop) (dn : Bool) (wr : World) : Prop :=
  ∃ (F : Nat → Prop) (k : Dsk) (g : Gst) (P : List Int) (L S : Nat) (xs : List Cx) (base : Nat), Disc w wr (fun b => vm.ownBlock = some b ∨ X b) F d k g P L S ∧ k.down = dn ∧ L + S ≤ i ∧ k.at_ = 0 ∧ k.quota = q ∧ live g = xs.map (·.1) ∧ Drow w wr base vm xs
section
variable {w wr : World} {d q i s : Nat} {vm : Value} {X : Nat → Prop}
theorem PlayR.disc (h : PlayR w d q i s vm X wr) : PlayD w d q i vm X false wr := by
  obtain ⟨p, F, k, g, P, L, S, xs, base, hH, hd, hs, hLS, hat, hq, hl, hD⟩ := h
  exact ⟨F, k, g, P, L, S, xs, base, hd ▸ hH.disc, hH.al.up, hLS, hat, hq, hl, hD⟩
theorem PlayR.below (h : PlayR w d q i s vm X wr) : Below w.heap.size w wr := by
  obtain ⟨p, F, k, g, P, L, S, xs, base, hH, _⟩ := h
  exact hH.bs.beh
/-- memory that has been made since -/
theorem PlayR.with_ {w' : World} (h : PlayR w d q i s vm X wr) (hb : Below wr.heap.size wr w') {Y : Nat → Prop} (hY : ∀ b, Y b → X b ∨ (wr.heap.size ≤ b ∧ b < w'.heap.size)) : PlayR w d q i s vm Y w' := by
  obtain ⟨p, F, k, g, P, L, S, xs, base, hH, hd, hs, hLS, hat, hq, hl, hD⟩ := h
  refine ⟨p, F, k, g, P, L, S, xs, base, (hH.later hb).1.with_ fun b hb' => ?_, hd, hs, hLS, hat, hq, hl, hD.later hb⟩
  have hz := hb.size
  have hold : ∀ b, (vm.ownBlock = some b ∨ X b) → ¬ fullF p F b ∧ b < w'.heap.size := fun b h' => ⟨(hH.bs.off b h').1, Nat.lt_of_lt_of_le (hH.bs.off b h').2 hz⟩
  rcases hb' with h' | h'
  · exact hold b (.inl h')
  · rcases hY b h' with h' | ⟨h1, h2⟩
    · exact hold b (.inr h')
    · exact ⟨fun hf => by have := hH.al.st.lt b hf; omega, h2⟩
theorem PlayD.crash (h : PlayD w d q i vm X false wr) (keep : Int) :
    Calls Tryz.prog 9 #[.pointer (some ⟨d, 0, none⟩), .int .i64 keep] wr fun e w' => e = .returned (.tuple #[]) ∧ KeptE (fun b => vm.ownBlock = some b ∨ X b) wr w' ∧ PlayD w d q i vm X true w' := by
  obtain ⟨F, k, g, P, L, S, xs, base, hH, hd, hLS, hat, hq, hl, hD⟩ := h
  refine (disc_crash hH keep).mono ?_
  rintro e w' ⟨he, hK, hH'⟩
  have hc : VdM.crash k keep = { k with fs := cutAll keep k.fs, down := true, at_ := 0, keep := 0 } := by
    unfold VdM.crash
    rw [hd]
    rfl
  exact ⟨he, hK, F, VdM.crash k keep, g, P, L, S, xs, base, hH', by rw [hc], hLS, by rw [hc], by rw [hc]; exact hq, hl, hD.kept hK fun b hb => .inl hb⟩
theorem PlayD.start (h : PlayD w d q i vm X true wr) :
    Calls Tryz.prog 10 #[.pointer (some ⟨d, 0, none⟩)] wr fun e w' => e = .returned (.tuple #[]) ∧ KeptE (fun b => vm.ownBlock = some b ∨ X b) wr w' ∧ PlayD w d q i vm X false w' := by
  obtain ⟨F, k, g, P, L, S, xs, base, hH, hd, hLS, hat, hq, hl, hD⟩ := h
  refine (disc_start hH).mono ?_
  rintro e w' ⟨he, hK, hH'⟩
  exact ⟨he, hK, F, _, g, P, L, S, xs, base, hH', rfl, hLS, hat, hq, hl, hD.kept hK fun b hb => .inl hb⟩
theorem PlayD.open_ (h : PlayD w d q i vm X false wr) (hi : i ≤ 60) :
    Calls Tryz.prog 11 #[.pointer (some ⟨d, 0, none⟩)] wr fun e w' => ∃ s', e = .returned (.tuple #[.pointer (some ⟨s', 0, none⟩), .int .i64 0]) ∧ KeptE (fun b => vm.ownBlock = some b ∨ X b) wr w' ∧ PlayR w d q i s' vm X w' := by
  obtain ⟨F, k, g, P, L, S, xs, base, hH, hd, hLS, hat, hq, hl, hD⟩ := h
  refine (disc_open hH hd (by omega)).mono ?_
  rintro e w' ⟨p, he, hpd, _, hK, _, hH'⟩
  exact ⟨p.s, he, hK, p, F, k, gOpen g, P, L, S, xs, base, hH', hpd, rfl, hLS, hat, hq, hl, hD.kept hK fun b hb => .inl hb⟩
end
theorem hold_dup {w0 w : World} {u : Value} {N : Nat} {p : Pl} {F : Nat → Prop} {k : Dsk} {g : Gst} {P : List Int} {L S : Nat} (h : Hold w0 w (fun b => u.ownBlock = some b ∨ b = N) p F k g P L S) : Hold w0 w (fun b => (u.ownBlock = some b ∨ u.ownBlock = some b) ∨ b = N) p F k g P L S := h.with_ fun b hb => h.bs.off b (hb.elim (fun x => .inl (x.elim id id)) .inr)
theorem hold_two {w0 w : World} {u v : Value} {N : Nat} {p : Pl} {F : Nat → Prop} {k : Dsk} {g : Gst} {P : List Int} {L S : Nat} (h : Hold w0 w (fun b => u.ownBlock = some b ∨ b = N) p F k g P L S) (hv : ∀ b, v.ownBlock = some b → ¬ fullF p F b ∧ b < w.heap.size) : Hold w0 w (fun b => (u.ownBlock = some b ∨ v.ownBlock = some b) ∨ b = N) p F k g P L S := h.with_ fun b hb => by
  rcases hb with (hb | hb) | hb
  · exact h.bs.off b (.inl hb)
  · exact hv b hb
  · exact h.bs.off b (.inr hb)
theorem code_ne6 (kd : Int) (l : Chs) (c : Ch) : codeA kd l c ≠ 6 := by
  unfold codeA putE
  split
  · split
    · unfold rightC
      split
      · decide
      · split
        · decide
        · split
          · decide
          · split <;> decide
    · unfold admC
      rw [if_neg (by simp)]
      split
      · decide
      · split <;> decide
  · decide
/-- how an act of StorePlays ends -/
def PlayE (kd : Int) (c : Ch) (g g' : Gst) (q : Nat) (r : Int) : Prop := (r = codeA kd (live g) c ∧ live g' = nextA kd (live g) c ∧ (r = 0 → kd = 2 → (segNos g').length ≤ 1)) ∨ (r = 6 ∧ codeA kd (live g) c = 0 ∧ live g' = live g ∧ q < 1048576)
theorem plays_case {w0 w w' : World} {E : Nat → Prop} {p : Pl} {k : Dsk} {g : Gst} {L S i q : Nat} {kd : Int} {c : Ch} {r : Int} (h : Acted w0 w E p k g L S (codeA kd (live g) c) (nextA kd (live g) c) (behA kd c g L S) r w') (hat : k.at_ = 0) (hq : k.quota = q) (hq2 : q ≤ 1048576) (hLS : L + S ≤ i) (hi : i ≤ 50) :
    KeptE E w w' ∧ ∃ F' k' g' P' L' S', Hold w0 w' E p F' k' g' P' L' S' ∧ k'.at_ = 0 ∧ k'.quota = q ∧ L' + S' ≤ i + 1 ∧ PlayE kd c g g' q r := by
  obtain ⟨hK, F', k', g', P', L', S', hE, h3⟩ := h
  have hl := hE.l
  have hs := hE.s
  have hf := hE.few
  refine ⟨hK, F', k', g', P', L', S', ?_⟩
  rcases h3 with ⟨hH, hr, hlv, hx, _⟩ | ⟨hH, hr, h0, hlv, hno⟩ | ⟨hr, _⟩
  · refine ⟨hH, (hE.calm hat).2, hE.quota.trans hq, by omega, .inl ⟨hr, hlv, fun h0 h2 => ?_⟩⟩
    obtain ⟨hx1, hx2⟩ := (hx h0).2.2.1 h2
    by_cases he : segNos g = []
    · rw [(hx1 he).1, he]
      decide
    · rw [(hx2 he).1]
      exact Nat.le_refl _
  · refine ⟨hH, (hE.calm hat).2, hE.quota.trans hq, by omega, .inr ⟨hr, h0, hlv, ?_⟩⟩
    by_cases hlt : q < 1048576
    · exact hlt
    · have hq3 : k.quota = 1048576 := by omega
      exact (hno (by omega) (by rw [hq3]; exact us_most (by omega)) (by rw [hq3]; exact us_most (by omega))).elim
  · exact absurd hr (hE.calm hat).1
set_option maxHeartbeats 8000000 in
set_option maxRecDepth 100000 in
theorem plays_main (w : World) (q : Int) (A : Option Addr) (n cp : Nat) (l : List Ax) (h : ActsR w A n l) :
    Calls Tryz.prog 3 #[.int .i64 q, .slice A n cp] w fun e w' => e = .returned (.bool true) ∧ Below w.heap.size w w' := by
  have HA := Lib.hid h
  have HAW := Lib.hid (awake11_any w)
  have HFEW := Lib.hid (fun W (hW : Below w.heap.size w W) => few11_any W A n cp l (h.later hW))
  have hlen := Lib.hid h.1
  clear h
  by_cases hf : fewL l
  rotate_left
  · have hfb : decide (fewL l) = false := decide_eq_false hf
    rw [hfb] at HFEW
    clear hf hfb
    go_enter Tryz.func3, Tryz.ntmps3
    go_wp2_with fail
    refine HAW.out.mono ?_
    rintro e w1 ⟨rfl, hb1⟩
    have HB1 := Lib.hid hb1
    clear hb1
    go_wp2_with fail
    refine (HFEW.out w1 HB1.out).mono ?_
    rintro e w2 ⟨rfl, hb2⟩
    have HB2 := Lib.hid (HB1.out.trans (hb2.mono HB1.out.size))
    clear hb2
    go_wp2
    go_ret
    exact ⟨rfl, HB2.out⟩
  have hfb : decide (fewL l) = true := decide_eq_true hf
  rw [hfb] at HFEW
  have HFW := Lib.hid hf
  clear hf hfb
  by_cases hq : 1 ≤ q ∧ q ≤ 1048576
  rotate_left
  · rcases (show q < 1 ∨ (¬ q < 1 ∧ 1048576 < q) by omega) with hq1 | ⟨hq1, hq2⟩
    all_goals
      clear hq
      go_enter Tryz.func3, Tryz.ntmps3
      go_wp2_with fail
      refine HAW.out.mono ?_
      rintro e w1 ⟨rfl, hb1⟩
      have HB1 := Lib.hid hb1
      clear hb1
      go_wp2_with fail
      refine (HFEW.out w1 HB1.out).mono ?_
      rintro e w2 ⟨rfl, hb2⟩
      have HB2 := Lib.hid (HB1.out.trans (hb2.mono HB1.out.size))
      clear hb2
      go_wp2
      go_ret
      exact ⟨rfl, HB2.out⟩
  obtain ⟨Q, rfl⟩ : ∃ Q : Nat, q = (Q : Int) := ⟨q.toNat, by omega⟩
  have hq1 : ¬ (Q : Int) < 1 := by omega
  have hq2 : ¬ (1048576 : Int) < (Q : Int) := by omega
  have hQ1 : 1 ≤ Q := by omega
  have hQ2 : Q ≤ 1048576 := by omega
  have HMADE := Lib.hid (fun W => made_any W Q hQ1 hQ2)
  have HQ := Lib.hid (And.intro hQ1 hQ2)
  clear hq hQ1 hQ2
  go_enter Tryz.func3, Tryz.ntmps3
  go_wp2_with fail
  refine HAW.out.mono ?_
  rintro e w1 ⟨rfl, hb1⟩
  have HB1 := Lib.hid hb1
  clear hb1
  go_wp2_with fail
  refine (HFEW.out w1 HB1.out).mono ?_
  rintro e w2 ⟨rfl, hb2⟩
  have HB2 := Lib.hid (HB1.out.trans (hb2.mono HB1.out.size))
  clear hb2 HFEW HAW
  go_wp2_with fail
  refine (HMADE.out w2).mono ?_
  rintro e w3 ⟨p, F, rfl, hA, hl, hb3⟩
  obtain ⟨d, hd⟩ : ∃ d, d = p.d := ⟨_, rfl⟩
  obtain ⟨s, hs⟩ : ∃ s, s = p.s := ⟨_, rfl⟩
  have HST : Hid (PlayR w d Q 0 s (.slice none 0 0) (fun _ => False) w3) := Lib.hid ⟨p, F, _, g0, [], 0, 0, [], 0, ⟨hA, ⟨fun b hb => Nat.le_trans HB2.out.size (hl b hb), HB2.out.trans (hb3.mono HB2.out.size), fun b hb => by rcases hb with hb | hb <;> cases hb⟩, ⟨by decide, by show usF [] ≤ _; decide, Nat.zero_le _⟩⟩, hd.symm, hs.symm, by decide, rfl, rfl, rfl, Drow.nil_ _ _ _⟩
  rw [← hd, ← hs]
  clear hA hl hb3 hd hs
  go_wp2
  go_loopw [6, 7, 8] (fun sv vm x wr => ∃ i s : Nat, sv = .pointer (some ⟨s, 0, none⟩) ∧ x = .int .i64 (i : Int) ∧ i ≤ n ∧ PlayR w d Q i s vm (fun _ => False) wr) (fun _ _ x _ => n - (intOf x).toNat)
  case atStart => exact ⟨0, s, rfl, rfl, Nat.zero_le _, HST.out⟩
  case round =>
    obtain ⟨i, s1, rfl, rfl, hi, hR⟩ := hrel
    have HR := Lib.hid hR
    by_cases hil : i < n
    · have hib : (i : Int) < (n : Int) := by omega
      have hiv : i < l.length := by have := hlen.out; omega
      obtain ⟨b, o, rfl, -, p1, q1, n1, k1, m1, j1, eT, eV, hT, hV, c0, c1, c2, c3, c4, c5, c6, c7⟩ := (HA.out.later hR.below).2 i hiv
      have HIV := Lib.hid hiv
      have hfw := HFW.out.2 l[i] (List.getElem_mem hiv)
      have HI50 : Hid (i < 50) := Lib.hid (by have := HFW.out.1; omega)
      have htw : Prd w (.slice p1 n1 k1) l[i].c.1.ts ∧ Vrd w (.slice q1 m1 j1) l[i].c.1.v := by
        obtain ⟨_, _, _, _, p', q', n', k', m', j', e1, e2, g1, g2, _⟩ := HA.out.2 i hiv
        rw [eT] at e1
        rw [eV] at e2
        rw [e1, e2]
        exact ⟨g1, g2⟩
      generalize l[i] = a at c0 c1 c4 c5 c6 c7 eT eV hfw htw
      have HTV := Lib.hid htw
      have HFWI := Lib.hid hfw
      have HET := Lib.hid (And.intro eT eV)
      clear hR hT hV eT eV hfw hi htw
      obtain ⟨kd, hkd⟩ : ∃ kd, kd = a.kind := ⟨_, rfl⟩
      rw [← hkd] at c0
      have HKD := Lib.hid hkd
      clear hkd
      go_upto_if 49 with fail
      obtain ⟨N, hN⟩ : ∃ N, N = wr.heap.size := ⟨_, rfl⟩
      have hbx := pl1 wr (.cells #[.int .i64 kd, .int .i64 a.c.1.doc, .slice p1 n1 k1, .slice q1 m1 j1, .int .i64 a.c.1.tags, .bool a.c.1.gone, .int .i64 a.at_, .int .i64 a.keep] 39)
      have HBK := Lib.hid (heap_alloc_new wr (.cells #[.int .i64 kd, .int .i64 a.c.1.doc, .slice p1 n1 k1, .slice q1 m1 j1, .int .i64 a.c.1.tags, .bool a.c.1.gone, .int .i64 a.at_, .int .i64 a.keep] 39))
      have HR0 : Hid (PlayR w d Q i s1 u7 (fun b => b = N) (wr.alloc (.cells #[.int .i64 kd, .int .i64 a.c.1.doc, .slice p1 n1 k1, .slice q1 m1 j1, .int .i64 a.c.1.tags, .bool a.c.1.gone, .int .i64 a.at_, .int .i64 a.keep] 39))) := Lib.hid (HR.out.with_ hbx fun b hb => .inr ⟨by omega, by rw [hb, hN]; simp⟩)
      clear hbx c0 c1 c2 c3 c4 c5 c6 c7 HR
      rw [← hN] at HBK ⊢
      generalize wr.alloc (.cells #[.int .i64 kd, .int .i64 a.c.1.doc, .slice p1 n1 k1, .slice q1 m1 j1, .int .i64 a.c.1.tags, .bool a.c.1.gone, .int .i64 a.at_, .int .i64 a.keep] 39) = wa at HBK HR0 ⊢
      clear hN
      go_cut [6] (fun sv wx => ∃ s' : Nat, sv = .pointer (some ⟨s', 0, none⟩) ∧ PlayR w d Q i s' u7 (fun b => b = N) wx ∧ wx.heap[N]? = wa.heap[N]?)
      case first =>
        have b0 : wa.cell? ⟨N, 0, none⟩ = some (.int .i64 kd) := cell_of_cells (i := 0) HBK.out rfl
        by_cases hk2 : 2 < kd
        · have hk2b : decide (2 < kd) = true := decide_eq_true hk2
          by_cases hk4 : kd = 4
          · have hk4b : (kd == 4) = true := by simpa using hk4
            have b7 : wa.cell? ⟨N, 7, none⟩ = some (.int .i64 a.keep) := cell_of_cells (i := 7) HBK.out rfl
            have HCR := Lib.hid (HR0.out.disc.crash a.keep)
            clear hk4
            go_wp2_with fail
            refine HCR.out.mono ?_
            rintro e wx ⟨rfl, hK1, hD1⟩
            have HST1 := Lib.hid hD1.start
            have HK1 := Lib.hid (hK1.2 N (.inr rfl))
            clear hK1 hD1 HCR
            go_wp2_with fail
            refine HST1.out.mono ?_
            rintro e wy ⟨rfl, hK2, hD2⟩
            have HOP := Lib.hid (hD2.open_ (by have := HI50.out; omega))
            have HK2 := Lib.hid ((hK2.2 N (.inr rfl)).trans HK1.out)
            clear hK2 hD2 HST1
            go_wp2_with fail
            refine HOP.out.mono ?_
            rintro e wz ⟨s', rfl, hK3, hR3⟩
            have HEND := Lib.hid (And.intro hR3 ((hK3.2 N (.inr rfl)).trans HK2.out))
            clear hK3 hR3
            go_wp2
            go_meet
            exact ⟨s', rfl, HEND.out.1, HEND.out.2⟩
          · have hk4b : (kd == 4) = false := by simpa using hk4
            have HOP := Lib.hid (HR0.out.disc.open_ (by have := HI50.out; omega))
            clear hk4
            go_wp2_with fail
            refine HOP.out.mono ?_
            rintro e wz ⟨s', rfl, hK3, hR3⟩
            have HEND := Lib.hid (And.intro hR3 (hK3.2 N (.inr rfl)))
            clear hK3 hR3
            go_wp2
            go_meet
            exact ⟨s', rfl, HEND.out.1, HEND.out.2⟩
        · have hk2b : decide (2 < kd) = false := decide_eq_false hk2
          go_wp2
          go_meet
          exact ⟨s1, rfl, HR0.out, rfl⟩
      case rest =>
        obtain ⟨s2, rfl, ⟨p2, F2, k2, g2, P2, L2, S2, xs, base, hH, hd2, rfl, hLS, hat, hqq, hl, hD⟩, hbk2⟩ := hcut
        have hbx := hbk2.trans HBK.out
        have hn1 : n1 ≤ 1000000 := by
          obtain ⟨_, _, e, _⟩ := HTV.out.1
          injection e with _ e _
          have := HFWI.out.1
          omega
        have hm1 : m1 ≤ 1000000 := by
          obtain ⟨_, _, e, _⟩ := HTV.out.2
          injection e with _ e _
          have := HFWI.out.2
          omega
        have b0 := cell_of_cells (i := 0) hbx (v := .int .i64 kd) rfl
        have b1 := cell_of_cells (i := 1) hbx (v := .int .i64 a.c.1.doc) rfl
        have b2 := cell_of_cells (i := 2) hbx (v := .slice p1 n1 k1) rfl
        have b3 := cell_of_cells (i := 3) hbx (v := .slice q1 m1 j1) rfl
        have b4 := cell_of_cells (i := 4) hbx (v := .int .i64 a.c.1.tags) rfl
        have b5 := cell_of_cells (i := 5) hbx (v := .bool a.c.1.gone) rfl
        have b6 := cell_of_cells (i := 6) hbx (v := .int .i64 a.at_) rfl
        have b7 := cell_of_cells (i := 7) hbx (v := .int .i64 a.keep) rfl
        have HDO := Lib.hid (does_law hH (by have := HI50.out; omega) kd a.c.1 p1 q1 n1 k1 m1 j1 a.at_ a.keep HTV.out.1 HTV.out.2 hn1 hm1)
        have HXS : Hid (xs.length ≤ 1000 ∧ RiseC (xs.map (·.1)) ∧ ∀ x ∈ xs, -9223372036854775808 ≤ x.1.doc ∧ x.1.doc ≤ 9223372036854775807) := Lib.hid (by
          have hlv := hH.al.kept.ok.live
          have hfe := hH.al.kept.ok.few.1
          have hpl := hH.few.plen
          have h50 := HI50.out
          refine ⟨?_, by rw [← hl]; exact hlv.1, fun x hx => ?_⟩
          · have h1 : (live g2).length = xs.length := by rw [hl, List.length_map]
            omega
          · have h1 := rgt_of (hlv.2.2 x.1 (by rw [hl]; exact List.mem_map.2 ⟨x, hx, rfl⟩)).1
            have := h1.doc
            omega)
        have HBX := Lib.hid hbx
        have HNM := Lib.hid (And.intro hn1 hm1)
        have HPL := Lib.hid (And.intro hLS (And.intro hat (And.intro hqq (And.intro hl hD))))
        clear hbx hbk2 hn1 hm1 hLS hat hqq hl hD hH
        go_wp2_with fail
        refine HDO.out.mono ?_
        rintro e wd ⟨r, rfl, hact⟩
        obtain ⟨hK, F3, k3, g3, P3, L3, S3, hH3, hat3, hq3, hLS3, hend⟩ := plays_case hact HPL.out.2.1 HPL.out.2.2.1 HQ.out.2 HPL.out.1 (by have := HI50.out; omega)
        have HH3 := Lib.hid hH3
        have HE3 := Lib.hid (And.intro hat3 (And.intro hq3 (And.intro hLS3 hend)))
        have HD3 := Lib.hid (HPL.out.2.2.2.2.kept hK fun b hb => .inl hb)
        have HBX3 := Lib.hid ((hK.2 N (.inr rfl)).trans HBX.out)
        have HL3 := Lib.hid HPL.out.2.2.2.1
        clear hact hK hH3 hat3 hq3 hLS3 hend HDO HBX HPL b0 b1 b2 b3 b4 b5 b6 b7
        have b0 := cell_of_cells (i := 0) HBX3.out (v := .int .i64 kd) rfl
        go_upto_if 78 with fail
        go_cut [13, 14] (fun nx cd wx => ∃ (base' : Nat) (xs' : List Cx), Hold w wx (fun b => (u7.ownBlock = some b ∨ nx.ownBlock = some b) ∨ b = N) p2 F3 k3 g3 P3 L3 S3 ∧ Drow w wx base u7 xs ∧ Drow w wx base' nx xs' ∧ cd = .int .i64 (codeA kd (live g2) a.c.1) ∧ xs'.map (·.1) = nextA kd (live g2) a.c.1 ∧ wx.heap[N]? = wd.heap[N]?)
        case first =>
          by_cases hk0 : kd = 0
          · subst hk0
            have b1 := cell_of_cells (i := 1) HBX3.out (v := .int .i64 a.c.1.doc) rfl
            have b2 := cell_of_cells (i := 2) HBX3.out (v := .slice p1 n1 k1) rfl
            have b3 := cell_of_cells (i := 3) HBX3.out (v := .slice q1 m1 j1) rfl
            have b4 := cell_of_cells (i := 4) HBX3.out (v := .int .i64 a.c.1.tags) rfl
            have b5 := cell_of_cells (i := 5) HBX3.out (v := .bool a.c.1.gone) rfl
            have HOF := Lib.hid (of_any a.c.1 (.slice p1 n1 k1) (.slice q1 m1 j1) wd ⟨_, _, _, rfl⟩ ⟨_, _, _, rfl⟩)
            have HPUT := Lib.hid (fun W (hb : Below wd.heap.size wd W) => refput11_any w W base u7 xs a.c.1 p1 q1 n1 k1 m1 j1 (HD3.out.later hb) HXS.out.1 HTV.out.1 HTV.out.2 (HH3.out.bs.beh.trans (hb.mono HH3.out.bs.beh.size)) HNM.out.1 HNM.out.2 HXS.out.2.2)
            unfold chV at HOF HPUT
            go_wp2_with fail
            refine HOF.out.mono ?_
            rintro e we ⟨rfl, hbe⟩
            have HBE := Lib.hid hbe
            have HPU := Lib.hid (HPUT.out we hbe)
            clear hbe HOF HPUT b0 b1 b2 b3 b4 b5
            go_wp2_with fail
            refine HPU.out.mono ?_
            rintro e wf ⟨hbf, hpd⟩
            have hbw := HBE.out.trans (hbf.mono HBE.out.size)
            have HBW := Lib.hid hbw
            have HBK9 : Hid (wf.heap[N]? = wd.heap[N]?) := Lib.hid (hbw.block N (HH3.out.bs.off N (.inr rfl)).2)
            rcases hpd with ⟨hp, rfl⟩ | ⟨hp, v', rfl, hrow⟩
            · have HP := Lib.hid hp
              clear hbf hbw hp HPU HBE
              go_wp2
              go_meet
              exact ⟨base, xs, hold_dup (HH3.out.later HBW.out).1, HD3.out.later HBW.out, HD3.out.later HBW.out, by rw [HL3.out]; rfl, by
                unfold nextA putD
                rw [if_pos rfl, HL3.out, if_neg HP.out], HBK9.out⟩
            · have HP := Lib.hid hp
              have HRW := Lib.hid hrow
              have hlt := World.ownsRow.lt hrow.own
              have HNW : Hid (∀ b, v'.ownBlock = some b → ¬ fullF p2 F3 b ∧ b < wf.heap.size) := Lib.hid (fun b hb => ⟨fun hf => by
                have h1 := HH3.out.al.st.lt b hf
                have h2 := (hlt b hb).1
                have h3 := HBE.out.size
                omega, (hlt b hb).2⟩)
              clear hbf hbw hp hrow hlt HPU HBE
              go_wp2
              go_meet
              exact ⟨_, _, hold_two (HH3.out.later HBW.out).1 HNW.out, HD3.out.later HBW.out, HRW.out, by
                unfold codeA
                rw [if_pos rfl, HL3.out, HP.out], by
                unfold nextA putD
                rw [if_pos rfl, HL3.out, if_pos HP.out]
                exact out_is _ _ HXS.out.2.1, HBK9.out⟩
          · have hk0b : (kd == 0) = false := by simpa using hk0
            have HK0 := Lib.hid hk0
            clear hk0
            go_wp2
            go_meet
            exact ⟨base, xs, hold_dup HH3.out, HD3.out, HD3.out, by unfold codeA; rw [if_neg HK0.out], by unfold nextA; rw [if_neg HK0.out, HL3.out], rfl⟩
        case rest =>
          obtain ⟨base4, xs4, hH4, hDu, hDn, rfl, hmap, hbk4⟩ := hcut
          obtain ⟨cd, hcd⟩ : ∃ cd, cd = codeA kd (live g2) a.c.1 := ⟨_, rfl⟩
          have hc6 := code_ne6 kd (live g2) a.c.1
          rw [← hcd] at hc6 ⊢
          have HCD := Lib.hid hcd
          have HH4 := Lib.hid hH4
          have HDD := Lib.hid (And.intro hDu (And.intro hDn (And.intro hmap hbk4)))
          clear hcd hH4 hDu hDn hmap hbk4 HH3 HD3 b0
          obtain ⟨bb, hbb⟩ : ∃ bb : Bool, bb = decide (r = 6 ∧ cd = 0 ∧ Q < 1048576) := ⟨_, rfl⟩
          have HBB : Hid ((bb = false ∧ r = cd ∧ live g3 = nextA kd (live g2) a.c.1 ∧ (r = 0 → kd = 2 → (segNos g3).length ≤ 1)) ∨ (bb = true ∧ r = 6 ∧ cd = 0 ∧ live g3 = live g2 ∧ Q < 1048576)) := Lib.hid (by
            rcases HE3.out.2.2.2 with ⟨hr, hlv, hsg⟩ | ⟨hr, hc0, hlv, hQ6⟩
            · rw [← HCD.out] at hr
              exact .inl ⟨by rw [hbb]; exact decide_eq_false (fun h => hc6 (by rw [← hr]; exact h.1)), hr, hlv, hsg⟩
            · rw [← HCD.out] at hc0
              exact .inr ⟨by rw [hbb]; exact decide_eq_true ⟨hr, hc0, hQ6⟩, hr, hc0, hlv, hQ6⟩)
          have HC6 := Lib.hid hc6
          clear hbb hc6
          go_upto_region 25 with fail
          go_cut [96] (fun c wx => c = .bool bb ∧ wx = wc)
          case first =>
            rcases HBB.out with ⟨rfl, hr, -, -⟩ | ⟨rfl, rfl, rfl, -, hQ6⟩
            · have h6 : (r == 6) = false := by rw [hr]; simpa using HC6.out
              clear hr
              go_wp2
              go_meet
              exact ⟨rfl, rfl⟩
            · have hQi : (Q : Int) < 1048576 := by omega
              have hQb : decide ((Q : Int) < 1048576) = true := decide_eq_true hQi
              clear hQ6
              go_wp2
              go_meet
              exact ⟨rfl, rfl⟩
          case rest =>
          obtain ⟨rfl, rfl⟩ := hcut
          go_upto_if 96 with fail
          go_cut [13] (fun nx wx => ∃ (base' : Nat) (xs' : List Cx), Hold w wx (fun b => nx.ownBlock = some b ∨ b = N) p2 F3 k3 g3 P3 L3 S3 ∧ Drow w wx base' nx xs' ∧ live g3 = xs'.map (·.1) ∧ wx.heap[N]? = wd.heap[N]? ∧ (r = 0 → kd = 2 → (segNos g3).length ≤ 1))
          case first =>
            rcases HBB.out with ⟨rfl, hr, hlv, hsg⟩ | ⟨rfl, rfl, rfl, hlv, -⟩
            · have hrc : (r != cd) = false := by rw [hr]; simp
              have HSG := Lib.hid hsg
              have HLV := Lib.hid hlv
              clear hr hlv hsg
              go_wp2
              go_meet
              exact ⟨base4, xs4, HH4.out.with_ (fun b hb => HH4.out.bs.off b (hb.elim (fun x => .inl (.inr x)) .inr)), HDD.out.2.1, by rw [HLV.out]; exact HDD.out.2.2.1.symm, HDD.out.2.2.2, HSG.out⟩
            · have HLV := Lib.hid hlv
              clear hlv
              go_wp2
              go_meet
              exact ⟨base, xs, HH4.out.with_ (fun b hb => HH4.out.bs.off b (hb.elim (fun x => .inl (.inl x)) .inr)), HDD.out.1, by rw [HLV.out]; exact HL3.out, HDD.out.2.2.2, fun h => by omega⟩
          case rest =>
            obtain ⟨base5, xs5, hH5, hD5, hl5, hbk5, hsg⟩ := hcut
            have hlv := hH5.al.kept.ok.live
            have hrg : ∀ c ∈ live g3, c.ts.length ≤ 1000000 ∧ c.v.length ≤ 1000000 ∧ 0 ≤ c.doc ∧ c.doc ≤ 2147483647 := fun c hc => by
              have h1 := rgt_of (hlv.2.2 c hc).1
              have h2 := h1.len
              have h3 := h1.doc
              have h4 := ((DenM.vec_iff _).1 (h1.there (hlv.2.1 c hc))).1
              omega
            have hxr : ∀ x ∈ xs5, x.1 ∈ live g3 := fun x hx => by rw [hl5]; exact List.mem_map.2 ⟨x, hx, rfl⟩
            have hl1000 : (live g3).length ≤ 1000 := by
              have h1 := hH5.al.kept.ok.few.1
              have h2 := hH5.few.plen
              have h3 := HE3.out.2.2.1
              have h4 := HI50.out
              omega
            have hrt : ∀ c ∈ live g3, rightC c = 0 := fun c hc => (hlv.2.2 c hc).1
            have htl := tells_any w wc F3 p2 k3 g3.first (segNos g3) (logNo g3) g3.begun false (live g3) (settled g3) (came g3) base5 u13 xs5 hH5.al.st hD5 hH5.bs.beh hl1000 hrt hlv.2.1 hlv.1 (fun x hx => by have := hrg x.1 (hxr x hx); omega) (fun c hc => (hrg c hc).1) (fun c hc => (hrg c hc).2.1) (fun x hx => (hrg x.1 (hxr x hx)).2.1)
            rw [decide_eq_true hl5] at htl
            have HTL := Lib.hid htl
            have HSEG := Lib.hid (fun W (hb : Below wc.heap.size wc W) => segments_any (hH5.later hb).1.al.st)
            have HGET := Lib.hid (fun W (hb : Below wc.heap.size wc W) => get_any (hH5.later hb).1.al.st (-1) (by decide) hrt)
            have hlk : lkC (live g3) (-1) = none := lk_none.2 fun hm => by
              obtain ⟨c, hc, e⟩ := List.mem_map.1 hm
              have := (hrg c hc).2.2.1
              omega
            rw [hlk] at HGET
            have HFIN : Hid (∀ W, Below wc.heap.size wc W → PlayR w d Q (i + 1) p2.s u13 (fun _ => False) W) := Lib.hid (fun W hb => ⟨p2, F3, k3, g3, P3, L3, S3, xs5, base5, (hH5.later hb).1.with_ (fun b hb' => (hH5.later hb).1.bs.off b (hb'.elim .inl (fun h => h.elim))), hd2, rfl, HE3.out.2.2.1, HE3.out.1, HE3.out.2.1, hl5, hD5.later hb⟩)
            have HBX5 := Lib.hid (fun W (hb : Below wc.heap.size wc W) => (show W.cell? ⟨N, 0, none⟩ = some (.int .i64 kd) from cell_of_cells (i := 0) (blk_stay hb (hbk5.trans HBX3.out)) rfl))
            have HIM : Hid (i + 1 ≤ n) := Lib.hid (by omega)
            have HSG := Lib.hid hsg
            clear hlv hrg hxr hl1000 hrt htl hlk hsg hl5 hD5 hH5 hbk5 HDD HH4 HBB HE3 HL3
            go_wp2_with fail
            refine HTL.out.mono ?_
            rintro e wt ⟨rfl, hbt⟩
            have HBT := Lib.hid hbt
            have b0 := HBX5.out wt hbt
            have HSEG1 := Lib.hid (HSEG.out wt hbt)
            have HGET1 := Lib.hid (HGET.out wt hbt)
            have hi50 := HI50.out
            clear hbt HTL HSEG HGET
            by_cases hk2 : kd = 2
            · have hk2b : (kd == 2) = true := by simpa using hk2
              by_cases hr0 : r = 0
              · have hr0b : (r == 0) = true := by simpa using hr0
                have hsl := HSG.out hr0 hk2
                have hslb : decide ((1 : Int) < ((segNos g3).length : Int)) = false := decide_eq_false (by omega)
                have hsli : ¬ (1 : Int) < ((segNos g3).length : Int) := by omega
                clear hk2 hr0 hsl
                go_wp2_with fail
                refine HSEG1.out.mono ?_
                rintro e ws ⟨rfl, rfl⟩
                go_wp2_with fail
                refine HGET1.out.mono ?_
                rintro e wg ⟨T, V, rfl, hT, hV, -, -, hbg⟩
                have hbg2 := HBT.out.trans (hbg.mono HBT.out.size)
                have HR9 := Lib.hid (fun o => HFIN.out (wg.alloc o) (hbg2.trans ((pl1 wg o).mono hbg2.size)))
                obtain ⟨A5, c5, rfl, -⟩ := hT
                obtain ⟨A6, c6, rfl, -⟩ := hV
                clear hbg hbg2
                go_wp2
                go_roundw
                case rel => exact ⟨i + 1, p2.s, rfl, by go_num, HIM.out, HR9.out _⟩
                case measure => simp [intOf]; omega
              · have hr0b : (r == 0) = false := by simpa using hr0
                clear hk2 hr0
                go_wp2_with fail
                refine HGET1.out.mono ?_
                rintro e wg ⟨T, V, rfl, hT, hV, -, -, hbg⟩
                have hbg2 := HBT.out.trans (hbg.mono HBT.out.size)
                have HR9 := Lib.hid (fun o => HFIN.out (wg.alloc o) (hbg2.trans ((pl1 wg o).mono hbg2.size)))
                obtain ⟨A5, c5, rfl, -⟩ := hT
                obtain ⟨A6, c6, rfl, -⟩ := hV
                clear hbg hbg2
                go_wp2
                go_roundw
                case rel => exact ⟨i + 1, p2.s, rfl, by go_num, HIM.out, HR9.out _⟩
                case measure => simp [intOf]; omega
            · have hk2b : (kd == 2) = false := by simpa using hk2
              clear hk2
              go_wp2_with fail
              refine HGET1.out.mono ?_
              rintro e wg ⟨T, V, rfl, hT, hV, -, -, hbg⟩
              have hbg2 := HBT.out.trans (hbg.mono HBT.out.size)
              have HR9 := Lib.hid (fun o => HFIN.out (wg.alloc o) (hbg2.trans ((pl1 wg o).mono hbg2.size)))
              obtain ⟨A5, c5, rfl, -⟩ := hT
              obtain ⟨A6, c6, rfl, -⟩ := hV
              clear hbg hbg2
              go_wp2
              go_roundw
              case rel => exact ⟨i + 1, p2.s, rfl, by go_num, HIM.out, HR9.out _⟩
              case measure => simp [intOf]; omega
    · have hmi : ¬ (i : Int) < (n : Int) := by omega
      have HB9 := Lib.hid HR.out.below
      clear hR
      go_wp2
      go_ret
      exact ⟨rfl, HB9.out⟩
end Go.Proofs.YtddnnhfffmhpmaaGreatDoor.St

/- StoreQuiet answers true. -/
namespace Go.Proofs.YtddnnhfffmhpmaaGreatDoor.St
open Go.RowKit Go.Proofs.YtddnnhfffmhpmaaGreatDoor DocM StoM Do
open VdM

/-- a store behind some acts -/
def QuietR (w : World) (d i s : Nat) (wr : World) : Prop :=
  ∃ (p : Pl) (F : Nat → Prop) (k : Dsk) (g : Gst) (P : List Int) (L S : Nat), Hold w wr (fun _ => False) p F k g P L S ∧ p.d = d ∧ p.s = s ∧ L + S ≤ i ∧ k.at_ = 0 ∧ k.quota = 1048576
theorem quiet_case {w0 w w' : World} {E : Nat → Prop} {p : Pl} {k : Dsk} {g : Gst} {L S i : Nat} {code r : Int} {next : Chs} {X : Gst → Nat → Nat → Prop} (h : Acted w0 w E p k g L S code next X r w') (hat : k.at_ = 0) (hq : k.quota = 1048576) (hLS : L + S ≤ i) :
    KeptE E w w' ∧ ∃ F' k' g' P' L' S', Hold w0 w' E p F' k' g' P' L' S' ∧ L' + S' ≤ i + 1 ∧ k'.at_ = 0 ∧ k'.quota = 1048576 := by
  obtain ⟨hK, F', k', g', P', L', S', hE, h3⟩ := h
  have hf := hE.few
  refine ⟨hK, F', k', g', P', L', S', ?_⟩
  rcases h3 with ⟨hH, _⟩ | ⟨hH, _⟩ | ⟨hr, _⟩
  · exact ⟨hH, by omega, (hE.calm hat).2, hE.quota.trans hq⟩
  · exact ⟨hH, by omega, (hE.calm hat).2, hE.quota.trans hq⟩
  · exact absurd hr (hE.calm hat).1
/-- a row of ints' cells -/
theorem row1_at {w : World} {base n cp : Nat} {A : Option Addr} {ds : List Int} (h : w.ownsRow base 3 1 (.slice A n cp) ds.length (ds.map iv)) {j : Nat} (hj : j < ds.length) : ∃ g, A = some ⟨g, 0, none⟩ ∧ ∀ W, Below w.heap.size w W → W.cell? ⟨g, j, none⟩ = some (.int .i64 ds[j]) := by
  rcases row_form h with ⟨_, h0⟩ | ⟨g, c1, e, _, _, hl, hc⟩
  · omega
  · injection e with e1
    refine ⟨g, e1, fun W hW => (hW.cell (p := ⟨g, j, none⟩) hl).trans (hc j _ ?_)⟩
    rw [List.getElem?_map, List.getElem?_eq_getElem hj]
    rfl
/-- behind a flush nothing is to come -/
theorem flushed {g g' : Gst} {L S L' S' : Nat} (h : (came g = [] → g' = g ∧ L' = L ∧ S' = S) ∧ (came g ≠ [] → g' = gFlush g ∧ L' = L ∧ S' = S + 1)) : came g' = [] ∧ live g' = live g ∧ L' + S' ≤ L + S + 1 := by
  by_cases hc : came g = []
  · obtain ⟨rfl, rfl, rfl⟩ := h.1 hc
    exact ⟨hc, rfl, by omega⟩
  · obtain ⟨rfl, rfl, rfl⟩ := h.2 hc
    exact ⟨(flush_live g).2.2, (flush_live g).1, by omega⟩
theorem merged {P : List Int} {g g' : Gst} {L S L' S' : Nat} (hok : GOk P L S g) (h : (segNos g = [] → g' = g ∧ L' = L ∧ S' = S) ∧ (segNos g ≠ [] → g' = gMerge g ∧ L' = L ∧ S' = S + 1)) : came g' = came g ∧ live g' = live g ∧ (segNos g').length ≤ 1 := by
  by_cases hc : segNos g = []
  · obtain ⟨rfl, rfl, rfl⟩ := h.1 hc
    exact ⟨rfl, rfl, by rw [hc]; decide⟩
  · obtain ⟨rfl, rfl, rfl⟩ := h.2 hc
    exact ⟨(merge_live hok).2.2, (merge_live hok).1, Nat.le_refl _⟩
theorem flush_nothing {w0 w : World} {E : Nat → Prop} {p : Pl} {F : Nat → Prop} {k : Dsk} {g : Gst} {P : List Int} {L S : Nat} (h : Hold w0 w E p F k g P L S) (hc : came g = []) (hLS : L + S ≤ 55) :
    Calls Tryz.prog 21 #[.pointer (some ⟨p.s, 0, none⟩)] w fun e w' => e = .returned (.int .i64 0) ∧ w' = w := by
  have heff := h.few.eff
  have hpl := h.few.plen
  refine (flush_law w F p k g P L S h.al (by omega) (by omega) (by omega)).mono ?_
  rintro e w' ⟨r, he, ⟨_, rfl, rfl⟩ | ⟨hn, _⟩⟩
  · exact ⟨he, rfl⟩
  · exact absurd hc hn
set_option maxHeartbeats 8000000 in
set_option maxRecDepth 100000 in
theorem quiet_main (w : World) (A : Option Addr) (n cp : Nat) (l : List Ax) (h : ActsR w A n l) :
    Calls Tryz.prog 5 #[.slice A n cp] w fun e w' => e = .returned (.bool true) ∧ Below w.heap.size w w' := by
  have HA := Lib.hid h
  have HAW := Lib.hid (awake11_any w)
  have HFEW := Lib.hid (fun W (hW : Below w.heap.size w W) => few11_any W A n cp l (h.later hW))
  have hlen := Lib.hid h.1
  clear h
  by_cases hf : fewL l
  rotate_left
  · have hfb : decide (fewL l) = false := decide_eq_false hf
    rw [hfb] at HFEW
    clear hf hfb
    go_enter Tryz.func5, Tryz.ntmps5
    go_wp2_with fail
    refine HAW.out.mono ?_
    rintro e w1 ⟨rfl, hb1⟩
    have HB1 := Lib.hid hb1
    clear hb1
    go_wp2_with fail
    refine (HFEW.out w1 HB1.out).mono ?_
    rintro e w2 ⟨rfl, hb2⟩
    have HB2 := Lib.hid (HB1.out.trans (hb2.mono HB1.out.size))
    clear hb2
    go_wp2
    go_ret
    exact ⟨rfl, HB2.out⟩
  have hfb : decide (fewL l) = true := decide_eq_true hf
  rw [hfb] at HFEW
  have HFW := Lib.hid hf
  have HMADE := Lib.hid (fun W => made_any W 1048576 (by decide) (by decide))
  clear hf hfb
  go_enter Tryz.func5, Tryz.ntmps5
  go_wp2_with fail
  refine HAW.out.mono ?_
  rintro e w1 ⟨rfl, hb1⟩
  have HB1 := Lib.hid hb1
  clear hb1
  go_wp2_with fail
  refine (HFEW.out w1 HB1.out).mono ?_
  rintro e w2 ⟨rfl, hb2⟩
  have HB2 := Lib.hid (HB1.out.trans (hb2.mono HB1.out.size))
  clear hb2 HFEW HAW
  go_wp2_with fail
  refine (HMADE.out w2).mono ?_
  rintro e w3 ⟨p, F, rfl, hA, hl, hb3⟩
  obtain ⟨d, hd⟩ : ∃ d, d = p.d := ⟨_, rfl⟩
  obtain ⟨s, hs⟩ : ∃ s, s = p.s := ⟨_, rfl⟩
  have HST : Hid (QuietR w d 0 s w3) := Lib.hid ⟨p, F, _, g0, [], 0, 0, ⟨hA, ⟨fun b hb => Nat.le_trans HB2.out.size (hl b hb), HB2.out.trans (hb3.mono HB2.out.size), fun b hb => hb.elim⟩, ⟨by decide, by show usF [] ≤ _; decide, Nat.zero_le _⟩⟩, hd.symm, hs.symm, by decide, rfl, rfl⟩
  rw [← hd, ← hs]
  clear hA hl hb3 hd hs
  go_wp2
  go_loopw [5] (fun x wr => ∃ i : Nat, x = .int .i64 (i : Int) ∧ i ≤ n ∧ QuietR w d i s wr) (fun x _ => n - (intOf x).toNat)
  case atStart => exact ⟨0, rfl, Nat.zero_le _, HST.out⟩
  case round =>
    obtain ⟨i, rfl, hi, ⟨p2, F2, k2, g2, P2, L2, S2, hH, hd2, hs2, hLS, hat, hqq⟩⟩ := hrel
    by_cases hil : i < n
    · have hib : (i : Int) < (n : Int) := by omega
      have hiv : i < l.length := by have := hlen.out; omega
      obtain ⟨b, o, rfl, -, p1, q1, n1, k1, m1, j1, eT, eV, hT, hV, c0, c1, c2, c3, c4, c5, c6, c7⟩ := (HA.out.later hH.bs.beh).2 i hiv
      have hfw := HFW.out.2 l[i] (List.getElem_mem hiv)
      have HI50 : Hid (i < 50) := Lib.hid (by have := HFW.out.1; omega)
      have htw : Prd w (.slice p1 n1 k1) l[i].c.1.ts ∧ Vrd w (.slice q1 m1 j1) l[i].c.1.v := by
        obtain ⟨_, _, _, _, p', q', n', k', m', j', e1, e2, g1, g2, _⟩ := HA.out.2 i hiv
        rw [eT] at e1
        rw [eV] at e2
        rw [e1, e2]
        exact ⟨g1, g2⟩
      generalize l[i] = a at c0 c1 c4 c5 c6 c7 eT eV hfw htw
      have hn1 : n1 ≤ 1000000 := by
        obtain ⟨_, _, e, _⟩ := htw.1
        injection e with _ e _
        omega
      have hm1 : m1 ≤ 1000000 := by
        obtain ⟨_, _, e, _⟩ := htw.2
        injection e with _ e _
        omega
      subst hs2
      have HDO := Lib.hid (does_law hH (by have := HI50.out; omega) a.kind a.c.1 p1 q1 n1 k1 m1 j1 a.at_ a.keep htw.1 htw.2 hn1 hm1)
      have HPL := Lib.hid (And.intro hd2 (And.intro hLS (And.intro hat hqq)))
      have HIM : Hid (i + 1 ≤ n) := Lib.hid (by omega)
      have hi50 := HI50.out
      clear hT hV eT eV hfw htw hn1 hm1 hd2 hLS hat hqq hH
      go_wp2_with fail
      refine HDO.out.mono ?_
      rintro e wd ⟨r, rfl, hact⟩
      obtain ⟨-, F3, k3, g3, P3, L3, S3, hH3, hLS3, hat3, hq3⟩ := quiet_case hact HPL.out.2.2.1 HPL.out.2.2.2 HPL.out.2.1
      have HEND : Hid (QuietR w d (i + 1) p2.s wd) := Lib.hid ⟨p2, F3, k3, g3, P3, L3, S3, hH3, HPL.out.1, rfl, hLS3, hat3, hq3⟩
      clear hact hH3 hLS3 hat3 hq3 HDO HPL
      go_wp2
      go_roundw
      case rel => exact ⟨i + 1, by go_num, HIM.out, HEND.out⟩
      case measure => simp [intOf]; omega
    · have hmi : ¬ (i : Int) < (n : Int) := by omega
      have hi50 : i ≤ 50 := by
        have h1 := HFW.out.1
        have h2 := hlen.out
        omega
      subst hs2
      have hlv0 := hH.al.kept.ok.few.1
      have hpl0 := hH.few.plen
      have HDC := Lib.hid (docs_any hH.al.st (by omega))
      have HH := Lib.hid hH
      have HPL := Lib.hid (And.intro hd2 (And.intro hLS (And.intro hat hqq)))
      clear hH hd2 hLS hat hqq hlv0 hpl0 hil
      go_wp2_with fail
      refine HDC.out.mono ?_
      rintro e wd ⟨A3, cp3, rfl, hrow, hbd⟩
      have hH1 : Hold w wd (fun b => (Value.slice A3 (live g2).length cp3).ownBlock = some b) p2 F2 k2 g2 P2 L2 S2 := (HH.out.later hbd).1.with_ (fun b he => ⟨fun hf => by
        have h1 := HH.out.al.st.lt b hf
        have h2 := (World.ownsRow.lt hrow b he).1
        omega, (World.ownsRow.lt hrow b he).2⟩)
      have HROW := Lib.hid hrow
      have HFL := Lib.hid (flush_step hH1 (by have := HPL.out.2.1; omega))
      clear hrow hbd HDC HH hH1
      go_wp2_with fail
      refine HFL.out.mono ?_
      rintro e we ⟨r, rfl, hact⟩
      have hls := HPL.out.2.1
      have hqu := HPL.out.2.2.2
      obtain ⟨rfl, hK1, F4, k4, g4, P4, L4, S4, hH4, hx4, -, hat4, hq4⟩ := hact.calm HPL.out.2.2.1 (by omega) (by rw [hqu]; exact us_most (by omega)) (by rw [hqu]; exact us_most (by omega))
      obtain ⟨hc4, hl4, hs4⟩ := flushed hx4
      have HROW4 := Lib.hid (row_kept HROW.out (fun g hg => hK1.2 g hg))
      have HMG := Lib.hid (merge_step hH4 (by omega))
      have HP4 := Lib.hid (And.intro hc4 (And.intro hl4 (And.intro hs4 (And.intro hat4 (And.intro (hq4.trans hqu) hH4.al.kept.ok)))))
      clear hact hK1 hH4 hx4 hat4 hq4 hc4 hl4 hs4 hls hqu HFL HROW
      go_wp2_with fail
      refine HMG.out.mono ?_
      rintro e wf ⟨r, rfl, hact⟩
      have hls := HPL.out.2.1
      have hl4 := HP4.out.2.2.1
      obtain ⟨rfl, hK1, F5, k5', g5, P5, L5, S5, hH5, hx5, -, -, -⟩ := hact.calm HP4.out.2.2.2.1 (by omega) (by rw [HP4.out.2.2.2.2.1]; exact us_most (by omega)) (by rw [HP4.out.2.2.2.2.1]; exact us_most (by omega))
      obtain ⟨hc5, hl5, hsg5⟩ := merged HP4.out.2.2.2.2.2 hx5
      have HROW5 := Lib.hid (row_kept HROW4.out (fun g hg => hK1.2 g hg))
      have hLS5 : L5 + S5 ≤ 53 := by
        obtain ⟨_, _, _, _, _, _, hE, _⟩ := hact.2
        by_cases hc : segNos g4 = []
        · have := (hx5.1 hc).2
          omega
        · have := (hx5.2 hc).2
          omega
      have HEF := Lib.hid (Vd.effects_any wf F5 p2.d k5' hH5.al.st.disk)
      have HF2 := Lib.hid (flush_nothing hH5 (hc5.trans HP4.out.1) (by omega))
      have HSG := Lib.hid (segments_any hH5.al.st)
      have HOP := Lib.hid (disc_open hH5.disc hH5.al.up (by omega))
      have HP5 := Lib.hid (And.intro (hl5.trans HP4.out.2.1) (And.intro hsg5 hLS5))
      have HH5 := Lib.hid hH5
      have hsgi : ¬ (1 : Int) < ((segNos g5).length : Int) := by omega
      have hsgb : decide ((1 : Int) < ((segNos g5).length : Int)) = false := decide_eq_false hsgi
      have hdd := HPL.out.1
      rw [hdd] at HEF HOP
      have HPD := Lib.hid hdd
      clear hact hK1 hH5 hx5 hls hl4 hc5 hl5 hsg5 hLS5 HMG HROW4 hdd
      go_wp2_with fail
      refine HEF.out.mono ?_
      rintro e w6 ⟨rfl, rfl⟩
      go_wp2_with fail
      refine HF2.out.mono ?_
      rintro e w6 ⟨rfl, rfl⟩
      go_wp2_with fail
      refine HEF.out.mono ?_
      rintro e w6 ⟨rfl, rfl⟩
      go_wp2_with fail
      refine HSG.out.mono ?_
      rintro e w6 ⟨rfl, rfl⟩
      go_wp2_with fail
      refine HOP.out.mono ?_
      rintro e w7 ⟨p7, rfl, hp7, -, hK7, hb7, hH7⟩
      have hl7 : live (gOpen g5) = live g2 := HP5.out.1
      have hln : (live g2).length ≤ 1000 := by
        have h1 := hH7.al.kept.ok.few.1
        have h2 := hH7.few.plen
        have h3 := HP5.out.2.2
        rw [hl7] at h1
        omega
      have hS7 := (HH5.out.later hb7).1
      have hds := docs_any hS7.al.st (by rw [HP5.out.1]; exact hln)
      have hdt := fun W (hb : Below w7.heap.size w7 W) => docs_any (hH7.later hb).1.al.st (by rw [hl7]; exact hln)
      have hef := fun W (hb : Below w7.heap.size w7 W) => Vd.effects_any W F5 p2.d k5' (hS7.later hb).1.al.st.disk
      rw [HP5.out.1] at hds
      simp only [hl7] at hdt
      rw [HPD.out] at hef
      have HDS := Lib.hid hds
      have HDT := Lib.hid hdt
      have HEF7 := Lib.hid hef
      have HBW7 := Lib.hid hS7.bs.beh
      have HR7 := Lib.hid (row_later HROW5.out hb7)
      have HLN := Lib.hid hln
      obtain ⟨D, hD⟩ : ∃ D, D = (live g2).length := ⟨_, rfl⟩
      clear hl7 hln hS7 hds hdt hef hb7 hH7 hK7 hp7 HOP HH5 HEF HF2 HSG HROW5
      go_wp2_with fail
      refine HDS.out.mono ?_
      rintro e w8 ⟨A8, cp8, rfl, hrow8, hb8⟩
      have HDT8 := Lib.hid (HDT.out w8 hb8)
      have HB8 := Lib.hid hb8
      have HR8 := Lib.hid hrow8
      clear hrow8 hb8 HDS HDT
      go_wp2_with fail
      refine HDT8.out.mono ?_
      rintro e w9 ⟨A9, cp9, rfl, hrow9, hb9⟩
      have hb79 := HB8.out.trans (hb9.mono HB8.out.size)
      have HEF9 := Lib.hid (HEF7.out w9 hb79)
      have HW := Lib.hid (row_later HR7.out hb79)
      have HN8 := Lib.hid (row_later HR8.out hb9)
      have HN9 := Lib.hid hrow9
      have HBW9 := Lib.hid (HBW7.out.trans (hb79.mono HBW7.out.size))
      clear hrow9 hb9 hb79 HDT8 HEF7 HR7 HR8
      go_wp2_with fail
      refine HEF9.out.mono ?_
      rintro e w10 ⟨rfl, rfl⟩
      have HL9 : Hid (((live g2).map (·.doc)).length = (live g2).length) := Lib.hid (List.length_map _)
      go_wp2
      go_loopw [12] (fun x wr => ∃ j : Nat, x = .int .i64 (j : Int) ∧ j ≤ (live g2).length ∧ Below w9.heap.size w9 wr) (fun x _ => (live g2).length - (intOf x).toNat)
      case atStart => exact ⟨0, rfl, Nat.zero_le _, Below.refl _ _⟩
      case round =>
        obtain ⟨j, rfl, hj, hb⟩ := hrel
        have hln := HLN.out
        by_cases hjl : j < (live g2).length
        · have hjb : (j : Int) < ((live g2).length : Int) := by omega
          have hjd : j < ((live g2).map (·.doc)).length := by rw [HL9.out]; exact hjl
          obtain ⟨ga, rfl, ha⟩ := row1_at HW.out hjd
          obtain ⟨gb, rfl, hb'⟩ := row1_at HN8.out hjd
          obtain ⟨gc, rfl, hc'⟩ := row1_at HN9.out hjd
          have xa := ha wr hb
          have xb := hb' wr hb
          have xc := hc' wr hb
          generalize ((live g2).map (·.doc))[j] = v at xa xb xc ha hb' hc'
          have hvv : (v != v) = false := by simp
          have HB := Lib.hid hb
          clear ha hb' hc' hb hjd
          have HJM : Hid (j + 1 ≤ (live g2).length) := Lib.hid (by omega)
          go_wp2_with fail
          go_quiet (fail)
          go_wp2
          go_roundw
          case rel => exact ⟨j + 1, by go_num, HJM.out, HB.out.trans ((below_drewN_p _ _).mono HB.out.size)⟩
          case measure => simp [intOf]; omega
        · have hmi : ¬ (j : Int) < ((live g2).length : Int) := by omega
          have HB := Lib.hid (HBW9.out.trans (hb.mono HBW9.out.size))
          clear hb
          go_wp2
          go_ret
          exact ⟨rfl, HB.out⟩
end Go.Proofs.YtddnnhfffmhpmaaGreatDoor.St

/- What an act of StoreCuts leaves: a store that stands, or one that is lost, and what is opened behind it. -/
namespace Go.Proofs.YtddnnhfffmhpmaaGreatDoor.St
open Go.RowKit Go.Proofs.YtddnnhfffmhpmaaGreatDoor DocM StoM Do
open VdM

/-- the store, and the document's documents, behind some acts; X: other memory -/
def CutR (w : World) (d : Nat) (i : Nat) (s : Nat) (vm : Value) (X : Nat → Prop) (wr : World) : Prop :=
  ∃ (p : Pl) (F : Nat → Prop) (k : Dsk) (g : Gst) (P : List Int) (L S : Nat) (xs : List Cx) (base : Nat), Hold w wr (fun b => vm.ownBlock = some b ∨ X b) p F k g P L S ∧ p.d = d ∧ p.s = s ∧ L + S ≤ i ∧ live g = xs.map (·.1) ∧ Drow w wr base vm xs
theorem CutR.below {w wr : World} {d i s : Nat} {vm : Value} {X : Nat → Prop} (h : CutR w d i s vm X wr) : Below w.heap.size w wr := by
  obtain ⟨p, F, k, g, P, L, S, xs, base, hH, _⟩ := h
  exact hH.bs.beh
theorem CutR.with_ {w wr w' : World} {d i s : Nat} {vm : Value} {X : Nat → Prop} (h : CutR w d i s vm X wr) (hb : Below wr.heap.size wr w') {Y : Nat → Prop} (hY : ∀ b, Y b → X b ∨ (wr.heap.size ≤ b ∧ b < w'.heap.size)) : CutR w d i s vm Y w' := by
  obtain ⟨p, F, k, g, P, L, S, xs, base, hH, hd, hs, hLS, hl, hD⟩ := h
  refine ⟨p, F, k, g, P, L, S, xs, base, (hH.later hb).1.with_ fun b hb' => ?_, hd, hs, hLS, hl, hD.later hb⟩
  have hz := hb.size
  have hold : ∀ b, (vm.ownBlock = some b ∨ X b) → ¬ fullF p F b ∧ b < w'.heap.size := fun b h' => ⟨(hH.bs.off b h').1, Nat.lt_of_lt_of_le (hH.bs.off b h').2 hz⟩
  rcases hb' with h' | h'
  · exact hold b (.inl h')
  · rcases hY b h' with h' | ⟨h1, h2⟩
    · exact hold b (.inr h')
    · exact ⟨fun hf => by have := hH.al.st.lt b hf; omega, h2⟩
theorem CutR.wide {w wr : World} {d i j s : Nat} {vm : Value} {X : Nat → Prop} (h : CutR w d i s vm X wr) (hj : i ≤ j) : CutR w d j s vm X wr := by
  obtain ⟨p, F, k, g, P, L, S, xs, base, hH, hd, hs, hLS, hl, hD⟩ := h
  exact ⟨p, F, k, g, P, L, S, xs, base, hH, hd, hs, by omega, hl, hD⟩
section
variable {w0 w w' : World} {E : Nat → Prop} {p : Pl} {F : Nat → Prop} {k : Dsk} {g : Gst} {P : List Int} {L S : Nat}
theorem Lost.later (h : Lost w0 w E p F k g P L S) (hb : Below w.heap.size w w') : Lost w0 w' E p F k g P L S := by
  obtain ⟨⟨hd, lg, bg, hS⟩, hk, hB, hf⟩ := h
  exact ⟨⟨hd, lg, bg, hS.later hb⟩, hk, (hB.later hb).1, hf⟩
/-- a store stands, or is lost -/
def Stands (up : Bool) (w0 w : World) (E : Nat → Prop) (p : Pl) (F : Nat → Prop) (k : Dsk) (g : Gst) (P : List Int) (L S : Nat) : Prop := (up = true ∧ Hold w0 w E p F k g P L S) ∨ (up = false ∧ Lost w0 w E p F k g P L S)
theorem Stands.bs {up : Bool} (h : Stands up w0 w E p F k g P L S) : Beside w0 w E p F := by
  rcases h with ⟨_, h⟩ | ⟨_, h⟩
  · exact h.bs
  · exact h.bs
theorem Stands.later {up : Bool} (h : Stands up w0 w E p F k g P L S) (hb : Below w.heap.size w w') : Stands up w0 w' E p F k g P L S := by
  rcases h with ⟨e, h⟩ | ⟨e, h⟩
  · exact .inl ⟨e, (h.later hb).1⟩
  · exact .inr ⟨e, h.later hb⟩
theorem Stands.with_ {up : Bool} (h : Stands up w0 w E p F k g P L S) {E' : Nat → Prop} (hE : ∀ b, E' b → ¬ fullF p F b ∧ b < w.heap.size) : Stands up w0 w E' p F k g P L S := by
  rcases h with ⟨e, h⟩ | ⟨e, h⟩
  · exact .inl ⟨e, h.with_ hE⟩
  · exact .inr ⟨e, h.dead, h.kept, ⟨h.bs.low, h.bs.beh, hE⟩, h.few⟩
theorem Stands.lt {up : Bool} (h : Stands up w0 w E p F k g P L S) : ∀ b, fullF p F b → b < w.heap.size := by
  rcases h with ⟨_, h⟩ | ⟨_, h⟩
  · exact h.al.st.lt
  · obtain ⟨_, _, _, hS⟩ := h.dead
    exact hS.lt
theorem Stands.is {up : Bool} (h : Stands up w0 w E p F k g P L S) : Vd.Is w F p.d k ∧ k.down = !up := by
  rcases h with ⟨rfl, h⟩ | ⟨rfl, h⟩
  · exact ⟨h.al.st.disk, h.al.up⟩
  · exact ⟨h.disc.1.is, h.disc.2⟩
/-- how an act of StoreCuts ends -/
def CutE (up : Bool) (kd : Int) (c : Ch) (g g' : Gst) (r : Int) : Prop := (up = true ∧ (r = codeA kd (live g) c ∨ r = 6) ∧ live g' = (if r = 0 then nextA kd (live g) c else live g)) ∨ (up = false ∧ r = 7 ∧ codeA kd (live g) c = 0 ∧ (live g' = live g ∨ live g' = nextA kd (live g) c))
theorem cuts_case {i : Nat} {kd : Int} {c : Ch} {r : Int} (h : Acted w0 w E p k g L S (codeA kd (live g) c) (nextA kd (live g) c) (behA kd c g L S) r w') (hLS : L + S ≤ i) :
    KeptE E w w' ∧ ∃ up F' k' g' P' L' S', Stands up w0 w' E p F' k' g' P' L' S' ∧ L' + S' ≤ i + 1 ∧ CutE up kd c g g' r := by
  obtain ⟨hK, F', k', g', P', L', S', hE, h3⟩ := h
  have hf := hE.few
  refine ⟨hK, ?_⟩
  rcases h3 with ⟨hH, hr, hlv, _, hx⟩ | ⟨hH, hr, h0, hlv, _⟩ | ⟨hr, h0, hH, hlv⟩
  · refine ⟨true, F', k', g', P', L', S', .inl ⟨rfl, hH⟩, by omega, .inl ⟨rfl, .inl hr, ?_⟩⟩
    by_cases h0 : r = 0
    · rw [if_pos h0, hlv]
    · rw [if_neg h0, (hx h0).1]
  · exact ⟨true, F', k', g', P', L', S', .inl ⟨rfl, hH⟩, by omega, .inl ⟨rfl, .inr hr, by rw [if_neg (by omega), hlv]⟩⟩
  · exact ⟨false, F', k', g', P', L', S', .inr ⟨rfl, hH⟩, by omega, .inr ⟨rfl, hr, h0, hlv⟩⟩
/-- what a store tells of a row of the document's -/
theorem hold_tells (h : Hold w0 w E p F k g P L S) {base : Nat} {v : Value} {xs : List Cx} (hD : Drow w0 w base v xs) (hx : ∀ x ∈ xs, rightC x.1 = 0 ∧ x.1.gone = false) (hLS : L + S ≤ 60) :
    Calls Tryz.prog 15 #[.pointer (some ⟨p.s, 0, none⟩), v] w fun e w' => e = .returned (.bool (decide (live g = xs.map (·.1)))) ∧ Below w.heap.size w w' := by
  have hlv := h.al.kept.ok.live
  have hfe := h.al.kept.ok.few.1
  have hpl := h.few.plen
  have hrg : ∀ c : Ch, rightC c = 0 → c.gone = false → c.ts.length ≤ 1000000 ∧ c.v.length ≤ 1000000 ∧ -9223372036854775808 ≤ c.doc ∧ c.doc ≤ 9223372036854775807 := fun c hc hgn => by
    have h1 := rgt_of hc
    have h2 := h1.len
    have h3 := h1.doc
    have h4 := ((DenM.vec_iff _).1 (h1.there hgn)).1
    omega
  exact tells_any w0 w F p k g.first (segNos g) (logNo g) g.begun false (live g) (settled g) (came g) base v xs h.al.st hD h.bs.beh (by omega) (fun c hc => (hlv.2.2 c hc).1) hlv.2.1 hlv.1 (fun x hx' => (hrg x.1 (hx x hx').1 (hx x hx').2).2.2) (fun c hc => (hrg c (hlv.2.2 c hc).1 (hlv.2.1 c hc)).1) (fun c hc => (hrg c (hlv.2.2 c hc).1 (hlv.2.1 c hc)).2.1) (fun x hx' => (hrg x.1 (hx x hx').1 (hx x hx').2).2.1)
theorem rows_right (h : GOk P L S g) {xs : List Cx} (hl : live g = xs.map (·.1)) : ∀ x ∈ xs, rightC x.1 = 0 ∧ x.1.gone = false := fun x hx => by
  have hm : x.1 ∈ live g := by rw [hl]; exact List.mem_map.2 ⟨x, hx, rfl⟩
  exact ⟨(h.live.2.2 x.1 hm).1, h.live.2.1 x.1 hm⟩
end
theorem stands_dup {up : Bool} {w0 w : World} {u : Value} {N : Nat} {p : Pl} {F : Nat → Prop} {k : Dsk} {g : Gst} {P : List Int} {L S : Nat} (h : Stands up w0 w (fun b => u.ownBlock = some b ∨ b = N) p F k g P L S) : Stands up w0 w (fun b => u.ownBlock = some b ∨ u.ownBlock = some b) p F k g P L S := h.with_ fun b hb => h.bs.off b (.inl (hb.elim id id))
theorem stands_two {up : Bool} {w0 w : World} {u v : Value} {N : Nat} {p : Pl} {F : Nat → Prop} {k : Dsk} {g : Gst} {P : List Int} {L S : Nat} (h : Stands up w0 w (fun b => u.ownBlock = some b ∨ b = N) p F k g P L S) (hv : ∀ b, v.ownBlock = some b → ¬ fullF p F b ∧ b < w.heap.size) : Stands up w0 w (fun b => u.ownBlock = some b ∨ v.ownBlock = some b) p F k g P L S := h.with_ fun b hb => by
  rcases hb with hb | hb
  · exact h.bs.off b (.inl hb)
  · exact hv b hb
theorem CutR.arm {w wr : World} {d i s : Nat} {vm : Value} {X : Nat → Prop} (h : CutR w d i s vm X wr) (a keep : Int) (ha : a ≤ 9223372036854775807) :
    Calls Tryz.prog 18 #[.pointer (some ⟨d, 0, none⟩), .agg #[.int .i64 a, .int .i64 keep]] wr fun e w' => e = .returned (.tuple #[]) ∧ KeptE (fun b => vm.ownBlock = some b ∨ X b) wr w' ∧ CutR w d i s vm X w' := by
  obtain ⟨p, F, k, g, P, L, S, xs, base, hH, hd, hs, hLS, hl, hD⟩ := h
  rw [← hd]
  refine (hold_arm hH a keep ha).mono ?_
  rintro e w' ⟨he, hK, F', hH'⟩
  exact ⟨he, hK, p, F', _, g, P, L, S, xs, base, hH', rfl, hs, hLS, hl, hD.kept hK fun b hb => .inl hb⟩
/-- a disk whose store is lost, beside two rows of the document's -/
def LostR (w : World) (d : Nat) (um nx : Value) (dn : Bool) (g : Gst) (P : List Int) (L S base base' : Nat) (xs xs' : List Cx) (wr : World) : Prop :=
  ∃ F k, Disc w wr (fun b => um.ownBlock = some b ∨ nx.ownBlock = some b) F d k g P L S ∧ k.down = dn ∧ Drow w wr base um xs ∧ Drow w wr base' nx xs'
/-- a store beside two rows of the document's -/
def OneR (w : World) (d : Nat) (um nx : Value) (g : Gst) (P : List Int) (L S base base' : Nat) (xs xs' : List Cx) (s : Nat) (wr : World) : Prop :=
  ∃ p F k, Hold w wr (fun b => um.ownBlock = some b ∨ nx.ownBlock = some b) p F k g P L S ∧ p.d = d ∧ p.s = s ∧ Drow w wr base um xs ∧ Drow w wr base' nx xs'
section
variable {w wr w' : World} {d : Nat} {um nx : Value} {g : Gst} {P : List Int} {L S base base' s : Nat} {xs xs' : List Cx}
theorem LostR.start (h : LostR w d um nx true g P L S base base' xs xs' wr) :
    Calls Tryz.prog 10 #[.pointer (some ⟨d, 0, none⟩)] wr fun e w' => e = .returned (.tuple #[]) ∧ LostR w d um nx false g P L S base base' xs xs' w' := by
  obtain ⟨F, k, hD, hd, h1, h2⟩ := h
  refine (disc_start hD).mono ?_
  rintro e w' ⟨he, hK, hD'⟩
  exact ⟨he, F, _, hD', rfl, h1.kept hK fun b hb => .inl hb, h2.kept hK fun b hb => .inr hb⟩
theorem LostR.arm (h : LostR w d um nx false g P L S base base' xs xs' wr) :
    Calls Tryz.prog 18 #[.pointer (some ⟨d, 0, none⟩), .agg #[.int .i64 0, .int .i64 0]] wr fun e w' => e = .returned (.tuple #[]) ∧ LostR w d um nx false g P L S base base' xs xs' w' := by
  obtain ⟨F, k, hD, hd, h1, h2⟩ := h
  refine (disc_arm hD 0 0 (by decide)).mono ?_
  rintro e w' ⟨he, hK, F', hD'⟩
  refine ⟨he, F', _, hD', ?_, h1.kept hK fun b hb => .inl hb, h2.kept hK fun b hb => .inr hb⟩
  unfold Vd.armD
  split <;> exact hd
theorem LostR.open_ (h : LostR w d um nx false g P L S base base' xs xs' wr) (hLS : L + S ≤ 60) :
    Calls Tryz.prog 11 #[.pointer (some ⟨d, 0, none⟩)] wr fun e w' => ∃ s, e = .returned (.tuple #[.pointer (some ⟨s, 0, none⟩), .int .i64 0]) ∧ OneR w d um nx (gOpen g) P L S base base' xs xs' s w' := by
  obtain ⟨F, k, hD, hd, h1, h2⟩ := h
  refine (disc_open hD hd hLS).mono ?_
  rintro e w' ⟨p, he, hpd, _, hK, _, hH⟩
  exact ⟨p.s, he, p, F, k, hH, hpd, rfl, h1.kept hK fun b hb => .inl hb, h2.kept hK fun b hb => .inr hb⟩
theorem OneR.later (h : OneR w d um nx g P L S base base' xs xs' s wr) (hb : Below wr.heap.size wr w') : OneR w d um nx g P L S base base' xs xs' s w' := by
  obtain ⟨p, F, k, hH, hd, hs, h1, h2⟩ := h
  exact ⟨p, F, k, (hH.later hb).1, hd, hs, h1.later hb, h2.later hb⟩
theorem OneR.again (h : OneR w d um nx g P L S base base' xs xs' s wr) (hLS : L + S ≤ 60) :
    Calls Tryz.prog 11 #[.pointer (some ⟨d, 0, none⟩)] wr fun e w' => ∃ s', e = .returned (.tuple #[.pointer (some ⟨s', 0, none⟩), .int .i64 0]) ∧ OneR w d um nx g P L S base base' xs xs' s w' ∧ OneR w d um nx (gOpen g) P L S base base' xs xs' s' w' := by
  obtain ⟨p, F, k, hH, hd, hs, h1, h2⟩ := h
  rw [← hd]
  refine (disc_open hH.disc hH.al.up hLS).mono ?_
  rintro e w' ⟨p', he, hpd, _, hK, hb, hH'⟩
  exact ⟨p'.s, he, ⟨p, F, k, (hH.later hb).1, rfl, hs, h1.later hb, h2.later hb⟩, p', F, k, hH', hpd, rfl, h1.later hb, h2.later hb⟩
theorem OneR.one (h : OneR w d um nx g P L S base base' xs xs' s wr) : OneR w d um um g P L S base base xs xs s wr := by
  obtain ⟨p, F, k, hH, hd, hs, h1, h2⟩ := h
  exact ⟨p, F, k, hH.with_ (fun b hb => hH.bs.off b (.inl (hb.elim id id))), hd, hs, h1, h1⟩
theorem OneR.two (h : OneR w d um nx g P L S base base' xs xs' s wr) : OneR w d nx nx g P L S base' base' xs' xs' s wr := by
  obtain ⟨p, F, k, hH, hd, hs, h1, h2⟩ := h
  exact ⟨p, F, k, hH.with_ (fun b hb => hH.bs.off b (.inr (hb.elim id id))), hd, hs, h2, h2⟩
theorem OneR.tells (h : OneR w d um nx g P L S base base' xs xs' s wr) (hx : ∀ x ∈ xs, rightC x.1 = 0 ∧ x.1.gone = false) (hLS : L + S ≤ 60) :
    Calls Tryz.prog 15 #[.pointer (some ⟨s, 0, none⟩), um] wr fun e w' => e = .returned (.bool (decide (live g = xs.map (·.1)))) ∧ Below wr.heap.size wr w' := by
  obtain ⟨p, F, k, hH, hd, rfl, h1, h2⟩ := h
  exact hold_tells hH h1 hx hLS
theorem OneR.cut (h : OneR w d um nx g P L S base base' xs xs' s wr) {i : Nat} (hLS : L + S ≤ i) (hl : live g = xs.map (·.1)) : CutR w d i s um (fun _ => False) wr := by
  obtain ⟨p, F, k, hH, hd, hs, h1, h2⟩ := h
  exact ⟨p, F, k, g, P, L, S, xs, base, hH.with_ (fun b hb => hH.bs.off b (.inl (hb.elim id (fun x => x.elim)))), hd, hs, hLS, hl, h1⟩
theorem OneR.right (h : OneR w d um nx g P L S base base' xs xs' s wr) {ys : List Cx} (hl : live g = ys.map (·.1)) : ∀ x ∈ ys, rightC x.1 = 0 ∧ x.1.gone = false := by
  obtain ⟨p, F, k, hH, _⟩ := h
  exact rows_right hH.al.kept.ok hl
end
end Go.Proofs.YtddnnhfffmhpmaaGreatDoor.St
