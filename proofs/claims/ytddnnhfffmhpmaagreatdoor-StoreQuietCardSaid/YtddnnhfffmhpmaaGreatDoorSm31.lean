/- Own texts, merged (31 of 42). -/
import Derived.Test.YtddnnhfffmhpmaaGreatDoorSm30
import Derived.Test.YtddnnhfffmhpmaaGreatDoorSm19
import Derived.Test.YtddnnhfffmhpmaaGreatDoorSm7
import Derived.Test.YtddnnhfffmhpmaaGreatDoorSm6
import Derived.Test.YtddnnhfffmhpmaaGreatDoorSm29
import Derived.Test.YtddnnhfffmhpmaaGreatDoorSm24
import Derived.Test.YtddnnhfffmhpmaaGreatDoorSm23

/- The manifest is read; the logs are. -/
namespace Go.Proofs.YtddnnhfffmhpmaaGreatDoor.St
open Go.RowKit Go.Proofs.YtddnnhfffmhpmaaGreatDoor DocM StoM Do
open VdM

def ManOut (w : World) (Fd : Nat → Prop) (p : Pl) (k : Dsk) (lg : Nat) (begun lost : Bool) (lv st cm : Chs) (o : Option (Nat × List Nat)) (e : Ending) (w' : World) : Prop :=
  ∃ f l, e = .returned (.int .i64 (if o.isSome then 0 else 8)) ∧ (o.isSome = true → o = some (f, l)) ∧ Turned (fun b => b = p.s) w w' ∧ StAt w' Fd p k f l lg begun lost lv st cm
set_option maxHeartbeats 2000000 in
set_option maxRecDepth 100000 in
theorem readman_any (w : World) (Fd : Nat → Prop) (p : Pl) (k : Dsk) (lg : Nat) (begun lost : Bool) (lv st cm : Chs) (h : StAt w Fd p k 0 [] lg begun lost lv st cm) (hd : k.down = false) (o : Option (Nat × List Nat)) (hm : ManIs k.fs o) :
    Calls Tryz.prog 30 #[.pointer (some ⟨p.s, 0, none⟩)] w (ManOut w Fd p k lg begun lost lv st cm o) := by
  have hrd := dread_any h.disk hd manS (by decide)
  have hms : manS.data.toList = manN := rfl
  rw [hms] at hrd
  have s0 := h.c0
  have HST := Lib.hid h
  rcases hm with ⟨hl, rfl⟩ | hm
  · rw [hl] at hrd
    have HRD := Lib.hid hrd
    unfold manS at HRD
    simp only [Option.isSome_none, Bool.false_eq_true, if_false] at HRD
    generalize ofBytes (bytesAt k.fs manN) = tx at HRD
    clear h hd hrd hl hms
    go_enter Tryz.func30, Tryz.ntmps30
    go_wp2_with fail
    refine HRD.out.mono ?_
    rintro e w1 ⟨rfl, hb⟩
    have HF := Lib.hid (show ManOut w Fd p k lg begun lost lv st cm (some (0, [])) (.returned (.int .i64 0)) w1 from ⟨0, [], rfl, fun _ => rfl, Turned.of_below hb, HST.out.later hb⟩)
    clear hb
    go_wp2
    go_ret
    exact HF.out
  · obtain ⟨fl, hl, ho⟩ : ∃ fl, lkF k.fs manN = some fl ∧ ((∃ f l, fl.bytes = manB f l ∧ l.Pairwise (· < ·) ∧ (∀ x ∈ l, x < 100) ∧ l.length ≤ 1000 ∧ f ≤ 1000 ∧ o = some (f, l)) ∨ (opC fl.bytes ≠ 0 ∧ o = none)) := by
      rcases hm with ⟨fl, f, l, h1, h2⟩ | ⟨fl, h1, h2⟩
      · exact ⟨fl, h1, .inl ⟨f, l, h2⟩⟩
      · exact ⟨fl, h1, .inr h2⟩
    have hfl := file_len h.disk manN
    have hba : bytesAt k.fs manN = fl.bytes := by unfold bytesAt; rw [hl]
    rw [hba] at hfl hrd
    rw [hl] at hrd
    simp only [Option.isSome_some, if_true] at hrd
    have HRD := Lib.hid hrd
    unfold manS at HRD
    have HPA := Lib.hid (fun W => parseman_any W fl.bytes hfl)
    have hq : pmK fl.bytes = o.isSome ∧ ∃ f l, (o.isSome = true → o = some (f, l)) ∧ (if pmK fl.bytes then pmF fl.bytes else 0) = f ∧ (if pmK fl.bytes then pmL fl.bytes else []) = l.map Int.ofNat := by
      rcases ho with ⟨f, l, h1, h2, h3, h4, h5, rfl⟩ | ⟨h1, rfl⟩
      · obtain ⟨g1, g2, g3⟩ := pm_there h2 h3 h4 h5
        rw [← h1] at g1 g2 g3
        refine ⟨g1, f, l, fun _ => rfl, ?_, ?_⟩
        · rw [g1, if_pos rfl, g2]
        · rw [g1, if_pos rfl, g3]
      · have g1 := pm_no h1
        refine ⟨g1, 0, [], fun e => (by cases e), ?_, ?_⟩
        · rw [g1]; rfl
        · rw [g1]; rfl
    obtain ⟨hq1, f, l, hq2, hq3, hq4⟩ := hq
    have HQ := Lib.hid (And.intro hq1 (And.intro hq2 (And.intro hq3 hq4)))
    generalize pmK fl.bytes = q at HPA HQ
    generalize pmF fl.bytes = pf at HPA HQ
    generalize pmL fl.bytes = pl at HPA HQ
    generalize ofBytes fl.bytes = tx at HPA HRD
    clear h hd hrd hl hms hba hfl ho hm hq1 hq2 hq3 hq4
    go_enter Tryz.func30, Tryz.ntmps30
    go_wp2_with fail
    refine HRD.out.mono ?_
    rintro e w1 ⟨rfl, hb1⟩
    have HB1 := Lib.hid hb1
    clear hb1 HRD
    go_wp2_with fail
    refine (HPA.out w1).mono ?_
    rintro e w2 ⟨⟨A, n, cp, rfl, hI, hN⟩, hb2⟩
    have hbX := pl1 w2 (.cells #[.int .i64 (if q then (pf : Int) else 0), .slice A n cp] 76)
    have hB2 := HB1.out.trans (hb2.mono HB1.out.size)
    have hB := hB2.trans (hbX.mono hB2.size)
    have hSX := HST.out.later hB
    have hIX := hI.later hbX
    have hval : (if q then (pf : Int) else 0) = (f : Int) := by
      rw [← HQ.out.2.2.1]
      cases q <;> rfl
    rw [HQ.out.2.2.2] at hIX
    rw [hval] at hbX hSX hIX hB ⊢
    have haX : Away (fullF p Fd) (.slice A n cp) := Away.new hN fun b hb => Nat.lt_of_lt_of_le (HST.out.lt b hb) HB1.out.size
    have s0X := hSX.c0
    have sfX1 := hSX.fr 1
    have sfX2 := hSX.fr 2
    have hmm := heap_alloc_new w2 (.cells #[.int .i64 (f : Int), .slice A n cp] 76)
    have m0 : (w2.alloc (.cells #[.int .i64 (f : Int), .slice A n cp] 76)).cell? ⟨w2.heap.size, 0, none⟩ = some (.int .i64 (f : Int)) := cell_of_cells hmm rfl
    have m1 : (w2.alloc (.cells #[.int .i64 (f : Int), .slice A n cp] 76)).cell? ⟨w2.heap.size, 1, none⟩ = some (.slice A n cp) := cell_of_cells hmm rfl
    obtain ⟨_, _, _, -, -, -, -, s1X, s2X, -⟩ := hSX.cells
    have HS := Lib.hid hSX
    have HM := Lib.hid (hSX.man_ (f' := f) hIX haX)
    have HT : Hid (Turned (fun b => b = p.s) w (w2.alloc (.cells #[.int .i64 (f : Int), .slice A n cp] 76))) := Lib.hid (Turned.of_below hB)
    clear hI hN hb2 hbX hB2 hB hSX hIX hval haX hmm s0
    cases q with
    | false =>
      have HF := Lib.hid (show ManOut w Fd p k lg begun lost lv st cm o (.returned (.int .i64 8)) (w2.alloc (.cells #[.int .i64 (f : Int), .slice A n cp] 76)) from ⟨0, [], by rw [← HQ.out.1]; rfl, fun e => (by rw [← HQ.out.1] at e; cases e), HT.out, HS.out⟩)
      go_wp2
      go_ret
      exact HF.out
    | true =>
      have HF := Lib.hid (show ManOut w Fd p k lg begun lost lv st cm o (.returned (.int .i64 0)) (((w2.alloc (.cells #[.int .i64 (f : Int), .slice A n cp] 76)).setCell ⟨p.s, 1, none⟩ (.int .i64 (f : Int))).setCell ⟨p.s, 2, none⟩ (.slice A n cp)) from ⟨f, l, by rw [← HQ.out.1]; rfl, HQ.out.2.1, HT.out.trans HM.out.1, HM.out.2⟩)
      clear HM HT HS
      go_wp2
      go_ret
      exact HF.out
end Go.Proofs.YtddnnhfffmhpmaaGreatDoor.St

/- The logs are read. -/
namespace Go.Proofs.YtddnnhfffmhpmaaGreatDoor.St
open Go.RowKit Go.Proofs.YtddnnhfffmhpmaaGreatDoor DocM StoM Do
open VdM

def logOf (w : World) (s : Nat) : Nat := (intOf ((w.cell? ⟨s, 3, none⟩).getD undef)).toNat
theorem StAt.logof {w : World} {Fd : Nat → Prop} {p : Pl} {k : Dsk} {f : Nat} {segs : List Nat} {lg : Nat} {begun lost : Bool} {lv st cm : Chs} (h : StAt w Fd p k f segs lg begun lost lv st cm) : logOf w p.s = lg := by
  unfold logOf
  rw [h.c3]
  simp [intOf]
theorem take_one {α β : Type} (f : α → List β) (l : List α) (i : Nat) (h : i < l.length) : (l.take (i + 1)).flatMap f = (l.take i).flatMap f ++ f l[i] := by
  rw [List.take_succ_eq_append_getElem h, List.flatMap_append]
  simp
theorem part_len {α β : Type} (f : α → List β) : ∀ (l : List α) (i : Nat), ((l.take i).flatMap f).length ≤ (l.flatMap f).length
  | [], _ => by simp
  | x :: t, 0 => by simp
  | x :: t, i + 1 => by
    have := part_len f t i
    rw [List.take_succ_cons, List.flatMap_cons, List.flatMap_cons, List.length_append, List.length_append]
    omega
theorem doAll_len : ∀ (l : Chs) {s : Chs}, RiseC s → (doAll s l).length ≤ s.length + l.length
  | [], _, _ => Nat.le_refl _
  | c :: t, s, h => by
    have h1 := doAll_len t (rise_do c h)
    have h2 := do_len c h
    show (doAll (doC c s) t).length ≤ _
    rw [List.length_cons]
    omega
theorem ptAll_len : ∀ (l : Chs) {s : Chs}, RiseC s → (ptAll s l).length ≤ s.length + l.length
  | [], _, _ => Nat.le_refl _
  | c :: t, s, h => by
    have h1 := ptAll_len t (rise_put c h)
    have h2 := pt_len c h
    show (ptAll (ptC c s) t).length ≤ _
    rw [List.length_cons]
    omega
set_option maxHeartbeats 4000000 in
set_option maxRecDepth 100000 in
theorem readlogs_any (w : World) (Fd : Nat → Prop) (p : Pl) (k : Dsk) (g : Gst) (segs : List Nat) (lg : Nat) (begun lost : Bool) (lv st cm : Chs) (h : StAt w Fd p k g.first segs lg begun lost lv st cm) (hd : k.down = false) (ht : StoM.Told k.fs g) (hc : ∀ y ∈ g.logs, (∀ c ∈ y.1, rightC c = 0) ∧ Torn y.2) (hl : lv.length + (logCh g).length ≤ 1000000) (hm : cm.length + (logCh g).length ≤ 1000000) :
    Calls Tryz.prog 32 #[.pointer (some ⟨p.s, 0, none⟩)] w fun e w' => e = .returned (.tuple #[]) ∧ Turned (fun x => x = p.s ∨ x = p.ml ∨ x = p.mc) w w' ∧ StAt w' Fd p k g.first segs (nextLog g) begun lost (doAll lv (logCh g)) st (ptAll cm (logCh g)) := by
  have s1 := h.c1
  have s3 := h.c3
  have sf := h.fr 3
  have hlg := h.log_ (lg' := g.first)
  have hrl := h.live.rise
  have hrm := h.came.rise
  have HT := Lib.hid ht
  have HC := Lib.hid hc
  have HLG := Lib.hid hlg
  have HLE := Lib.hid (And.intro hl hm)
  have HRI := Lib.hid (And.intro hrl hrm)
  have HD := Lib.hid hd
  have HST := Lib.hid h
  clear h hd ht hc hl hm hlg hrl hrm
  go_enter Tryz.func32, Tryz.ntmps32
  go_wp2_with fail
  go_loopw [] (fun wr => ∃ i, i ≤ g.logs.length ∧ StAt wr Fd p k g.first segs (g.first + i) begun lost (doAll lv ((g.logs.take i).flatMap (·.1))) st (ptAll cm ((g.logs.take i).flatMap (·.1))) ∧ Turned (fun x => x = p.s ∨ x = p.ml ∨ x = p.mc) w wr) (fun wr => 100 - logOf wr p.s)
  case atStart => exact ⟨0, Nat.zero_le _, HLG.out.2, HLG.out.1.wide fun b hb => .inl hb⟩
  case round =>
    obtain ⟨i, hi, hS, hTw⟩ := hrel
    have hfew := HT.out.few
    have hnx : g.first + g.logs.length ≤ 99 := hfew
    obtain ⟨L, hL⟩ : ∃ L, L = g.first + i := ⟨_, rfl⟩
    rw [← hL] at hS
    have hL100 : L < 100 := by omega
    have s0 := hS.c0
    have t3 := hS.c3
    have HN := Lib.hid (fun W => logname_any L hL100 W)
    have hnl : (ofBytes (logN L)).data.toList = logN L := ofBytes_list _
    have HRD := Lib.hid (fun W (hb : Below wr.heap.size wr W) => dread_any (hS.disk.later hb) HD.out (ofBytes (logN L)) (by rw [size_ofBytes]; have := dec_len L; simp [logN, logP]; omega))
    rw [hnl] at HRD
    have HFL := Lib.hid (file_len hS.disk (logN L))
    have HS := Lib.hid hS
    have HTW := Lib.hid hTw
    have HL := Lib.hid (And.intro hL hL100)
    have HS0 : Hid (wr.drew.cell? ⟨p.s, 0, none⟩ = some (.pointer (some ⟨p.d, 0, none⟩)) ∧ wr.drew.cell? ⟨p.s, 3, none⟩ = some (.int .i64 (L : Int)) ∧ Below wr.heap.size wr wr.drew) := Lib.hid (Kp.d2 s0 t3)
    have HI := Lib.hid hi
    obtain ⟨ec, hec⟩ : ∃ x : Int, x = (if (lkF k.fs (logN L)).isSome then 0 else 4) := ⟨_, rfl⟩
    rw [← hec] at HRD
    have HEC := Lib.hid hec
    obtain ⟨tx, htx⟩ : ∃ x, x = ofBytes (bytesAt k.fs (logN L)) := ⟨_, rfl⟩
    rw [← htx] at HRD
    have HTX := Lib.hid htx
    generalize ofBytes (logN L) = nm at HN HRD
    clear hi hS hTw hfew hnx hL hL100 hnl hec htx
    go_upto_region 1 with fail
    go_region_held3 (fun Y => Y.cell? ⟨p.s, 0, none⟩ = some (.pointer (some ⟨p.d, 0, none⟩)) ∧ Y.cell? ⟨p.s, 3, none⟩ = some (.int .i64 (L : Int)) ∧ Below wr.heap.size wr Y)
      ((first | exact HS0.out | exact hk3 | assumption | go_keep))
      (first
        | (go_at_call 50; ((with_reducible refine (HN.out _).mono ?_); rintro e w2 ⟨rfl, rfl⟩))
        | (go_at_call 54; ((with_reducible refine (HRD.out _ HS0.out.2.2).mono ?_); rintro e w3 ⟨rfl, hb3⟩; have hk3 := Kp.c2 hb3 HS0.out)))
    all_goals
      have hB := HS0.out.2.2.trans (hb3.mono HS0.out.2.2.size)
      have hS3 := HS.out.later hB
      have hT3 := HTW.out.on hB
      clear hk3 hb3 hB s0 t3
      by_cases hil : i < g.logs.length
      · have hlk := HT.out.log i hil
        rw [← HL.out.1] at hlk
        have he0 : ec = 0 := by rw [HEC.out, hlk]; rfl
        have htx : tx = ofBytes (frames g.logs[i].1 ++ g.logs[i].2) := by rw [HTX.out]; unfold bytesAt; rw [hlk]; rfl
        have hfl : (frames g.logs[i].1 ++ g.logs[i].2).length ≤ 100000000 := by
          have := HFL.out
          unfold bytesAt at this
          rw [hlk] at this
          exact this
        obtain ⟨hcr, hto⟩ := HC.out g.logs[i] (List.getElem_mem hil)
        have hone := take_one (·.1) g.logs i hil
        have hpl : ((g.logs.take i).flatMap (·.1)).length + g.logs[i].1.length ≤ (logCh g).length := by
          have h1 := part_len (·.1) g.logs (i + 1)
          rw [hone, List.length_append] at h1
          exact h1
        have hl1 := doAll_len ((g.logs.take i).flatMap (·.1)) HRI.out.1
        have hl2 := ptAll_len ((g.logs.take i).flatMap (·.1)) HRI.out.2
        have hle := HLE.out
        have hrl := readlog_any w3 Fd p k g.first segs L begun lost _ st _ g.logs[i].1 g.logs[i].2 hS3 hcr hto hfl (by omega) (by omega)
        rw [← htx, ← doAll_append, ← ptAll_append, ← hone] at hrl
        have HRL := Lib.hid hrl
        have HT3 := Lib.hid hT3
        subst he0
        clear hlk htx hfl hcr hto hone hpl hl1 hl2 hle hrl hS3 hT3
        go_wp2_with fail
        refine HRL.out.mono ?_
        rintro e w4 ⟨rfl, hT4, hS4⟩
        have r3 := hS4.c3
        have rf := hS4.fr 3
        have hlog := hS4.log_ (lg' := L + 1)
        have hL1 : ((L + 1 : Nat) : Int) = (L : Int) + 1 := by omega
        rw [hL1] at hlog
        have HLO := Lib.hid hlog
        have HT4 := Lib.hid hT4
        have HIL := Lib.hid hil
        have hL9 := HL.out.2
        clear hT4 hS4 hlog hL1 hil
        go_wp2
        go_roundw
        case rel =>
          refine ⟨i + 1, HIL.out, ?_, (HT3.out.trans (HT4.out.wide fun b hb => .inr hb)).trans (HLO.out.1.wide fun b hb => .inl hb)⟩
          rw [← Nat.add_assoc, ← HL.out.1]
          exact HLO.out.2
        case measure =>
          rw [HLO.out.2.logof, HS.out.logof]
          omega
      · have hie : i = g.logs.length := by have := HI.out; omega
        have hlk := HT.out.stop L (by rw [HL.out.1, hie]; exact Nat.le_refl _) HL.out.2
        have he4 : ec = 4 := by rw [HEC.out, hlk]; rfl
        have hLn : L = nextLog g := by rw [HL.out.1, hie]; rfl
        rw [hie, List.take_length, hLn] at hS3
        have HF := Lib.hid (And.intro hT3 hS3)
        subst he4
        clear hie hlk hLn hS3 hT3 hil
        go_wp2
        exact bodyPost_ret (v := .tuple #[]) (by simp [results, Tryz.results32, go_sem]) rfl ⟨rfl, HF.out.1, HF.out.2⟩
end Go.Proofs.YtddnnhfffmhpmaaGreatDoor.St

/- Documents copied; the segments are read. -/
namespace Go.Proofs.YtddnnhfffmhpmaaGreatDoor.St
open Go.RowKit Go.Proofs.YtddnnhfffmhpmaaGreatDoor DocM StoM Do Go.Maps
open VdM

set_option maxHeartbeats 4000000 in
set_option maxRecDepth 100000 in
theorem mapscopy_any (w : World) (F : Nat → Prop) (bl bs : Nat) (l : Chs) (hl : MapAt w F bl []) (hs : MapAt w F bs l) (hF : F bl) (hne : bl ≠ bs) (hd : ∀ c ∈ l, DocOk c.doc) (hn : l.length ≤ 1000000) :
    Calls Tryz.prog 58 #[.map (some bl), .map (some bs)] w fun e w' => e = .returned (.tuple #[]) ∧ Turned (fun b => b = bl) w w' ∧ MapAt w' F bl l := by
  obtain ⟨D, T, hown, hrep, hri, hct⟩ := id hs
  obtain ⟨nn, hnn⟩ : ∃ n, n = l.length := ⟨_, rfl⟩
  rw [← hnn] at hown
  have HML := Lib.hid hl
  have HREP := Lib.hid hrep
  have HRI := Lib.hid hri
  have HCT := Lib.hid hct
  have HDO := Lib.hid hd
  have HN := Lib.hid hn
  have HFB := Lib.hid hF
  have HNE := Lib.hid hne
  have HSL := Lib.hid hs.lt
  clear hl hs hF hne hd hn hnn hrep hri hct
  go_enter Tryz.func58, Tryz.ntmps58
  go_wp2_with (at_range; refine wpList_range_own _ rfl _ 74 rfl 3 35 Ks.key_law Tryz.underlying74 _ bs nn _ rfl hown ?_; intro w0 hrg0 hg0 hs0)
  have HB0 : Hid (Below w.heap.size w w0) := Lib.hid ((Below.refl _ _).grown hg0 (Nat.le_refl _) (fun q hq => by cases hq))
  clear hg0 hs0 hown
  obtain ⟨r, hrE⟩ : ∃ r, r = w.heap.size := ⟨_, rfl⟩
  rw [← hrE]
  rw [← hrE] at hrg0
  have HRE := Lib.hid hrE
  clear hrE
  go_frame
  go_loopw [] (fun wr => ∃ (left : Lit → Bool) (cnt : Nat) (cur : Chs), Rng wr bs r nn D left cnt ∧ Copying left l cur ∧ MapAt wr (plusF F r) bl cur ∧ Turned (fun b => b = bl) w wr) (fun wr => wr.rangeLeft bs r)
  case atStart => exact ⟨_, _, [], hrg0, Copying.start HREP.out, HML.out.turned (S := fun _ => False) (Turned.of_below HB0.out) (fun h => h) (fun _ h => h.elim) (fun x hx => hx.elim .inl fun e => .inr (by rw [e, HRE.out]; exact Nat.le_refl _)), Turned.of_below HB0.out⟩
  case round =>
    obtain ⟨left, cnt, cur, hrg, hdo, hmp, hTm⟩ := hrel
    have HDN := Lib.hid hdo
    have HMP := Lib.hid hmp
    have HTM := Lib.hid hTm
    have HRG := Lib.hid hrg
    clear hdo hmp hTm
    go_wp2_with (at_next; refine wpList_next_change rfl _ rfl bs r nn D T l left cnt rfl hrg HREP.out ?_ ?_)
    · intro hc0 hl0
      have hcur := HDN.out.end_ HRI.out hl0
      have hM := HMP.out.less (F' := F) fun x hx => .inl hx
      rw [hcur] at hM
      have HF := Lib.hid (And.intro HTM.out hM)
      clear hc0 hl0 hcur hM hrg
      go_wp2
      go_end0
      exact ⟨rfl, HF.out.1, HF.out.2⟩
    · intro c p1 q1 n2 i2 m2 j2 w1 cnt1 hlk hlf hTd hrg1 hlt hg1 hs1 hen
      have hTr : Turned (fun b => b = r) wr w1 := Turned.of_grown hg1 rfl
      have hT1 : Turned (fun b => b = bl) w w1 := HTM.out.from_new (hTr.wide fun b hb => .inr (by rw [hb, HRE.out]; exact Nat.le_refl _))
      have hct := (HCT.out c.doc c hlk).turned (F' := plusF F r) hT1 (fun b hb => by rw [hb]; exact HFB.out) (fun b hb => hb.elim .inl fun e => .inr (by rw [e, HRE.out]; exact Nat.le_refl _))
      rw [hTd] at hct
      simp only at hct
      have hrm : r ≠ bl := fun e => by
        have h1 := HML.out.lt
        have h2 := HRE.out
        omega
      have hM1 := HMP.out.turned (F' := plusF F r) hTr (fun e => hrm e.symm) (fun b hb => .inr hb) (fun _ h => .inl h)
      have hbX := pl1 w1 (.cells #[.int .i64 c.doc, .slice p1 n2 i2, .slice q1 m2 j2, .int .i64 c.tags, .bool c.gone] 35)
      have hlen := HDN.out.len
      have hn := HN.out
      obtain ⟨w4, hrun, hm4, hg4⟩ := put_run (hM1.later hbX) (.inl HFB.out) (hct.later hbX) (HDO.out c (lk_doc hlk).2) (by omega)
      have hT14 : Turned (fun b => b = bl) w1 w4 := (Turned.of_below hbX).trans (Turned.of_grown hg4 rfl)
      have hG4 := Rng.turned hrg1 hT14 (fun e => HNE.out e.symm) hrm
      have HF := Lib.hid (And.intro hG4 (And.intro (HDN.out.next hlk) (And.intro hm4 (hT1.trans hT14))))
      have HLT := Lib.hid hlt
      unfold chV at hrun hen ⊢
      clear hTr hct hM1 hrg1 hlt hg1 hs1 hT1 hrm hlk hlf hTd hrg hbX hlen hn hm4 hg4 hT14 hG4
      go_wp2
      go_roundw
      case rel => exact ⟨_, cnt1, _, HF.out.1, HF.out.2.1, HF.out.2.2.1, HF.out.2.2.2⟩
      case measure =>
        rw [World.ranges.left_eq HF.out.1, World.ranges.left_eq HRG.out]
        exact HLT.out
end Go.Proofs.YtddnnhfffmhpmaaGreatDoor.St

/- The segments are read. -/
namespace Go.Proofs.YtddnnhfffmhpmaaGreatDoor.St
open Go.RowKit Go.Proofs.YtddnnhfffmhpmaaGreatDoor DocM StoM Do
open VdM

/-- what the segments leave, if each is sound -/
def segsRd : List (Option Chs) → Chs → Option Chs
  | [], a => some a
  | none :: _, _ => none
  | some l :: t, a => segsRd t (doAll a l)
def chCount (os : List (Option Chs)) : Nat := (os.map fun o => (o.getD []).length).sum
theorem count_drop : ∀ (os : List (Option Chs)) (i : Nat) (h : i < os.length), (os[i].getD []).length + chCount (os.drop (i + 1)) = chCount (os.drop i)
  | [], i, h => by simp at h
  | o :: t, 0, _ => by simp [chCount]
  | o :: t, i + 1, h => by
    have := count_drop t i (by simpa using h)
    simpa using this
theorem count_le : ∀ (os : List (Option Chs)) (i : Nat), chCount (os.drop i) ≤ chCount os
  | [], i => by simp
  | o :: t, 0 => by simp
  | o :: t, i + 1 => by
    have := count_le t i
    rw [List.drop_succ_cons]
    have h2 : chCount (o :: t) = (o.getD []).length + chCount t := by simp [chCount]
    omega
def SegsOut (w : World) (Fd : Nat → Prop) (p : Pl) (k : Dsk) (f : Nat) (segs : List Nat) (lg : Nat) (begun lost : Bool) (o : Option Chs) (e : Ending) (w' : World) : Prop :=
  Turned (fun b => b = p.ml ∨ b = p.ms) w w' ∧ ((∃ st, o = some st ∧ e = .returned (.int .i64 0) ∧ StAt w' Fd p k f segs lg begun lost st st []) ∨ (o = none ∧ e = .returned (.int .i64 8) ∧ ∃ st, StAt w' Fd p k f segs lg begun lost [] st []))
set_option maxHeartbeats 8000000 in
set_option maxRecDepth 100000 in
theorem readsegs_any (w : World) (Fd : Nat → Prop) (p : Pl) (k : Dsk) (f : Nat) (segs : List Nat) (lg : Nat) (begun lost : Bool) (os : List (Option Chs)) (h : StAt w Fd p k f segs lg begun lost [] [] []) (hd : k.down = false) (hs : ∀ y ∈ segs, y < 100) (hsl : segs.length ≤ 1000) (hol : os.length = segs.length)
    (hsg : ∀ i (h1 : i < segs.length) (h2 : i < os.length), SegIs k.fs segs[i] os[i]) (hcn : chCount os ≤ 1000000) :
    Calls Tryz.prog 31 #[.pointer (some ⟨p.s, 0, none⟩)] w (SegsOut w Fd p k f segs lg begun lost (segsRd os [])) := by
  obtain ⟨A, n, cp, hI, haw, -, -, -, s2, -⟩ := h.cells
  have hn : n = segs.length := by
    have := hI.1
    rw [List.length_map] at this
    exact this.symm
  have HST := Lib.hid h
  have HI := Lib.hid hI
  have HAW := Lib.hid haw
  have HN := Lib.hid hn
  have HD := Lib.hid hd
  have HS := Lib.hid hs
  have HOL := Lib.hid hol
  have HSG := Lib.hid hsg
  have HCN := Lib.hid hcn
  have hn1 : n ≤ 1000 := by omega
  clear h hI haw hn hd hs hsl hol hsg hcn
  go_enter Tryz.func31, Tryz.ntmps31
  go_wp2_with fail
  go_loopw [17] (fun x wr => ∃ (i : Nat) (acc : Chs), x = .int .i64 (i : Int) ∧ i ≤ n ∧ segsRd os [] = segsRd (os.drop i) acc ∧ acc.length + chCount (os.drop i) ≤ chCount os ∧ (∀ c ∈ acc, rightC c = 0) ∧ StAt wr Fd p k f segs lg begun lost [] acc [] ∧ Turned (fun b => b = p.ml ∨ b = p.ms) w wr) (fun x _ => n - (intOf x).toNat)
  case atStart => exact ⟨0, [], rfl, Nat.zero_le _, rfl, by simp, fun c hc => by simp at hc, HST.out, Turned.refl _ _⟩
  case round =>
    obtain ⟨i, acc, rfl, hi, hrd, hac, har, hS, hT⟩ := hrel
    by_cases hil : i < n
    rotate_left
    · have hie : i = n := by omega
      have hnb : ¬ (i : Int) < (n : Int) := by omega
      have hdr : os.drop i = [] := List.drop_eq_nil_of_le (by have h1 := HOL.out; have h2 := HN.out; omega)
      rw [hdr] at hrd
      have c5 := hS.c5
      have c6 := hS.c6
      have hcount := HCN.out
      have HCP : Hid (∀ W, Below wr.heap.size wr W → Calls Tryz.prog 58 #[.map (some p.ml), .map (some p.ms)] W fun e w' => e = .returned (.tuple #[]) ∧ SegsOut w Fd p k f segs lg begun lost (segsRd os []) (.returned (.int .i64 0)) w') := Lib.hid (fun W hb =>
        (mapscopy_any W (fullF p Fd) p.ml p.ms acc (hS.later hb).live (hS.later hb).settled (.inr (.inr (.inl rfl))) hS.ls (fun c hc => docok (har c hc)) (by omega)).mono fun e w' ⟨h1, h2, h3⟩ => ⟨h1, (hT.on hb).trans (h2.wide fun b hb => .inl hb), .inl ⟨acc, hrd, rfl, (hS.later hb).lives h2 h3⟩⟩)
      have HC0 : Hid (wr.drew.cell? ⟨p.s, 5, none⟩ = some (.map (some p.ml)) ∧ wr.drew.cell? ⟨p.s, 6, none⟩ = some (.map (some p.ms)) ∧ Below wr.heap.size wr wr.drew) := Lib.hid (Kp.d2 c5 c6)
      have HHO : Hid (∀ w', SegsOut w Fd p k f segs lg begun lost (segsRd os []) (.returned (.int .i64 0)) w' → w'.cell? ⟨p.s, 5, none⟩ = some (.map (some p.ml)) ∧ w'.cell? ⟨p.s, 6, none⟩ = some (.map (some p.ms))) := Lib.hid (fun w' hw => by
        rcases hw.2 with ⟨st, _, _, h3⟩ | ⟨_, h2, _⟩
        · exact ⟨h3.c5, h3.c6⟩
        · cases h2)
      clear hdr hrd hac har hS hT hil hi hie hcount
      go_upto_region 14 with fail
      go_region_held3 (fun Y => Y.cell? ⟨p.s, 5, none⟩ = some (.map (some p.ml)) ∧ Y.cell? ⟨p.s, 6, none⟩ = some (.map (some p.ms)))
        ((first | exact ⟨c5, c6⟩ | assumption | go_keep))
        (first
          | (go_at_call 58; ((with_reducible refine (HCP.out _ HC0.out.2.2).mono ?_); rintro e w3 ⟨rfl, hO⟩; have hk3 := HHO.out w3 hO)))
      all_goals
        have HO := Lib.hid hO
        clear hO hk3
        go_wp2
        go_ret
        exact HO.out
    · have hib : (i : Int) < (n : Int) := by omega
      have h1 : i < segs.length := by have := HN.out; omega
      have h2 : i < os.length := by have := HOL.out; omega
      obtain ⟨x, hx⟩ : ∃ x, x = segs[i] := ⟨_, rfl⟩
      have hsi := HSG.out i h1 h2
      rw [← hx] at hsi
      have hx100 : x < 100 := HS.out x (by rw [hx]; exact List.getElem_mem h1)
      have hdr : os.drop i = os[i] :: os.drop (i + 1) := List.drop_eq_getElem_cons h2
      rw [hdr] at hrd
      have hcd := count_drop os i h2
      have hcc := count_le os i
      have hIr := ivs_away HI.out hT (HAW.out.less fun b hb => hb.elim (fun e => .inr (.inr (.inl e))) (fun e => .inr (.inr (.inr (.inl e)))))
      obtain ⟨b0, o0, rfl, -, e0⟩ := hIr.2 i (by rw [List.length_map]; exact h1)
      rw [List.getElem_map, ← hx] at e0
      have e0' : wr.cell? ⟨b0, o0 + i, none⟩ = some (.int .i64 (x : Int)) := e0
      have c0 := hS.c0
      have hnl : (ofBytes (segN x)).data.toList = segN x := ofBytes_list _
      have HNM := Lib.hid (fun W => segname_any x hx100 W)
      have hrdd := fun W (hb : Below wr.heap.size wr W) => dread_any (hS.disk.later hb) HD.out (ofBytes (segN x)) (by rw [size_ofBytes]; have := dec_len x; simp [segN, segP]; omega)
      rw [hnl] at hrdd
      obtain ⟨fl, hlk, ho⟩ : ∃ fl, lkF k.fs (segN x) = some fl ∧ ((∃ l, fl.bytes = segB l ∧ (∀ c ∈ l, rightC c = 0) ∧ RiseC l ∧ l.length ≤ 1000 ∧ os[i] = some l) ∨ (opC fl.bytes ≠ 0 ∧ os[i] = none)) := by
        rcases hsi with ⟨fl, l, g1, g2⟩ | ⟨fl, g1, g2⟩
        · exact ⟨fl, g1, .inl ⟨l, g2⟩⟩
        · exact ⟨fl, g1, .inr g2⟩
      have hfl := file_len hS.disk (segN x)
      have hba : bytesAt k.fs (segN x) = fl.bytes := by unfold bytesAt; rw [hlk]
      rw [hba] at hfl hrdd
      rw [hlk] at hrdd
      simp only [Option.isSome_some, if_true] at hrdd
      have HRD := Lib.hid hrdd
      have HC0 : Hid (wr.drew.cell? ⟨p.s, 0, none⟩ = some (.pointer (some ⟨p.d, 0, none⟩)) ∧ Below wr.heap.size wr wr.drew) := Lib.hid ⟨c0, (Below.refl _ _).drew⟩
      have HK : Hid (∀ W, Below wr.drew.heap.size wr.drew W → W.cell? ⟨p.s, 0, none⟩ = some (.pointer (some ⟨p.d, 0, none⟩)) ∧ Below wr.heap.size wr W) := Lib.hid (fun W hb => ⟨(hb.cell (p := ⟨p.s, 0, none⟩) (World.block_lt_of_cell? wr _ c0)).trans c0, HC0.out.2.trans hb⟩)
      have HSS := Lib.hid hS
      have HT := Lib.hid hT
      have HAR := Lib.hid har
      have HFL := Lib.hid hfl
      have HIL : Hid (i + 1 ≤ n) := Lib.hid (by omega)
      obtain ⟨N0, hN0⟩ : ∃ N, N = wr.heap.size := ⟨_, rfl⟩
      have HN0 := Lib.hid hN0
      generalize ofBytes (segN x) = nm at HNM HRD
      generalize hfb : fl.bytes = fb at HRD ho HFL
      clear hS hT har hsi hx100 hx hnl hrdd hlk hfl hba hIr e0 hN0 hfb hil hi
      rcases ho with ⟨l, rfl, hr, hri, hll, hoi⟩ | ⟨hoc, hoi⟩
      rotate_left
      · have HPS := Lib.hid (fun W => parseseg_no W fb HFL.out hoc)
        rw [hoi] at hrd
        have HRDN := Lib.hid hrd
        generalize ofBytes fb = tx at HRD HPS
        clear hoc hoi hdr hrd hac hcd hcc
        go_upto_region 4 with fail
        go_region_held3 (fun Y => Y.cell? ⟨p.s, 0, none⟩ = some (.pointer (some ⟨p.d, 0, none⟩)) ∧ Below wr.heap.size wr Y)
          ((first | exact HC0.out | exact hk3 | assumption | go_keep))
          (first
            | (go_at_call 56; ((with_reducible refine (HNM.out _).mono ?_); rintro e w2 ⟨rfl, rfl⟩))
            | (go_at_call 54; ((with_reducible refine (HRD.out _ HC0.out.2).mono ?_); rintro e w3 ⟨rfl, hb3⟩; have hk3 := HK.out w3 hb3)))
        all_goals
          have HB3 := Lib.hid hk3.2
          clear hk3 hb3 c0 e0'
          go_wp2_with fail
          refine (HPS.out _).mono ?_
          rintro e w4 ⟨rfl, hb4⟩
          have hB4 := HB3.out.trans (hb4.mono HB3.out.size)
          have HF := Lib.hid (show SegsOut w Fd p k f segs lg begun lost (segsRd os []) (.returned (.int .i64 8)) w4 from ⟨HT.out.on hB4, .inr ⟨HRDN.out, rfl, acc, HSS.out.later hB4⟩⟩)
          clear hB4 hb4
          go_wp2
          go_ret
          exact HF.out
      · have HPS := Lib.hid (fun W => parseseg_yes W l hr hri hll)
        rw [hoi] at hrd hcd
        have HRDN := Lib.hid hrd
        have HLL := Lib.hid (show acc.length + l.length + chCount (os.drop (i + 1)) ≤ chCount os by
          have : (Option.getD (some l) []).length = l.length := rfl
          rw [this] at hcd
          omega)
        have HR := Lib.hid hr
        have HRI := Lib.hid hri
        have hll2 := hll
        generalize ofBytes (segB l) = tx at HRD HPS
        clear hoi hdr hrd hac hcd hcc hr hri hll
        go_upto_region 4 with fail
        go_region_held3 (fun Y => Y.cell? ⟨p.s, 0, none⟩ = some (.pointer (some ⟨p.d, 0, none⟩)) ∧ Below wr.heap.size wr Y)
          ((first | exact HC0.out | exact hk3 | assumption | go_keep))
          (first
            | (go_at_call 56; ((with_reducible refine (HNM.out _).mono ?_); rintro e w2 ⟨rfl, rfl⟩))
            | (go_at_call 54; ((with_reducible refine (HRD.out _ HC0.out.2).mono ?_); rintro e w3 ⟨rfl, hb3⟩; have hk3 := HK.out w3 hb3)))
        all_goals
          have HB3 := Lib.hid hk3.2
          clear hk3 hb3 c0 e0'
          go_wp2_with fail
          refine (HPS.out _).mono ?_
          rintro e w4 ⟨v, xs, rfl, hxl, hC, hb4⟩
          have hB4 := HB3.out.trans (hb4.mono HB3.out.size)
          have hT4 := HT.out.on hB4
          have hS4 := HSS.out.later hB4
          obtain ⟨B, hBE⟩ : ∃ B, B = w3.heap.size := ⟨_, rfl⟩
          rw [← hBE] at hC
          have hFB : ∀ b, fullF p Fd b → b < B := fun b hb => by
            have h1 := HSS.out.lt b hb
            have h2 := HB3.out.size
            omega
          obtain ⟨m, hm⟩ : ∃ m, m = xs.length := ⟨_, rfl⟩
          have hml : m = l.length := by rw [hm, ← hxl, List.length_map]
          obtain ⟨A9, cap, rfl⟩ := Go.Proofs.YtddnnhfffmhpmaaGreatDoor.row_shape hC.own
          rw [← hm]
          have HB4 := Lib.hid hB4
          have HT4 := Lib.hid hT4
          have HS4 := Lib.hid hS4
          have HC := Lib.hid hC
          have HX := Lib.hid hxl
          have HM := Lib.hid hm
          have HML := Lib.hid hml
          have HFB := Lib.hid hFB
          have hm1 : m ≤ 1000 := by omega
          clear hb4 hB4 hT4 hS4 hC hxl hBE hFB hm hml
          go_wp2_with fail
          go_loopw [40] (fun y wx => ∃ j : Nat, y = .int .i64 (j : Int) ∧ j ≤ m ∧ StAt wx Fd p k f segs lg begun lost [] (doAll acc (l.take j)) [] ∧ Turned (fun b => b = p.ms) w4 wx) (fun y _ => m - (intOf y).toNat)
          case atStart => exact ⟨0, rfl, Nat.zero_le _, HS4.out, Turned.refl _ _⟩
          case round =>
            obtain ⟨j, rfl, hj, hSj, hTj⟩ := hrel
            by_cases hjl : j < m
            rotate_left
            · have hje : j = m := by omega
              have hnj : ¬ (j : Int) < (m : Int) := by omega
              have hdl := doAll_len l HSS.out.settled.rise
              rw [hje, HML.out, List.take_length] at hSj
              have HF := Lib.hid (And.intro hSj (HT4.out.trans (hTj.wide fun b hb => .inr hb)))
              have HDL := Lib.hid hdl
              clear hSj hTj hje hdl hj hjl
              go_wp2
              go_roundw
              case rel =>
                refine ⟨i + 1, doAll acc l, by go_num, HIL.out, HRDN.out, by have h1 := HLL.out; have h2 := HDL.out; omega, fun c hc => ?_, HF.out.1, HF.out.2⟩
                rcases mem_doAll hc with hc | hc
                · exact HR.out c hc.1
                · exact HAR.out c hc
              case measure =>
                have := HIL.out
                simp [intOf]
                omega
            · have hjb : (j : Int) < (m : Int) := by omega
              have hjx : j < xs.length := by have := HM.out; omega
              obtain ⟨f0, f1, f2, f3, f4⟩ := flat5_get xs j hjx
              obtain ⟨hP, hV, nT, nV, -⟩ := HC.out.rd xs[j] (List.getElem_mem hjx)
              have hlj : l[j]? = some xs[j].1 := by rw [← HX.out, List.getElem?_map, List.getElem?_eq_getElem hjx]; rfl
              generalize xs[j] = cx at f0 f1 f2 f3 f4 hP hV nT nV hlj
              obtain ⟨c, T, V⟩ := cx
              simp only at f0 f1 f2 f3 f4 hP hV nT nV hlj
              have hcm : c ∈ l := List.mem_of_getElem? hlj
              rcases row_form HC.out.own with ⟨-, h0⟩ | ⟨g, cap2, hAe, -, hgB, hgl, hcells⟩
              · omega
              have hgm : ∀ {b}, b = p.ms → g ≠ b := fun e h => by
                have := HFB.out p.ms (.inr (.inr (.inr (.inl rfl))))
                omega
              have hPr := prd_turned hP hTj (Away.new nT fun b hb => by rw [hb]; exact HFB.out p.ms (.inr (.inr (.inr (.inl rfl)))))
              have hVr := vrd_turned hV hTj (Away.new nV fun b hb => by rw [hb]; exact HFB.out p.ms (.inr (.inr (.inr (.inl rfl)))))
              have hCt : Ct wr (fullF p Fd) c T V := ⟨hPr, hVr, Away.new nT HFB.out, Away.new nV HFB.out⟩
              obtain ⟨o, ho⟩ : ∃ o : Nat, o = 0 := ⟨_, rfl⟩
              have hA9 : A9 = some ⟨g, o, none⟩ := by
                injection hAe with e1
                rw [e1, ho]
              subst hA9
              obtain ⟨p1, n2, i2, q1, m2, j2, rfl, rfl⟩ := hCt.shape
              have d0 : wr.cell? ⟨g, o + j * 5, none⟩ = some (.int .i64 c.doc) := by rw [ho, Nat.zero_add]; exact (hTj.cell (p := ⟨g, j * 5, none⟩) hgl (fun e => hgm e rfl)).trans (hcells _ _ f0)
              have d1 : wr.cell? ⟨g, o + j * 5 + 1, none⟩ = some (.slice p1 n2 i2) := by rw [ho, Nat.zero_add]; exact (hTj.cell (p := ⟨g, j * 5 + 1, none⟩) hgl (fun e => hgm e rfl)).trans (hcells _ _ f1)
              have d2 : wr.cell? ⟨g, o + j * 5 + 2, none⟩ = some (.slice q1 m2 j2) := by rw [ho, Nat.zero_add]; exact (hTj.cell (p := ⟨g, j * 5 + 2, none⟩) hgl (fun e => hgm e rfl)).trans (hcells _ _ f2)
              have d3 : wr.cell? ⟨g, o + j * 5 + 3, none⟩ = some (.int .i64 c.tags) := by rw [ho, Nat.zero_add]; exact (hTj.cell (p := ⟨g, j * 5 + 3, none⟩) hgl (fun e => hgm e rfl)).trans (hcells _ _ f3)
              have d4 : wr.cell? ⟨g, o + j * 5 + 4, none⟩ = some (.bool c.gone) := by rw [ho, Nat.zero_add]; exact (hTj.cell (p := ⟨g, j * 5 + 4, none⟩) hgl (fun e => hgm e rfl)).trans (hcells _ _ f4)
              have hdl := doAll_len (l.take j) HSS.out.settled.rise
              have htl : (l.take j).length ≤ l.length := by rw [List.length_take]; omega
              have hcount := HCN.out
              have hll := HLL.out
              have HDO : Hid (∀ W, Below wr.heap.size wr W → Calls Tryz.prog 43 #[.map (some p.ms), chV c (.slice p1 n2 i2) (.slice q1 m2 j2)] W fun e w' => e = .returned (.tuple #[]) ∧ (StAt w' Fd p k f segs lg begun lost [] (doC c (doAll acc (l.take j))) [] ∧ Turned (fun b => b = p.ms) w4 w') ∧ Turned (fun x => x = p.ms) W w') := Lib.hid (fun W hb =>
                (do_any W (fullF p Fd) p.ms _ c _ _ (hSj.later hb).settled (.inr (.inr (.inr (.inl rfl)))) (hCt.later hb) (docok (HR.out c hcm)) (by omega)).mono fun e w' ⟨h1, h2, h3⟩ => ⟨h1, ⟨(hSj.later hb).settles h3 h2, (hTj.on hb).trans h3⟩, h3⟩)
              have hone : l.take (j + 1) = l.take j ++ [c] := by
                rw [List.take_add_one, hlj]
                rfl
              have HONE := Lib.hid hone
              have HSJ := Lib.hid hSj
              unfold chV at HDO
              clear hjx f0 f1 f2 f3 f4 hP hV nT nV hlj hcm hAe hgB hgl hcells hPr hVr hCt ho hdl htl hcount hll hone hSj hTj hgm
              go_upto_region 11 with fail
              have hbX := pl1 wr (.cells #[.int .i64 c.doc, .slice p1 n2 i2, .slice q1 m2 j2, .int .i64 c.tags, .bool c.gone] 35)
              have hbk := heap_alloc_new wr (.cells #[.int .i64 c.doc, .slice p1 n2 i2, .slice q1 m2 j2, .int .i64 c.tags, .bool c.gone] 35)
              have z6 := (HSJ.out.later hbX).c6
              have hNm : wr.heap.size ≠ p.ms := fun e => by
                have h1 := HSJ.out.settled.lt
                omega
              have HBX := Lib.hid hbX
              have HNM := Lib.hid hNm
              have HSM := Lib.hid HSJ.out.sm.2.1
              clear hbX hNm
              obtain ⟨N, hN⟩ : ∃ N, N = wr.heap.size := ⟨_, rfl⟩
              rw [← hN] at hbk HNM ⊢
              have HNE := Lib.hid hN
              clear hN
              generalize wr.alloc (.cells #[.int .i64 c.doc, .slice p1 n2 i2, .slice q1 m2 j2, .int .i64 c.tags, .bool c.gone] 35) = X at hbk HBX z6 ⊢
              have c0 : X.cell? ⟨N, 0, none⟩ = some (.int .i64 c.doc) := cell_of_cells hbk rfl
              have c1 : X.cell? ⟨N, 1, none⟩ = some (.slice p1 n2 i2) := cell_of_cells hbk rfl
              have c2 : X.cell? ⟨N, 2, none⟩ = some (.slice q1 m2 j2) := cell_of_cells hbk rfl
              have c3 : X.cell? ⟨N, 3, none⟩ = some (.int .i64 c.tags) := cell_of_cells hbk rfl
              have c4 : X.cell? ⟨N, 4, none⟩ = some (.bool c.gone) := cell_of_cells hbk rfl
              have HBD : Hid (Below wr.heap.size wr X.drew) := Lib.hid HBX.out.drew
              have HKK : Hid (∀ Y, Turned (fun x => x = p.ms) X.drew Y → Y.cell? ⟨p.s, 6, none⟩ = some (.map (some p.ms)) ∧ Y.cell? ⟨N, 0, none⟩ = some (.int .i64 c.doc) ∧ Y.cell? ⟨N, 1, none⟩ = some (.slice p1 n2 i2) ∧ Y.cell? ⟨N, 2, none⟩ = some (.slice q1 m2 j2) ∧ Y.cell? ⟨N, 3, none⟩ = some (.int .i64 c.tags) ∧ Y.cell? ⟨N, 4, none⟩ = some (.bool c.gone)) := Lib.hid (fun Y hT =>
                ⟨(hT.cell (p := ⟨p.s, 6, none⟩) (World.block_lt_of_cell? X _ z6) HSM.out).trans z6, (hT.cell (p := ⟨N, 0, none⟩) (World.block_lt_of_cell? X _ c0) HNM.out).trans c0, (hT.cell (p := ⟨N, 1, none⟩) (World.block_lt_of_cell? X _ c1) HNM.out).trans c1, (hT.cell (p := ⟨N, 2, none⟩) (World.block_lt_of_cell? X _ c2) HNM.out).trans c2, (hT.cell (p := ⟨N, 3, none⟩) (World.block_lt_of_cell? X _ c3) HNM.out).trans c3, (hT.cell (p := ⟨N, 4, none⟩) (World.block_lt_of_cell? X _ c4) HNM.out).trans c4⟩)
              clear hbk d0 d1 d2 d3 d4
              go_region_held3 (fun Y => Y.cell? ⟨p.s, 6, none⟩ = some (.map (some p.ms)) ∧ Y.cell? ⟨N, 0, none⟩ = some (.int .i64 c.doc) ∧ Y.cell? ⟨N, 1, none⟩ = some (.slice p1 n2 i2) ∧ Y.cell? ⟨N, 2, none⟩ = some (.slice q1 m2 j2) ∧ Y.cell? ⟨N, 3, none⟩ = some (.int .i64 c.tags) ∧ Y.cell? ⟨N, 4, none⟩ = some (.bool c.gone))
                ((first | exact ⟨z6, c0, c1, c2, c3, c4⟩ | assumption | go_keep))
                (first
                  | (go_at_call 43; ((with_reducible refine (HDO.out _ HBD.out).mono ?_); rintro e w5 ⟨rfl, hm5, hT5⟩; have hk5 := HKK.out w5 hT5)))
              all_goals
                have HF := Lib.hid hm5
                have HJL : Hid (j + 1 ≤ m) := Lib.hid hjl
                clear hm5 hT5 hk5 z6 c0 c1 c2 c3 c4
                go_wp2
                go_roundw
                case rel => exact ⟨j + 1, by go_num, HJL.out, by rw [HONE.out, doAll_snoc]; exact HF.out.1, HF.out.2⟩
                case measure =>
                  have := HJL.out
                  simp [intOf]
                  omega
end Go.Proofs.YtddnnhfffmhpmaaGreatDoor.St

/- Open. -/
namespace Go.Proofs.YtddnnhfffmhpmaaGreatDoor.St
open Go.RowKit Go.Proofs.YtddnnhfffmhpmaaGreatDoor DocM StoM Do
open VdM

set_option maxHeartbeats 2000000 in
set_option maxRecDepth 100000 in
theorem open_down (w : World) (Fd : Nat → Prop) (d : Nat) (k : Dsk) (h : Vd.Is w Fd d k) (hd : k.down = true) :
    Calls Tryz.prog 11 #[.pointer (some ⟨d, 0, none⟩)] w fun e w' => e = .returned (.tuple #[.pointer none, .int .i64 7]) ∧ w = w' := by
  have hdn := Vd.down_any w Fd d k h
  rw [hd] at hdn
  have HD := Lib.hid hdn
  clear h hd hdn
  go_enter Tryz.func11, Tryz.ntmps11
  go_wp2_with fail
  refine HD.out.mono ?_
  rintro e w1 ⟨rfl, rfl⟩
  go_wp2
  go_ret2
  exact ⟨rfl, rfl⟩
theorem enters_rm : ∀ args w, (callFunc 30 args).run Tryz.prog w = .ok (.enter 30 args) w := enters_of Tryz.func30 (by kernel_rfl) rfl
theorem enters_rs : ∀ args w, (callFunc 31 args).run Tryz.prog w = .ok (.enter 31 args) w := enters_of Tryz.func31 (by kernel_rfl) rfl
/-- what the segments that the manifest tells are -/
def SegsIs (fs : Fils) (l : List Nat) (os : List (Option Chs)) : Prop := l.length ≤ 1000 ∧ (∀ y ∈ l, y < 100) ∧ os.length = l.length ∧ (∀ i (h1 : i < l.length) (h2 : i < os.length), SegIs fs l[i] os[i]) ∧ chCount os ≤ 1000000
def OpenIn (U : World) (Fd : Nat → Prop) (p : Pl) (k : Dsk) (o : Option (Nat × List Nat)) (os : List (Option Chs)) (e : Ending) (W : World) : Prop :=
  Turned (fun b => b = p.s ∨ b = p.ml ∨ b = p.ms) U W ∧ ((∃ f l st, o = some (f, l) ∧ segsRd os [] = some st ∧ e = .returned (.int .i64 0) ∧ StAt W Fd p k f l 0 false false st st []) ∨ ((o = none ∨ segsRd os [] = none) ∧ e = .returned (.int .i64 8)))
theorem open_in (U : World) (Fd : Nat → Prop) (p : Pl) (k : Dsk) (o : Option (Nat × List Nat)) (os : List (Option Chs)) (g : Nat) (h : StAt U Fd p k 0 [] 0 false false [] [] []) (hd : k.down = false) (hm : ManIs k.fs o) (hs : ∀ f l, o = some (f, l) → SegsIs k.fs l os)
    (g0 : U.cell? ⟨g, 0, none⟩ = some (.func (.func 30) #[.pointer (some ⟨p.s, 0, none⟩)] #[])) (g1 : U.cell? ⟨g, 1, none⟩ = some (.func (.func 31) #[.pointer (some ⟨p.s, 0, none⟩)] #[])) (hg : g ≠ p.s ∧ g ≠ p.ml ∧ g ≠ p.ms) :
    Calls Tryz.prog 29 #[.slice (some ⟨g, 0, none⟩) 2 2] U (OpenIn U Fd p k o os) := by
  have hng : ¬ (g = p.s ∨ g = p.ml ∨ g = p.ms) := fun h => by
    rcases h with h | h | h
    · exact hg.1 h
    · exact hg.2.1 h
    · exact hg.2.2 h
  have hi := inorder_any U g 2 2 [.func (.func 30) #[.pointer (some ⟨p.s, 0, none⟩)] #[], .func (.func 31) #[.pointer (some ⟨p.s, 0, none⟩)] #[]] rfl (by omega)
    (fun i W => Turned (fun b => b = p.s ∨ b = p.ml ∨ b = p.ms) U W ∧ ((i = 0 ∧ StAt W Fd p k 0 [] 0 false false [] [] []) ∨ (i = 1 ∧ ∃ f l, o = some (f, l) ∧ StAt W Fd p k f l 0 false false [] [] []) ∨ (i = 2 ∧ ∃ f l st, o = some (f, l) ∧ segsRd os [] = some st ∧ StAt W Fd p k f l 0 false false st st [])))
    (fun W c => Turned (fun b => b = p.s ∨ b = p.ml ∨ b = p.ms) U W ∧ c = 8 ∧ (o = none ∨ segsRd os [] = none)) ⟨Turned.refl _ _, .inl ⟨rfl, h⟩⟩
    (fun i W h1 j hj => by
      match j, hj with
      | 0, _ => exact (h1.1.cell (p := ⟨g, 0, none⟩) (World.block_lt_of_cell? U _ g0) hng).trans g0
      | 1, _ => exact (h1.1.cell (p := ⟨g, 1, none⟩) (World.block_lt_of_cell? U _ g1) hng).trans g1)
    (fun i hi W h1 => by
      obtain ⟨hT, h1⟩ := h1
      rcases h1 with ⟨rfl, h1⟩ | ⟨rfl, f, l, ho, h1⟩ | ⟨rfl, _⟩
      · refine ⟨_, _, _, rfl, enters_rm, ?_⟩
        refine (readman_any W Fd p k 0 false false [] [] [] h1 hd o hm).mono ?_
        rintro e W' ⟨f, l, he, ho, hT', hS'⟩
        have hTT := hT.trans (hT'.wide fun b hb => .inl hb)
        cases o with
        | none => exact .inr ⟨8, by omega, he, hTT, rfl, .inl rfl⟩
        | some x => exact .inl ⟨he, hTT, .inr (.inl ⟨rfl, f, l, ho rfl, hS'⟩)⟩
      · refine ⟨_, _, _, rfl, enters_rs, ?_⟩
        obtain ⟨q1, q2, q3, q4, q5⟩ := hs f l ho
        refine (readsegs_any W Fd p k f l 0 false false os h1 hd q2 q1 q3 q4 q5).mono ?_
        rintro e W' ⟨hT', h2⟩
        have hTT := hT.trans (hT'.wide fun b hb => .inr hb)
        rcases h2 with ⟨st, hst, he, hS'⟩ | ⟨hst, he, _⟩
        · exact .inl ⟨he, hTT, .inr (.inr ⟨rfl, f, l, st, ho, hst, hS'⟩)⟩
        · exact .inr ⟨8, by omega, he, hTT, rfl, .inr hst⟩
      · simp at hi)
  refine hi.mono ?_
  rintro e w' (⟨rfl, hT, h1⟩ | ⟨c, hc0, rfl, hT, rfl, h2⟩)
  · rcases h1 with ⟨h, _⟩ | ⟨h, _⟩ | ⟨_, f, l, st, h1, h2, h3⟩
    · omega
    · omega
    · exact ⟨hT, .inl ⟨f, l, st, h1, h2, rfl, h3⟩⟩
  · exact ⟨hT, .inr ⟨h2, rfl⟩⟩
end Go.Proofs.YtddnnhfffmhpmaaGreatDoor.St

/- Open, whole. -/
namespace Go.Proofs.YtddnnhfffmhpmaaGreatDoor.St
open Go.RowKit Go.Proofs.YtddnnhfffmhpmaaGreatDoor DocM StoM Do
open VdM

/-- how Open ends -/
def OpenEnd (w : World) (Fd : Nat → Prop) (d : Nat) (k : Dsk) (g : Gst) (o : Option (Nat × List Nat)) (os : List (Option Chs)) (e : Ending) (w' : World) : Prop :=
  Below w.heap.size w w' ∧ ((∃ f l st p, o = some (f, l) ∧ segsRd os [] = some st ∧ e = .returned (.tuple #[.pointer (some ⟨p.s, 0, none⟩), .int .i64 0]) ∧ p.d = d ∧ (w.heap.size ≤ p.s ∧ w.heap.size ≤ p.ml ∧ w.heap.size ≤ p.ms ∧ w.heap.size ≤ p.mc) ∧ StAt w' Fd p k f l (nextLog g) false false (doAll st (logCh g)) st (ptAll [] (logCh g))) ∨
    ((o = none ∨ segsRd os [] = none) ∧ e = .returned (.tuple #[.pointer none, .int .i64 8])))
theorem fresh_at {w' : World} {F : Nat → Prop} {b c : Nat} (h : w'.heap[b]? = some (.map #[] c)) : MapAt w' F b [] :=
  ⟨.map [], fun _ => (.slice none 0 0, .slice none 0 0), ⟨#[], c, h, ⟨by simp, MapKept.stamped_empty c, by simp⟩, Nat.le_refl _, rfl⟩, Rep.none_ _, rise_nil, fun n c h => (by cases h)⟩
set_option maxHeartbeats 4000000 in
set_option maxRecDepth 100000 in
theorem open_any (w : World) (Fd : Nat → Prop) (d : Nat) (k : Dsk) (g : Gst) (o : Option (Nat × List Nat)) (os : List (Option Chs)) (h : Vd.Is w Fd d k) (hd : k.down = false) (hm : ManIs k.fs o) (hs : ∀ f l, o = some (f, l) → SegsIs k.fs l os)
    (hg : ∀ f l st, o = some (f, l) → segsRd os [] = some st → g.first = f ∧ StoM.Told k.fs g ∧ (∀ y ∈ g.logs, (∀ c ∈ y.1, rightC c = 0) ∧ Torn y.2) ∧ st.length + (logCh g).length ≤ 1000000) :
    Calls Tryz.prog 11 #[.pointer (some ⟨d, 0, none⟩)] w (OpenEnd w Fd d k g o os) := by
  have hdn := Vd.down_any w Fd d k h
  rw [hd] at hdn
  have HDN := Lib.hid hdn
  have q1 := mk_changes w
  have q2 := mk_changes (w.alloc (.map #[] 0))
  have q3 := mk_changes ((w.alloc (.map #[] 0)).alloc (.map #[] 0))
  rw [World.size_alloc] at q2
  rw [World.size_alloc, World.size_alloc] at q3
  obtain ⟨p, hp⟩ : ∃ p : Pl, p = ⟨w.heap.size + 1 + 1 + 1, d, w.heap.size, w.heap.size + 1, w.heap.size + 1 + 1⟩ := ⟨_, rfl⟩
  have hb4 := als_below [.map #[] 0, .map #[] 0, .map #[] 0, .cells #[.pointer (some ⟨d, 0, none⟩), .int .i64 0, .slice none 0 0, .int .i64 0, .bool false, .map (some w.heap.size), .map (some (w.heap.size + 1)), .map (some (w.heap.size + 1 + 1)), .bool false] 78] w
  have h0 := als_at [.map #[] 0, .map #[] 0, .map #[] 0, .cells #[.pointer (some ⟨d, 0, none⟩), .int .i64 0, .slice none 0 0, .int .i64 0, .bool false, .map (some w.heap.size), .map (some (w.heap.size + 1)), .map (some (w.heap.size + 1 + 1)), .bool false] 78] w 0 (by simp)
  have h1 := als_at [.map #[] 0, .map #[] 0, .map #[] 0, .cells #[.pointer (some ⟨d, 0, none⟩), .int .i64 0, .slice none 0 0, .int .i64 0, .bool false, .map (some w.heap.size), .map (some (w.heap.size + 1)), .map (some (w.heap.size + 1 + 1)), .bool false] 78] w 1 (by simp)
  have h2 := als_at [.map #[] 0, .map #[] 0, .map #[] 0, .cells #[.pointer (some ⟨d, 0, none⟩), .int .i64 0, .slice none 0 0, .int .i64 0, .bool false, .map (some w.heap.size), .map (some (w.heap.size + 1)), .map (some (w.heap.size + 1 + 1)), .bool false] 78] w 2 (by simp)
  have h3 := als_at [.map #[] 0, .map #[] 0, .map #[] 0, .cells #[.pointer (some ⟨d, 0, none⟩), .int .i64 0, .slice none 0 0, .int .i64 0, .bool false, .map (some w.heap.size), .map (some (w.heap.size + 1)), .map (some (w.heap.size + 1 + 1)), .bool false] 78] w 3 (by simp)
  simp only [als] at hb4 h0 h1 h2 h3
  simp only [List.getElem_cons_zero, List.getElem_cons_succ, Nat.add_zero] at h0 h1 h2 h3
  have hnF : ∀ b, w.heap.size ≤ b → ¬ Fd b := fun b hb hF => by have := h.lt b hF; omega
  have HST : Hid (StAt ((((w.alloc (.map #[] 0)).alloc (.map #[] 0)).alloc (.map #[] 0)).alloc (.cells #[.pointer (some ⟨d, 0, none⟩), .int .i64 0, .slice none 0 0, .int .i64 0, .bool false, .map (some w.heap.size), .map (some (w.heap.size + 1)), .map (some (w.heap.size + 1 + 1)), .bool false] 78)) Fd p k 0 [] 0 false false [] [] []) := Lib.hid (by
    subst hp
    exact ⟨⟨none, 0, 0, h3, ivs_none _, Away.nil_ _⟩, h.later hb4, fresh_at h0, fresh_at h1, fresh_at h2, hnF _ (by show _ ≤ w.heap.size + 1 + 1 + 1; omega), hnF _ (Nat.le_refl _), hnF _ (by show _ ≤ w.heap.size + 1; omega), hnF _ (by show _ ≤ w.heap.size + 1 + 1; omega), by show w.heap.size ≠ w.heap.size + 1; omega, by show w.heap.size ≠ w.heap.size + 1 + 1; omega, by show w.heap.size + 1 ≠ w.heap.size + 1 + 1; omega⟩)
  have HB4 := Lib.hid hb4
  have HXS : Hid (((((w.alloc (.map #[] 0)).alloc (.map #[] 0)).alloc (.map #[] 0)).alloc (.cells #[.pointer (some ⟨d, 0, none⟩), .int .i64 0, .slice none 0 0, .int .i64 0, .bool false, .map (some w.heap.size), .map (some (w.heap.size + 1)), .map (some (w.heap.size + 1 + 1)), .bool false] 78)).heap.size = p.s + 1) := Lib.hid (by subst hp; simp)
  have HPS : Hid (w.heap.size + 1 + 1 + 1 = p.s ∧ p.d = d ∧ (w.heap.size ≤ p.s ∧ w.heap.size ≤ p.ml ∧ w.heap.size ≤ p.ms ∧ w.heap.size ≤ p.mc)) := Lib.hid (by
    subst hp
    exact ⟨rfl, rfl, by show _ ≤ w.heap.size + 1 + 1 + 1; omega, Nat.le_refl _, by show _ ≤ w.heap.size + 1; omega, by show _ ≤ w.heap.size + 1 + 1; omega⟩)
  have HD := Lib.hid hd
  have HM := Lib.hid hm
  have HSG := Lib.hid hs
  have HG := Lib.hid hg
  clear h hd hm hs hg hdn hb4 h0 h1 h2 h3 hnF hp
  go_enter Tryz.func11, Tryz.ntmps11
  go_wp2_with fail
  refine HDN.out.mono ?_
  rintro e w1 ⟨rfl, rfl⟩
  go_wp2_with fail
  rw [HPS.out.1]
  generalize (((w.alloc (.map #[] 0)).alloc (.map #[] 0)).alloc (.map #[] 0)).alloc (.cells #[.pointer (some ⟨d, 0, none⟩), .int .i64 0, .slice none 0 0, .int .i64 0, .bool false, .map (some w.heap.size), .map (some (w.heap.size + 1)), .map (some (w.heap.size + 1 + 1)), .bool false] 78) = X at HST HB4 HXS ⊢
  clear q1 q2 q3
  have hbY := pl1 X (.cells #[.func (.func 30) #[.pointer (some ⟨p.s, 0, none⟩)] #[], .func (.func 31) #[.pointer (some ⟨p.s, 0, none⟩)] #[]] 57)
  have hgY := heap_alloc_new X (.cells #[.func (.func 30) #[.pointer (some ⟨p.s, 0, none⟩)] #[], .func (.func 31) #[.pointer (some ⟨p.s, 0, none⟩)] #[]] 57)
  rw [HXS.out] at hgY
  have hBY := HB4.out.trans (hbY.mono HB4.out.size)
  have hmlt := HST.out.live.lt
  have hslt := HST.out.settled.lt
  have hxs := HXS.out
  have HIN := Lib.hid (open_in _ Fd p k o os (p.s + 1) (HST.out.later hbY) HD.out HM.out HSG.out (cell_of_cells hgY rfl) (cell_of_cells hgY rfl) ⟨by omega, by omega, by omega⟩)
  have HBY := Lib.hid hBY
  clear hbY hgY hBY hmlt hslt hxs HXS HST HB4
  refine HIN.out.mono ?_
  rintro e w5 ⟨hT5, h5⟩
  have hps := HPS.out.2.2
  have hB5 : Below w.heap.size w w5 := hT5.below HBY.out fun b hb => by
    rcases hb with rfl | rfl | rfl
    · exact hps.1
    · exact hps.2.1
    · exact hps.2.2.1
  have HB5 := Lib.hid hB5
  clear hT5 hB5 hps
  rcases h5 with ⟨f, l, st, ho, hst, rfl, hS⟩ | ⟨hbad, rfl⟩
  rotate_left
  · have HF := Lib.hid (show OpenEnd w Fd d k g o os (.returned (.tuple #[.pointer none, .int .i64 8])) w5 from ⟨HB5.out, .inr ⟨hbad, rfl⟩⟩)
    clear hbad
    go_wp2
    go_ret2
    exact HF.out
  · obtain ⟨hgf, htold, hlogs, hcount⟩ := HG.out f l st ho hst
    subst hgf
    have HRL := Lib.hid (readlogs_any w5 Fd p k g l 0 false false st st [] hS HD.out htold hlogs hcount (by simp; omega))
    have HO := Lib.hid (And.intro ho hst)
    clear htold hlogs hcount hS ho hst
    go_wp2_with fail
    refine HRL.out.mono ?_
    rintro e w6 ⟨rfl, hT6, hS6⟩
    have hps := HPS.out.2.2
    have hB6 : Below w.heap.size w w6 := hT6.below HB5.out fun b hb => by
      rcases hb with rfl | rfl | rfl
      · exact hps.1
      · exact hps.2.1
      · exact hps.2.2.2
    have HF := Lib.hid (show OpenEnd w Fd d k g o os (.returned (.tuple #[.pointer (some ⟨p.s, 0, none⟩), .int .i64 0])) w6 from ⟨hB6, .inl ⟨g.first, l, st, p, HO.out.1, HO.out.2, rfl, HPS.out.2.1, hps, hS6⟩⟩)
    clear hB6 hT6 hS6 hps
    go_wp2
    go_ret2
    exact HF.out
end Go.Proofs.YtddnnhfffmhpmaaGreatDoor.St

/- May a change be done? -/
namespace Go.Proofs.YtddnnhfffmhpmaaGreatDoor.St
open Go.RowKit Go.Proofs.YtddnnhfffmhpmaaGreatDoor DocM StoM Do
open VdM

def admC (lost : Bool) (lv : Chs) (c : Ch) : Int := if lost = true then 7 else if c.gone = true ∧ (lkC lv c.doc).isSome = false then 4 else if c.gone = false ∧ (lkC lv c.doc).isSome = false ∧ 256 ≤ lv.length then 3 else 0
set_option maxHeartbeats 4000000 in
set_option maxRecDepth 100000 in
theorem admit_any (w : World) (Fd : Nat → Prop) (p : Pl) (k : Dsk) (f : Nat) (segs : List Nat) (lg : Nat) (begun lost : Bool) (lv st cm : Chs) (c : Ch) (T V : Value) (h : StAt w Fd p k f segs lg begun lost lv st cm) (hc : Ct w (fullF p Fd) c T V) (hd : DocOk c.doc) (hl : lv.length ≤ 1000000) :
    Calls Tryz.prog 46 #[.pointer (some ⟨p.s, 0, none⟩), chV c T V] w fun e w' => e = .returned (.int .i64 (admC lost lv c)) ∧ Below w.heap.size w w' := by
  obtain ⟨p1, n1, k1, q1, m1, j1, rfl, rfl⟩ := hc.shape
  obtain ⟨N, hN⟩ : ∃ N, N = w.heap.size := ⟨_, rfl⟩
  have hb0 := pl1 w (.cells #[.int .i64 c.doc, .slice p1 n1 k1, .slice q1 m1 j1, .int .i64 c.tags, .bool c.gone] 35)
  have hbk : (w.alloc (.cells #[.int .i64 c.doc, .slice p1 n1 k1, .slice q1 m1 j1, .int .i64 c.tags, .bool c.gone] 35)).heap[N]? = some (.cells #[.int .i64 c.doc, .slice p1 n1 k1, .slice q1 m1 j1, .int .i64 c.tags, .bool c.gone] 35 (0, 0)) := by rw [hN]; exact heap_alloc_new w _
  have hU0 := h.later hb0
  have HNE := Lib.hid hN
  have HB0 := Lib.hid hb0
  have HST := Lib.hid hU0
  have HBK := Lib.hid hbk
  unfold chV
  clear h hc hb0 hbk hU0 hN
  obtain ⟨r, hr⟩ : ∃ r, r = admC lost lv c := ⟨_, rfl⟩
  have HR := Lib.hid hr
  rw [← hr]
  clear hr
  go_enter Tryz.func46, Tryz.ntmps46
  go_upto_region 1 with fail
  rw [← HNE.out]
  generalize w.alloc (.cells #[.int .i64 c.doc, .slice p1 n1 k1, .slice q1 m1 j1, .int .i64 c.tags, .bool c.gone] 35) = U at HB0 HST HBK ⊢
  obtain ⟨A, n, cp, _, _, _, s0, s1, s2, s3, s4, s5, s6, s7, s8, sf⟩ := HST.out.cells
  have c0 := cell_of_cells HBK.out (i := 0) rfl
  have c4 := cell_of_cells HBK.out (i := 4) rfl
  have hbz := pl1 U (.cells #[.int .i64 0, .slice none 0 0, .slice none 0 0, .int .i64 0, .bool false] 35)
  have c0z := (hbz.cell (p := ⟨N, 0, none⟩) (World.block_lt_of_cell? U _ c0)).trans c0
  have s5z := (hbz.cell (p := ⟨p.s, 5, none⟩) (World.block_lt_of_cell? U _ s5)).trans s5
  obtain ⟨D2, T2, ho2, hrep2, hri2, hct2⟩ := id HST.out.live
  have hlk := fun X (hb : Below U.heap.size U X) => look_run_ok (ho2.stay (hb.block _ HST.out.live.lt)) hrep2 (n := c.doc) ⟨by have := hd.1; omega, by have := hd.2; omega⟩
  have hvs : ∃ d p n c' q m e t g, lkV T2 lv c.doc = .agg #[.int .i64 d, .slice p n c', .slice q m e, .int .i64 t, .bool g] := by
    unfold lkV
    cases hx : lkC lv c.doc with
    | none => exact ⟨_, _, _, _, _, _, _, _, _, rfl⟩
    | some c' =>
      obtain ⟨p1, n1, k1, q1, m1, j1, e1, e2⟩ := (hct2 c.doc c' hx).shape
      simp only
      rw [e1, e2]
      exact ⟨_, _, _, _, _, _, _, _, _, rfl⟩
  obtain ⟨d', p', n', c', q', m', e', t', g', hve⟩ := hvs
  rw [hve] at hlk
  obtain ⟨is, his⟩ : ∃ is, is = (lkC lv c.doc).isSome := ⟨_, rfl⟩
  rw [← his] at hlk
  have HIS := Lib.hid his
  have HLEN := Lib.hid (fun X (hb : Below U.heap.size U X) => len_run (HST.out.live.later hb))
  have hlk0 := hlk U.drew (Below.refl _ _).drew
  have hlk1 := hlk (U.alloc (.cells #[.int .i64 0, .slice none 0 0, .slice none 0 0, .int .i64 0, .bool false] 35)).drew hbz.drew
  clear s0 s1 s2 s3 s4 s6 s7 sf ho2 hrep2 hri2 hct2 hve his hlk hbz
  obtain ⟨ln, hln⟩ : ∃ ln, ln = lv.length := ⟨_, rfl⟩
  have HLN := Lib.hid hln
  rw [← hln] at hl HLEN
  clear hln
  go_region
  all_goals
    have hbY := (pl1 U (.cells #[.int .i64 d', .slice p' n' c', .slice q' m' e', .int .i64 t', .bool g'] 35)).drew
    have y8 := (hbY.cell (p := ⟨p.s, 8, none⟩) (World.block_lt_of_cell? U _ s8)).trans s8
    have y5 := (hbY.cell (p := ⟨p.s, 5, none⟩) (World.block_lt_of_cell? U _ s5)).trans s5
    have y4 := (hbY.cell (p := ⟨N, 4, none⟩) (World.block_lt_of_cell? U _ c4)).trans c4
    have hlen := HLEN.out _ hbY
    have HBY := Lib.hid (HB0.out.trans (hbY.mono HB0.out.size))
    generalize (U.alloc (.cells #[.int .i64 d', .slice p' n' c', .slice q' m' e', .int .i64 t', .bool g'] 35)).drew = Y at y8 y5 y4 hlen HBY ⊢
    clear hbY s8 s5 c0 c4 c0z s5z hlk0 hlk1 HLEN HST HBK
    cases hlost : lost with
    | true =>
      rw [hlost] at y8
      go_wp2
      go_ret
      refine ⟨?_, HBY.out⟩
      rw [HR.out]
      unfold admC
      rw [if_pos hlost]
      rfl
    | false =>
      rw [hlost] at y8
      obtain ⟨gone, hgone⟩ : ∃ g, g = c.gone := ⟨_, rfl⟩
      rw [← hgone] at y4
      have HG := Lib.hid hgone
      clear hgone
      by_cases hge : 256 ≤ ln
      · have hgi : (256 : Int) ≤ (ln : Int) := by omega
        cases gone <;> cases is
        all_goals
          go_wp2
          go_ret
          refine ⟨?_, HBY.out⟩
          rw [HR.out]
          unfold admC
          simp [hlost, ← HG.out, ← HIS.out, ← HLN.out, hge]
      · have hgi : ¬ (256 : Int) ≤ (ln : Int) := by omega
        cases gone <;> cases is
        all_goals
          go_wp2
          go_ret
          refine ⟨?_, HBY.out⟩
          rw [HR.out]
          unfold admC
          simp [hlost, ← HG.out, ← HIS.out, ← HLN.out, hge]
end Go.Proofs.YtddnnhfffmhpmaaGreatDoor.St

/- Put. -/
namespace Go.Proofs.YtddnnhfffmhpmaaGreatDoor.St
open Go.RowKit Go.Proofs.YtddnnhfffmhpmaaGreatDoor DocM StoM Do
open VdM

theorem enters_p1 : ∀ args w, (callFunc 48 args).run Tryz.prog w = .ok (.enter 48 args) w := enters_of Tryz.func48 (by kernel_rfl) rfl
theorem put_in (U : World) (Fd : Nat → Prop) (p : Pl) (k : Dsk) (f : Nat) (segs : List Nat) (lg : Nat) (begun lost : Bool) (lv st cm : Chs) (B0 B1 g : Nat) (c : Ch) (h : StAt U Fd p k f segs lg begun lost lv st cm)
    (b0 : U.cell? ⟨B0, 0, none⟩ = some (.pointer (some ⟨p.s, 0, none⟩))) (b1 : U.cell? ⟨B1, 0, none⟩ = some (.string (ofBytes (prB c)))) (g0 : U.cell? ⟨g, 0, none⟩ = some (.func (.func 48) #[] #[.pointer (some ⟨B0, 0, none⟩), .pointer (some ⟨B1, 0, none⟩)]))
    (m0 : ¬ fullF p Fd B0) (m1 : ¬ fullF p Fd B1) (mg : ¬ fullF p Fd g) (hlg : lg < 100) (hc : rightC c = 0) (he : k.eff + 2 ≤ 1000000000) :
    Calls Tryz.prog 29 #[.slice (some ⟨g, 0, none⟩) 1 1] U fun e w' => ∃ c' : Int, e = .returned (.int .i64 c') ∧ c' = (wr k (logN lg) (frameB c)).2 ∧ At1 U Fd p (wr k (logN lg) (frameB c)).1 f segs lg begun lost lv st cm w' := by
  obtain ⟨R, hR⟩ : ∃ R, R = wr k (logN lg) (frameB c) := ⟨_, rfl⟩
  rw [← hR]
  have hi := inorder_any U g 1 1 [.func (.func 48) #[] #[.pointer (some ⟨B0, 0, none⟩), .pointer (some ⟨B1, 0, none⟩)]] rfl (by omega)
    (fun i W => (i = 0 ∧ At1 U Fd p k f segs lg begun lost lv st cm W) ∨ (i = 1 ∧ R.2 = 0 ∧ At1 U Fd p R.1 f segs lg begun lost lv st cm W)) (fun W c' => R.2 = c' ∧ At1 U Fd p R.1 f segs lg begun lost lv st cm W) (.inl ⟨rfl, At1.start h⟩)
    (fun i W h1 j hj => by
      have hcell : W.cell? ⟨g, 0, none⟩ = some (.func (.func 48) #[] #[.pointer (some ⟨B0, 0, none⟩), .pointer (some ⟨B1, 0, none⟩)]) := by
        rcases h1 with ⟨_, h1⟩ | ⟨_, _, h1⟩
        · exact h1.cell g0 mg
        · exact h1.cell g0 mg
      match j, hj with
      | 0, _ => exact hcell)
    (fun i hi W h1 => by
      have hi0 : i = 0 := by simp at hi; exact hi
      subst hi0
      rcases h1 with ⟨_, h1⟩ | ⟨h5, _⟩
      rotate_left
      · omega
      obtain ⟨hT, F', hS', hF'⟩ := id h1
      have hF2 := full_more (p := p) hF'
      have nF : ∀ {B : Nat}, B < U.heap.size → ¬ fullF p Fd B → ¬ fullF p F' B := fun hB hn hb => (hF2 _ hb).elim hn (fun h => by omega)
      obtain ⟨A, n, cp, _, _, _, s0, _, _, s3, _⟩ := hS'.cells
      have u0 := nF (World.block_lt_of_cell? U _ b0) m0
      have u1 := nF (World.block_lt_of_cell? U _ b1) m1
      refine ⟨_, _, _, rfl, enters_p1, ?_⟩
      refine (put1_any W F' B0 B1 p.s p.d lg k c (h1.cell b0 m0) (h1.cell b1 m1) s0 s3 (fun h => u0 (.inl h)) (fun h => u1 (.inl h)) hS'.ns hlg hc hS'.disk he).mono ?_
      rintro e W' hd
      have hA := at1_by hT hS' hF' hd.2
      have he1 := hd.1
      simp only at hA he1
      rw [← hR] at hA he1
      by_cases hz : R.2 = 0
      · rw [hz] at he1
        exact .inl ⟨he1, .inr ⟨rfl, hz, hA⟩⟩
      · exact .inr ⟨_, hz, he1, rfl, hA⟩)
  refine hi.mono ?_
  rintro e w' (⟨rfl, h1⟩ | ⟨c', hc0, rfl, h1, h2⟩)
  · rcases h1 with ⟨h, _⟩ | ⟨_, h1, h2⟩
    · omega
    · exact ⟨0, rfl, h1.symm, h2⟩
  · exact ⟨c', rfl, h1.symm, h2⟩
end Go.Proofs.YtddnnhfffmhpmaaGreatDoor.St

/- Put, whole. -/
namespace Go.Proofs.YtddnnhfffmhpmaaGreatDoor.St
open Go.RowKit Go.Proofs.YtddnnhfffmhpmaaGreatDoor DocM StoM Do
open VdM

def PutEnd (w : World) (Fd : Nat → Prop) (p : Pl) (k : Dsk) (f : Nat) (segs : List Nat) (lg : Nat) (begun lost : Bool) (lv st cm : Chs) (c : Ch) (r : Int) (w' : World) : Prop :=
  (rightC c ≠ 0 ∧ r = rightC c ∧ Below w.heap.size w w') ∨ (rightC c = 0 ∧ admC lost lv c ≠ 0 ∧ r = admC lost lv c ∧ Below w.heap.size w w') ∨
  (rightC c = 0 ∧ admC lost lv c = 0 ∧ r = (wr k (logN lg) (frameB c)).2 ∧ ((r = 0 ∧ At1 w Fd p (wr k (logN lg) (frameB c)).1 f segs lg true lost (doC c lv) st (ptC c cm) w') ∨ (r = 7 ∧ At1 w Fd p (wr k (logN lg) (frameB c)).1 0 [] lg begun true [] [] [] w') ∨ (r ≠ 0 ∧ r ≠ 7 ∧ At1 w Fd p (wr k (logN lg) (frameB c)).1 f segs lg begun lost lv st cm w')))
set_option maxHeartbeats 4000000 in
set_option maxRecDepth 100000 in
theorem put_any (w : World) (Fd : Nat → Prop) (p : Pl) (k : Dsk) (f : Nat) (segs : List Nat) (lg : Nat) (begun lost : Bool) (lv st cm : Chs) (c : Ch) (T V : Value) (h : StAt w Fd p k f segs lg begun lost lv st cm) (hc : Ct w (fullF p Fd) c T V) (hts : c.ts.length ≤ 1000000) (hvs : c.v.length ≤ 1000000) (hlg : lg < 100) (hl : lv.length ≤ 1000000) (hm : cm.length ≤ 1000000) (he : k.eff + 2 ≤ 1000000000) :
    Calls Tryz.prog 25 #[.pointer (some ⟨p.s, 0, none⟩), chV c T V] w fun e w' => ∃ r : Int, e = .returned (.int .i64 r) ∧ PutEnd w Fd p k f segs lg begun lost lv st cm c r w' := by
  obtain ⟨p1, n1, k1, q1, m1, j1, rfl, rfl⟩ := hc.shape
  obtain ⟨N, hN⟩ : ∃ N, N = w.heap.size := ⟨_, rfl⟩
  have hb2 := als_below [.cells #[.pointer (some ⟨p.s, 0, none⟩)] 26, .cells #[.int .i64 c.doc, .slice p1 n1 k1, .slice q1 m1 j1, .int .i64 c.tags, .bool c.gone] 35] w
  have h0 := als_at [.cells #[.pointer (some ⟨p.s, 0, none⟩)] 26, .cells #[.int .i64 c.doc, .slice p1 n1 k1, .slice q1 m1 j1, .int .i64 c.tags, .bool c.gone] 35] w 0 (by simp)
  have h1 := als_at [.cells #[.pointer (some ⟨p.s, 0, none⟩)] 26, .cells #[.int .i64 c.doc, .slice p1 n1 k1, .slice q1 m1 j1, .int .i64 c.tags, .bool c.gone] 35] w 1 (by simp)
  simp only [als] at hb2 h0 h1
  simp only [List.getElem_cons_zero, List.getElem_cons_succ, Nat.add_zero] at h0 h1
  rw [← hN] at h0 h1
  have hpr : Calls Tryz.prog 45 #[chV c (.slice p1 n1 k1) (.slice q1 m1 j1)] ((w.alloc (.cells #[.pointer (some ⟨p.s, 0, none⟩)] 26)).alloc (.cells #[.int .i64 c.doc, .slice p1 n1 k1, .slice q1 m1 j1, .int .i64 c.tags, .bool c.gone] 35)) fun e w' => e = .returned (prA c) ∧ Below ((w.alloc (.cells #[.pointer (some ⟨p.s, 0, none⟩)] 26)).alloc (.cells #[.int .i64 c.doc, .slice p1 n1 k1, .slice q1 m1 j1, .int .i64 c.tags, .bool c.gone] 35)).heap.size ((w.alloc (.cells #[.pointer (some ⟨p.s, 0, none⟩)] 26)).alloc (.cells #[.int .i64 c.doc, .slice p1 n1 k1, .slice q1 m1 j1, .int .i64 c.tags, .bool c.gone] 35)) w' := by
    have hc2 := hc.later hb2
    obtain ⟨A1, cp1, e1, _, _, g1⟩ := hc2.t
    obtain ⟨A2, cp2, e2, g2⟩ := hc2.v
    injection e1 with e11 e12 e13
    injection e2 with e21 e22 e23
    subst e11 e12 e13 e21 e22 e23
    exact print_any c _ _ _ _ _ _ _ g1 g2 (by omega)
  have HP := Lib.hid hpr
  have HB2 := Lib.hid hb2
  have H0 := Lib.hid h0
  have H1 := Lib.hid h1
  have HNE := Lib.hid hN
  have HST := Lib.hid h
  have HCT := Lib.hid hc
  have c0 := cell_of_cells h0 (i := 0) rfl
  have x0 := cell_of_cells h1 (i := 0) rfl
  have x1 := cell_of_cells h1 (i := 1) rfl
  have x2 := cell_of_cells h1 (i := 2) rfl
  have x3 := cell_of_cells h1 (i := 3) rfl
  have x4 := cell_of_cells h1 (i := 4) rfl
  obtain ⟨rc, hrc⟩ : ∃ rc, rc = rightC c := ⟨_, rfl⟩
  unfold prA at HP
  unfold chV at HP ⊢
  rw [← hrc] at HP
  have HRC := Lib.hid hrc
  clear h hc hpr hb2 h0 h1 hN hrc
  by_cases hr0 : rc = 0
  rotate_left
  · have hrb : (rc == 0) = false := by simpa using hr0
    have HR0 := Lib.hid hr0
    generalize ofBytes (if rc = 0 then prB c else []) = tx at HP
    clear hr0
    go_enter Tryz.func25, Tryz.ntmps25
    go_wp2_with fail
    rw [← HNE.out]
    refine HP.out.mono ?_
    rintro e w1 ⟨rfl, hb⟩
    have HBF := Lib.hid (HB2.out.trans ((hb.trans ((pl1 w1 (.cells #[.string tx] 9)).mono hb.size)).mono HB2.out.size))
    clear hb
    go_wp2
    go_ret
    exact ⟨rc, rfl, .inl ⟨by rw [← HRC.out]; exact HR0.out, HRC.out, HBF.out⟩⟩
  subst hr0
  rw [if_pos rfl] at HP
  go_enter Tryz.func25, Tryz.ntmps25
  go_wp2_with fail
  rw [← HNE.out]
  generalize (w.alloc (.cells #[.pointer (some ⟨p.s, 0, none⟩)] 26)).alloc (.cells #[.int .i64 c.doc, .slice p1 n1 k1, .slice q1 m1 j1, .int .i64 c.tags, .bool c.gone] 35) = U at HP HB2 H0 H1 c0 x0 x1 x2 x3 x4 ⊢
  refine HP.out.mono ?_
  rintro e w1 ⟨rfl, hb⟩
  have hbt := pl1 w1 (.cells #[.string (ofBytes (prB c))] 9)
  have htx := heap_alloc_new w1 (.cells #[.string (ofBytes (prB c))] 9)
  have hUX := hb.trans (hbt.mono hb.size)
  have hUw : U.heap.size ≤ w1.heap.size := hb.size
  obtain ⟨B1, hB1⟩ : ∃ B1, B1 = w1.heap.size := ⟨_, rfl⟩
  rw [← hB1] at htx
  have HB1 := Lib.hid hB1
  have HUW : Hid (U.heap.size ≤ B1) := Lib.hid (by rw [hB1]; exact hUw)
  have HTX := Lib.hid htx
  have HUX := Lib.hid hUX
  have c0 := (hUX.cell (p := ⟨N, 0, none⟩) (World.block_lt_of_cell? U _ c0)).trans c0
  have x0 := (hUX.cell (p := ⟨N + 1, 0, none⟩) (World.block_lt_of_cell? U _ x0)).trans x0
  have x1 := (hUX.cell (p := ⟨N + 1, 1, none⟩) (World.block_lt_of_cell? U _ x1)).trans x1
  have x2 := (hUX.cell (p := ⟨N + 1, 2, none⟩) (World.block_lt_of_cell? U _ x2)).trans x2
  have x3 := (hUX.cell (p := ⟨N + 1, 3, none⟩) (World.block_lt_of_cell? U _ x3)).trans x3
  have x4 := (hUX.cell (p := ⟨N + 1, 4, none⟩) (World.block_lt_of_cell? U _ x4)).trans x4
  clear hb hbt htx hUX hUw hB1 HP
  go_wp2_with fail
  rw [← HB1.out]
  generalize w1.alloc (.cells #[.string (ofBytes (prB c))] 9) = X at HTX HUX c0 x0 x1 x2 x3 x4 ⊢
  have hwX := HB2.out.trans (HUX.out.mono HB2.out.size)
  refine (admit_any X Fd p k f segs lg begun lost lv st cm c (.slice p1 n1 k1) (.slice q1 m1 j1) (HST.out.later hwX) (HCT.out.later hwX) (docok HRC.out.symm) hl).mono ?_
  rintro e w3 ⟨rfl, hb3⟩
  obtain ⟨ac, hac⟩ : ∃ ac, ac = admC lost lv c := ⟨_, rfl⟩
  have HAC := Lib.hid hac
  rw [← hac]
  clear hac
  by_cases ha0 : ac = 0
  rotate_left
  · have hab : (ac == 0) = false := by simpa using ha0
    have HA0 := Lib.hid ha0
    have HBF := Lib.hid (hwX.trans (hb3.mono hwX.size))
    clear ha0 hb3 hwX c0 x0 x1 x2 x3 x4
    go_wp2
    go_ret
    exact ⟨ac, rfl, .inr (.inl ⟨HRC.out.symm, by rw [← HAC.out]; exact HA0.out, HAC.out, HBF.out⟩)⟩
  subst ha0
  have hXY := hb3.trans ((pl1 w3 (.cells #[.func (.func 48) #[] #[.pointer (some ⟨N, 0, none⟩), .pointer (some ⟨B1, 0, none⟩)]] 57)).mono hb3.size)
  have hg := heap_alloc_new w3 (.cells #[.func (.func 48) #[] #[.pointer (some ⟨N, 0, none⟩), .pointer (some ⟨B1, 0, none⟩)]] 57)
  have d0 := (hb3.cell (p := ⟨N, 0, none⟩) (World.block_lt_of_cell? X _ c0)).trans c0
  obtain ⟨g, hgE⟩ : ∃ g, g = w3.heap.size := ⟨_, rfl⟩
  have HGE := Lib.hid hgE
  have hXg : X.heap.size ≤ g := by rw [hgE]; exact hb3.size
  rw [← hgE] at hg
  have HXG := Lib.hid hXg
  have HXY := Lib.hid hXY
  have HG := Lib.hid hg
  have HWX := Lib.hid hwX
  clear hb3 hg hXg hgE hXY c0 hwX x0 x1 x2 x3 x4
  go_wp2_with fail
  rw [← HGE.out]
  generalize w3.alloc (.cells #[.func (.func 48) #[] #[.pointer (some ⟨N, 0, none⟩), .pointer (some ⟨B1, 0, none⟩)]] 57) = Y at HXY HG ⊢
  have HWY := Lib.hid (HWX.out.trans (HXY.out.mono HWX.out.size))
  have hUX : U.heap.size ≤ X.heap.size := HUX.out.size
  have hwU : w.heap.size ≤ U.heap.size := HB2.out.size
  have nN : ∀ B, N ≤ B → ¬ fullF p Fd B := fun B hB hb => by
    have := HST.out.lt B hb
    have := HNE.out
    omega
  have hNN := HNE.out
  have hSY := HST.out.later HWY.out
  have hB1w : N ≤ B1 := by have := HUW.out; omega
  have hgw : N ≤ g := by have := HXG.out; omega
  have hUY := HUX.out.trans (HXY.out.mono HUX.out.size)
  have bN := blk_stay hUY H0.out
  have bN1 := blk_stay hUY H1.out
  have bT := blk_stay HXY.out HTX.out
  have hin := put_in Y Fd p k f segs lg begun lost lv st cm N B1 g c hSY (cell_of_cells bN rfl) (cell_of_cells bT rfl) (cell_of_cells HG.out rfl) (nN _ (Nat.le_refl _)) (nN _ hB1w) (nN _ hgw) hlg HRC.out.symm he
  have hact := act_any Y p.s (.slice (some ⟨g, 0, none⟩) 1 1) (fun W c' => c' = (wr k (logN lg) (frameB c)).2 ∧ At1 Y Fd p (wr k (logN lg) (frameB c)).1 f segs lg begun lost lv st cm W)
      (fun W => (wr k (logN lg) (frameB c)).2 = 7 ∧ At1 Y Fd p (wr k (logN lg) (frameB c)).1 0 [] lg begun true [] [] [] W) hin
      (fun W' ⟨h1, h2⟩ => (lose_any W' Y Fd p _ f segs lg begun lost lv st cm h2).mono fun e w'' ⟨e1, e2⟩ => ⟨e1, h1.symm, e2⟩)
  refine hact.mono ?_
  have HBN := Lib.hid bN
  have HBN1 := Lib.hid bN1
  clear hact hin bN bN1 bT hSY hUY
  obtain ⟨R, hR⟩ : ∃ R, R = wr k (logN lg) (frameB c) := ⟨_, rfl⟩
  rw [← hR]
  have HR := Lib.hid hR
  clear hR
  have t0 : Turned (fullF p Fd) w Y := Turned.of_below HWY.out
  rintro e w4 ⟨c', rfl, hout⟩
  rcases hout with ⟨h7, hcE, hA⟩ | ⟨rfl, h7, hA⟩
  rotate_left
  · have hA' := hA.trans t0 fun _ h => .inl h
    have HA := Lib.hid hA'
    have H7 := Lib.hid h7
    clear hA hA' h7 t0 nN hUX hwU hB1w hgw hNN
    go_wp2
    go_ret
    refine ⟨7, rfl, .inr (.inr ⟨HRC.out.symm, HAC.out.symm, ?_, ?_⟩)⟩
    · rw [← HR.out]; exact H7.out.symm
    · rw [← HR.out]; exact .inr (.inl ⟨rfl, HA.out⟩)
  by_cases hc0 : c' = 0
  rotate_left
  · have hA' := hA.trans t0 fun _ h => .inl h
    have HA := Lib.hid hA'
    have hcb : (c' == 0) = false := by simpa using hc0
    have H0' := Lib.hid hc0
    have H7 := Lib.hid h7
    have HCE := Lib.hid hcE
    clear hA hA' h7 t0 hc0 hcE nN hUX hwU hB1w hgw hNN
    go_wp2
    go_ret
    refine ⟨c', rfl, .inr (.inr ⟨HRC.out.symm, HAC.out.symm, ?_, ?_⟩)⟩
    · rw [← HR.out]; exact HCE.out
    · rw [← HR.out]; exact .inr (.inr ⟨H0'.out, H7.out, HA.out⟩)
  subst hc0
  obtain ⟨hT4, Fd4, hS4, hF4⟩ := id hA
  have hF42 := full_more (p := p) hF4
  have e0 := hA.cell (cell_of_cells HBN.out (i := 0) rfl) (nN _ (Nat.le_refl _))
  have e1 := hA.cell (cell_of_cells HBN1.out (i := 0) rfl) (nN _ (by show N ≤ N + 1; omega))
  have e2 := hA.cell (cell_of_cells HBN1.out (i := 1) rfl) (nN _ (by show N ≤ N + 1; omega))
  have e3 := hA.cell (cell_of_cells HBN1.out (i := 2) rfl) (nN _ (by show N ≤ N + 1; omega))
  have e4 := hA.cell (cell_of_cells HBN1.out (i := 3) rfl) (nN _ (by show N ≤ N + 1; omega))
  have e5 := hA.cell (cell_of_cells HBN1.out (i := 4) rfl) (nN _ (by show N ≤ N + 1; omega))
  obtain ⟨A9, n9, cp9, _, _, _, _, _, _, _, s4, _, _, _, _, sf⟩ := hS4.cells
  have sf4 := sf 4
  obtain ⟨hT5, hS5⟩ := hS4.begun_ (begun' := true)
  have hne : ∀ {B : Nat}, N ≤ B → B ≠ p.s := fun hB e => nN _ hB (.inr (.inl e))
  have g0 := (hT5.cell (p := ⟨N, 0, none⟩) (World.block_lt_of_cell? w4 _ e0) (hne (Nat.le_refl _))).trans e0
  have g1 := (hT5.cell (p := ⟨N + 1, 0, none⟩) (World.block_lt_of_cell? w4 _ e1) (hne (by show N ≤ N + 1; omega))).trans e1
  have g2 := (hT5.cell (p := ⟨N + 1, 1, none⟩) (World.block_lt_of_cell? w4 _ e2) (hne (by show N ≤ N + 1; omega))).trans e2
  have g3 := (hT5.cell (p := ⟨N + 1, 2, none⟩) (World.block_lt_of_cell? w4 _ e3) (hne (by show N ≤ N + 1; omega))).trans e3
  have g4 := (hT5.cell (p := ⟨N + 1, 3, none⟩) (World.block_lt_of_cell? w4 _ e4) (hne (by show N ≤ N + 1; omega))).trans e4
  have g5 := (hT5.cell (p := ⟨N + 1, 4, none⟩) (World.block_lt_of_cell? w4 _ e5) (hne (by show N ≤ N + 1; omega))).trans e5
  have hC4 := (HCT.out.later HWY.out).turned (F' := fullF p Fd4) hT4 (fun _ h => h) hF42
  have hC5 := hC4.turned (F' := fullF p Fd4) hT5 (fun b hb => .inr (.inl hb)) (fun _ h => .inl h)
  have hTw5 : Turned (fullF p Fd) w (w4.setCell ⟨p.s, 4, none⟩ (.bool true)) := (t0.trans hT4).trans (hT5.wide fun b hb => .inr (.inl hb))
  have HTW := Lib.hid hTw5
  have HS5 := Lib.hid hS5
  have HC5 := Lib.hid hC5
  have HF4 := Lib.hid (fun b (hb : Fd4 b) => (hF4 b hb).elim (fun h => (.inl h : Fd b ∨ w.heap.size ≤ b)) (fun h => .inr (Nat.le_trans HWY.out.size h)))
  have HCE := Lib.hid hcE
  clear hA hT4 hS4 hF4 hF42 e1 e2 e3 e4 e5 sf hT5 hS5 hne hC4 hC5 hTw5 t0 nN hUX hwU hB1w hgw hNN hcE h7
  go_upto_region 11 with fail
  generalize w4.setCell ⟨p.s, 4, none⟩ (.bool true) = w5 at g0 g1 g2 g3 g4 g5 HTW HS5 HC5 ⊢
  have hd5 := (Below.refl w5.heap.size w5).drew
  have HCL := Lib.hid (cloned_any w5.drew c p1 q1 n1 k1 m1 j1 (HC5.out.later hd5).t (HC5.out.later hd5).v hts hvs)
  unfold chV at HCL
  have KB := Lib.hid (fun (Y : World) (hb : Below w5.heap.size w5 Y) => (⟨(hb.cell (p := ⟨N, 0, none⟩) (World.block_lt_of_cell? w5 _ g0)).trans g0, (hb.cell (p := ⟨N + 1, 0, none⟩) (World.block_lt_of_cell? w5 _ g1)).trans g1, (hb.cell (p := ⟨N + 1, 1, none⟩) (World.block_lt_of_cell? w5 _ g2)).trans g2, (hb.cell (p := ⟨N + 1, 2, none⟩) (World.block_lt_of_cell? w5 _ g3)).trans g3, (hb.cell (p := ⟨N + 1, 3, none⟩) (World.block_lt_of_cell? w5 _ g4)).trans g4, (hb.cell (p := ⟨N + 1, 4, none⟩) (World.block_lt_of_cell? w5 _ g5)).trans g5⟩ :
    Y.cell? ⟨N, 0, none⟩ = some (.pointer (some ⟨p.s, 0, none⟩)) ∧ Y.cell? ⟨N + 1, 0, none⟩ = some (.int .i64 c.doc) ∧ Y.cell? ⟨N + 1, 1, none⟩ = some (.slice p1 n1 k1) ∧ Y.cell? ⟨N + 1, 2, none⟩ = some (.slice q1 m1 j1) ∧ Y.cell? ⟨N + 1, 3, none⟩ = some (.int .i64 c.tags) ∧ Y.cell? ⟨N + 1, 4, none⟩ = some (.bool c.gone)))
  have hml : ∀ B, N ≤ B → ¬ (B = p.ml ∨ B = p.mc) := fun B hB hb => by
    have h1 := HST.out.live.lt
    have h2 := HST.out.came.lt
    have h3 := HNE.out
    omega
  have KM := Lib.hid (fun (X Y : World) (hX : X.cell? ⟨N, 0, none⟩ = some (.pointer (some ⟨p.s, 0, none⟩)) ∧ X.cell? ⟨N + 1, 0, none⟩ = some (.int .i64 c.doc) ∧ X.cell? ⟨N + 1, 1, none⟩ = some (.slice p1 n1 k1) ∧ X.cell? ⟨N + 1, 2, none⟩ = some (.slice q1 m1 j1) ∧ X.cell? ⟨N + 1, 3, none⟩ = some (.int .i64 c.tags) ∧ X.cell? ⟨N + 1, 4, none⟩ = some (.bool c.gone)) (hT : Turned (fun b => b = p.ml ∨ b = p.mc) X Y) =>
    (⟨(hT.cell (p := ⟨N, 0, none⟩) (World.block_lt_of_cell? X _ hX.1) (hml _ (Nat.le_refl _))).trans hX.1, (hT.cell (p := ⟨N + 1, 0, none⟩) (World.block_lt_of_cell? X _ hX.2.1) (hml _ (Nat.le_succ _))).trans hX.2.1, (hT.cell (p := ⟨N + 1, 1, none⟩) (World.block_lt_of_cell? X _ hX.2.2.1) (hml _ (Nat.le_succ _))).trans hX.2.2.1, (hT.cell (p := ⟨N + 1, 2, none⟩) (World.block_lt_of_cell? X _ hX.2.2.2.1) (hml _ (Nat.le_succ _))).trans hX.2.2.2.1, (hT.cell (p := ⟨N + 1, 3, none⟩) (World.block_lt_of_cell? X _ hX.2.2.2.2.1) (hml _ (Nat.le_succ _))).trans hX.2.2.2.2.1, (hT.cell (p := ⟨N + 1, 4, none⟩) (World.block_lt_of_cell? X _ hX.2.2.2.2.2) (hml _ (Nat.le_succ _))).trans hX.2.2.2.2.2⟩ :
    Y.cell? ⟨N, 0, none⟩ = some (.pointer (some ⟨p.s, 0, none⟩)) ∧ Y.cell? ⟨N + 1, 0, none⟩ = some (.int .i64 c.doc) ∧ Y.cell? ⟨N + 1, 1, none⟩ = some (.slice p1 n1 k1) ∧ Y.cell? ⟨N + 1, 2, none⟩ = some (.slice q1 m1 j1) ∧ Y.cell? ⟨N + 1, 3, none⟩ = some (.int .i64 c.tags) ∧ Y.cell? ⟨N + 1, 4, none⟩ = some (.bool c.gone)))
  have HD5 := Lib.hid hd5
  have HDK := Lib.hid (docok HRC.out.symm)
  have HFL := Lib.hid (HS5.out.lt)
  clear c0 x0 x1 x2 x3 x4 e0 s4 sf4 hd5 hml
  go_region_held3 (fun Y => Y.cell? ⟨N, 0, none⟩ = some (.pointer (some ⟨p.s, 0, none⟩)) ∧ Y.cell? ⟨N + 1, 0, none⟩ = some (.int .i64 c.doc) ∧ Y.cell? ⟨N + 1, 1, none⟩ = some (.slice p1 n1 k1) ∧ Y.cell? ⟨N + 1, 2, none⟩ = some (.slice q1 m1 j1) ∧ Y.cell? ⟨N + 1, 3, none⟩ = some (.int .i64 c.tags) ∧ Y.cell? ⟨N + 1, 4, none⟩ = some (.bool c.gone))
    ((first | exact ⟨g0, g1, g2, g3, g4, g5⟩ | assumption | go_keep))
    (first
      | (go_at_call 36; ((with_reducible refine HCL.out.mono ?_); rintro e w6 ⟨p2, n2, k2, q2, m2, j2, rfl, ht, hv, nt, nv, hb6⟩; have hk6 := KB.out w6 (HD5.out.trans (hb6.mono HD5.out.size)); have HB6 := Lib.hid (HD5.out.trans (hb6.mono HD5.out.size)); have HC6 : Hid (Ct w6 (fullF p Fd4) c (.slice p2 n2 k2) (.slice q2 m2 j2)) := Lib.hid ⟨ht, hv, Away.new nt HFL.out, Away.new nv HFL.out⟩; have htk := take_any w6 Fd4 p R.1 f segs lg true lost lv st cm c (.slice p2 n2 k2) (.slice q2 m2 j2) (HS5.out.later HB6.out) HC6.out HDK.out hl hm; unfold chV at htk; have HTK := Lib.hid htk; clear ht hv nt nv hb6 htk))
      | (go_at_call 52; ((with_reducible refine HTK.out.mono ?_); rintro e w7 ⟨rfl, hT7, hS7⟩; have hk7 := KM.out w6 w7 hk6 hT7; have HT7 := Lib.hid hT7; have HS7 := Lib.hid hS7; clear hT7 hS7)))
  all_goals
    go_wp2
    go_ret
    refine ⟨0, rfl, .inr (.inr ⟨HRC.out.symm, HAC.out.symm, ?_, ?_⟩)⟩
    · rw [← HR.out]; exact HCE.out
    · rw [← HR.out]
      exact .inl ⟨rfl, (HTW.out.on HB6.out).trans (HT7.out.wide fun b hb => hb.elim (fun h => .inr (.inr (.inl h))) (fun h => .inr (.inr (.inr (.inr h))))), Fd4, HS7.out, HF4.out⟩
end Go.Proofs.YtddnnhfffmhpmaaGreatDoor.St

/- Flush. -/
namespace Go.Proofs.YtddnnhfffmhpmaaGreatDoor.St
open Go.RowKit Go.Proofs.YtddnnhfffmhpmaaGreatDoor DocM StoM Do
open VdM

set_option maxHeartbeats 8000000 in
set_option maxRecDepth 100000 in
theorem flush_any (w : World) (Fd : Nat → Prop) (p : Pl) (k : Dsk) (f : Nat) (segs : List Nat) (lg : Nat) (begun : Bool) (lv st cm : Chs) (h : StAt w Fd p k f segs lg begun false lv st cm) (hc0 : cm ≠ []) (hs : ∀ y ∈ segs, y < 100) (hsl : segs.length ≤ 1000) (hlg : lg ≤ 1000) (hcl : st.length + cm.length ≤ 1000000) (hrc : ∀ c ∈ cm, rightC c = 0)
    (k1 : Dsk) (R : World → World → Int → Prop) (hrep : ∀ (W : World) (A' : Option Addr) (n' cp' : Nat), Below w.heap.size w W → Ivs W A' n' (segs.map Int.ofNat ++ [(nextN segs : Int)]) → NewS w.heap.size (.slice A' n' cp') → Calls Tryz.prog 42 #[.pointer (some ⟨p.s, 0, none⟩), .agg #[.int .i64 (nextL lg begun : Int), .slice A' n' cp'], .map (some p.mc)] W fun e w' => ∃ c : Int, e = .returned (.int .i64 c) ∧ ((c = 0 ∧ At1 W Fd p k1 (nextL lg begun) (segs ++ [nextN segs]) lg begun false lv st cm w') ∨ (c ≠ 0 ∧ R W w' c))) :
    Calls Tryz.prog 21 #[.pointer (some ⟨p.s, 0, none⟩)] w fun e w' => ∃ c : Int, e = .returned (.int .i64 c) ∧ ((c = 0 ∧ At1 w Fd p k1 (nextL lg begun) (segs ++ [nextN segs]) (nextL lg begun) false false lv (doAll st cm) [] w') ∨ (c ≠ 0 ∧ ∃ W, Below w.heap.size w W ∧ R W w' c)) := by
  have hlen := len_run h.came
  have HNL := Lib.hid (fun W (hb : Below w.heap.size w W) => nextlog_any (h.later hb) (show lg ≤ 1000000 by omega))
  obtain ⟨A, n, cp, hI, -, hblk, s0, s1, s2, s3, s4, s5, s6, s7, s8, sf⟩ := h.cells
  have hnl : segs.length = n := by
    have := hI.1
    rw [List.length_map] at this
    exact this
  have HN := Lib.hid (fun W (hb : Below w.heap.size w W) => nextseg_any (f : Int) A n cp segs W (hI.later hb) hs (by omega))
  have HCL := Lib.hid (fun W (hb : Below w.heap.size w W) => cloneI_any (.slice A n cp) (segs.map Int.ofNat) W ⟨A, cp, by rw [List.length_map, hnl], by rw [List.length_map, hnl]; exact hI.later hb⟩ (by rw [List.length_map]; omega))
  have hnz : ((cm.length : Int) == 0) = false := by
    cases cm with
    | nil => exact absurd rfl hc0
    | cons a t => simp; omega
  obtain ⟨x, hx⟩ : ∃ x, x = nextN segs := ⟨_, rfl⟩
  rw [← hx] at HN hrep ⊢
  obtain ⟨NL, hNL⟩ : ∃ y, y = nextL lg begun := ⟨_, rfl⟩
  rw [← hNL] at HNL hrep ⊢
  obtain ⟨si, hsi⟩ : ∃ y, y = segs.map Int.ofNat := ⟨_, rfl⟩
  have hsil : si.length ≤ 1000 := by rw [hsi, List.length_map]; exact hsl
  rw [← hsi] at HCL hrep
  obtain ⟨ln, hln⟩ : ∃ ln, ln = cm.length := ⟨_, rfl⟩
  rw [← hln] at hlen hnz
  have HRP := Lib.hid hrep
  have HLI1 : Hid (si.length + 1 ≤ 1000000000) := Lib.hid (by omega)
  have HST := Lib.hid h
  clear h hblk hI hs hsl hx hln sf s0 s3 s4 s5 s6 hrep hNL hsi hsil hnl hc0
  go_enter Tryz.func21, Tryz.ntmps21
  go_upto_region 5 with fail
  have HSL : Hid (p.s < w.heap.size) := Lib.hid (World.block_lt_of_cell? w _ s1)
  have hbz := (pl1 w (.cells #[.int .i64 0, .slice none 0 0] 76))
  have HK0 : Hid (w.cell? ⟨p.s, 1, none⟩ = some (.int .i64 (f : Int)) ∧ w.cell? ⟨p.s, 2, none⟩ = some (.slice A n cp) ∧ Below w.heap.size w w) := Lib.hid ⟨s1, s2, Below.refl _ _⟩
  have HKa : Hid (w.drew.cell? ⟨p.s, 1, none⟩ = some (.int .i64 (f : Int)) ∧ w.drew.cell? ⟨p.s, 2, none⟩ = some (.slice A n cp) ∧ Below w.heap.size w w.drew) := Lib.hid (Kp.d2 s1 s2)
  have HKb : Hid ((w.alloc (.cells #[.int .i64 0, .slice none 0 0] 76)).drew.cell? ⟨p.s, 1, none⟩ = some (.int .i64 (f : Int)) ∧ (w.alloc (.cells #[.int .i64 0, .slice none 0 0] 76)).drew.cell? ⟨p.s, 2, none⟩ = some (.slice A n cp) ∧ Below w.heap.size w (w.alloc (.cells #[.int .i64 0, .slice none 0 0] 76)).drew) := Lib.hid (Kp.c2 (Below.refl _ _).drew (Kp.a2 HK0.out))
  have HZB : Hid (ZB (w.alloc (.cells #[.int .i64 0, .slice none 0 0] 76)).drew w.heap.size) := Lib.hid (heap_alloc_new w _)
  clear hbz hlen s7 s8
  go_cut [3] (fun t wx => NextM w (NL : Int) (si ++ [(x : Int)]) t wx)
  case first =>
    go_region_held3 (fun Y => Y.cell? ⟨p.s, 1, none⟩ = some (.int .i64 (f : Int)) ∧ Y.cell? ⟨p.s, 2, none⟩ = some (.slice A n cp) ∧ Below w.heap.size w Y)
      ((first | exact HKa.out | exact HKb.out | exact hk2 | exact hk3 | exact hk4 | exact Kp.a2 HK0.out | exact Kp.a2 hk2 | exact Kp.a2 hk3 | exact Kp.a2 (Kp.a2 hk3) | exact Kp.a2 hk4 | exact Kp.a2 (Kp.a2 hk4) | exact st2 hk4 (Nat.le_refl _) HSL.out HSL.out | exact st2 hk4 hk2.2.2.size HSL.out HSL.out | exact st2 hk4 hk3.2.2.size HSL.out HSL.out | exact st2 hk4 (Nat.le_succ_of_le hk3.2.2.size) HSL.out HSL.out | assumption | go_keep))
      (first
        | (go_at_call 39; ((with_reducible refine (HNL.out _ (by first | exact HKa.out.2.2 | exact HKb.out.2.2)).mono ?_); rintro e w2 ⟨rfl, rfl⟩))
        | (go_at_call 40; ((with_reducible refine (HCL.out _ (by first | exact HKa.out.2.2 | exact HKb.out.2.2)).mono ?_); rintro e w2 ⟨A2, n2, cp2, rfl, hrow2, hb2⟩; have hk2 : w2.cell? ⟨p.s, 1, none⟩ = some (.int .i64 (f : Int)) ∧ w2.cell? ⟨p.s, 2, none⟩ = some (.slice A n cp) ∧ Below w.heap.size w w2 := (by first | exact Kp.c2 hb2 HKa.out | exact Kp.c2 hb2 HKb.out); have HR2 : Hid (IvRow w2 w.heap.size (.slice A2 n2 cp2) si) := Lib.hid (hrow2.wider (by first | exact HKa.out.2.2.size | exact HKb.out.2.2.size)); (try (have kz : ZB w2 w.heap.size := blk_stay hb2 HZB.out))))
        | (go_at_call 41; ((with_reducible refine (HN.out _ (by first | exact hk2.2.2 | exact (Kp.a2 hk2).2.2)).mono ?_); rintro e w3 ⟨rfl, hb3⟩; have hk3 : w3.cell? ⟨p.s, 1, none⟩ = some (.int .i64 (f : Int)) ∧ w3.cell? ⟨p.s, 2, none⟩ = some (.slice A n cp) ∧ Below w.heap.size w w3 := (by first | exact Kp.c2 hb3 hk2 | exact Kp.c2 hb3 (Kp.a2 hk2)); have HR3 : Hid (IvRow w3 w.heap.size (.slice A2 n2 cp2) si) := Lib.hid (by first | exact HR2.out.later hb3 | exact (HR2.out.alloc _).later hb3); (try (have kz : ZB w3 _ := (by first | exact blk_stay hb3 kz | exact blk_stay hb3 (heap_alloc_new w2 _))))))
        | (refine step_ivsB (U := w) (w := w3.alloc (.cells #[.int .i64 (x : Int)] 3)) (Kp.a2 hk3).2.2 (by rfl) (.tmp 24) (.tmp 30) (by rfl) (.slice A2 n2 cp2) si (by rfl) (HR3.out.alloc (.cells #[.int .i64 (x : Int)] 3)) (some ⟨_, 0, none⟩) 1 1 [(x : Int)] (by rfl) (ivs_new1 w3 x) (by intro e; cases e) HLI1.out ?_; intro v4 w4 own4 bel4 sz4 kp4; have hk4 : w4.cell? ⟨p.s, 1, none⟩ = some (.int .i64 (f : Int)) ∧ w4.cell? ⟨p.s, 2, none⟩ = some (.slice A n cp) ∧ Below w.heap.size w w4 := ⟨(bel4.cell (p := ⟨p.s, 1, none⟩) HSL.out).trans s1, (bel4.cell (p := ⟨p.s, 2, none⟩) HSL.out).trans s2, bel4⟩; have HK4 := Lib.hid hk4; (try (have kz4 := zb_row (blk_stay (pl1 w3 (.cells #[.int .i64 (x : Int)] 3)) kz) (HR3.out.alloc (.cells #[.int .i64 (x : Int)] 3)) kp4; have HZ4 := Lib.hid kz4; obtain ⟨z0, z1, zf0, zf1⟩ := zb_cells kz4)); obtain ⟨A3, n3, cp3, rfl, iv4⟩ := ivrow_shape own4; have HI4 := Lib.hid iv4; have HO4 := Lib.hid own4; clear own4 bel4 sz4 kp4 iv4; try simp only [Act.put, List.setIfInBounds_toArray, List.set_cons_zero, List.set_cons_succ])
        | (refine step_ivsB (U := w) (w := (w3.alloc (.cells #[.int .i64 0, .slice none 0 0] 76)).alloc (.cells #[.int .i64 (x : Int)] 3)) (Kp.a2 (Kp.a2 hk3)).2.2 (by rfl) (.tmp 24) (.tmp 30) (by rfl) (.slice A2 n2 cp2) si (by rfl) ((HR3.out.alloc (.cells #[.int .i64 0, .slice none 0 0] 76)).alloc (.cells #[.int .i64 (x : Int)] 3)) (some ⟨_, 0, none⟩) 1 1 [(x : Int)] (by rfl) (ivs_new2 w3 (.cells #[.int .i64 0, .slice none 0 0] 76) x) (by intro e; cases e) HLI1.out ?_; intro v4 w4 own4 bel4 sz4 kp4; have hk4 : w4.cell? ⟨p.s, 1, none⟩ = some (.int .i64 (f : Int)) ∧ w4.cell? ⟨p.s, 2, none⟩ = some (.slice A n cp) ∧ Below w.heap.size w w4 := ⟨(bel4.cell (p := ⟨p.s, 1, none⟩) HSL.out).trans s1, (bel4.cell (p := ⟨p.s, 2, none⟩) HSL.out).trans s2, bel4⟩; have HK4 := Lib.hid hk4; have kz4 := zb_row (blk_stay (pl1 (w3.alloc (.cells #[.int .i64 0, .slice none 0 0] 76)) (.cells #[.int .i64 (x : Int)] 3)) (heap_alloc_new w3 (.cells #[.int .i64 0, .slice none 0 0] 76))) ((HR3.out.alloc (.cells #[.int .i64 0, .slice none 0 0] 76)).alloc (.cells #[.int .i64 (x : Int)] 3)) kp4; have HZ4 := Lib.hid kz4; obtain ⟨z0, z1, zf0, zf1⟩ := zb_cells kz4; obtain ⟨A3, n3, cp3, rfl, iv4⟩ := ivrow_shape own4; have HI4 := Lib.hid iv4; have HO4 := Lib.hid own4; clear own4 bel4 sz4 kp4 iv4; try simp only [Act.put, List.setIfInBounds_toArray, List.set_cons_zero, List.set_cons_succ])
        | (refine step_ivsB (U := w) (w := (w3.alloc (.cells #[.int .i64 (x : Int)] 3)).alloc (.cells #[.int .i64 0, .slice none 0 0] 76)) (Kp.a2 (Kp.a2 hk3)).2.2 (by rfl) (.tmp 24) (.tmp 30) (by rfl) (.slice A2 n2 cp2) si (by rfl) ((HR3.out.alloc (.cells #[.int .i64 (x : Int)] 3)).alloc (.cells #[.int .i64 0, .slice none 0 0] 76)) (some ⟨_, 0, none⟩) 1 1 [(x : Int)] (by rfl) ((ivs_new1 w3 x).later (pl1 (w3.alloc (.cells #[.int .i64 (x : Int)] 3)) (.cells #[.int .i64 0, .slice none 0 0] 76))) (by intro e; cases e) HLI1.out ?_; intro v4 w4 own4 bel4 sz4 kp4; have hk4 : w4.cell? ⟨p.s, 1, none⟩ = some (.int .i64 (f : Int)) ∧ w4.cell? ⟨p.s, 2, none⟩ = some (.slice A n cp) ∧ Below w.heap.size w w4 := ⟨(bel4.cell (p := ⟨p.s, 1, none⟩) HSL.out).trans s1, (bel4.cell (p := ⟨p.s, 2, none⟩) HSL.out).trans s2, bel4⟩; have HK4 := Lib.hid hk4; have kz4 := zb_row (zb_next w3 (.cells #[.int .i64 (x : Int)] 3)) ((HR3.out.alloc (.cells #[.int .i64 (x : Int)] 3)).alloc (.cells #[.int .i64 0, .slice none 0 0] 76)) kp4; have HZ4 := Lib.hid kz4; obtain ⟨z0, z1, zf0, zf1⟩ := zb_cells kz4; obtain ⟨A3, n3, cp3, rfl, iv4⟩ := ivrow_shape own4; have HI4 := Lib.hid iv4; have HO4 := Lib.hid own4; clear own4 bel4 sz4 kp4 iv4; try simp only [Act.put, List.setIfInBounds_toArray, List.set_cons_zero, List.set_cons_succ]))
    all_goals
      go_wp2_with fail
      go_meet
      first
        | exact nextm_new HO4.out HI4.out HK4.out.2.2
        | exact nextm_set HZ4.out (Nat.le_refl _) HO4.out HI4.out HK4.out.2.2
        | exact nextm_set HZ4.out hk2.2.2.size HO4.out HI4.out HK4.out.2.2
        | exact nextm_set HZ4.out hk3.2.2.size HO4.out HI4.out HK4.out.2.2
        | exact nextm_set HZ4.out (Nat.le_succ_of_le hk3.2.2.size) HO4.out HI4.out HK4.out.2.2
  case rest =>
    obtain ⟨m, A3, n3, cp3, rfl, hm, hI3, hN3, hgm, hb⟩ := hcut
    have hbd := hb.drew
    have s7 := (HST.out.later hb).c7
    have m0 := cell_of_cells hm (i := 0) rfl
    have m1 := cell_of_cells hm (i := 1) rfl
    have HC := Lib.hid (HRP.out wc.drew A3 n3 cp3 hbd (hI3.later (Below.refl _ _).drew) hN3)
    have HM := Lib.hid hm
    have HGM := Lib.hid hgm
    have HBD := Lib.hid hbd
    clear hI3 hN3 hb hbd hm hgm
    go_upto_region 6 with fail
    go_cut [4] (fun y wx => ∃ c : Int, y = .int .i64 c ∧ ((c = 0 ∧ At1 wc.drew Fd p k1 NL (segs ++ [x]) lg begun false lv st cm wx) ∨ (c ≠ 0 ∧ R wc.drew wx c)))
    case first =>
      go_region_with ((with_reducible refine HC.out.mono ?_); rintro e w3 ⟨c, rfl, hR⟩; have HR := Lib.hid hR; clear hR)
      all_goals
        go_wp2_with fail
        go_meet
        exact ⟨c, rfl, HR.out⟩
    case rest =>
      obtain ⟨c, rfl, hR⟩ := hcut
      rcases hR with ⟨rfl, hA⟩ | ⟨hc, hR⟩
      rotate_left
      · have hcb : (c != 0) = true := by simpa using hc
        have HRR := Lib.hid hR
        have HCC := Lib.hid hc
        clear hR hc
        go_wp2
        go_ret
        exact ⟨c, rfl, .inr ⟨HCC.out, _, HBD.out, HRR.out⟩⟩
      obtain ⟨hT, F', hS, hF⟩ := hA
      have e0 : wc.cell? ⟨m, 0, none⟩ = some (.int .i64 (NL : Int)) := (hT.cell (p := ⟨m, 0, none⟩) (World.block_lt_of_cell? _ _ (cell_of_cells (blk_stay (Below.refl _ _).drew HM.out) (i := 0) rfl)) (fun hb => by
        have h1 : m < w.heap.size := HST.out.lt m hb
        have h2 := HGM.out
        omega)).trans (cell_of_cells (blk_stay (Below.refl _ _).drew HM.out) (i := 0) rfl)
      have sf3 := hS.fr 3
      have z3 := hS.c3
      have z4 := hS.c4
      have z7 := hS.c7
      obtain ⟨hTl, hSl⟩ := hS.log_ (lg' := NL)
      have tf4 := hSl.fr 4
      obtain ⟨hTb, hSb⟩ := hSl.begun_ (begun' := false)
      have y7 := hSb.c7
      have hTw : Turned (fullF p Fd) w ((wc.setCell ⟨p.s, 3, none⟩ (.int .i64 (NL : Int))).setCell ⟨p.s, 4, none⟩ (.bool false)) := (((Turned.of_below HBD.out).trans hT).trans (hTl.wide fun b hb => .inr (.inl hb))).trans (hTb.wide fun b hb => .inr (.inl hb))
      have hFw : ∀ b, F' b → Fd b ∨ w.heap.size ≤ b := fun b hb => (hF b hb).elim .inl (fun h => .inr (Nat.le_trans HBD.out.size h))
      obtain ⟨D, T, hown, hrep, hri, hct⟩ := id hSb.came
      obtain ⟨nn, hnn⟩ : ∃ n, n = cm.length := ⟨_, rfl⟩
      rw [← hnn] at hown
      have HSB := Lib.hid hSb
      have HTW := Lib.hid hTw
      have HFW := Lib.hid hFw
      have HREP := Lib.hid hrep
      have HRI := Lib.hid hri
      have HCT := Lib.hid hct
      have HRC := Lib.hid hrc
      have HLC := Lib.hid hcl
      clear hT hS hF hTl hSl hTb hSb hTw hFw hrep hri hct hrc hcl hnn HM HGM HBD HC m0 m1 s7 hnz HK0 HKa HKb HZB HRP HLI1 HN HNL HCL HSL s1 s2 hlg
      go_wp2_with (at_range; refine wpList_range_own _ rfl _ 74 rfl 3 35 Ks.key_law Tryz.underlying74 _ p.mc nn _ rfl hown ?_; intro w0 hrg0 hg0 hs0)
      have HB0 : Hid (Below ((wc.setCell ⟨p.s, 3, none⟩ (.int .i64 (NL : Int))).setCell ⟨p.s, 4, none⟩ (.bool false)).heap.size ((wc.setCell ⟨p.s, 3, none⟩ (.int .i64 (NL : Int))).setCell ⟨p.s, 4, none⟩ (.bool false)) w0) := Lib.hid ((Below.refl _ _).grown hg0 (Nat.le_refl _) (fun q hq => by cases hq))
      clear hg0 hs0 sf3 z3 z4 z7 tf4 y7 e0 hown
      generalize (wc.setCell ⟨p.s, 3, none⟩ (.int .i64 (NL : Int))).setCell ⟨p.s, 4, none⟩ (.bool false) = W2 at HSB HTW HCT HB0 hrg0 ⊢
      obtain ⟨r, hrE⟩ : ∃ r, r = W2.heap.size := ⟨_, rfl⟩
      rw [← hrE]
      rw [← hrE] at hrg0
      have HRE := Lib.hid hrE
      clear hrE
      go_frame
      go_loopw [] (fun wr => ∃ (left : Lit → Bool) (cnt : Nat) (cur : Chs), Rng wr p.mc r nn D left cnt ∧ Doing left st cm cur ∧ MapAt wr (fullF p (plusF F' r)) p.ms cur ∧ Turned (fun b => b = p.ms) W2 wr) (fun wr => wr.rangeLeft p.mc r)
      case atStart => exact ⟨_, _, st, hrg0, Doing.start HREP.out HSB.out.settled.rise, (HSB.out.beside HB0.out (by rw [HRE.out]; exact Nat.le_refl _) (World.ranges.lt hrg0)).settled, Turned.of_below HB0.out⟩
      case round =>
        obtain ⟨left, cnt, cur, hrg, hdo, hmp, hTm⟩ := hrel
        have hcl := hdo.len
        have HDO := Lib.hid hdo
        have HMP := Lib.hid hmp
        have HTM := Lib.hid hTm
        have HRG := Lib.hid hrg
        have HCL := Lib.hid hcl
        clear hdo hmp hTm hcl
        go_wp2_with (at_next; refine wpList_next_change rfl _ rfl p.mc r nn D T cm left cnt rfl hrg HREP.out ?_ ?_)
        · intro hc0 hl0
          have hcur := HDO.out.end_ HSB.out.settled.rise HRI.out hl0
          have hSr := HSB.out.settles HTM.out (HMP.out.less fun x hx => hx.elim (fun h => .inl (.inl h)) .inr)
          rw [hcur] at hSr
          obtain ⟨w9, run9, m9, g9⟩ := clear_run hSr.came
          have T9 : Turned (fun b => b = p.mc) wr w9 := Turned.of_grown g9 rfl
          have z7 := hSr.c7
          have hS9 := hSr.comes T9 m9
          have HE := Lib.hid (show At1 w Fd p k1 NL (segs ++ [x]) NL false false lv (doAll st cm) [] w9 from ⟨(HTW.out.trans (HTM.out.wide fun b hb => .inr (.inr (.inr (.inl hb))))).trans (T9.wide fun b hb => .inr (.inr (.inr (.inr hb)))), F', hS9, HFW.out⟩)
          clear hc0 hl0 hcur hSr m9 g9 T9 hS9 hrg
          go_wp2
          go_ret
          exact ⟨0, rfl, .inl ⟨rfl, HE.out⟩⟩
        · intro c p1 q1 n2 i2 m2 j2 w1 cnt1 hlk hlf hTd hrg1 hlt hg1 hs1 hen
          have hTr : Turned (fun b => b = r) wr w1 := Turned.of_grown hg1 rfl
          have hT1 : Turned (fun b => b = p.ms) W2 w1 := HTM.out.from_new (hTr.wide fun b hb => .inr (by rw [hb, HRE.out]; exact Nat.le_refl _))
          have hct := (HCT.out c.doc c hlk).turned (F' := fullF p (plusF F' r)) hT1 (fun b hb => .inr (.inr (.inr (.inl hb)))) (fun b hb => by
            rcases hb with (hb | hb) | hb
            · exact .inl (.inl hb)
            · exact .inr (by rw [hb, HRE.out]; exact Nat.le_refl _)
            · exact .inl (.inr hb))
          rw [hTd] at hct
          simp only at hct
          have hrm : r ≠ p.ms := fun e => by
            have h1 := HSB.out.settled.lt
            have h2 := HRE.out
            omega
          have hM1 := HMP.out.turned (F' := fullF p (plusF F' r)) hTr (fun e => hrm e.symm) (fun b hb => .inl (.inr hb)) (fun _ h => .inl h)
          have hcr := HRC.out c (lk_doc hlk).2
          have hln := HLC.out
          have hln2 := HCL.out
          have HDO2 : Hid (∀ W, Below w1.heap.size w1 W → Calls Tryz.prog 43 #[.map (some p.ms), chV c (.slice p1 n2 i2) (.slice q1 m2 j2)] W fun e w' => e = .returned (.tuple #[]) ∧ MapAt w' (fullF p (plusF F' r)) p.ms (doC c cur) ∧ Turned (fun x => x = p.ms) W w') := Lib.hid (fun W hb =>
            do_any W (fullF p (plusF F' r)) p.ms cur c _ _ (hM1.later hb) (.inr (.inr (.inr (.inl rfl)))) (hct.later hb) (docok hcr) (by omega))
          have HN := Lib.hid (HDO.out.next hlk)
          have HG1 := Lib.hid hrg1
          have HLT := Lib.hid hlt
          have HT1 := Lib.hid hT1
          have HRM := Lib.hid hrm
          have z6 := (hT1.cell (p := ⟨p.s, 6, none⟩) (World.block_lt_of_cell? _ _ HSB.out.c6) HSB.out.sm.2.1).trans HSB.out.c6
          unfold chV at HDO2 hen ⊢
          clear hTr hct hM1 hcr hln hln2 hrg1 hlt hg1 hs1 hT1 hrm hlk hlf hTd hrg
          go_upto_region 13 with fail
          have hbX := pl1 w1 (.cells #[.int .i64 c.doc, .slice p1 n2 i2, .slice q1 m2 j2, .int .i64 c.tags, .bool c.gone] 35)
          have hbk := heap_alloc_new w1 (.cells #[.int .i64 c.doc, .slice p1 n2 i2, .slice q1 m2 j2, .int .i64 c.tags, .bool c.gone] 35)
          have z6 := (hbX.cell (p := ⟨p.s, 6, none⟩) (World.block_lt_of_cell? _ _ z6)).trans z6
          obtain ⟨N, hN⟩ : ∃ N, N = w1.heap.size := ⟨_, rfl⟩
          rw [← hN] at hbk ⊢
          have hNm : N ≠ p.ms := fun e => by
            have h1 := HSB.out.settled.lt
            have h2 := HT1.out.size
            omega
          have HBX := Lib.hid hbX
          have HNM := Lib.hid hNm
          clear hbX hN hen hNm
          generalize w1.alloc (.cells #[.int .i64 c.doc, .slice p1 n2 i2, .slice q1 m2 j2, .int .i64 c.tags, .bool c.gone] 35) = X at hbk HBX z6 ⊢
          have c0 : X.cell? ⟨N, 0, none⟩ = some (.int .i64 c.doc) := cell_of_cells hbk rfl
          have c1 : X.cell? ⟨N, 1, none⟩ = some (.slice p1 n2 i2) := cell_of_cells hbk rfl
          have c2 : X.cell? ⟨N, 2, none⟩ = some (.slice q1 m2 j2) := cell_of_cells hbk rfl
          have c3 : X.cell? ⟨N, 3, none⟩ = some (.int .i64 c.tags) := cell_of_cells hbk rfl
          have c4 : X.cell? ⟨N, 4, none⟩ = some (.bool c.gone) := cell_of_cells hbk rfl
          have HBD : Hid (Below w1.heap.size w1 X.drew) := Lib.hid HBX.out.drew
          have HSM := Lib.hid HSB.out.sm.2.1
          have HKK : Hid (∀ Y, Turned (fun x => x = p.ms) X.drew Y → Y.cell? ⟨p.s, 6, none⟩ = some (.map (some p.ms)) ∧ Y.cell? ⟨N, 0, none⟩ = some (.int .i64 c.doc) ∧ Y.cell? ⟨N, 1, none⟩ = some (.slice p1 n2 i2) ∧ Y.cell? ⟨N, 2, none⟩ = some (.slice q1 m2 j2) ∧ Y.cell? ⟨N, 3, none⟩ = some (.int .i64 c.tags) ∧ Y.cell? ⟨N, 4, none⟩ = some (.bool c.gone)) := Lib.hid (fun Y hT =>
            ⟨(hT.cell (p := ⟨p.s, 6, none⟩) (World.block_lt_of_cell? X _ z6) HSM.out).trans z6, (hT.cell (p := ⟨N, 0, none⟩) (World.block_lt_of_cell? X _ c0) HNM.out).trans c0, (hT.cell (p := ⟨N, 1, none⟩) (World.block_lt_of_cell? X _ c1) HNM.out).trans c1, (hT.cell (p := ⟨N, 2, none⟩) (World.block_lt_of_cell? X _ c2) HNM.out).trans c2, (hT.cell (p := ⟨N, 3, none⟩) (World.block_lt_of_cell? X _ c3) HNM.out).trans c3, (hT.cell (p := ⟨N, 4, none⟩) (World.block_lt_of_cell? X _ c4) HNM.out).trans c4⟩)
          clear hbk
          go_region_held3 (fun Y => Y.cell? ⟨p.s, 6, none⟩ = some (.map (some p.ms)) ∧ Y.cell? ⟨N, 0, none⟩ = some (.int .i64 c.doc) ∧ Y.cell? ⟨N, 1, none⟩ = some (.slice p1 n2 i2) ∧ Y.cell? ⟨N, 2, none⟩ = some (.slice q1 m2 j2) ∧ Y.cell? ⟨N, 3, none⟩ = some (.int .i64 c.tags) ∧ Y.cell? ⟨N, 4, none⟩ = some (.bool c.gone))
            ((first | exact ⟨z6, c0, c1, c2, c3, c4⟩ | assumption | go_keep))
            (first
              | (go_at_call 43; ((with_reducible refine (HDO2.out _ HBD.out).mono ?_); rintro e w3 ⟨rfl, hm3, hT3⟩; have hk3 := HKK.out w3 hT3)))
          all_goals
            have hT13 : Turned (fun x => x = p.ms) w1 w3 := (Turned.of_below HBD.out).trans hT3
            have hG3 := Rng.turned HG1.out hT13 (fun e => HSB.out.sc e.symm) HRM.out
            have HF := Lib.hid (And.intro hG3 (And.intro hm3 (HT1.out.trans hT13)))
            clear hT13 hG3 hm3 hT3
            go_wp2
            go_roundw
            case rel => exact ⟨_, cnt1, _, HF.out.1, HN.out, HF.out.2.1, HF.out.2.2⟩
            case measure =>
              rw [World.ranges.left_eq HF.out.1, World.ranges.left_eq HRG.out]
              exact HLT.out
end Go.Proofs.YtddnnhfffmhpmaaGreatDoor.St
