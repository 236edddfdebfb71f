/- Own texts, merged (3 of 5). -/
import Derived.Deep.QuietTactic
import Derived.BigQuiet
import Derived.OwnWalk
import Derived.Laws.Pointers
import Derived.Deep.RegionHeld3
import Derived.Deep.RegionLaw
import Derived.Deep.AppendLies
import Derived.Shelf.SlGeneric
import Derived.Shelf.SlLaysF0
import Derived.Test.YtneofgaklofigaaRows
import Derived.Shelf.SlSortCmp.NoneTotal
import Derived.Laws.AppendOwnNone
import Derived.Laws.OwnMore
import Derived.Maps.OwnSet
import Derived.Maps.RangeWalk
import Derived.WalkKit
import Derived.Deep.Slices
import Derived.Test.YtneofgaklofigaaMgO2

/- The heap's first moved down. -/
namespace Go.Proofs.Ytneofgaklofigaa.Fu
open Go.RowKit Go.Proofs.Ytneofgaklofigaa FuM

/-- of what was looked at w is the worst -/
def SkT (hr : List FV) (i wst bl : Nat) : Prop :=
  wst < hr.length ∧ (wst = i ∨ (2 * i + 1 ≤ wst ∧ wst < bl)) ∧ FuM.bet (FuM.at_ hr wst) (FuM.at_ hr i) = false ∧ ∀ j, 2 * i + 1 ≤ j → j < bl → j < hr.length → FuM.bet (FuM.at_ hr wst) (FuM.at_ hr j) = false
theorem sk_start (hr : List FV) (i : Nat) (hi : i < hr.length) : SkT hr i i (2 * i + 1) := ⟨hi, .inl rfl, FuM.irr _, fun j h1 h2 => by omega⟩
theorem sk_yes {hr : List FV} {i wst bl : Nat} (h : SkT hr i wst bl) (hb : bl < hr.length) (h2 : 2 * i + 1 ≤ bl) (hbt : FuM.bet (FuM.at_ hr wst) (FuM.at_ hr bl) = true) : SkT hr i bl (bl + 1) := by
  obtain ⟨a, b, c, d⟩ := h
  have hn := FuM.asy hbt
  refine ⟨hb, .inr ⟨h2, by omega⟩, FuM.ntr hn c, fun j h1 h3 h4 => ?_⟩
  by_cases e : j = bl
  · subst e; exact FuM.irr _
  · exact FuM.ntr hn (d j h1 (by omega) h4)
theorem sk_no {hr : List FV} {i wst bl : Nat} (h : SkT hr i wst bl) (hbt : FuM.bet (FuM.at_ hr wst) (FuM.at_ hr bl) = false) : SkT hr i wst (bl + 1) := by
  obtain ⟨a, b, c, d⟩ := h
  refine ⟨a, ?_, c, fun j h1 h3 h4 => ?_⟩
  · rcases b with h | h
    · exact .inl h
    · exact .inr ⟨h.1, by omega⟩
  · by_cases e : j = bl
    · subst e; exact hbt
    · exact d j h1 (by omega) h4
theorem sk_all {hr : List FV} {i wst bl : Nat} (h : SkT hr i wst bl) (hb : bl = 2 * i + 3 ∨ hr.length ≤ bl) : ∀ j, 0 < j → j < hr.length → FuM.par j = i → FuM.bet (FuM.at_ hr wst) (FuM.at_ hr j) = false := by
  intro j h0 hj hp
  unfold FuM.par at hp
  exact h.2.2.2 j (by omega) (by omega) hj

set_option maxHeartbeats 8000000 in
set_option maxRecDepth 100000 in
theorem sink_any (base t k : Nat) (v : Value) (h : List FV) (n : Nat) (w : World) (hx : TopAt w base t k v h) (hn : h.length = n) (hn0 : 0 < n) (hu : FuM.Dn h 0) (hl : n ≤ 1000000000) :
    Calls Try.prog 39 #[.pointer (some ⟨t, 0, none⟩)] w fun e w' => e = .returned (.tuple #[]) ∧ ∃ h', TopAt w' base t k v h' ∧ FuM.Heap h' ∧ h'.Perm h ∧ Only (own2 t v) w w' := by
  have HN := Lib.hid hn
  clear hn
  go_enter Try.func39, Try.ntmps39
  go_wp2
  go_loopw [2] (fun x wr => ∃ (i : Nat) (hr : List FV), x = .int .i64 i ∧ i < n ∧ hr.length = n ∧ TopAt wr base t k v hr ∧ FuM.Dn hr i ∧ hr.Perm h ∧ Only (own2 t v) w wr) (fun x _ => n - (intOf x).toNat)
  case atStart => exact ⟨0, h, by go_num, hn0, HN.out, hx, hu, List.Perm.refl _, Only.refl _ _⟩
  case round =>
    clear hu hx
    obtain ⟨i, hr, rfl, hi, hrn, xr, ur, pr, onl⟩ := hrel
    have HRN := Lib.hid hrn
    have HUR := Lib.hid ur
    clear hrn ur
    go_wp2
    go_loopw [3, 4] (fun x y wr => ∃ wst bl : Nat, x = .int .i64 wst ∧ y = .int .i64 bl ∧ 2 * i + 1 ≤ bl ∧ bl ≤ 2 * i + 3 ∧ SkT hr i wst bl ∧ TopAt wr base t k v hr ∧ Only (own2 t v) w wr) (fun _ y _ => 2 * i + 3 - (intOf y).toNat)
    case atStart => exact ⟨i, 2 * i + 1, rfl, by go_num, by omega, by omega, sk_start hr i (by rw [HRN.out]; exact hi), xr, onl⟩
    case round =>
      clear xr onl
      obtain ⟨wst, bl, rfl, rfl, hb1, hb3, sk, xs, ons⟩ := hrel
      have hwn : wst < n := by have := sk.1; rw [HRN.out] at this; exact this
      have SK := Lib.hid sk
      obtain ⟨g2, cap2, hv2, hbg2, hg2, hcap2, hfz2, hc2⟩ := xs.row.cells (by rw [HRN.out]; omega)
      have c0 := xs.c0
      have c1 : wr.cell? ⟨t, 1, none⟩ = some (.func (.func 11) #[] #[]) := xs.c1
      have c2 := xs.c2
      rw [hv2, HRN.out] at c2
      rw [HRN.out] at hcap2
      by_cases hlt : bl ≤ 2 * i + 2 ∧ bl < n
      · obtain ⟨hl1, hl2⟩ := hlt
        have hd1 : decide ((bl : Int) ≤ 2 * (i : Int) + 2) = true := decide_eq_true (by omega)
        have hd2 : decide ((bl : Int) < (n : Int)) = true := decide_eq_true (by omega)
        have hd3 : decide (bl < n) = true := decide_eq_true hl2
        obtain ⟨ci0, ci1, ci2⟩ := hc2 bl (by rw [HRN.out]; exact hl2)
        obtain ⟨cp0, cp1, cp2⟩ := hc2 wst (by rw [HRN.out]; exact hwn)
        have ai := FuM.at_get (show bl < hr.length by rw [HRN.out]; exact hl2)
        have ap := FuM.at_get (show wst < hr.length by rw [HRN.out]; exact hwn)
        rw [← ai] at ci0 ci1 ci2
        rw [← ap] at cp0 cp1 cp2
        obtain ⟨x, hxe⟩ : ∃ x, x = FuM.at_ hr wst := ⟨_, rfl⟩
        obtain ⟨y, hye⟩ : ∃ y, y = FuM.at_ hr bl := ⟨_, rfl⟩
        rw [← hye] at ci0 ci1 ci2
        rw [← hxe] at cp0 cp1 cp2
        have hbt := fun W => better_any x y W
        unfold sv at hbt
        have HI : Hid (FuM.bet (FuM.at_ hr wst) (FuM.at_ hr bl) = FuM.bet x y) := Lib.hid (by rw [hxe, hye])
        have hb0 : (0 : Int) ≤ (bl : Int) := by omega
        have hw0 : (0 : Int) ≤ (wst : Int) := by omega
        have hbn : (bl : Int) < (n : Int) := by omega
        have hwn' : (wst : Int) < (n : Int) := by omega
        clear ai ap hxe hye hc2 hfz2 hv2 sk
        obtain ⟨r, hr'⟩ : ∃ r, FuM.bet x y = r := ⟨_, rfl⟩
        rw [hr'] at hbt HI
        have HB := Lib.hid hbt
        clear hbt hr'
        cases r with
        | true =>
          go_wp2
          go_still_tail 18, (by kernel_rfl)
          change wpList _ _ _ _ _ wr.drew
          have xd := xs.drew
          have od := ons.drew
          clear xs ons
          generalize wr.drew = w2 at xd od ⊢
          clear c0 c1 c2 ci0 ci1 ci2 cp0 cp1 cp2
          go_wp2_with fail
          refine (HB.out _).mono ?_
          rintro e w3 ⟨rfl, hb3⟩
          have x3 := xd.later hb3.low
          have ol3 := od.later hb3.low od.size
          clear xd od hb3
          go_wp2
          go_roundw
          case rel => exact ⟨bl, bl + 1, rfl, by go_num, by omega, by omega, sk_yes SK.out (by rw [HRN.out]; exact hl2) hb1 HI.out, x3, ol3⟩
          case measure => simp [intOf]; omega
        | false =>
          go_wp2
          go_still_tail 18, (by kernel_rfl)
          change wpList _ _ _ _ _ wr.drew
          have xd := xs.drew
          have od := ons.drew
          clear xs ons
          generalize wr.drew = w2 at xd od ⊢
          clear c0 c1 c2 ci0 ci1 ci2 cp0 cp1 cp2
          go_wp2_with fail
          refine (HB.out _).mono ?_
          rintro e w3 ⟨rfl, hb3⟩
          have x3 := xd.later hb3.low
          have ol3 := od.later hb3.low od.size
          clear xd od hb3
          go_wp2
          go_roundw
          case rel => exact ⟨wst, bl + 1, rfl, by go_num, by omega, by omega, sk_no SK.out HI.out, x3, ol3⟩
          case measure => simp [intOf]; omega
      · have hall := Lib.hid (sk_all sk (by rw [HRN.out]; omega))
        clear hc2 hfz2 hv2 sk
        by_cases hwi : wst = i
        · subst hwi
          have hH := Lib.hid (FuM.dn_end HUR.out hall.out)
          by_cases hl1 : bl ≤ 2 * wst + 2
          · have hd1 : decide ((bl : Int) ≤ 2 * (wst : Int) + 2) = true := decide_eq_true (by omega)
            have hd2 : decide ((bl : Int) < (n : Int)) = false := decide_eq_false (by omega)
            have hd3 : decide (bl < n) = false := decide_eq_false (by omega)
            go_wp2
            exact bodyPost_ret (v := .tuple #[]) (by simp [results, Try.results39, go_sem]) rfl ⟨rfl, hr, xs, hH.out, pr, ons⟩
          · have hd1 : decide ((bl : Int) ≤ 2 * (wst : Int) + 2) = false := decide_eq_false (by omega)
            go_wp2
            exact bodyPost_ret (v := .tuple #[]) (by simp [results, Try.results39, go_sem]) rfl ⟨rfl, hr, xs, hH.out, pr, ons⟩
        · have hwc : FuM.par wst = i ∧ 0 < wst ∧ i < wst := by
            rcases SK.out.2.1 with h | h
            · exact absurd h hwi
            · unfold FuM.par; omega
          have HWC := Lib.hid hwc.1
          obtain ⟨_, hw0, hiw⟩ := hwc
          have hde : ((wst : Int) == (i : Int)) = false := by simp; omega
          have hsw := fun W hW => swap_any base t k v hr i wst W hW (by rw [HRN.out]; exact hi) (by rw [HRN.out]; exact hwn) (by omega) (by rw [HRN.out]; omega)
          have HSW := Lib.hid hsw
          clear hsw
          by_cases hl1 : bl ≤ 2 * i + 2
          · have hd1 : decide ((bl : Int) ≤ 2 * (i : Int) + 2) = true := decide_eq_true (by omega)
            have hd2 : decide ((bl : Int) < (n : Int)) = false := decide_eq_false (by omega)
            have hd3 : decide (bl < n) = false := decide_eq_false (by omega)
            go_wp2_with fail
            refine (HSW.out _ xs).mono ?_
            rintro e w4 ⟨rfl, x4, o4⟩
            have ol4 := ons.trans o4
            clear xs ons o4 c0 c1 c2
            go_wp2
            go_roundw
            case rel =>
              exact ⟨wst, _, rfl, hwn, by rw [FuM.swp_len, HRN.out], x4, FuM.dn_step HUR.out (by rw [HRN.out]; exact hi) SK.out.1 hw0 HWC.out SK.out.2.2.1 hall.out, (FuM.swp_perm hr i wst (by rw [HRN.out]; exact hi) SK.out.1).trans pr, ol4⟩
            case measure => simp [intOf]; omega
          · have hd1 : decide ((bl : Int) ≤ 2 * (i : Int) + 2) = false := decide_eq_false (by omega)
            go_wp2_with fail
            refine (HSW.out _ xs).mono ?_
            rintro e w4 ⟨rfl, x4, o4⟩
            have ol4 := ons.trans o4
            clear xs ons o4 c0 c1 c2
            go_wp2
            go_roundw
            case rel =>
              exact ⟨wst, _, rfl, hwn, by rw [FuM.swp_len, HRN.out], x4, FuM.dn_step HUR.out (by rw [HRN.out]; exact hi) SK.out.1 hw0 HWC.out SK.out.2.2.1 hall.out, (FuM.swp_perm hr i wst (by rw [HRN.out]; exact hi) SK.out.1).trans pr, ol4⟩
            case measure => simp [intOf]; omega
end Go.Proofs.Ytneofgaklofigaa.Fu

/- The worst of a bound; how many it keeps. -/
namespace Go.Proofs.Ytneofgaklofigaa.Fu
open Go.RowKit Go.Proofs.Ytneofgaklofigaa FuM

theorem TopAt.drewN {w : World} {base t k : Nat} {v : Value} {h : List FV} (x : TopAt w base t k v h) (n : Nat) : TopAt (w.drewN n) base t k v h := ⟨x.old, x.blk, x.row⟩

theorem bdrewN {B : Nat} {a w : World} (h : Below B a w) (n : Nat) : Below B a (w.drewN n) := ⟨h.os, h.tape, h.output, h.size, h.block⟩
/-- are k kept? -/
def fullB (k : Nat) (h : List FV) : Bool := decide (0 < k) && decide (k ≤ h.length)

set_option maxHeartbeats 4000000 in
set_option maxRecDepth 100000 in
theorem worst_no (base t k : Nat) (v : Value) (h : List FV) (w : World) (hx : TopAt w base t k v h) (hf : fullB k h = false) :
    Calls Try.prog 38 #[.pointer (some ⟨t, 0, none⟩)] w fun e w' => e = .returned (.tuple #[.agg #[.int .i64 0, .int .i64 0, .int .i64 0], .bool false]) ∧ Below w.heap.size w w' := by
  obtain ⟨A, cap, rfl, hcap, hA⟩ := hx.row.form
  have c0 := hx.c0
  have c2 := hx.c2
  obtain ⟨n, hn⟩ : ∃ n, n = h.length := ⟨_, rfl⟩
  unfold fullB at hf
  rw [← hn] at c2 hf
  have ht := hx.lt
  clear hx hA hcap hn
  by_cases h0 : k = 0
  · subst h0
    clear hf
    have hd : (((0 : Nat) : Int) == 0) = true := by decide
    go_enter Try.func38, Try.ntmps38
    go_wp2
    go_quiet (fail)
    go_wp2
    exact bodyPost_ret (v := .tuple #[.agg #[.int .i64 0, .int .i64 0, .int .i64 0], .bool false]) (by simp [results, Try.results38, go_sem]) rfl ⟨rfl, (((((bdrewN ((Below.refl _ w).alloc (Nat.le_refl _) _) _).setCell (Nat.le_refl _) _).setCell (Nat.le_refl _) _).setCell (Nat.le_refl _) _).alloc (by simp) _)⟩
  · have hlt : n < k := by
      simp at hf; omega
    have hd : ((k : Int) == 0) = false := by simp; omega
    have hd1 : decide ((n : Int) < (k : Int)) = true := decide_eq_true (by omega)
    have hd2 : decide (n < k) = true := decide_eq_true (by omega)
    clear hf
    go_enter Try.func38, Try.ntmps38
    go_wp2
    go_quiet (fail)
    go_wp2
    exact bodyPost_ret (v := .tuple #[.agg #[.int .i64 0, .int .i64 0, .int .i64 0], .bool false]) (by simp [results, Try.results38, go_sem]) rfl ⟨rfl, (((((bdrewN ((Below.refl _ w).alloc (Nat.le_refl _) _) _).setCell (Nat.le_refl _) _).setCell (Nat.le_refl _) _).setCell (Nat.le_refl _) _).alloc (by simp) _)⟩
set_option maxHeartbeats 4000000 in
set_option maxRecDepth 100000 in
theorem worst_yes (base t k : Nat) (v : Value) (h : List FV) (w : World) (hx : TopAt w base t k v h) (hf : fullB k h = true) :
    Calls Try.prog 38 #[.pointer (some ⟨t, 0, none⟩)] w fun e w' => e = .returned (.tuple #[sv (FuM.at_ h 0), .bool true]) ∧ Below w.heap.size w w' := by
  unfold fullB at hf
  simp at hf
  obtain ⟨g, cap, hv, hbg, hg, hcap, hfz, hc⟩ := hx.row.cells (by omega)
  have c0 := hx.c0
  have c2 := hx.c2
  obtain ⟨x0, x1, x2⟩ := hc 0 (by omega)
  have ai := FuM.at_get (show 0 < h.length by omega)
  rw [← ai] at x0 x1 x2
  obtain ⟨x, hxe⟩ : ∃ x, x = FuM.at_ h 0 := ⟨_, rfl⟩
  rw [← hxe] at x0 x1 x2 ⊢
  rw [Nat.zero_mul] at x0 x1 x2
  obtain ⟨n, hn⟩ : ∃ n, n = h.length := ⟨_, rfl⟩
  rw [hv, ← hn] at c2
  rw [← hn] at hf hcap
  obtain ⟨hf0, hf1⟩ := hf
  have ht := hx.lt
  have hd : ((k : Int) == 0) = false := by simp; omega
  have hd1 : decide ((n : Int) < (k : Int)) = false := decide_eq_false (by omega)
  have hd2 : decide (n < k) = false := decide_eq_false (by omega)
  have hn0 : (0 : Int) < (n : Int) := by omega
  have hn0' : 0 < n := by omega
  clear hx hc hfz ai hxe hn hv
  go_enter Try.func38, Try.ntmps38
  go_wp2
  go_quiet (fail)
  go_wp2
  exact bodyPost_ret (v := .tuple #[sv x, .bool true]) (by simp [results, Try.results38, go_sem, sv]) rfl ⟨rfl, ((((bdrewN ((Below.refl _ w).alloc (Nat.le_refl _) _) _).setCell (Nat.le_refl _) _).setCell (Nat.le_refl _) _).setCell (Nat.le_refl _) _)⟩
end Go.Proofs.Ytneofgaklofigaa.Fu

/- One more is offered. -/
namespace Go.Proofs.Ytneofgaklofigaa.Fu
open Go.RowKit Go.Proofs.Ytneofgaklofigaa FuM

theorem keepAc {w : World} {o : Obj} {b i : Nat} {u : Value} (hc : w.cell? ⟨b, i, none⟩ = some u) (h : b < w.heap.size) : (w.alloc o).drew.cell? ⟨b, i, none⟩ = some u := (((Below.refl w.heap.size w).alloc (Nat.le_refl _) o).drew.cell (p := ⟨b, i, none⟩) h).trans hc
theorem keepAf {w : World} {o : Obj} {b i : Nat} {u : Bool} (hc : w.frozen? ⟨b, i, none⟩ = u) (h : b < w.heap.size) : (w.alloc o).drew.frozen? ⟨b, i, none⟩ = u := (((Below.refl w.heap.size w).alloc (Nat.le_refl _) o).drew.frozen (p := ⟨b, i, none⟩) h).trans hc
theorem laid_room {w2 w3 : World} {base t k n gg cap3 : Nat} {v : Value} {h : List FV} {p : FV} {o : Obj} (hx : TopAt w2 base t k v h) (hn : n = h.length)
    (hown3 : w3.ownsRow base 35 3 (.slice (some ⟨gg, 0, none⟩) (n + 1) cap3) (n + 1) (h.flatMap enc3 ++ enc3 p)) (hgrow : (w2.alloc o).drew.grownBy w3 v.ownBlock) (hat : v.ownBlock = some gg ∨ gg = w2.heap.size + 1) :
    TopAt (w3.setCell ⟨t, 2, none⟩ (.slice (some ⟨gg, 0, none⟩) (n + 1) cap3)) base t k (.slice (some ⟨gg, 0, none⟩) (n + 1) cap3) (h ++ [p]) ∧
    Only (own2 t v) w2 (w3.setCell ⟨t, 2, none⟩ (.slice (some ⟨gg, 0, none⟩) (n + 1) cap3)) ∧ (v.ownBlock = some gg ∨ w2.heap.size ≤ gg) := by
  have hne := hx.ne
  have hlt := hx.lt
  have hgt : gg ≠ t := by
    rintro rfl
    rcases hat with e | e
    · exact hne e
    · omega
  have hb3 : w3.heap[t]? = w2.heap[t]? := (hgrow.block t (by simp; omega) (Ne.symm hne)).trans (Below.heap_alloc w2 o t hlt)
  refine ⟨⟨hx.old, ?_, ?_⟩, ?_, ?_⟩
  · exact heap_setCell_row (hb3.trans hx.blk) 2 _
  · have hr : FRow w3 base (.slice (some ⟨gg, 0, none⟩) (n + 1) cap3) (h ++ [p]) := by
      unfold FRow
      rw [List.length_append, List.flatMap_append, ← hn]
      simpa using hown3
    refine hr.kept fun g hg => Below.heap_setCell w3 _ _ g (fun e => hgt ?_)
    have e2 : gg = g := by simpa [Value.ownBlock] using hg
    rw [e2]
    exact e
  · have h1 : Only (own2 t v) w2 w3 := ((Only.refl (own2 t v) w2).alloc o).drew.trans (Only.of_grown hgrow (fun b hb => .inr hb))
    exact h1.set_ (.inl rfl) 2 _
  · rcases hat with e | e
    · exact .inl e
    · exact .inr (by omega)
set_option maxHeartbeats 4000000 in
set_option maxRecDepth 100000 in
theorem offer_room (base t k : Nat) (v : Value) (h : List FV) (p : FV) (w : World) (hx : TopAt w base t k v h) (hh : FuM.Heap h) (hl : h.length ≤ 1000000) (hk : h.length < k) :
    Calls Try.prog 26 #[.pointer (some ⟨t, 0, none⟩), sv p] w fun e w' => e = .returned (.bool true) ∧ ∃ v' h', TopAt w' base t k v' h' ∧ FuM.Heap h' ∧ h'.Perm (h ++ [p]) ∧ Only (own2 t v) w w' ∧ ∀ b, v'.ownBlock = some b → v.ownBlock = some b ∨ w.heap.size ≤ b := by
  obtain ⟨A, cap, hv, hcap, hA⟩ := hx.row.form
  unfold sv
  obtain ⟨n, hn⟩ : ∃ n, n = h.length := ⟨_, rfl⟩
  have hb1 : Below w.heap.size w (w.alloc (.cells #[.int .i64 p.1.1, .int .i64 p.1.2.1, .int .i64 p.1.2.2] 35)) := (Below.refl _ w).alloc (Nat.le_refl _) _
  have x1 := hx.later hb1
  have z0 : (w.alloc (.cells #[.int .i64 p.1.1, .int .i64 p.1.2.1, .int .i64 p.1.2.2] 35)).cell? ⟨w.heap.size, 0, none⟩ = some (.int .i64 p.1.1) := by go_simp
  have z1 : (w.alloc (.cells #[.int .i64 p.1.1, .int .i64 p.1.2.1, .int .i64 p.1.2.2] 35)).cell? ⟨w.heap.size, 1, none⟩ = some (.int .i64 p.1.2.1) := by go_simp
  have z2 : (w.alloc (.cells #[.int .i64 p.1.1, .int .i64 p.1.2.1, .int .i64 p.1.2.2] 35)).cell? ⟨w.heap.size, 2, none⟩ = some (.int .i64 p.1.2.2) := by go_simp
  have hs1 : w.heap.size < (w.alloc (.cells #[.int .i64 p.1.1, .int .i64 p.1.2.1, .int .i64 p.1.2.2] 35)).heap.size := by simp
  have hd1 : decide ((n : Int) < (k : Int)) = true := decide_eq_true (by omega)
  have hd2 : decide (n < k) = true := decide_eq_true (by omega)
  have htw := hx.lt
  have hov : ∀ b, v.ownBlock = some b → b < w.heap.size := fun b hb => (World.ownsRow.lt hx.row b hb).2
  have HL := Lib.hid hl
  have HN := Lib.hid hn
  have HV := Lib.hid hv
  clear hx hn hv hl hk
  go_enter Try.func26, Try.ntmps26
  go_wp2
  obtain ⟨B, hB⟩ : ∃ B, B = w.heap.size := ⟨_, rfl⟩
  rw [← hB] at z0 z1 z2 hs1 ⊢
  generalize w.alloc (.cells #[.int .i64 p.1.1, .int .i64 p.1.2.1, .int .i64 p.1.2.2] 35) = w1 at hb1 x1 z0 z1 z2 hs1 ⊢
  have c0 := x1.c0
  have c2 := x1.c2
  rw [HV.out, ← HN.out] at c2
  go_quiet (fail)
  have x2 := x1.drewN nq
  have hb2 := bdrewN hb1 nq
  have s2 : B < (w1.drewN nq).heap.size := hs1
  have y0 : (w1.drewN nq).cell? ⟨B, 0, none⟩ = some (.int .i64 p.1.1) := z0
  have y1 : (w1.drewN nq).cell? ⟨B, 1, none⟩ = some (.int .i64 p.1.2.1) := z1
  have y2 : (w1.drewN nq).cell? ⟨B, 2, none⟩ = some (.int .i64 p.1.2.2) := z2
  clear x1 hb1 z0 z1 z2 c0 c2 hs1
  generalize w1.drewN nq = w2 at x2 hb2 y0 y1 y2 s2 ⊢
  go_wp2
  obtain ⟨i0, hi0, hz0, hz1, hz2⟩ := info_parts fv_info
  have hown : w2.ownsRow base 35 3 v n (h.flatMap enc3) := by have := x2.row; unfold FRow at this; rw [← HN.out] at this; exact this
  have hbase : base ≤ w2.heap.size := Nat.le_trans x2.old (Nat.le_of_lt x2.lt)
  have htl := x2.lt
  have c2 := x2.c2
  have f2 := x2.f2 2
  have ag := x2.ne
  have ak : v.ownBlock ≠ some B := fun e => by have := hov B e; omega
  rw [HV.out] at hown c2 ag ak
  rw [← HN.out] at hown c2 ag ak
  have hn1 : n ≤ 1000000 := by rw [HN.out]; exact HL.out
  have HX := Lib.hid x2
  clear x2
  have HB := Lib.hid hB
  have hBt : B ≠ t := by omega
  clear hB
  go_region_law
    ((refine step_append_lies _ (by rfl) _ _ _ (by rfl) base 35 i0 _ 3 24 Try.underlying24 hi0 hz0 hz1 hz2 rfl (by omega) (.slice A n cap) n (h.flatMap enc3) (by rfl) ((hown.alloc _).drew)
        ⟨w2.heap.size, 0, none⟩ 1 1 [.int .i64 p.1.1, .int .i64 p.1.2.1, .int .i64 p.1.2.2] (by rfl) (by rfl) (World.news_of_block (cs := #[.int .i64 p.1.1, .int .i64 p.1.2.1, .int .i64 p.1.2.2]) (t := 35) (fr := (0, 0)) (heap_alloc_new w2 _)) (by simp [Value.oneCell'])
        (by omega) (by simp [maxLen]; omega) (by omega) (by simp; omega) (w2.heap.size + 1) (by simp) ?_; intro gg cap3 w3 hown3 hgrow hat hlt; have k2 := (hgrow.cell_far ⟨t, 2, none⟩ (by simp; omega) (Ne.symm ag)).trans (keepAc c2 htl); have k2f := (hgrow.frozen_far ⟨t, 2, none⟩ (by simp; omega) (Ne.symm ag)).trans (keepAf f2 htl)))
  all_goals
    obtain ⟨x4, o4, hat4⟩ := laid_room (p := p) HX.out HN.out hown3 (by rw [HV.out, ← HN.out]; exact hgrow) (by rw [HV.out, ← HN.out]; exact hat)
    clear hown3 hgrow hat hlt k2 k2f c2 f2 y0 y1 y2 htl hown
    generalize w3.setCell ⟨t, 2, none⟩ (.slice (some ⟨gg, 0, none⟩) (n + 1) cap3) = w4 at x4 o4 ⊢
    have hup := FuM.up_start hh p
    have hlen : (h ++ [p]).length = n + 1 := by rw [HN.out]; simp
    have hrise := rise_any base t k (.slice (some ⟨gg, 0, none⟩) (n + 1) cap3) (h ++ [p]) (n + 1) w4 x4 hlen (by omega) (by rw [Nat.add_sub_cancel, HN.out]; exact hup) (by omega)
    have HH := Lib.hid hup
    have HLEN := Lib.hid hlen
    have HR := Lib.hid hrise
    clear hup hlen hrise x4
    go_wp2_with fail
    refine HR.out.mono ?_
    rintro e w5 ⟨rfl, h', x5, hh5, hp5, o5⟩
    go_wp2
    go_ret
    have hsz := hb2.size
    have o24 : Only (own2 t v) w w4 := (Only.of_below _ hb2).trans o4
    refine ⟨rfl, _, h', x5, hh5, hp5, o24.from_new (o5.wide fun b hb => ?_), fun b hb => ?_⟩
    · rcases hb with e | e
      · exact .inl (.inl e)
      · have e2 : gg = b := by simpa [Value.ownBlock] using e
        rw [← e2]
        rcases hat4 with h | h
        · exact .inl (.inr h)
        · exact .inr (by omega)
    · have e2 : gg = b := by simpa [Value.ownBlock] using hb
      rw [← e2]
      rcases hat4 with h | h
      · exact .inl h
      · exact .inr (by omega)
end Go.Proofs.Ytneofgaklofigaa.Fu

/- One more is offered where as many are kept as may be. -/
namespace Go.Proofs.Ytneofgaklofigaa.Fu
open Go.RowKit Go.Proofs.Ytneofgaklofigaa FuM

set_option maxHeartbeats 4000000 in
set_option maxRecDepth 100000 in
theorem offer_none (base t : Nat) (v : Value) (h : List FV) (p : FV) (w : World) (hx : TopAt w base t 0 v h) :
    Calls Try.prog 26 #[.pointer (some ⟨t, 0, none⟩), sv p] w fun e w' => e = .returned (.bool false) ∧ Below w.heap.size w w' := by
  obtain ⟨A, cap, hv, hcap, hA⟩ := hx.row.form
  unfold sv
  obtain ⟨n, hn⟩ : ∃ n, n = h.length := ⟨_, rfl⟩
  have hb1 : Below w.heap.size w (w.alloc (.cells #[.int .i64 p.1.1, .int .i64 p.1.2.1, .int .i64 p.1.2.2] 35)) := (Below.refl _ w).alloc (Nat.le_refl _) _
  have x1 := hx.later hb1
  have hd1 : decide ((n : Int) < ((0 : Nat) : Int)) = false := decide_eq_false (by omega)
  have hd2 : decide (n < 0) = false := decide_eq_false (by omega)
  have hw : ∀ W (hW : TopAt W base t 0 v h), _ := fun W hW => worst_no base t 0 v h W hW (by unfold fullB; simp)
  have HW := Lib.hid hw
  have HN := Lib.hid hn
  have HV := Lib.hid hv
  clear hx hn hv hw
  go_enter Try.func26, Try.ntmps26
  go_wp2
  generalize w.alloc (.cells #[.int .i64 p.1.1, .int .i64 p.1.2.1, .int .i64 p.1.2.2] 35) = w1 at hb1 x1 ⊢
  have c0 := x1.c0
  have c2 := x1.c2
  rw [HV.out, ← HN.out] at c2
  go_quiet (fail)
  have x2 := x1.drewN nq
  have hb2 := bdrewN hb1 nq
  clear x1 hb1 c0 c2
  generalize w1.drewN nq = w2 at x2 hb2 ⊢
  go_wp2_with fail
  refine (HW.out _ x2).mono ?_
  rintro e w3 ⟨rfl, hb3⟩
  have hb := hb2.trans (hb3.mono hb2.size)
  clear hb2 hb3 x2
  go_wp2
  go_quiet (fail)
  go_wp2
  go_ret
  exact ⟨rfl, bdrewN (hb.alloc hb.size _) _⟩

set_option maxHeartbeats 4000000 in
set_option maxRecDepth 100000 in
theorem offer_no (base t k : Nat) (v : Value) (h : List FV) (p : FV) (w : World) (hx : TopAt w base t k v h) (hk : 0 < k) (hl : k ≤ h.length) (hbt : FuM.bet p (FuM.at_ h 0) = false) :
    Calls Try.prog 26 #[.pointer (some ⟨t, 0, none⟩), sv p] w fun e w' => e = .returned (.bool false) ∧ Below w.heap.size w w' := by
  obtain ⟨A, cap, hv, hcap, hA⟩ := hx.row.form
  obtain ⟨n, hn⟩ : ∃ n, n = h.length := ⟨_, rfl⟩
  have hd1 : decide ((n : Int) < (k : Int)) = false := decide_eq_false (by omega)
  have hd2 : decide (n < k) = false := decide_eq_false (by omega)
  have hw : ∀ W (hW : TopAt W base t k v h), _ := fun W hW => worst_yes base t k v h W hW (by unfold fullB; simp; omega)
  have hbet := fun W => better_any p (FuM.at_ h 0) W
  rw [hbt] at hbet
  obtain ⟨q, hq⟩ : ∃ q, q = FuM.at_ h 0 := ⟨_, rfl⟩
  rw [← hq] at hw hbet
  unfold sv at *
  have hb1 : Below w.heap.size w (w.alloc (.cells #[.int .i64 p.1.1, .int .i64 p.1.2.1, .int .i64 p.1.2.2] 35)) := (Below.refl _ w).alloc (Nat.le_refl _) _
  have x1 := hx.later hb1
  have z0 : (w.alloc (.cells #[.int .i64 p.1.1, .int .i64 p.1.2.1, .int .i64 p.1.2.2] 35)).cell? ⟨w.heap.size, 0, none⟩ = some (.int .i64 p.1.1) := by go_simp
  have z1 : (w.alloc (.cells #[.int .i64 p.1.1, .int .i64 p.1.2.1, .int .i64 p.1.2.2] 35)).cell? ⟨w.heap.size, 1, none⟩ = some (.int .i64 p.1.2.1) := by go_simp
  have z2 : (w.alloc (.cells #[.int .i64 p.1.1, .int .i64 p.1.2.1, .int .i64 p.1.2.2] 35)).cell? ⟨w.heap.size, 2, none⟩ = some (.int .i64 p.1.2.2) := by go_simp
  have hs1 : w.heap.size < (w.alloc (.cells #[.int .i64 p.1.1, .int .i64 p.1.2.1, .int .i64 p.1.2.2] 35)).heap.size := by simp
  have HW := Lib.hid hw
  have HN := Lib.hid hn
  have HV := Lib.hid hv
  have HBT := Lib.hid hbet
  clear hx hn hv hw hbet hbt hq hk hl
  go_enter Try.func26, Try.ntmps26
  go_wp2
  obtain ⟨B, hB⟩ : ∃ B, B = w.heap.size := ⟨_, rfl⟩
  rw [← hB] at z0 z1 z2 hs1 ⊢
  have HB := Lib.hid hB
  generalize w.alloc (.cells #[.int .i64 p.1.1, .int .i64 p.1.2.1, .int .i64 p.1.2.2] 35) = w1 at hb1 x1 z0 z1 z2 hs1 ⊢
  clear hB
  have c0 := x1.c0
  have c2 := x1.c2
  rw [HV.out, ← HN.out] at c2
  go_quiet (fail)
  have x2 := x1.drewN nq
  have hb2 := bdrewN hb1 nq
  have s2 : B < (w1.drewN nq).heap.size := hs1
  have y0 : (w1.drewN nq).cell? ⟨B, 0, none⟩ = some (.int .i64 p.1.1) := z0
  have y1 : (w1.drewN nq).cell? ⟨B, 1, none⟩ = some (.int .i64 p.1.2.1) := z1
  have y2 : (w1.drewN nq).cell? ⟨B, 2, none⟩ = some (.int .i64 p.1.2.2) := z2
  clear x1 hb1 z0 z1 z2 c0 c2 hs1
  generalize w1.drewN nq = w2 at x2 hb2 y0 y1 y2 s2 ⊢
  go_wp2_with fail
  refine (HW.out _ x2).mono ?_
  rintro e w3 ⟨rfl, hb3⟩
  have hb := hb2.trans (hb3.mono hb2.size)
  have y0 := (hb3.cell (p := ⟨B, 0, none⟩) s2).trans y0
  have y1 := (hb3.cell (p := ⟨B, 1, none⟩) s2).trans y1
  have y2 := (hb3.cell (p := ⟨B, 2, none⟩) s2).trans y2
  have x3 := x2.later hb3
  have s3 : B < w3.heap.size := Nat.lt_of_lt_of_le s2 hb3.size
  clear hb2 hb3 x2 s2
  have hs4 := x3.lt
  have c1 : w3.cell? ⟨t, 1, none⟩ = some (.func (.func 11) #[] #[]) := x3.c1
  have hb4 : Below w3.heap.size w3 (w3.alloc (.cells #[.int .i64 q.1.1, .int .i64 q.1.2.1, .int .i64 q.1.2.2] 35)) := (Below.refl _ w3).alloc (Nat.le_refl _) _
  have u0 : (w3.alloc (.cells #[.int .i64 q.1.1, .int .i64 q.1.2.1, .int .i64 q.1.2.2] 35)).cell? ⟨w3.heap.size, 0, none⟩ = some (.int .i64 q.1.1) := by go_simp
  have u1 : (w3.alloc (.cells #[.int .i64 q.1.1, .int .i64 q.1.2.1, .int .i64 q.1.2.2] 35)).cell? ⟨w3.heap.size, 1, none⟩ = some (.int .i64 q.1.2.1) := by go_simp
  have u2 : (w3.alloc (.cells #[.int .i64 q.1.1, .int .i64 q.1.2.1, .int .i64 q.1.2.2] 35)).cell? ⟨w3.heap.size, 2, none⟩ = some (.int .i64 q.1.2.2) := by go_simp
  have s4 : w3.heap.size < (w3.alloc (.cells #[.int .i64 q.1.1, .int .i64 q.1.2.1, .int .i64 q.1.2.2] 35)).heap.size := by simp
  go_wp2
  obtain ⟨C, hC⟩ : ∃ C, C = w3.heap.size := ⟨_, rfl⟩
  rw [← hC] at u0 u1 u2 s4 ⊢
  have HC := Lib.hid hC
  have b0 := (hb4.cell (p := ⟨B, 0, none⟩) s3).trans y0
  have b1 := (hb4.cell (p := ⟨B, 1, none⟩) s3).trans y1
  have b2 := (hb4.cell (p := ⟨B, 2, none⟩) s3).trans y2
  have x4 := x3.later hb4
  have hbw := hb.trans (hb4.mono hb.size)
  have s5 : B < (w3.alloc (.cells #[.int .i64 q.1.1, .int .i64 q.1.2.1, .int .i64 q.1.2.2] 35)).heap.size := Nat.lt_of_lt_of_le s3 hb4.size
  clear y0 y1 y2 x3 hb hb4 c1 s3 hC hs4
  generalize w3.alloc (.cells #[.int .i64 q.1.1, .int .i64 q.1.2.1, .int .i64 q.1.2.2] 35) = w4 at u0 u1 u2 s4 b0 b1 b2 x4 hbw s5 ⊢
  have hs4 := x4.lt
  have c1 : w4.cell? ⟨t, 1, none⟩ = some (.func (.func 11) #[] #[]) := x4.c1
  have HX4 := Lib.hid x4
  clear x4
  go_region_held3 (fun w' => w'.cell? ⟨t, 1, none⟩ = some (.func (.func 11) #[] #[]) ∧ w'.cell? ⟨B, 0, none⟩ = some (.int .i64 p.1.1) ∧ w'.cell? ⟨B, 1, none⟩ = some (.int .i64 p.1.2.1) ∧ w'.cell? ⟨B, 2, none⟩ = some (.int .i64 p.1.2.2) ∧ w'.cell? ⟨C, 0, none⟩ = some (.int .i64 q.1.1) ∧ w'.cell? ⟨C, 1, none⟩ = some (.int .i64 q.1.2.1) ∧ w'.cell? ⟨C, 2, none⟩ = some (.int .i64 q.1.2.2))
    (first
      | exact ⟨keep_m hb5 c1, keep_m hb5 b0, keep_m hb5 b1, keep_m hb5 b2, keep_m hb5 u0, keep_m hb5 u1, keep_m hb5 u2⟩
      | go_keep)
    ((first | ((with_reducible refine (HBT.out _).mono ?_); rintro e w5 ⟨rfl, hb5⟩)))
  have hbz : Below w.heap.size w w5 := hbw.drew.trans (hb5.low.mono hbw.size)
  go_wp2
  go_ret
  exact ⟨rfl, hbz⟩
set_option maxHeartbeats 4000000 in
set_option maxRecDepth 100000 in
theorem offer_yes (base t k : Nat) (v : Value) (h : List FV) (p : FV) (w : World) (hx : TopAt w base t k v h) (hk : 0 < k) (hl : k ≤ h.length) (hh : FuM.Heap h) (hl6 : h.length ≤ 1000000) (hbt : FuM.bet p (FuM.at_ h 0) = true) :
    Calls Try.prog 26 #[.pointer (some ⟨t, 0, none⟩), sv p] w fun e w' => e = .returned (.bool true) ∧ ∃ h', TopAt w' base t k v h' ∧ FuM.Heap h' ∧ h'.Perm (h.set 0 p) ∧ Only (own2 t v) w w' := by
  obtain ⟨A, cap, hv, hcap, hA⟩ := hx.row.form
  obtain ⟨n, hn⟩ : ∃ n, n = h.length := ⟨_, rfl⟩
  have hd1 : decide ((n : Int) < (k : Int)) = false := decide_eq_false (by omega)
  have hd2 : decide (n < k) = false := decide_eq_false (by omega)
  have hw : ∀ W (hW : TopAt W base t k v h), _ := fun W hW => worst_yes base t k v h W hW (by unfold fullB; simp; omega)
  have hbet := fun W => better_any p (FuM.at_ h 0) W
  rw [hbt] at hbet
  obtain ⟨q, hq⟩ : ∃ q, q = FuM.at_ h 0 := ⟨_, rfl⟩
  rw [← hq] at hw hbet
  unfold sv at *
  have hb1 : Below w.heap.size w (w.alloc (.cells #[.int .i64 p.1.1, .int .i64 p.1.2.1, .int .i64 p.1.2.2] 35)) := (Below.refl _ w).alloc (Nat.le_refl _) _
  have x1 := hx.later hb1
  have z0 : (w.alloc (.cells #[.int .i64 p.1.1, .int .i64 p.1.2.1, .int .i64 p.1.2.2] 35)).cell? ⟨w.heap.size, 0, none⟩ = some (.int .i64 p.1.1) := by go_simp
  have z1 : (w.alloc (.cells #[.int .i64 p.1.1, .int .i64 p.1.2.1, .int .i64 p.1.2.2] 35)).cell? ⟨w.heap.size, 1, none⟩ = some (.int .i64 p.1.2.1) := by go_simp
  have z2 : (w.alloc (.cells #[.int .i64 p.1.1, .int .i64 p.1.2.1, .int .i64 p.1.2.2] 35)).cell? ⟨w.heap.size, 2, none⟩ = some (.int .i64 p.1.2.2) := by go_simp
  have hs1 : w.heap.size < (w.alloc (.cells #[.int .i64 p.1.1, .int .i64 p.1.2.1, .int .i64 p.1.2.2] 35)).heap.size := by simp
  have HW := Lib.hid hw
  have HN := Lib.hid hn
  have HV := Lib.hid hv
  have HBT := Lib.hid hbet
  have HL := Lib.hid hl6
  have hn0 : 0 < n := by omega
  clear hx hn hv hw hbet hbt hq hk hl hl6
  go_enter Try.func26, Try.ntmps26
  go_wp2
  obtain ⟨B, hB⟩ : ∃ B, B = w.heap.size := ⟨_, rfl⟩
  rw [← hB] at z0 z1 z2 hs1 ⊢
  have HB := Lib.hid hB
  generalize w.alloc (.cells #[.int .i64 p.1.1, .int .i64 p.1.2.1, .int .i64 p.1.2.2] 35) = w1 at hb1 x1 z0 z1 z2 hs1 ⊢
  clear hB
  have c0 := x1.c0
  have c2 := x1.c2
  rw [HV.out, ← HN.out] at c2
  go_quiet (fail)
  have x2 := x1.drewN nq
  have hb2 := bdrewN hb1 nq
  have s2 : B < (w1.drewN nq).heap.size := hs1
  have y0 : (w1.drewN nq).cell? ⟨B, 0, none⟩ = some (.int .i64 p.1.1) := z0
  have y1 : (w1.drewN nq).cell? ⟨B, 1, none⟩ = some (.int .i64 p.1.2.1) := z1
  have y2 : (w1.drewN nq).cell? ⟨B, 2, none⟩ = some (.int .i64 p.1.2.2) := z2
  clear x1 hb1 z0 z1 z2 c0 c2 hs1
  generalize w1.drewN nq = w2 at x2 hb2 y0 y1 y2 s2 ⊢
  go_wp2_with fail
  refine (HW.out _ x2).mono ?_
  rintro e w3 ⟨rfl, hb3⟩
  have hb := hb2.trans (hb3.mono hb2.size)
  have y0 := (hb3.cell (p := ⟨B, 0, none⟩) s2).trans y0
  have y1 := (hb3.cell (p := ⟨B, 1, none⟩) s2).trans y1
  have y2 := (hb3.cell (p := ⟨B, 2, none⟩) s2).trans y2
  have x3 := x2.later hb3
  have s3 : B < w3.heap.size := Nat.lt_of_lt_of_le s2 hb3.size
  clear hb2 hb3 x2 s2
  have hs4 := x3.lt
  have c1 : w3.cell? ⟨t, 1, none⟩ = some (.func (.func 11) #[] #[]) := x3.c1
  have hb4 : Below w3.heap.size w3 (w3.alloc (.cells #[.int .i64 q.1.1, .int .i64 q.1.2.1, .int .i64 q.1.2.2] 35)) := (Below.refl _ w3).alloc (Nat.le_refl _) _
  have u0 : (w3.alloc (.cells #[.int .i64 q.1.1, .int .i64 q.1.2.1, .int .i64 q.1.2.2] 35)).cell? ⟨w3.heap.size, 0, none⟩ = some (.int .i64 q.1.1) := by go_simp
  have u1 : (w3.alloc (.cells #[.int .i64 q.1.1, .int .i64 q.1.2.1, .int .i64 q.1.2.2] 35)).cell? ⟨w3.heap.size, 1, none⟩ = some (.int .i64 q.1.2.1) := by go_simp
  have u2 : (w3.alloc (.cells #[.int .i64 q.1.1, .int .i64 q.1.2.1, .int .i64 q.1.2.2] 35)).cell? ⟨w3.heap.size, 2, none⟩ = some (.int .i64 q.1.2.2) := by go_simp
  have s4 : w3.heap.size < (w3.alloc (.cells #[.int .i64 q.1.1, .int .i64 q.1.2.1, .int .i64 q.1.2.2] 35)).heap.size := by simp
  go_wp2
  obtain ⟨C, hC⟩ : ∃ C, C = w3.heap.size := ⟨_, rfl⟩
  rw [← hC] at u0 u1 u2 s4 ⊢
  have HC := Lib.hid hC
  have b0 := (hb4.cell (p := ⟨B, 0, none⟩) s3).trans y0
  have b1 := (hb4.cell (p := ⟨B, 1, none⟩) s3).trans y1
  have b2 := (hb4.cell (p := ⟨B, 2, none⟩) s3).trans y2
  have x4 := x3.later hb4
  have hbw := hb.trans (hb4.mono hb.size)
  have s5 : B < (w3.alloc (.cells #[.int .i64 q.1.1, .int .i64 q.1.2.1, .int .i64 q.1.2.2] 35)).heap.size := Nat.lt_of_lt_of_le s3 hb4.size
  clear y0 y1 y2 x3 hb hb4 c1 s3 hC hs4
  generalize w3.alloc (.cells #[.int .i64 q.1.1, .int .i64 q.1.2.1, .int .i64 q.1.2.2] 35) = w4 at u0 u1 u2 s4 b0 b1 b2 x4 hbw s5 ⊢
  have hs4 := x4.lt
  have c1 : w4.cell? ⟨t, 1, none⟩ = some (.func (.func 11) #[] #[]) := x4.c1
  have HX4 := Lib.hid x4
  clear x4
  go_region_held3 (fun w' => w'.cell? ⟨t, 1, none⟩ = some (.func (.func 11) #[] #[]) ∧ w'.cell? ⟨B, 0, none⟩ = some (.int .i64 p.1.1) ∧ w'.cell? ⟨B, 1, none⟩ = some (.int .i64 p.1.2.1) ∧ w'.cell? ⟨B, 2, none⟩ = some (.int .i64 p.1.2.2) ∧ w'.cell? ⟨C, 0, none⟩ = some (.int .i64 q.1.1) ∧ w'.cell? ⟨C, 1, none⟩ = some (.int .i64 q.1.2.1) ∧ w'.cell? ⟨C, 2, none⟩ = some (.int .i64 q.1.2.2))
    (first
      | exact ⟨keep_m hb5 c1, keep_m hb5 b0, keep_m hb5 b1, keep_m hb5 b2, keep_m hb5 u0, keep_m hb5 u1, keep_m hb5 u2⟩
      | go_keep)
    ((first | ((with_reducible refine (HBT.out _).mono ?_); rintro e w5 ⟨rfl, hb5⟩)))
  have hbz : Below w.heap.size w w5 := hbw.drew.trans (hb5.low.mono hbw.size)
  have x5 : TopAt w5 base t k v h := (HX4.out.drew).later hb5.low
  have e0 : w5.cell? ⟨B, 0, none⟩ = some (.int .i64 p.1.1) := keep_m hb5 b0
  have e1 : w5.cell? ⟨B, 1, none⟩ = some (.int .i64 p.1.2.1) := keep_m hb5 b1
  have e2 : w5.cell? ⟨B, 2, none⟩ = some (.int .i64 p.1.2.2) := keep_m hb5 b2
  clear b0 b1 b2 u0 u1 u2 c1 hbw hb5
  obtain ⟨g, cap2, hv2, hbg, hg, hcap2, hfz, hc⟩ := x5.row.cells (by rw [← HN.out]; exact hn0)
  obtain ⟨g0, g1, g2⟩ := hc 0 (by rw [← HN.out]; exact hn0)
  rw [Nat.zero_mul] at g0 g1 g2
  have f0 := hfz 0
  have f1 := hfz 1
  have f2 := hfz 2
  have c2 := x5.c2
  rw [hv2, ← HN.out] at c2
  have hn0' : (0 : Int) < (n : Int) := by omega
  have HV2 := Lib.hid hv2
  have HX5 := Lib.hid x5
  clear hc hfz hv2 x5
  go_wp2
  go_region
  all_goals
    have hx6 := HX5.out.set_ HV2.out 0 p (by rw [← HN.out]; exact hn0)
    have hS : own2 t v g := Or.inr (by rw [HV2.out]; rfl)
    have o6 := ((((Only.of_below (own2 t v) hbz).set_ hS 0 (.int .i64 p.1.1)).set_ hS 1 (.int .i64 p.1.2.1)).set_ hS 2 (.int .i64 p.1.2.2)).drew
    have hx6d := hx6.drew
    simp only [Nat.zero_mul, Nat.zero_add] at hx6d
    clear hx6 c2 f0 f1 f2 g0 g1 g2 e0 e1 e2
    generalize (((w5.setCell ⟨g, 0, none⟩ (.int .i64 p.1.1)).setCell ⟨g, 1, none⟩ (.int .i64 p.1.2.1)).setCell ⟨g, 2, none⟩ (.int .i64 p.1.2.2)).drew = w6 at hx6d o6 ⊢
    have hdn := FuM.dn_start hh p (by rw [← HN.out]; exact hn0)
    have hsk := sink_any base t k v (h.set 0 p) n w6 hx6d (by rw [List.length_set, ← HN.out]) hn0 hdn (by have := HL.out; rw [← HN.out] at this; omega)
    have HSK := Lib.hid hsk
    clear hsk hdn hx6d
    go_wp2_with fail
    refine HSK.out.mono ?_
    rintro e w7 ⟨rfl, h', x7, hh7, hp7, o7⟩
    go_wp2
    go_ret
    exact ⟨rfl, h', x7, hh7, hp7, o6.trans o7⟩
end Go.Proofs.Ytneofgaklofigaa.Fu

/- Offer: whatever is offered, whatever is kept. A new bound. -/
namespace Go.Proofs.Ytneofgaklofigaa.Fu
open Go.RowKit Go.Proofs.Ytneofgaklofigaa FuM

/-- is p kept, where h is kept of k? -/
def keptB (k : Nat) (h : List FV) (p : FV) : Bool := decide (h.length < k) || (decide (0 < k) && FuM.bet p (FuM.at_ h 0))
/-- a bound of k that was offered all of l stands at t -/
def OffAt (w : World) (base t k : Nat) (v : Value) (l : List FV) : Prop := ∃ h, TopAt w base t k v h ∧ FuM.Bnd k l h
theorem offer_any (base t k : Nat) (v : Value) (l h : List FV) (p : FV) (w : World) (hx : TopAt w base t k v h) (hb : FuM.Bnd k l h) (hl : l.length ≤ 1000000) :
    Calls Try.prog 26 #[.pointer (some ⟨t, 0, none⟩), sv p] w fun e w' => e = .returned (.bool (keptB k h p)) ∧ ∃ v' h', TopAt w' base t k v' h' ∧ FuM.Bnd k (l ++ [p]) h' ∧ Only (own2 t v) w w' ∧ ∀ b, v'.ownBlock = some b → v.ownBlock = some b ∨ w.heap.size ≤ b := by
  have hlen := FuM.bnd_len hb
  by_cases h1 : h.length < k
  · have hk : keptB k h p = true := by unfold keptB; simp [h1]
    rw [hk]
    refine (offer_room base t k v h p w hx hb.1 (by omega) h1).mono ?_
    rintro e w' ⟨rfl, v', h', x', hh', hp', o', hv'⟩
    exact ⟨rfl, v', h', x', FuM.bnd_room hb h1 hh' hp', o', hv'⟩
  · by_cases h0 : k = 0
    · subst h0
      have hk : keptB 0 h p = false := by unfold keptB; simp
      rw [hk]
      refine (offer_none base t v h p w hx).mono ?_
      rintro e w' ⟨rfl, b'⟩
      exact ⟨rfl, v, h, hx.later b', FuM.bnd_keep hb (by omega) (.inl rfl), Only.of_below _ b', fun b hb => .inl hb⟩
    · cases hbt : FuM.bet p (FuM.at_ h 0) with
      | false =>
        have hk : keptB k h p = false := by unfold keptB; simp [h1, hbt]
        rw [hk]
        refine (offer_no base t k v h p w hx (by omega) (by omega) hbt).mono ?_
        rintro e w' ⟨rfl, b'⟩
        exact ⟨rfl, v, h, hx.later b', FuM.bnd_keep hb (by omega) (.inr hbt), Only.of_below _ b', fun b hb => .inl hb⟩
      | true =>
        have hk : keptB k h p = true := by unfold keptB; simp [hbt]; omega
        rw [hk]
        refine (offer_yes base t k v h p w hx (by omega) (by omega) hb.1 (by omega) hbt).mono ?_
        rintro e w' ⟨rfl, h', x', hh', hp', o'⟩
        exact ⟨rfl, v, h', x', FuM.bnd_turn hb (by omega) (by omega) hbt hh' hp', o', fun b hb => .inl hb⟩

theorem run_equalIn_func_nil {P : Program} (w : World) (d : Nat) (t : TypeId) {ps rs : Array TypeId} {vr : Bool} (f : Fn) (a c : Array Value) (h : P.underlying t = some (.func ps rs vr)) : (Op.equalIn (d + 1) t (.func f a c) .nilFunc).run P w = .ok false w := by
  simp [Op.equalIn, run_underlying h]
theorem run_equal_func_nil {P : Program} (w : World) (t : TypeId) {ps rs : Array TypeId} {vr : Bool} (f : Fn) (a c : Array Value) (h : P.underlying t = some (.func ps rs vr)) : (Op.equal t (.func f a c) .nilFunc).run P w = .ok false w := run_equalIn_func_nil w 9999 t f a c h
theorem run_eql_func_nil {P : Program} (w : World) (t : TypeId) {ps rs : Array TypeId} {vr : Bool} (f : Fn) (a c : Array Value) (h : P.underlying t = some (.func ps rs vr)) : (binOp .eql t (.func f a c) .nilFunc).run P w = .ok (.bool false) w := by
  simp only [binOp]
  simp [run_equal_func_nil w t f a c h]
theorem not_nil (w : World) : (binOp .eql 41 (.func (.func 11) #[] #[]) .nilFunc).run Try.prog w = .ok (.bool false) w := run_eql_func_nil w _ _ _ _ Try.underlying41
set_option maxHeartbeats 1000000 in
set_option maxRecDepth 100000 in
theorem new_any (k : Int) (w : World) :
    Calls Try.prog 25 #[.int .i64 k, .func (.func 11) #[] #[]] w fun e w' => e = .returned (.pointer (some ⟨w.heap.size, 0, none⟩)) ∧ TopAt w' w.heap.size w.heap.size k.toNat (.slice none 0 0) [] ∧ Below w.heap.size w w' := by
  have hq := not_nil
  have hm : max k 0 = (k.toNat : Int) := by omega
  have HM := Lib.hid hm
  clear hm
  go_enter Try.func25, Try.ntmps25
  go_wp2
  go_ret
  rw [HM.out]
  exact ⟨rfl, ⟨Nat.le_refl _, heap_alloc_new w _, FRow.nil_ _ _⟩, (Below.refl _ w).alloc (Nat.le_refl _) _⟩
end Go.Proofs.Ytneofgaklofigaa.Fu

/- slices.SortFunc at documents with scores, laid at this program: the table of numbers, and each body held against the library's. -/
namespace Go.Proofs.Ytneofgaklofigaa
open Go.Shelf
def sortV_ren : Go.Shelf.Ren := ⟨fun | 6 => 41 | 15 => 53 | 14 => 52 | 28 => 67 | 29 => 68 | 20 => 59 | 21 => 60 | 22 => 61 | 23 => 62 | 24 => 63 | 25 => 64 | 26 => 65 | 27 => 66 | 46 => 69 | 47 => 70 | 48 => 71 | 49 => 72 | 50 => 73 | 57 => 74 | n => n, fun | 22 => 24 | 24 => 35 | 25 => 87 | 3 => 3 | 39 => 98 | 0 => 0 | 53 => 112 | 55 => 55 | 4 => 4 | 46 => 105 | 45 => 104 | 50 => 109 | 5 => 5 | 9 => 9 | 66 => 113 | 70 => 117 | 76 => 119 | 77 => 120 | n => n, fun | n => n⟩
theorem sortV : Go.Proofs.SlLaysF0.n6 Try.prog sortV_ren := {
  mixed := by kernel_rfl
  f6 := ⟨Try.f41.name, by decide, Try.func41.trans (congrArg some (by kernel_rfl))⟩
  f14 := ⟨Try.f52.name, by decide, Try.func52.trans (congrArg some (by kernel_rfl))⟩
  f15 := Try.func53.trans (congrArg some (by kernel_rfl))
  f20 := ⟨Try.f59.name, by decide, Try.func59.trans (congrArg some (by kernel_rfl))⟩
  f21 := ⟨Try.f60.name, by decide, Try.func60.trans (congrArg some (by kernel_rfl))⟩
  f22 := ⟨Try.f61.name, by decide, Try.func61.trans (congrArg some (by kernel_rfl))⟩
  f23 := ⟨Try.f62.name, by decide, Try.func62.trans (congrArg some (by kernel_rfl))⟩
  f24 := ⟨Try.f63.name, by decide, Try.func63.trans (congrArg some (by kernel_rfl))⟩
  f25 := ⟨Try.f64.name, by decide, Try.func64.trans (congrArg some (by kernel_rfl))⟩
  f26 := ⟨Try.f65.name, by decide, Try.func65.trans (congrArg some (by kernel_rfl))⟩
  f27 := ⟨Try.f66.name, by decide, Try.func66.trans (congrArg some (by kernel_rfl))⟩
  f28 := Try.func67.trans (congrArg some (by kernel_rfl))
  f29 := Try.func68.trans (congrArg some (by kernel_rfl))
  f46 := ⟨Try.f69.name, by decide, Try.func69.trans (congrArg some (by kernel_rfl))⟩
  f47 := Try.func70.trans (congrArg some (by kernel_rfl))
  f48 := Try.func71.trans (congrArg some (by kernel_rfl))
  f49 := ⟨Try.f72.name, by decide, Try.func72.trans (congrArg some (by kernel_rfl))⟩
  f50 := ⟨Try.f73.name, by decide, Try.func73.trans (congrArg some (by kernel_rfl))⟩
  f57 := ⟨Try.f74.name, by decide, Try.func74.trans (congrArg some (by kernel_rfl))⟩
  t0 := Try.underlying0
  a0 := Try.isAgg0
  z0 := Try.sizeOf0
  v0 := Try.zeroValue0
  t3 := Try.underlying3
  a3 := Try.isAgg3
  z3 := Try.sizeOf3
  v3 := Try.zeroValue3
  t4 := Try.underlying4
  a4 := Try.isAgg4
  z4 := Try.sizeOf4
  v4 := Try.zeroValue4
  t5 := Try.underlying5
  a5 := Try.isAgg5
  z5 := Try.sizeOf5
  v5 := Try.zeroValue5
  t9 := Try.underlying9
  a9 := Try.isAgg9
  z9 := Try.sizeOf9
  v9 := Try.zeroValue9
  t22 := Try.underlying24
  a22 := Try.isAgg24
  z22 := Try.sizeOf24
  v22 := Try.zeroValue24
  t25 := Try.underlying87
  a25 := Try.isAgg87
  z25 := Try.sizeOf87
  v25 := Try.zeroValue87
  t39 := Try.underlying98
  a39 := Try.isAgg98
  z39 := Try.sizeOf98
  v39 := Try.zeroValue98
  t45 := Try.underlying104
  a45 := Try.isAgg104
  z45 := Try.sizeOf104
  v45 := Try.zeroValue104
  t46 := Try.underlying105
  a46 := Try.isAgg105
  z46 := Try.sizeOf105
  v46 := Try.zeroValue105
  t50 := Try.underlying109
  a50 := Try.isAgg109
  z50 := Try.sizeOf109
  v50 := Try.zeroValue109
  t53 := Try.underlying112
  a53 := Try.isAgg112
  z53 := Try.sizeOf112
  v53 := Try.zeroValue112
  t55 := Try.underlying55
  a55 := Try.isAgg55
  z55 := Try.sizeOf55
  v55 := Try.zeroValue55
  t66 := Try.underlying113
  a66 := Try.isAgg113
  z66 := Try.sizeOf113
  v66 := Try.zeroValue113
  t70 := Try.underlying117
  a70 := Try.isAgg117
  z70 := Try.sizeOf117
  v70 := Try.zeroValue117
  t76 := Try.underlying119
  a76 := Try.isAgg119
  z76 := Try.sizeOf119
  v76 := Try.zeroValue119
  t77 := Try.underlying120
  a77 := Try.isAgg120
  z77 := Try.sizeOf120
  v77 := Try.zeroValue120 }
end Go.Proofs.Ytneofgaklofigaa

/- The list of a bound: a copy, put in order by a closure. -/
namespace Go.Proofs.Ytneofgaklofigaa.Fu
open Go.RowKit Go.Proofs.Ytneofgaklofigaa FuM Go.Sort

/-- below 0, 0 or above 0 as the closure tells -/
def cmpP (a b : FV) : Int := if FuM.bet a b = true then -1 else if FuM.bet b a = true then 1 else 0
theorem lt_cmpP (a b : FV) : ltOf cmpP a b = FuM.bet a b := by
  unfold ltOf cmpP
  cases h1 : FuM.bet a b with
  | true => simp
  | false =>
    cases h2 : FuM.bet b a <;> simp
theorem swo_cmpP : SWO (ltOf cmpP) where
  irrefl x := by rw [lt_cmpP]; exact FuM.irr x
  trans x y z h1 h2 := by rw [lt_cmpP] at *; exact FuM.tr h1 h2
  ntrans x y z h1 h2 := by rw [lt_cmpP] at *; exact FuM.ntr h1 h2

set_option maxHeartbeats 4000000 in
set_option maxRecDepth 100000 in
theorem closure_any (a b : FV) (x t : Nat) (w : World) (c0 : w.cell? ⟨x, 0, none⟩ = some (.pointer (some ⟨t, 0, none⟩))) (c1 : w.cell? ⟨t, 1, none⟩ = some (.func (.func 11) #[] #[])) :
    Calls Try.prog 42 #[sv a, sv b, .pointer (some ⟨x, 0, none⟩)] w fun e w' => e = .returned (.int .i64 (cmpP a b)) ∧ Mo.Below w.heap.size w w' := by
  have h1 := fun W => better_any a b W
  have h2 := fun W => better_any b a W
  unfold sv at *
  have gW : Mo.Below w.heap.size w ((w.alloc (.cells #[.int .i64 a.1.1, .int .i64 a.1.2.1, .int .i64 a.1.2.2] 35)).alloc (.cells #[.int .i64 b.1.1, .int .i64 b.1.2.1, .int .i64 b.1.2.2] 35)) := Mo.bl2 _ _ _
  have k0 : ((w.alloc (.cells #[.int .i64 a.1.1, .int .i64 a.1.2.1, .int .i64 a.1.2.2] 35)).alloc (.cells #[.int .i64 b.1.1, .int .i64 b.1.2.1, .int .i64 b.1.2.2] 35)).cell? ⟨x, 0, none⟩ = some (.pointer (some ⟨t, 0, none⟩)) := keep_m gW c0
  have k1 : ((w.alloc (.cells #[.int .i64 a.1.1, .int .i64 a.1.2.1, .int .i64 a.1.2.2] 35)).alloc (.cells #[.int .i64 b.1.1, .int .i64 b.1.2.1, .int .i64 b.1.2.2] 35)).cell? ⟨t, 1, none⟩ = some (.func (.func 11) #[] #[]) := keep_m gW c1
  have za0 : ((w.alloc (.cells #[.int .i64 a.1.1, .int .i64 a.1.2.1, .int .i64 a.1.2.2] 35)).alloc (.cells #[.int .i64 b.1.1, .int .i64 b.1.2.1, .int .i64 b.1.2.2] 35)).cell? ⟨w.heap.size, 0, none⟩ = some (.int .i64 a.1.1) := by go_simp
  have za1 : ((w.alloc (.cells #[.int .i64 a.1.1, .int .i64 a.1.2.1, .int .i64 a.1.2.2] 35)).alloc (.cells #[.int .i64 b.1.1, .int .i64 b.1.2.1, .int .i64 b.1.2.2] 35)).cell? ⟨w.heap.size, 1, none⟩ = some (.int .i64 a.1.2.1) := by go_simp
  have za2 : ((w.alloc (.cells #[.int .i64 a.1.1, .int .i64 a.1.2.1, .int .i64 a.1.2.2] 35)).alloc (.cells #[.int .i64 b.1.1, .int .i64 b.1.2.1, .int .i64 b.1.2.2] 35)).cell? ⟨w.heap.size, 2, none⟩ = some (.int .i64 a.1.2.2) := by go_simp
  have zb0 : ((w.alloc (.cells #[.int .i64 a.1.1, .int .i64 a.1.2.1, .int .i64 a.1.2.2] 35)).alloc (.cells #[.int .i64 b.1.1, .int .i64 b.1.2.1, .int .i64 b.1.2.2] 35)).cell? ⟨w.heap.size + 1, 0, none⟩ = some (.int .i64 b.1.1) := by go_simp
  have zb1 : ((w.alloc (.cells #[.int .i64 a.1.1, .int .i64 a.1.2.1, .int .i64 a.1.2.2] 35)).alloc (.cells #[.int .i64 b.1.1, .int .i64 b.1.2.1, .int .i64 b.1.2.2] 35)).cell? ⟨w.heap.size + 1, 1, none⟩ = some (.int .i64 b.1.2.1) := by go_simp
  have zb2 : ((w.alloc (.cells #[.int .i64 a.1.1, .int .i64 a.1.2.1, .int .i64 a.1.2.2] 35)).alloc (.cells #[.int .i64 b.1.1, .int .i64 b.1.2.1, .int .i64 b.1.2.2] 35)).cell? ⟨w.heap.size + 1, 2, none⟩ = some (.int .i64 b.1.2.2) := by go_simp
  cases hb1 : FuM.bet a b with
  | true =>
    have hc : cmpP a b = -1 := by unfold cmpP; rw [if_pos hb1]
    rw [hc]
    rw [hb1] at h1
    have H1 := Lib.hid h1
    clear h1 h2 hc hb1
    go_enter Try.func42, Try.ntmps42
    go_wp2
    generalize ((w.alloc (.cells #[.int .i64 a.1.1, .int .i64 a.1.2.1, .int .i64 a.1.2.2] 35)).alloc (.cells #[.int .i64 b.1.1, .int .i64 b.1.2.1, .int .i64 b.1.2.2] 35)) = W at gW k0 k1 za0 za1 za2 zb0 zb1 zb2 ⊢
    go_still_tail 6, (by kernel_rfl)
    change wpList _ _ _ _ _ W.drew
    go_wp2_with fail
    refine (H1.out _).mono ?_
    rintro e w3 ⟨rfl, hb3⟩
    go_wp2
    go_ret
    exact ⟨rfl, gW.drew.trans (hb3.mono gW.size)⟩
  | false =>
    rw [hb1] at h1
    have H1 := Lib.hid h1
    obtain ⟨r, hr⟩ : ∃ r, r = FuM.bet b a := ⟨_, rfl⟩
    rw [← hr] at h2
    have H2 := Lib.hid h2
    have hc : cmpP a b = if r = true then 1 else 0 := by unfold cmpP; rw [if_neg (by rw [hb1]; decide), ← hr]
    rw [hc]
    clear h1 h2 hc hb1 hr
    cases r with
    | true =>
      rw [if_pos rfl]
      go_enter Try.func42, Try.ntmps42
      go_wp2
      generalize ((w.alloc (.cells #[.int .i64 a.1.1, .int .i64 a.1.2.1, .int .i64 a.1.2.2] 35)).alloc (.cells #[.int .i64 b.1.1, .int .i64 b.1.2.1, .int .i64 b.1.2.2] 35)) = W at gW k0 k1 za0 za1 za2 zb0 zb1 zb2 ⊢
      go_still_tail 6, (by kernel_rfl)
      change wpList _ _ _ _ _ W.drew
      go_wp2_with fail
      refine (H1.out _).mono ?_
      rintro e V ⟨rfl, hb3⟩
      have gV := gW.drew.trans (hb3.mono gW.size)
      have j0 := keep_m hb3 k0
      have j1 := keep_m hb3 k1
      have ya0 := keep_m hb3 za0
      have ya1 := keep_m hb3 za1
      have ya2 := keep_m hb3 za2
      have yb0 := keep_m hb3 zb0
      have yb1 := keep_m hb3 zb1
      have yb2 := keep_m hb3 zb2
      clear gW k0 k1 za0 za1 za2 zb0 zb1 zb2 hb3
      go_wp2
      go_still_tail 6, (by kernel_rfl)
      change wpList _ _ _ _ _ V.drew
      go_wp2_with fail
      refine (H2.out _).mono ?_
      rintro e w3 ⟨rfl, hb4⟩
      go_wp2
      go_ret
      exact ⟨rfl, gV.drew.trans (hb4.mono gV.size)⟩
    | false =>
      rw [if_neg (by decide)]
      go_enter Try.func42, Try.ntmps42
      go_wp2
      generalize ((w.alloc (.cells #[.int .i64 a.1.1, .int .i64 a.1.2.1, .int .i64 a.1.2.2] 35)).alloc (.cells #[.int .i64 b.1.1, .int .i64 b.1.2.1, .int .i64 b.1.2.2] 35)) = W at gW k0 k1 za0 za1 za2 zb0 zb1 zb2 ⊢
      go_still_tail 6, (by kernel_rfl)
      change wpList _ _ _ _ _ W.drew
      go_wp2_with fail
      refine (H1.out _).mono ?_
      rintro e V ⟨rfl, hb3⟩
      have gV := gW.drew.trans (hb3.mono gW.size)
      have j0 := keep_m hb3 k0
      have j1 := keep_m hb3 k1
      have ya0 := keep_m hb3 za0
      have ya1 := keep_m hb3 za1
      have ya2 := keep_m hb3 za2
      have yb0 := keep_m hb3 zb0
      have yb1 := keep_m hb3 zb1
      have yb2 := keep_m hb3 zb2
      clear gW k0 k1 za0 za1 za2 zb0 zb1 zb2 hb3
      go_wp2
      go_still_tail 6, (by kernel_rfl)
      change wpList _ _ _ _ _ V.drew
      go_wp2_with fail
      refine (H2.out _).mono ?_
      rintro e w3 ⟨rfl, hb4⟩
      go_wp2
      go_ret
      exact ⟨rfl, gV.drew.trans (hb4.mono gV.size)⟩
end Go.Proofs.Ytneofgaklofigaa.Fu

/- Pairs of numbers (a document with its score, a post, what is told of a block): as values, in rows, as one's own row. -/
namespace Go.Proofs.Ytneofgaklofigaa
open Go.RowKit

/-- a document with its score -/
def sv (p : Int × Int) : Value := .agg #[.int .i64 p.1, .int .i64 p.2]
def enc2 (p : Int × Int) : List Value := [.int .i64 p.1, .int .i64 p.2]
def Pairs (w : World) (A : Option Addr) (n : Nat) (l : List (Int × Int)) : Prop :=
  l.length = n ∧ ∀ k (h : k < l.length), ∃ b o, A = some ⟨b, o, none⟩ ∧ b < w.heap.size ∧ w.cell? ⟨b, o + k * 2, none⟩ = some (.int .i64 l[k].1) ∧ w.cell? ⟨b, o + k * 2 + 1, none⟩ = some (.int .i64 l[k].2)
theorem Pairs.below {w w' : World} {B : Nat} {A : Option Addr} {n : Nat} {l : List (Int × Int)} (h : Pairs w A n l) (hb : Below B w w') (hB : ∀ b o s, A = some ⟨b, o, s⟩ → b < B) : Pairs w' A n l :=
  ⟨h.1, fun k hk => by
    obtain ⟨b, o, e, hl, h0, h1⟩ := h.2 k hk
    have := hB b o none e
    exact ⟨b, o, e, Nat.lt_of_lt_of_le hl hb.size, (hb.cell (p := ⟨b, o + k * 2, none⟩) this).trans h0, (hb.cell (p := ⟨b, o + k * 2 + 1, none⟩) this).trans h1⟩⟩
theorem Pairs.later {w w' : World} {A : Option Addr} {n : Nat} {l : List (Int × Int)} (h : Pairs w A n l) (hb : Below w.heap.size w w') : Pairs w' A n l :=
  ⟨h.1, fun k hk => by
    obtain ⟨b, o, e, hl, h0, h1⟩ := h.2 k hk
    exact ⟨b, o, e, Nat.lt_of_lt_of_le hl hb.size, (hb.cell (p := ⟨b, o + k * 2, none⟩) hl).trans h0, (hb.cell (p := ⟨b, o + k * 2 + 1, none⟩) hl).trans h1⟩⟩

theorem flat_len (l : List (Int × Int)) : (l.flatMap enc2).length = l.length * 2 := by
  induction l with
  | nil => rfl
  | cons a t ih =>
    rw [List.flatMap_cons, List.length_append, ih, List.length_cons, Nat.succ_mul, Nat.add_comm]
    rfl
theorem flat_get (l : List (Int × Int)) (k : Nat) (h : k < l.length) : (l.flatMap enc2)[k * 2]? = some (.int .i64 l[k].1) ∧ (l.flatMap enc2)[k * 2 + 1]? = some (.int .i64 l[k].2) := by
  induction l generalizing k with
  | nil => simp at h
  | cons a t ih =>
    cases k with
    | zero => exact ⟨rfl, rfl⟩
    | succ k =>
      have := ih k (by simpa using h)
      rw [show (k + 1) * 2 = k * 2 + 1 + 1 by omega]
      exact this
theorem flat_set (l : List (Int × Int)) (k : Nat) (p : Int × Int) (h : k < l.length) : (l.set k p).flatMap enc2 = ((l.flatMap enc2).set (k * 2) (.int .i64 p.1)).set (k * 2 + 1) (.int .i64 p.2) := by
  induction l generalizing k with
  | nil => simp at h
  | cons a t ih =>
    cases k with
    | zero => rfl
    | succ k =>
      have := ih k (by simpa using h)
      rw [List.set_cons_succ, List.flatMap_cons, this, List.flatMap_cons, show (k + 1) * 2 = k * 2 + 1 + 1 by omega]
      rfl

/-- the slice v reads as l -/
def Prd (w : World) (v : Value) (l : List (Int × Int)) : Prop := ∃ A cp, v = .slice A l.length cp ∧ l.length ≤ cp ∧ (A = none → cp = 0) ∧ Pairs w A l.length l
theorem Prd.later {w w' : World} {v : Value} {l : List (Int × Int)} (h : Prd w v l) (hb : Below w.heap.size w w') : Prd w' v l := by
  obtain ⟨A, cp, e, h1, h2, h3⟩ := h
  exact ⟨A, cp, e, h1, h2, h3.later hb⟩
theorem run_equalIn_sl_nil {P : Program} (w : World) (d : Nat) (t e : TypeId) (a : Option Addr) (l c : Nat) (h : P.underlying t = some (.slice e)) : (Op.equalIn (d + 1) t (.slice a l c) (.slice none 0 0)).run P w = .ok a.isNone w := by
  cases a <;> simp [Op.equalIn, run_underlying h]
theorem run_equal_sl_nil {P : Program} (w : World) (t e : TypeId) (a : Option Addr) (l c : Nat) (h : P.underlying t = some (.slice e)) : (Op.equal t (.slice a l c) (.slice none 0 0)).run P w = .ok a.isNone w := run_equalIn_sl_nil w 9999 t e a l c h
theorem run_eql_sl_nil {P : Program} (w : World) (t e : TypeId) (a : Option Addr) (l c : Nat) (h : P.underlying t = some (.slice e)) : (binOp .eql t (.slice a l c) (.slice none 0 0)).run P w = .ok (.bool a.isNone) w := by
  simp only [binOp]
  simp [run_equal_sl_nil w t e a l c h]

theorem Pairs.take {w : World} {A : Option Addr} {n : Nat} {l : List (Int × Int)} (h : Pairs w A n l) (k : Nat) (hk : k ≤ n) : Pairs w A k (l.take k) := by
  refine ⟨by rw [List.length_take, h.1]; omega, fun j hj => ?_⟩
  rw [List.length_take] at hj
  rw [List.getElem_take]
  exact h.2 j (by omega)
theorem Pairs.drop {w : World} {b o : Nat} {n : Nat} {l : List (Int × Int)} (h : Pairs w (some ⟨b, o, none⟩) n l) (k : Nat) : Pairs w (some ⟨b, o + k * 2, none⟩) (n - k) (l.drop k) := by
  refine ⟨by rw [List.length_drop, h.1], fun j hj => ?_⟩
  rw [List.length_drop] at hj
  rw [List.getElem_drop]
  obtain ⟨b', o', e, hb, c0, c1⟩ := h.2 (k + j) (by omega)
  injection e with e
  injection e with e1 e2 e3
  subst e1; subst e2
  refine ⟨b, o + k * 2, rfl, hb, ?_, ?_⟩
  · rw [show o + k * 2 + j * 2 = o + (k + j) * 2 by omega]; exact c0
  · rw [show o + k * 2 + j * 2 + 1 = o + (k + j) * 2 + 1 by omega]; exact c1
theorem Prd.at_ {w : World} {A : Option Addr} {n cp : Nat} {l : List (Int × Int)} (h : Prd w (.slice A n cp) l) (k : Nat) (hk : k < l.length) : ∃ b o, A = some ⟨b, o, none⟩ ∧ b < w.heap.size ∧ w.cell? ⟨b, o + k * 2, none⟩ = some (.int .i64 l[k].1) ∧ w.cell? ⟨b, o + k * 2 + 1, none⟩ = some (.int .i64 l[k].2) := by
  obtain ⟨A', cp', e, _, _, hP⟩ := h
  injection e with e1 e2 e3
  subst e1
  exact hP.2 k hk
theorem Prd.take {w : World} {A : Option Addr} {n cp : Nat} {l : List (Int × Int)} (h : Prd w (.slice A n cp) l) (k : Nat) (hk : k ≤ l.length) : Prd w (.slice A k cp) (l.take k) := by
  obtain ⟨A', cp', e, hc, hA, hP⟩ := h
  injection e with e1 e2 e3
  subst e1; subst e3
  have hlen : (l.take k).length = k := by rw [List.length_take]; omega
  exact ⟨A, cp, by rw [hlen], by rw [hlen]; omega, hA, by rw [hlen]; exact hP.take k hk⟩
theorem Prd.form {w : World} {v : Value} {l : List (Int × Int)} (h : Prd w v l) : ∃ A cp, v = .slice A l.length cp ∧ l.length ≤ cp := by
  obtain ⟨A, cp, e, hc, _, _⟩ := h
  exact ⟨A, cp, e, hc⟩

/-- one's own row of pairs, of elements of type e -/
def PRow (e : TypeId) (w : World) (base : Nat) (v : Value) (l : List (Int × Int)) : Prop := w.ownsRow base e 2 v l.length (l.flatMap enc2)
section
variable {e : TypeId}
theorem PRow.nil_ (w : World) (base : Nat) : PRow e w base (.slice none 0 0) [] := World.ownsRow_nil _ _ _ _
theorem PRow.kept {w w' : World} {base : Nat} {v : Value} {l : List (Int × Int)} (h : PRow e w base v l) (hk : ∀ g, v.ownBlock = some g → w'.heap[g]? = w.heap[g]?) : PRow e w' base v l := by
  refine ⟨h.1, ?_⟩
  rcases h.2 with hn | ⟨g, cap, cur, rfl, hbg, hgg, rest⟩
  · exact .inl hn
  · exact .inr ⟨g, cap, cur, rfl, hbg, (hk g rfl).trans hgg, rest⟩
theorem PRow.later {w w' : World} {base : Nat} {v : Value} {l : List (Int × Int)} (h : PRow e w base v l) (hb : Below w.heap.size w w') : PRow e w' base v l :=
  h.kept fun g hg => hb.block g (World.ownsRow.lt h g hg).2
theorem PRow.base_mono {w : World} {base base' : Nat} {v : Value} {l : List (Int × Int)} (h : PRow e w base v l) (hb : base' ≤ base) : PRow e w base' v l := by
  refine ⟨h.1, ?_⟩
  rcases h.2 with hn | ⟨g, cap, cur, rfl, hbg, rest⟩
  · exact .inl hn
  · exact .inr ⟨g, cap, cur, rfl, Nat.le_trans hb hbg, rest⟩
theorem PRow.cells {w : World} {base : Nat} {v : Value} {l : List (Int × Int)} (h : PRow e w base v l) (hne : 0 < l.length) :
    ∃ g cap, v = .slice (some ⟨g, 0, none⟩) l.length cap ∧ base ≤ g ∧ g < w.heap.size ∧ l.length ≤ cap ∧ (∀ j, w.frozen? ⟨g, j, none⟩ = false) ∧ ∀ k (hk : k < l.length), w.cell? ⟨g, k * 2, none⟩ = some (.int .i64 l[k].1) ∧ w.cell? ⟨g, k * 2 + 1, none⟩ = some (.int .i64 l[k].2) := by
  have h0 := h
  rcases h.2 with ⟨rfl, hn⟩ | ⟨g, cap, cur, rfl, hbg, hgg, hnc, rest⟩
  · omega
  · refine ⟨g, cap, rfl, hbg, (Array.getElem?_eq_some_iff.1 hgg).1, by omega, fun j => by unfold World.frozen?; simp only [hgg]; simp, fun k hk => ?_⟩
    obtain ⟨f0, f1⟩ := flat_get l k hk
    have c0 := World.ownsRow.cells h0 (g := g) rfl _ _ f0
    have c1 := World.ownsRow.cells h0 (g := g) rfl _ _ f1
    rw [add_none, Nat.zero_add] at c0 c1
    exact ⟨c0, c1⟩
theorem PRow.form {w : World} {base : Nat} {v : Value} {l : List (Int × Int)} (h : PRow e w base v l) : ∃ A cap, v = .slice A l.length cap ∧ l.length ≤ cap ∧ (A = none → cap = 0) := by
  rcases h.2 with ⟨rfl, hn⟩ | ⟨g, cap, cur, rfl, hbg, hgg, hnc, rest⟩
  · rw [hn]; exact ⟨none, 0, rfl, Nat.le_refl _, fun _ => rfl⟩
  · exact ⟨_, cap, rfl, by omega, fun e => by cases e⟩
theorem PRow.prd {w : World} {base : Nat} {v : Value} {l : List (Int × Int)} (h : PRow e w base v l) : Prd w v l := by
  by_cases hl : 0 < l.length
  · obtain ⟨g, cap, rfl, _, hg, hcap, _, hc⟩ := h.cells hl
    refine ⟨_, cap, rfl, hcap, (fun e => by cases e), rfl, fun k hk => ⟨g, 0, rfl, hg, ?_⟩⟩
    rw [Nat.zero_add]
    exact hc k hk
  · obtain ⟨A, cap, rfl, h1, h2⟩ := h.form
    exact ⟨A, cap, rfl, h1, h2, rfl, fun k hk => by omega⟩
/-- what an append onto one's own row needs to know of its types -/
structure PairTy (e T : TypeId) : Prop where
  info : (Try.prog.info? e).map (fun i => (i.zero, i.size, i.bytes)) = some (some (sv (0, 0)), 2, 16)
  sl : Try.prog.underlying T = some (.slice e)
/-- append of one onto one's own row -/
theorem wpList_append_p {w : World} {ops : Array Oper} {rest : List Oper} {o : Oper} {a : Act} {Q : Exit → Act → World → Prop} {T : TypeId} (ty : PairTy e T) (hgd : o.guard = none) (s x : Operand)
    (ho : o.op = .call { callee := .builtin .append, args := #[s, x], argTypes := #[T, T] })
    (base : Nat) (v : Value) (l : List (Int × Int)) (hs : a.eval s = v) (hown : PRow e w base v l)
    (g c : Nat) (p : Int × Int) (hx : a.eval x = .slice (some ⟨g, 0, none⟩) 1 c) (hc0 : w.cell? ⟨g, 0, none⟩ = some (.int .i64 p.1)) (hc1 : w.cell? ⟨g, 1, none⟩ = some (.int .i64 p.2)) (hbase : base ≤ w.heap.size) (hn : l.length ≤ 1000000000)
    (h : ∀ v' w', PRow e w' base v' (l ++ [p]) → w.grownBy w' v.ownBlock → wpList Try.prog ops Q rest (a.put o.dst v') w') : wpList Try.prog ops Q (o :: rest) a w := by
  obtain ⟨i0, hi, hz0, hz1, hz2⟩ := info_parts ty.info
  refine wpList_append_own w hgd s x T ho base e i0 _ 2 16 ty.sl hi hz0 hz1 hz2 rfl (by omega) _ _ _ hs hown ⟨g, 0, none⟩ 1 c (enc2 p) hx rfl (fun j u hu => ?_) (fun u hu => ?_) (by simp [maxLen]; omega) (by omega) hbase ?_
  · match j, hu with
    | 0, hu => simp [enc2] at hu; subst hu; rw [add_none]; exact hc0
    | 1, hu => simp [enc2] at hu; subst hu; rw [add_none]; exact hc1
  · simp [enc2] at hu; rcases hu with rfl | rfl <;> rfl
  · intro v' w' hown' hg' hiff
    refine h v' w' ?_ hg'
    unfold PRow
    rw [List.length_append, List.flatMap_append]
    simpa using hown'
set_option maxRecDepth 100000 in
/-- append of what is read onto one's own row -/
theorem wp_append_ps {w : World} {o : Oper} {a : Act} {K : Act → World → Prop} {Q : Exit → Act → World → Prop} {T : TypeId} (ty : PairTy e T) (s x : Operand)
    (ho : o.op = .call { callee := .builtin .append, args := #[s, x], argTypes := #[T, T] })
    (base : Nat) (v0 : Value) (l0 : List (Int × Int)) (hs : a.eval s = v0) (hown : PRow e w base v0 l0) (hbase : base ≤ w.heap.size)
    (A : Option Addr) (n cp : Nat) (l : List (Int × Int)) (hx : a.eval x = .slice A n cp) (hS : Pairs w A n l) (hA : A = none → cp = 0) (hn : l0.length + n ≤ 1000000000)
    (h : ∀ v' w', PRow e w' base v' (l0 ++ l) → w.grownBy w' v0.ownBlock → K (a.put o.dst v') w') : o.wp Try.prog a w K Q := by
  obtain ⟨i0, hi, hz0, hz1, hz2⟩ := info_parts ty.info
  rcases A with _ | ad
  · have hn0 : n = 0 := by
      rcases Nat.eq_zero_or_pos n with e | e
      · exact e
      · obtain ⟨b, o, e', _⟩ := hS.2 0 (by rw [hS.1]; exact e)
        cases e'
    subst hn0
    have hcp := hA rfl
    subst hcp
    have hl0 : l = [] := List.eq_nil_of_length_eq_zero hS.1
    subst hl0
    have hrun := run_append_owned_none (P := Try.prog) (w := w) base T o.type e i0 2 ty.sl hi v0 l0.length (l0.flatMap enc2) hown
    have hfin := h v0 w (by rw [List.append_nil]; exact hown) (World.grownBy.refl w _)
    unfold Oper.wp
    simp [execOp, ho, resolve, invoke, builtin, hs, hx, hrun, Result.andThen]
    exact hfin
  · refine wp_append_own w s x T ho base e i0 _ 2 16 ty.sl hi hz0 hz1 hz2 rfl (by omega) v0 l0.length (l0.flatMap enc2) hs hown ad n cp (l.flatMap enc2) hx (by rw [flat_len, hS.1]) (fun j u hu => ?_) (fun u hu => ?_) (by simp [maxLen]; omega) (by omega) hbase ?_
    · have hj : j < l.length * 2 := by
        have := (List.getElem?_eq_some_iff.1 hu).1
        rwa [flat_len] at this
      obtain ⟨b, o, e, _, h0, h1⟩ := hS.2 (j / 2) (by omega)
      obtain ⟨g0, g1⟩ := flat_get l (j / 2) (by omega)
      injection e with e
      subst e
      rw [add_none]
      rcases Nat.mod_two_eq_zero_or_one j with hm | hm
      · have ej : j = j / 2 * 2 := by omega
        rw [ej, g0] at hu
        rw [ej]
        exact h0.trans hu
      · have ej : j = j / 2 * 2 + 1 := by omega
        rw [ej, g1] at hu
        rw [ej, ← Nat.add_assoc]
        exact h1.trans hu
    · simp only [List.mem_flatMap, enc2] at hu
      obtain ⟨t, _, hu⟩ := hu
      simp at hu
      rcases hu with rfl | rfl <;> rfl
    · intro v' w' hown' hg' _
      refine h v' w' ?_ hg'
      unfold PRow
      rw [List.length_append, List.flatMap_append, hS.1]
      exact hown'
theorem wpList_append_ps {w : World} {ops : Array Oper} {rest : List Oper} {o : Oper} {a : Act} {Q : Exit → Act → World → Prop} {T : TypeId} (ty : PairTy e T) (hgd : o.guard = none) (s x : Operand)
    (ho : o.op = .call { callee := .builtin .append, args := #[s, x], argTypes := #[T, T] })
    (base : Nat) (v0 : Value) (l0 : List (Int × Int)) (hs : a.eval s = v0) (hown : PRow e w base v0 l0) (hbase : base ≤ w.heap.size)
    (A : Option Addr) (n cp : Nat) (l : List (Int × Int)) (hx : a.eval x = .slice A n cp) (hS : Pairs w A n l) (hA : A = none → cp = 0) (hn : l0.length + n ≤ 1000000000)
    (h : ∀ v' w', PRow e w' base v' (l0 ++ l) → w.grownBy w' v0.ownBlock → wpList Try.prog ops Q rest (a.put o.dst v') w') : wpList Try.prog ops Q (o :: rest) a w :=
  wpList_plain hgd fun _ hK => wp_append_ps ty s x ho base v0 l0 hs hown hbase A n cp l hx hS hA hn fun v' w' h2 h3 => hK _ _ (h v' w' h2 h3)
end
end Go.Proofs.Ytneofgaklofigaa

/- List: a copy of what is kept, in order. -/
namespace Go.Proofs.Ytneofgaklofigaa.Fu
open Go.RowKit Go.Proofs.Ytneofgaklofigaa FuM Go.Sort

set_option maxHeartbeats 1000000 in
set_option maxRecDepth 100000 in
theorem clone_any (v : Value) (l : List FV) (w : World) (h : Vrd w v l) (hl : l.length ≤ 1000000) :
    Calls Try.prog 40 #[v] w fun e w' => ∃ v', e = .returned v' ∧ FRow w' w.heap.size v' l ∧ Below w.heap.size w w' := by
  obtain ⟨A, cp, rfl, hc, hA, hp⟩ := h
  rcases A with _ | ad
  · have hl0 : l = [] := by
      match l, hp with
      | [], _ => rfl
      | a :: t, hp =>
        obtain ⟨b, o, e, _⟩ := hp.2 0 (by simp)
        cases e
    subst hl0
    have := hA rfl
    subst this
    have hq : ∀ w, (binOp .eql 24 (.slice none 0 0) (.slice none 0 0)).run Try.prog w = .ok (.bool true) w := fun w => run_eql_sl_nil w _ _ none 0 0 Try.underlying24
    go_enter Try.func40, Try.ntmps40
    go_wp2
    go_ret
    exact ⟨_, rfl, FRow.nil_ _ _, Below.refl _ _⟩
  · obtain ⟨n, hn⟩ : ∃ n, n = l.length := ⟨_, rfl⟩
    rw [← hn] at hc hp ⊢
    have hq : ∀ w, (binOp .eql 24 (.slice (some ad) n cp) (.slice none 0 0)).run Try.prog w = .ok (.bool false) w := fun w => run_eql_sl_nil w _ _ (some ad) n cp Try.underlying24
    have hp1 := hp.later ((Below.refl _ w).alloc (Nat.le_refl _) (.cells #[] 35))
    have HP := Lib.hid hp1
    have hln : n ≤ 1000000 := by omega
    clear hp hp1 hn
    go_enter Try.func40, Try.ntmps40
    go_wp2_with (at_builtin; refine wpList_append_fv rfl _ _ rfl w.heap.size _ [] rfl ⟨rfl, .inr ⟨w.heap.size, 0, #[], rfl, Nat.le_refl _, heap_alloc_new w _, Nat.le_refl _, by simp [maxLen], rfl, rfl⟩⟩ (by simp) (some ad) n cp l rfl HP.out hA (by simp; omega) ?_; intro v' w1 hown' hg1)
    go_ret
    refine ⟨_, rfl, hown', ?_⟩
    exact ((Below.refl _ w).alloc (Nat.le_refl _) _).grown hg1 (by simp) (fun k hk => by
      have e : w.heap.size = k := Option.some.inj hk
      omega)

theorem holds_fv {w : World} {base g n cap : Nat} {l : List FV} (h : FRow w base (.slice (some ⟨g, 0, none⟩) n cap) l) (hne : 0 < l.length) : HoldsK enc3 3 w g 0 l.toArray := by
  obtain ⟨g', cap', hv, _, _, _, hfz, hc⟩ := h.cells hne
  injection hv with e1
  injection e1 with e1
  injection e1 with e1
  subst e1
  intro j hj
  rw [size_flatK] at hj
  have hj' : j < l.length * 3 := hj
  rw [get_flatK _ _ _ _ hj, Nat.zero_add]
  refine ⟨?_, hfz j⟩
  obtain ⟨c0, c1, c2⟩ := hc (j / 3) (by omega)
  have e : l.toArray[j / 3]! = l[j / 3] := by
    rw [getElem!_pos l.toArray (j / 3) (by simp; omega)]
    rfl
  rw [e]
  have hm : j % 3 = 0 ∨ j % 3 = 1 ∨ j % 3 = 2 := by omega
  rcases hm with hm | hm | hm
  · rw [hm]
    have ej : j = j / 3 * 3 := by omega
    rw [← ej] at c0
    exact c0
  · rw [hm]
    have ej : j = j / 3 * 3 + 1 := by omega
    rw [← ej] at c1
    exact c1
  · rw [hm]
    have ej : j = j / 3 * 3 + 2 := by omega
    rw [← ej] at c2
    exact c2

theorem sorted_world {w : World} {g n m : Nat} {l0 l : List FV} {os : Array Obj} (h : HoldsK enc3 3 w g 0 l0.toArray) (hg : g < w.heap.size) (hl : l.length = l0.length) (hm : m = l.length) :
    Vals (sortWorldK enc3 3 w g 0 n l.toArray os) (some ⟨g, 0, none⟩) m l ∧ ∀ B, B ≤ g → Below B w (sortWorldK enc3 3 w g 0 n l.toArray os) := by
  have hH : HoldsK enc3 3 (putRowK enc3 3 (Sort.ahead w n) g 0 l.toArray) g 0 l.toArray := holdsK_putRowK enc3 3 (Sort.ahead w n) g 0 l0.toArray l.toArray h (by simp [hl])
  have hsz : (putRowK enc3 3 (Sort.ahead w n) g 0 l.toArray).heap.size = w.heap.size := by simp [putRowK, putRow, mapBlock, Sort.ahead]
  refine ⟨⟨hm.symm, fun k hk => ⟨g, 0, rfl, by unfold sortWorldK; simp [hsz]; omega, ?_⟩⟩, fun B hB => ⟨rfl, rfl, rfl, by unfold sortWorldK; simp [hsz], fun k hk => ?_⟩⟩
  · have a0 := (hH.cell (i := k) (c := 0) (by simpa using hk) (by omega)).1
    have a1 := (hH.cell (i := k) (c := 1) (by simpa using hk) (by omega)).1
    have a2 := (hH.cell (i := k) (c := 2) (by simpa using hk) (by omega)).1
    have e : l.toArray[k]! = l[k] := by
      rw [getElem!_pos l.toArray k (by simpa using hk)]
      rfl
    rw [e] at a0 a1 a2
    unfold sortWorldK
    rw [cell?_grow _ _ _ (by rw [hsz]; exact hg), cell?_grow _ _ _ (by rw [hsz]; exact hg), cell?_grow _ _ _ (by rw [hsz]; exact hg)]
    exact ⟨a0, a1, a2⟩
  · unfold sortWorldK
    rw [heap_grow_old _ _ (by rw [hsz]; omega)]
    have hne : g ≠ k := by omega
    simp [putRowK, putRow, mapBlock, Sort.ahead, Array.getElem?_modify, hne]

theorem cell_sortWorld {w : World} {g m : Nat} {dk : Array FV} {os : Array Obj} {p : Addr} {u : Value} (hc : w.cell? p = some u) (hne : p.block ≠ g) : (sortWorldK enc3 3 w g 0 m dk os).cell? p = some u := by
  have hlt := World.block_lt_of_cell? w _ hc
  have hsz : (putRowK enc3 3 (Sort.ahead w m) g 0 dk).heap.size = w.heap.size := by simp [putRowK, putRow, mapBlock, Sort.ahead]
  unfold sortWorldK
  rw [cell?_grow _ _ _ (by rw [hsz]; exact hlt), cell?_putRowK_other _ _ _ _ _ _ _ hne]
  exact hc
set_option maxHeartbeats 4000000 in
set_option maxRecDepth 100000 in
theorem list_any (base t k : Nat) (v : Value) (h : List FV) (w : World) (hx : TopAt w base t k v h) (hl : h.length ≤ 1000000) :
    Calls Try.prog 27 #[.pointer (some ⟨t, 0, none⟩)] w fun e w' => ∃ v', e = .returned v' ∧ Vrd w' v' (FuM.srt h) ∧ Below w.heap.size w w' := by
  have hcl := fun W hW => clone_any v h W hW hl
  have b1 : Below w.heap.size w (w.alloc (.cells #[.pointer (some ⟨t, 0, none⟩)] 63)) := (Below.refl _ w).alloc (Nat.le_refl _) _
  have x1 := hx.later b1
  have z1 : (w.alloc (.cells #[.pointer (some ⟨t, 0, none⟩)] 63)).cell? ⟨w.heap.size, 0, none⟩ = some (.pointer (some ⟨t, 0, none⟩)) := by go_simp
  have c2 := x1.c2
  have HCL := Lib.hid hcl
  clear hx hcl
  go_enter Try.func27, Try.ntmps27
  go_wp2_with fail
  generalize w.alloc (.cells #[.pointer (some ⟨t, 0, none⟩)] 63) = w1 at b1 x1 z1 c2 ⊢
  refine (HCL.out _ x1.row.prd).mono ?_
  rintro e w2 ⟨v', rfl, hrow, b2⟩
  have b12 := b1.trans (b2.mono b1.size)
  have hlt1 : w.heap.size < w1.heap.size := World.block_lt_of_cell? w1 _ z1
  have x2 := x1.later b2
  have z2 : w2.cell? ⟨w.heap.size, 0, none⟩ = some (.pointer (some ⟨t, 0, none⟩)) := (b2.cell (p := ⟨w.heap.size, 0, none⟩) hlt1).trans z1
  have htl := x1.lt
  clear x1 z1 c2
  obtain ⟨X, hX⟩ : ∃ X, X = w.heap.size := ⟨_, rfl⟩
  rw [← hX] at z2 ⊢
  have HX := Lib.hid hX
  clear hX
  by_cases hne : 0 < h.length
  · obtain ⟨g, cap, rfl, hbg, hg, hcap, _, _⟩ := hrow.cells hne
    have hH := holds_fv hrow hne
    have e117 : ∀ args w, (callFunc 42 args).run Try.prog w = .ok (.enter 42 args) w := enters_of Try.func42 (by kernel_rfl) rfl
    have hcmp : CmpLays Try.prog 42 #[.pointer (some ⟨X, 0, none⟩)] enc3 3 cmpP g 0 h.toArray.size w2 := by
      intro m os dk hdk x y
      have hXg : X ≠ g := by rw [HX.out]; omega
      have htg : t ≠ g := by omega
      exact (closure_any x y X t _ (cell_sortWorld z2 hXg) (cell_sortWorld (p := ⟨t, 1, none⟩) x2.c1 htg)).mono (fun _ _ hh => ⟨hh.1, hh.2.grown_⟩)
    have hcon := AnyQ.slices_SortFunc_total sortV 3 Try.isAgg35 Try.sizeOf35 enc3 (fun _ => rfl) (fun x v hv => by simp [enc3] at hv; rcases hv with rfl | rfl | rfl <;> rfl) cmpP swo_cmpP 42 #[.pointer (some ⟨X, 0, none⟩)] g 0 cap h.toArray w2 e117 hcmp hH hg (by simp; omega) (fun x y p q => by rw [lt_cmpP] at p q; exact FuM.same_of p q)
    change Calls Try.prog 41 _ _ _ at hcon
    have HCON := Lib.hid hcon
    have HH := Lib.hid hH
    clear hcon hcmp hH
    go_wp2_with fail
    refine HCON.out.mono ?_
    rintro e w3 ⟨rfl, n3, os3, rfl⟩
    have hms : h.toArray.toList.mergeSort (fun x y => !ltOf cmpP y x) = FuM.srt h := by
      unfold FuM.srt
      congr 1
      funext x y
      rw [lt_cmpP]
    rw [hms]
    obtain ⟨hP, hB⟩ := sorted_world (n := n3) (m := h.length) (os := os3) HH.out hg (FuM.srt_len h) (FuM.srt_len h).symm
    have hB2 := hB w.heap.size (by omega)
    have b123 := b12.trans hB2
    clear hB hB2 hms
    have hlen := FuM.srt_len h
    generalize sortWorldK enc3 3 w2 g 0 n3 (FuM.srt h).toArray os3 = w3 at hP b123 ⊢
    go_wp2
    go_ret
    refine ⟨_, rfl, ⟨some ⟨g, 0, none⟩, cap, by rw [hlen]; rfl, by rw [hlen]; exact hcap, (fun e => by cases e), by rw [hlen]; exact hP⟩, b123⟩
  · have h0 : h = [] := List.eq_nil_of_length_eq_zero (by omega)
    subst h0
    obtain ⟨A, cap, rfl, hcap, hA⟩ := hrow.form
    have hcon := fun fv W => AnyF.slices_SortFunc_none { sortV with } A cap fv W
    change ∀ fv W, Calls Try.prog 41 _ _ _ at hcon
    have HCON := Lib.hid hcon
    clear hcon
    go_wp2_with fail
    refine (HCON.out _ _).mono ?_
    rintro e w3 ⟨rfl, rfl⟩
    go_wp2
    go_ret
    exact ⟨_, rfl, by rw [FuM.srt_nil]; exact hrow.prd, b12⟩
end Go.Proofs.Ytneofgaklofigaa.Fu

/- Maps of values: what they read as; is it a list. -/
namespace Go.Proofs.Ytneofgaklofigaa.Fu
open Go.RowKit Go.Proofs.Ytneofgaklofigaa FuM Go.Maps

abbrev MD := DataW Unit
def keyL (d : Int) : Lit := .int .i64 d
theorem keyL_ne {d e : Int} (h : d ≠ e) : keyL d ≠ keyL e := fun k => by
  unfold keyL at k
  injection k with _ k
  exact h k
theorem key_law : Keyed Try.prog 3 := int_keyed Try.underlying3
theorem key_is {d : Int} (h : -9223372036854775808 ≤ d ∧ d ≤ 9223372036854775807) : keyOf Try.prog 3 (.int .i64 d) = some (keyL d) := keyOf_int_mk Try.underlying3 (WalkArith.wf_i64 (by omega))
/-! ### is it a list -/
def far (x : Int × Int) : Bool := decide (-1099511627776 ≤ x.2) && decide (x.2 ≤ 1099511627776)
def listB (l : List (Int × Int)) : Bool := decide (l.length ≤ 1000) && l.all far && decide ((l.map (·.1)).Nodup)
/-- the set of the first documents -/
def setD (l : List (Int × Int)) : MD := setOf (.agg []) (l.map fun x => keyL x.1)
theorem setD_snoc (l : List (Int × Int)) (x : Int × Int) : setD (l ++ [x]) = (setD l).put (keyL x.1) (.agg []) := by
  unfold setD
  rw [List.map_append, List.map_cons, List.map_nil, setOf_snoc]
theorem sameKey_i (d e : Int) : (keyL d).sameKey (keyL e) = (d == e) := by
  by_cases h : d = e
  · subst h
    rw [beq_self_eq_true]
    unfold keyL
    simp [Lit.sameKey]
  · have : (d == e) = false := by simpa using h
    rw [this]
    exact sameKey_ne (keyL_ne h)
theorem addKey_len (xs : List Int) : ∀ acc : List Int, ((xs.map keyL).foldl addKey (acc.map keyL)).length ≤ xs.length + acc.length ∧ (acc.Nodup → (((xs.map keyL).foldl addKey (acc.map keyL)).length = xs.length + acc.length ↔ (acc ++ xs).Nodup)) := by
  induction xs with
  | nil => intro acc; simp
  | cons a t ih =>
    intro acc
    have hany : (acc.map keyL).any (fun y => y.sameKey (keyL a)) = acc.contains a := by
      rw [List.any_map]
      induction acc with
      | nil => rfl
      | cons b s ihs =>
        rw [List.any_cons, List.contains_cons, ihs]
        congr 1
        show (keyL b).sameKey (keyL a) = _
        rw [sameKey_i, Bool.eq_iff_iff]
        simp
        exact eq_comm
    have hak : addKey (acc.map keyL) (keyL a) = if acc.contains a = true then acc.map keyL else acc.map keyL ++ [keyL a] := by unfold addKey; rw [hany]
    rw [List.map_cons, List.foldl_cons, hak]
    by_cases hc : acc.contains a = true
    · rw [if_pos hc]
      obtain ⟨h1, h2⟩ := ih acc
      have hm : a ∈ acc := by simpa using hc
      refine ⟨by rw [List.length_cons]; omega, fun hn => ⟨fun e => by rw [List.length_cons] at e; omega, fun hnd => ?_⟩⟩
      rw [List.nodup_append] at hnd
      exact absurd rfl (hnd.2.2 a hm a (by simp))
    · rw [if_neg hc]
      have hm : a ∉ acc := by simpa using hc
      have := ih (acc ++ [a])
      rw [List.map_append, List.map_cons, List.map_nil, List.length_append, List.length_singleton] at this
      obtain ⟨h1, h2⟩ := this
      refine ⟨by rw [List.length_cons]; omega, fun hn => ?_⟩
      have hn2 : (acc ++ [a]).Nodup := by
        rw [List.nodup_append]
        exact ⟨hn, by simp, fun x hx y hy e => by
          obtain rfl : y = a := by simpa using hy
          subst e
          exact hm hx⟩
      have h3 := h2 hn2
      rw [List.append_assoc, List.singleton_append] at h3
      rw [List.length_cons, ← h3]
      omega
theorem setD_size (l : List (Int × Int)) : Maps.size (setD l) ≤ l.length ∧ (Maps.size (setD l) = l.length ↔ (l.map (·.1)).Nodup) := by
  have h := addKey_len (l.map (·.1)) []
  rw [List.map_nil, List.map_map, List.length_map, List.nil_append] at h
  unfold setD
  rw [size_setOf _ _ (fun x hx => by obtain ⟨y, _, rfl⟩ := List.mem_map.1 hx; exact trivial)]
  exact ⟨h.1, h.2 List.nodup_nil⟩
end Go.Proofs.Ytneofgaklofigaa.Fu

/- Right: is it a list. -/
namespace Go.Proofs.Ytneofgaklofigaa.Fu
open Go.RowKit Go.Proofs.Ytneofgaklofigaa FuM Go.Maps

/-- a list that came in: its numbers lie in 64 bits -/
def I2 (l : List (Int × Int)) : Prop := ∀ x ∈ l, (-9223372036854775808 ≤ x.1 ∧ x.1 ≤ 9223372036854775807) ∧ -9223372036854775808 ≤ x.2 ∧ x.2 ≤ 9223372036854775807
theorem all_next {l : List (Int × Int)} {k : Nat} (h : k < l.length) : (l.take (k + 1)).all far = ((l.take k).all far && far l[k]) := by
  rw [List.take_succ_eq_append_getElem h, List.all_append]
  simp
theorem list_far {l : List (Int × Int)} {k : Nat} (h : k < l.length) (hk : far l[k] = false) : listB l = false := by
  unfold listB
  rw [show l.all far = false from List.all_eq_false.2 ⟨_, List.getElem_mem h, by simp [hk]⟩]
  simp
theorem mk_hint (n : Nat) (w : World) : (Instr.makeMap 59 (some (.int .i64 (n : Int)))).run Try.prog w = .ok (.map (some w.heap.size)) (w.alloc (.map #[] 0)) := by
  simp [Instr.makeMap, run_underlying Try.underlying59, asInt, asIntOf, Result.andThen]
set_option maxHeartbeats 2000000 in
set_option maxRecDepth 100000 in
theorem fright_any (A : Option Addr) (n cp : Nat) (l : List (Int × Int)) (w : World) (h : Pairs w A n l) (hi : I2 l) (hn : n ≤ 1000000) :
    Calls Try.prog 12 #[.slice A n cp] w fun e w' => e = .returned (.bool (listB l)) ∧ Below w.heap.size w w' := by
  have H := Lib.hid h
  have HL := Lib.hid h.1
  have HI := Lib.hid hi
  clear h hi
  by_cases h1 : 1000 < n
  · have hd : decide ((1000 : Int) < (n : Int)) = true := decide_eq_true (by omega)
    have hf : listB l = false := by unfold listB; rw [HL.out, decide_eq_false (by omega)]; rfl
    rw [hf]
    clear hf
    go_enter Try.func12, Try.ntmps12
    go_wp2
    go_ret
    exact ⟨rfl, Below.refl _ _⟩
  · have hd : decide ((1000 : Int) < (n : Int)) = false := decide_eq_false (by omega)
    have hmk := mk_hint n
    go_enter Try.func12, Try.ntmps12
    go_wp2
    clear hmk
    go_loopw [14] (fun x wr => ∃ i : Nat, x = .int .i64 i ∧ i ≤ n ∧ wr.ownsMap Try.prog 3 (unitElem (H := Unit)) w.heap.size i (setD (l.take i)) ∧ Below w.heap.size w wr ∧ (l.take i).all far = true) (fun x _ => n - (intOf x).toNat)
    case atStart => exact ⟨0, rfl, by omega, World.ownsMap_made _ _ _ _, pl1 _ _, rfl⟩
    case round =>
      obtain ⟨i, rfl, hin, hown, hb, hall⟩ := hrel
      by_cases hlt : i < n
      · have hmi : (i : Int) < (n : Int) := by omega
        have hil : i < l.length := by rw [HL.out]; exact hlt
        obtain ⟨b, o, rfl, hbl, q0, q1⟩ := H.out.2 i hil
        have hnx := all_next hil
        rw [hall, Bool.true_and] at hnx
        have hno := list_far hil
        have hix := HI.out _ (List.getElem_mem hil)
        have hsn := setD_snoc (l.take i) l[i]
        rw [← List.take_succ_eq_append_getElem hil] at hsn
        obtain ⟨⟨d, s⟩, hds⟩ : ∃ x, x = l[i] := ⟨_, rfl⟩
        rw [← hds] at q0 q1 hnx hno hix hsn
        simp only at q0 q1 hix hsn
        have p0 := (hb.cell (p := ⟨b, o + i * 2, none⟩) hbl).trans q0
        have p1 := (hb.cell (p := ⟨b, o + i * 2 + 1, none⟩) hbl).trans q1
        have HOWN := Lib.hid hown
        have HB := Lib.hid hb
        have HNX := Lib.hid hnx
        have HNO := Lib.hid hno
        have HSN := Lib.hid hsn
        clear hown hb hall hnx hno hsn hds q0 q1
        by_cases h2 : s < -1099511627776
        · have e2 : decide (s < -1099511627776) = true := decide_eq_true h2
          have HF : Hid (listB l = false) := Lib.hid (HNO.out (by unfold far; rw [decide_eq_false (show ¬ -1099511627776 ≤ s by omega)]; rfl))
          go_wp2
          go_ret
          exact ⟨by rw [HF.out]; rfl, HB.out.trans ((pl1 _ _).mono HB.out.size)⟩
        · have e2 : decide (s < -1099511627776) = false := decide_eq_false h2
          by_cases h3 : 1099511627776 < s
          · have e3 : decide (1099511627776 < s) = true := decide_eq_true h3
            have HF : Hid (listB l = false) := Lib.hid (HNO.out (by unfold far; rw [decide_eq_false (show ¬ s ≤ 1099511627776 by omega)]; simp))
            go_wp2
            go_ret
            exact ⟨by rw [HF.out]; rfl, HB.out.trans ((pl1 _ _).mono HB.out.size)⟩
          · have e3 : decide (1099511627776 < s) = false := decide_eq_false h3
            have HF : Hid ((l.take (i + 1)).all far = true) := Lib.hid (by rw [HNX.out]; unfold far; rw [decide_eq_true (show -1099511627776 ≤ s by omega), decide_eq_true (show s ≤ 1099511627776 by omega)]; rfl)
            have hkey := key_is (d := d) hix.1
            have hown2 := HOWN.out.alloc (.cells #[.int .i64 d, .int .i64 s] 37)
            have HO2 := Lib.hid hown2
            have HBA : Hid (Below w.heap.size w (wr.alloc (.cells #[.int .i64 d, .int .i64 s] 37))) := Lib.hid (HB.out.trans ((pl1 _ _).mono HB.out.size))
            clear hown2
            go_wp2_with (at_mapUpdate; refine wpList_mapUpdate_own _ rfl _ _ _ 59 rfl 3 60 key_law Try.underlying59 _ w.heap.size i _ rfl HO2.out (by unfold maxLen; omega) _ _ _ rfl rfl hkey (.agg []) [] unitElem_mk ?_; intro w1 hown1 hgrow1)
            have HN1 : Hid (w1.ownsMap Try.prog 3 (unitElem (H := Unit)) w.heap.size (i + 1) (setD (l.take (i + 1)))) := Lib.hid (by rw [HSN.out]; exact hown1)
            have HB1 : Hid (Below w.heap.size w w1) := Lib.hid (HBA.out.grown hgrow1 HBA.out.size (fun q hq => by
              have e : w.heap.size = q := Option.some.inj hq
              omega))
            clear hown1 hgrow1
            go_wp2
            go_roundw
            case rel => exact ⟨i + 1, by go_num, by omega, HN1.out, HB1.out, HF.out⟩
            case measure => simp [intOf]; omega
      · have hmi : ¬ (i : Int) < (n : Int) := by omega
        obtain rfl : i = n := by omega
        have htk : l.take i = l := List.take_of_length_le (by rw [HL.out]; exact Nat.le_refl _)
        rw [htk] at hown hall
        have HO := Lib.hid hown
        have HB := Lib.hid hb
        obtain ⟨z1, z2⟩ := setD_size l
        rw [HL.out] at z1 z2
        have hlist : listB l = decide (Maps.size (setD l) = i) := by
          unfold listB
          rw [HL.out, decide_eq_true (show i ≤ 1000 by omega), hall, Bool.true_and, Bool.true_and]
          exact decide_eq_decide.2 z2.symm
        obtain ⟨m, hm⟩ : ∃ m, m = Maps.size (setD l) := ⟨_, rfl⟩
        rw [← hm] at hlist
        have HLI := Lib.hid hlist
        have HM := Lib.hid hm
        clear hown hb hall z1 z2 hlist hm htk
        by_cases hmi2 : m = i
        · have e1 : ((m : Int) == (i : Int)) = true := by simp; omega
          have e2 : decide (m = i) = true := decide_eq_true hmi2
          have HF : Hid (listB l = true) := Lib.hid (by rw [HLI.out, e2])
          go_wp2_with (at_len; refine wpList_len_own _ rfl _ 59 rfl 3 60 Try.underlying59 _ w.heap.size i _ rfl HO.out ?_; rw [← HM.out])
          go_ret
          exact ⟨by rw [HF.out]; rfl, HB.out⟩
        · have e1 : ((m : Int) == (i : Int)) = false := by simp; omega
          have e2 : decide (m = i) = false := decide_eq_false hmi2
          have HF : Hid (listB l = false) := Lib.hid (by rw [HLI.out, e2])
          go_wp2_with (at_len; refine wpList_len_own _ rfl _ 59 rfl 3 60 Try.underlying59 _ w.heap.size i _ rfl HO.out ?_; rw [← HM.out])
          go_ret
          exact ⟨by rw [HF.out]; rfl, HB.out⟩
end Go.Proofs.Ytneofgaklofigaa.Fu

/- Lists that came in, as the walks take them. -/
namespace Go.Proofs.Ytneofgaklofigaa.Fu
open Go.ChangeShapes Go.WideShapes Go.ChangeAt Go.RowKit Go.Proofs.Ytneofgaklofigaa

theorem cells_scored : Try.prog.cellsOf 37 = 2 := by kernel_rfl
theorem cells_int4 : Try.prog.cellsOf 3 = 1 := by kernel_rfl
set_option maxRecDepth 100000 in
theorem scored_of_trod {H : Type} {enc : TypeId × Value → H} {W : World} {fuel : Nat} {cs : List Value} {x : DataW H × List MemPlace} (h : DataW.trod enc Try.prog W 0 (fun _ => true) true fuel 37 cs = some x) :
    ∃ a b : Int, cs = [.int .i64 a, .int .i64 b] ∧ (-9223372036854775808 ≤ a ∧ a ≤ 9223372036854775807) ∧ -9223372036854775808 ≤ b ∧ b ≤ 9223372036854775807 := by
  obtain ⟨xs, n, _, _, hlen, hxl, hf⟩ := DataW.trod_struct Try.underlying37 h
  rw [cells_scored] at hlen
  obtain ⟨v0, v1, rfl⟩ : ∃ v0 v1, cs = [v0, v1] := by
    match cs, hlen with
    | [v0, v1], _ => exact ⟨v0, v1, rfl⟩
  obtain ⟨y0, y1, rfl⟩ : ∃ y0 y1, xs = [y0, y1] := by
    match xs, hxl with
    | [y0, y1], _ => exact ⟨y0, y1, rfl⟩
  have f0 : DataW.trod enc Try.prog W 0 (fun _ => true) true n 3 (([v0, v1].drop 0).take (Try.prog.cellsOf 3)) = some y0 := hf 0 _ rfl
  have f1 : DataW.trod enc Try.prog W 0 (fun _ => true) true n 3 (([v0, v1].drop 1).take (Try.prog.cellsOf 3)) = some y1 := hf 1 _ rfl
  rw [cells_int4] at f0 f1
  obtain ⟨a, ea, _, wa⟩ := DataW.trod_int Try.underlying3 f0
  obtain ⟨b, eb, _, wb⟩ := DataW.trod_int Try.underlying3 f1
  simp at ea eb
  exact ⟨a, b, by rw [ea, eb], bounds_i64 wa, bounds_i64 wb⟩
set_option maxRecDepth 100000 in
/-- a list that came in -/
theorem scoreds_of_trod {H : Type} {enc : TypeId × Value → H} {W : World} {v : Value} {d : DataW H} {ps : List MemPlace} {base : Nat} (hv : Value.okWide Try.prog W .any base 22 v) (hp : ∀ x ∈ ps, x.block < W.heap.size)
    (h : DataW.Trod enc Try.prog W 0 (fun _ => true) true 22 v d ps) :
    ∃ A n cp l, v = .slice A n cp ∧ Pairs W A n l ∧ I2 l := by
  obtain ⟨a0, len, cap, rfl⟩ := okWide_slice Try.underlying22 hv
  obtain ⟨fuel, hf⟩ := h
  rcases Go.Deep.open_slice Try.underlying22 hf with ⟨hcs, _⟩ | ⟨a, len', cap', m, n, D, Pl, hcs, _, hl, _, hm, hx, hcell⟩
  · have e : a0 = none ∧ len = 0 ∧ cap = 0 := by simpa [Value.cells] using hcs
    obtain ⟨rfl, rfl, rfl⟩ := e
    exact ⟨none, 0, 0, [], rfl, ⟨rfl, fun k hk => by simp at hk⟩, fun x hx => by simp at hx⟩
  · have e : a0 = some a ∧ len = len' ∧ cap = cap' := by simpa [Value.cells] using hcs
    obtain ⟨rfl, rfl, rfl⟩ := e
    simp only [if_true] at hm
    rw [cells_scored] at hcell hx
    have hone : ∀ i, i < len → ∃ t : Int × Int, (W.cell? (a.add (i * 2)) = some (.int .i64 t.1) ∧ W.cell? (a.add (i * 2 + 1)) = some (.int .i64 t.2)) ∧ (-9223372036854775808 ≤ t.1 ∧ t.1 ≤ 9223372036854775807) ∧ -9223372036854775808 ≤ t.2 ∧ t.2 ≤ 9223372036854775807 := by
      intro i hi
      obtain ⟨cs', hc, ht⟩ := hcell i (by omega)
      obtain ⟨x, y, rfl, hb⟩ := scored_of_trod ht
      obtain ⟨_, _, hat⟩ := World.cells?_some hc
      have c0 := hat 0 (by omega)
      have c1 := hat 1 (by omega)
      rw [Go.Deep.add_add] at c0 c1
      exact ⟨(x, y), ⟨c0, c1⟩, hb⟩
    obtain ⟨f, hfE⟩ : ∃ f : Nat → Int × Int, ∀ i, i < len → (W.cell? (a.add (i * 2)) = some (.int .i64 (f i).1) ∧ W.cell? (a.add (i * 2 + 1)) = some (.int .i64 (f i).2)) ∧ (-9223372036854775808 ≤ (f i).1 ∧ (f i).1 ≤ 9223372036854775807) ∧ -9223372036854775808 ≤ (f i).2 ∧ (f i).2 ≤ 9223372036854775807 :=
      ⟨fun i => if h : i < len then (hone i h).choose else (0, 0), fun i hi => by simp only [hi, dif_pos]; exact (hone i hi).choose_spec⟩
    refine ⟨some a, len, cap, (List.range len).map f, rfl, ⟨by simp, fun k hk => ?_⟩, fun x hx => ?_⟩
    · have hk' : k < len := by simpa using hk
      obtain ⟨⟨c0, c1⟩, _⟩ := hfE k hk'
      have hpl : a.block < W.heap.size := by
        simp only [Prod.mk.injEq] at hx
        have := hp (.cell a.block (a.off + k * 2)) (by rw [hx.2]; exact List.mem_append_left _ (MemPlace.mem_row.2 ⟨k * 2, by omega, rfl⟩))
        exact this
      have c00 := (hfE 0 (by omega)).1.1
      obtain ⟨b, o, spot⟩ := a
      have hspot : spot = none := by simpa [Addr.add] using World.cell?_spot c00
      subst hspot
      refine ⟨b, o, rfl, hpl, ?_⟩
      rw [add_none] at c0 c1
      simp only [List.getElem_map, List.getElem_range]
      exact ⟨c0, c1⟩
    · obtain ⟨i, hi, rfl⟩ := List.mem_map.1 hx
      exact (hfE i (List.mem_range.1 hi)).2
end Go.Proofs.Ytneofgaklofigaa.Fu
