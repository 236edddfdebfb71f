
/- The heap's first moved down. -/
import Derived.Test.YtjdlocmchmeipaaTopC
namespace Go.Proofs.Ytjdlocmchmeipaa
open Go.RowKit

/-- of what was looked at w is the worst -/
def SkT (hr : List (Int × Int)) (i wst bl : Nat) : Prop :=
  wst < hr.length ∧ (wst = i ∨ (2 * i + 1 ≤ wst ∧ wst < bl)) ∧ TopM.bet (TopM.at_ hr wst) (TopM.at_ hr i) = false ∧ ∀ j, 2 * i + 1 ≤ j → j < bl → j < hr.length → TopM.bet (TopM.at_ hr wst) (TopM.at_ hr j) = false
theorem sk_start (hr : List (Int × Int)) (i : Nat) (hi : i < hr.length) : SkT hr i i (2 * i + 1) := ⟨hi, .inl rfl, TopM.irr _, fun j h1 h2 => by omega⟩
theorem sk_yes {hr : List (Int × Int)} {i wst bl : Nat} (h : SkT hr i wst bl) (hb : bl < hr.length) (h2 : 2 * i + 1 ≤ bl) (hbt : TopM.bet (TopM.at_ hr wst) (TopM.at_ hr bl) = true) : SkT hr i bl (bl + 1) := by
  obtain ⟨a, b, c, d⟩ := h
  have hn := TopM.asy hbt
  refine ⟨hb, .inr ⟨h2, by omega⟩, TopM.ntr hn c, fun j h1 h3 h4 => ?_⟩
  by_cases e : j = bl
  · subst e; exact TopM.irr _
  · exact TopM.ntr hn (d j h1 (by omega) h4)
theorem sk_no {hr : List (Int × Int)} {i wst bl : Nat} (h : SkT hr i wst bl) (hbt : TopM.bet (TopM.at_ hr wst) (TopM.at_ hr bl) = false) : SkT hr i wst (bl + 1) := by
  obtain ⟨a, b, c, d⟩ := h
  refine ⟨a, ?_, c, fun j h1 h3 h4 => ?_⟩
  · rcases b with h | h
    · exact .inl h
    · exact .inr ⟨h.1, by omega⟩
  · by_cases e : j = bl
    · subst e; exact hbt
    · exact d j h1 (by omega) h4
theorem sk_all {hr : List (Int × Int)} {i wst bl : Nat} (h : SkT hr i wst bl) (hb : bl = 2 * i + 3 ∨ hr.length ≤ bl) : ∀ j, 0 < j → j < hr.length → TopM.par j = i → TopM.bet (TopM.at_ hr wst) (TopM.at_ hr j) = false := by
  intro j h0 hj hp
  unfold TopM.par at hp
  exact h.2.2.2 j (by omega) (by omega) hj

set_option maxHeartbeats 8000000 in
set_option maxRecDepth 100000 in
theorem sink_any (base t k : Nat) (v : Value) (h : List (Int × Int)) (n : Nat) (w : World) (hx : TopAt w base t k v h) (hn : h.length = n) (hn0 : 0 < n) (hu : TopM.Dn h 0) (hl : n ≤ 1000000000) :
    Calls Try.prog 46 #[.pointer (some ⟨t, 0, none⟩)] w fun e w' => e = .returned (.tuple #[]) ∧ ∃ h', TopAt w' base t k v h' ∧ TopM.Heap h' ∧ h'.Perm h ∧ Only (own2 t v) w w' := by
  have HN := Lib.hid hn
  clear hn
  go_enter Try.func46, Try.ntmps46
  go_wp2
  go_loopw [2] (fun x wr => ∃ (i : Nat) (hr : List (Int × Int)), x = .int .i64 i ∧ i < n ∧ hr.length = n ∧ TopAt wr base t k v hr ∧ TopM.Dn hr i ∧ hr.Perm h ∧ Only (own2 t v) w wr) (fun x _ => n - (intOf x).toNat)
  case atStart => exact ⟨0, h, by go_num, hn0, HN.out, hx, hu, List.Perm.refl _, Only.refl _ _⟩
  case round =>
    clear hu hx
    obtain ⟨i, hr, rfl, hi, hrn, xr, ur, pr, onl⟩ := hrel
    have HRN := Lib.hid hrn
    have HUR := Lib.hid ur
    clear hrn ur
    go_wp2
    go_loopw [3, 4] (fun x y wr => ∃ wst bl : Nat, x = .int .i64 wst ∧ y = .int .i64 bl ∧ 2 * i + 1 ≤ bl ∧ bl ≤ 2 * i + 3 ∧ SkT hr i wst bl ∧ TopAt wr base t k v hr ∧ Only (own2 t v) w wr) (fun _ y _ => 2 * i + 3 - (intOf y).toNat)
    case atStart => exact ⟨i, 2 * i + 1, rfl, by go_num, by omega, by omega, sk_start hr i (by rw [HRN.out]; exact hi), xr, onl⟩
    case round =>
      clear xr onl
      obtain ⟨wst, bl, rfl, rfl, hb1, hb3, sk, xs, ons⟩ := hrel
      have hwn : wst < n := by have := sk.1; rw [HRN.out] at this; exact this
      have SK := Lib.hid sk
      obtain ⟨g2, cap2, hv2, hbg2, hg2, hcap2, hfz2, hc2⟩ := xs.row.cells (by rw [HRN.out]; omega)
      have c0 := xs.c0
      have c1 : wr.cell? ⟨t, 1, none⟩ = some (.func (.func 32) #[] #[]) := xs.c1
      have c2 := xs.c2
      rw [hv2, HRN.out] at c2
      rw [HRN.out] at hcap2
      by_cases hlt : bl ≤ 2 * i + 2 ∧ bl < n
      · obtain ⟨hl1, hl2⟩ := hlt
        have hd1 : decide ((bl : Int) ≤ 2 * (i : Int) + 2) = true := decide_eq_true (by omega)
        have hd2 : decide ((bl : Int) < (n : Int)) = true := decide_eq_true (by omega)
        have hd3 : decide (bl < n) = true := decide_eq_true hl2
        obtain ⟨ci0, ci1⟩ := hc2 bl (by rw [HRN.out]; exact hl2)
        obtain ⟨cp0, cp1⟩ := hc2 wst (by rw [HRN.out]; exact hwn)
        have ai := TopM.at_get (show bl < hr.length by rw [HRN.out]; exact hl2)
        have ap := TopM.at_get (show wst < hr.length by rw [HRN.out]; exact hwn)
        rw [← ai] at ci0 ci1
        rw [← ap] at cp0 cp1
        obtain ⟨x, hxe⟩ : ∃ x, x = TopM.at_ hr wst := ⟨_, rfl⟩
        obtain ⟨y, hye⟩ : ∃ y, y = TopM.at_ hr bl := ⟨_, rfl⟩
        rw [← hye] at ci0 ci1
        rw [← hxe] at cp0 cp1
        have hbt := fun W => better_any x y W
        unfold sv at hbt
        have HI : Hid (TopM.bet (TopM.at_ hr wst) (TopM.at_ hr bl) = TopM.bet x y) := Lib.hid (by rw [hxe, hye])
        have hb0 : (0 : Int) ≤ (bl : Int) := by omega
        have hw0 : (0 : Int) ≤ (wst : Int) := by omega
        have hbn : (bl : Int) < (n : Int) := by omega
        have hwn' : (wst : Int) < (n : Int) := by omega
        clear ai ap hxe hye hc2 hfz2 hv2 sk
        obtain ⟨r, hr'⟩ : ∃ r, TopM.bet x y = r := ⟨_, rfl⟩
        rw [hr'] at hbt HI
        have HB := Lib.hid hbt
        clear hbt hr'
        cases r with
        | true =>
          go_wp2
          go_still_tail 18, (by kernel_rfl)
          change wpList _ _ _ _ _ wr.drew
          have xd := xs.drew
          have od := ons.drew
          clear xs ons
          generalize wr.drew = w2 at xd od ⊢
          clear c0 c1 c2 ci0 ci1 cp0 cp1
          go_wp2_with fail
          refine (HB.out _).mono ?_
          rintro e w3 ⟨rfl, o1, o2, rfl⟩
          have x3 := (xd.alloc o1).alloc o2
          have ol3 := (od.alloc o1).alloc o2
          clear xd od
          generalize (w2.alloc o1).alloc o2 = w3 at x3 ol3 ⊢
          go_wp2
          go_roundw
          case rel => exact ⟨bl, bl + 1, rfl, by go_num, by omega, by omega, sk_yes SK.out (by rw [HRN.out]; exact hl2) hb1 HI.out, x3, ol3⟩
          case measure => simp [intOf]; omega
        | false =>
          go_wp2
          go_still_tail 18, (by kernel_rfl)
          change wpList _ _ _ _ _ wr.drew
          have xd := xs.drew
          have od := ons.drew
          clear xs ons
          generalize wr.drew = w2 at xd od ⊢
          clear c0 c1 c2 ci0 ci1 cp0 cp1
          go_wp2_with fail
          refine (HB.out _).mono ?_
          rintro e w3 ⟨rfl, o1, o2, rfl⟩
          have x3 := (xd.alloc o1).alloc o2
          have ol3 := (od.alloc o1).alloc o2
          clear xd od
          generalize (w2.alloc o1).alloc o2 = w3 at x3 ol3 ⊢
          go_wp2
          go_roundw
          case rel => exact ⟨wst, bl + 1, rfl, by go_num, by omega, by omega, sk_no SK.out HI.out, x3, ol3⟩
          case measure => simp [intOf]; omega
      · have hall := Lib.hid (sk_all sk (by rw [HRN.out]; omega))
        clear hc2 hfz2 hv2 sk
        by_cases hwi : wst = i
        · subst hwi
          have hH := Lib.hid (TopM.dn_end HUR.out hall.out)
          by_cases hl1 : bl ≤ 2 * wst + 2
          · have hd1 : decide ((bl : Int) ≤ 2 * (wst : Int) + 2) = true := decide_eq_true (by omega)
            have hd2 : decide ((bl : Int) < (n : Int)) = false := decide_eq_false (by omega)
            have hd3 : decide (bl < n) = false := decide_eq_false (by omega)
            go_wp2
            exact bodyPost_ret (v := .tuple #[]) (by simp [results, Try.results46, go_sem]) rfl ⟨rfl, hr, xs, hH.out, pr, ons⟩
          · have hd1 : decide ((bl : Int) ≤ 2 * (wst : Int) + 2) = false := decide_eq_false (by omega)
            go_wp2
            exact bodyPost_ret (v := .tuple #[]) (by simp [results, Try.results46, go_sem]) rfl ⟨rfl, hr, xs, hH.out, pr, ons⟩
        · have hwc : TopM.par wst = i ∧ 0 < wst ∧ i < wst := by
            rcases SK.out.2.1 with h | h
            · exact absurd h hwi
            · unfold TopM.par; omega
          have HWC := Lib.hid hwc.1
          obtain ⟨_, hw0, hiw⟩ := hwc
          have hde : ((wst : Int) == (i : Int)) = false := by simp; omega
          have hsw := fun W hW => swap_any base t k v hr i wst W hW (by rw [HRN.out]; exact hi) (by rw [HRN.out]; exact hwn) (by omega) (by rw [HRN.out]; omega)
          have HSW := Lib.hid hsw
          clear hsw
          by_cases hl1 : bl ≤ 2 * i + 2
          · have hd1 : decide ((bl : Int) ≤ 2 * (i : Int) + 2) = true := decide_eq_true (by omega)
            have hd2 : decide ((bl : Int) < (n : Int)) = false := decide_eq_false (by omega)
            have hd3 : decide (bl < n) = false := decide_eq_false (by omega)
            go_wp2_with fail
            refine (HSW.out _ xs).mono ?_
            rintro e w4 ⟨rfl, x4, o4⟩
            have ol4 := ons.trans o4
            clear xs ons o4 c0 c1 c2
            go_wp2
            go_roundw
            case rel =>
              exact ⟨wst, _, rfl, hwn, by rw [TopM.swp_len, HRN.out], x4, TopM.dn_step HUR.out (by rw [HRN.out]; exact hi) SK.out.1 hw0 HWC.out SK.out.2.2.1 hall.out, (TopM.swp_perm hr i wst (by rw [HRN.out]; exact hi) SK.out.1).trans pr, ol4⟩
            case measure => simp [intOf]; omega
          · have hd1 : decide ((bl : Int) ≤ 2 * (i : Int) + 2) = false := decide_eq_false (by omega)
            go_wp2_with fail
            refine (HSW.out _ xs).mono ?_
            rintro e w4 ⟨rfl, x4, o4⟩
            have ol4 := ons.trans o4
            clear xs ons o4 c0 c1 c2
            go_wp2
            go_roundw
            case rel =>
              exact ⟨wst, _, rfl, hwn, by rw [TopM.swp_len, HRN.out], x4, TopM.dn_step HUR.out (by rw [HRN.out]; exact hi) SK.out.1 hw0 HWC.out SK.out.2.2.1 hall.out, (TopM.swp_perm hr i wst (by rw [HRN.out]; exact hi) SK.out.1).trans pr, ol4⟩
            case measure => simp [intOf]; omega
end Go.Proofs.Ytjdlocmchmeipaa
