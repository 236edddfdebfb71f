
/- The heap's last moved up, its first moved down. -/
import Derived.Test.YtjdlocmchmeipaaTopB
import Derived.StillTailTactics
namespace Go.Proofs.Ytjdlocmchmeipaa
open Go.RowKit

theorem TopAt.drew {w : World} {base t k : Nat} {v : Value} {h : List (Int × Int)} (x : TopAt w base t k v h) : TopAt w.drew base t k v h := ⟨x.old, x.blk, x.row⟩
theorem TopAt.alloc {w : World} {base t k : Nat} {v : Value} {h : List (Int × Int)} (x : TopAt w base t k v h) (o : Obj) : TopAt (w.alloc o) base t k v h := x.later ((Below.refl _ _).alloc (Nat.le_refl _) _)

set_option maxHeartbeats 4000000 in
set_option maxRecDepth 100000 in
theorem rise_any (base t k : Nat) (v : Value) (h : List (Int × Int)) (m : Nat) (w : World) (hx : TopAt w base t k v h) (hm : h.length = m) (hm0 : 0 < m) (hu : TopM.Up h (m - 1)) (hl : h.length ≤ 1000000000) :
    Calls Try.prog 45 #[.pointer (some ⟨t, 0, none⟩)] w fun e w' => e = .returned (.tuple #[]) ∧ ∃ h', TopAt w' base t k v h' ∧ TopM.Heap h' ∧ h'.Perm h ∧ Only (own2 t v) w w' := by
  obtain ⟨g, cap, hv, hbg, hg, hcap, hfz, hc⟩ := hx.row.cells (by omega)
  have c2 := hx.c2
  rw [hv, hm] at c2
  have HX := Lib.hid hx
  have HV := Lib.hid hv
  have HM := Lib.hid hm
  have hml : m ≤ 1000000000 := by omega
  clear hx hv hc hfz hm hl
  go_enter Try.func45, Try.ntmps45
  go_wp2
  go_loopw [2] (fun x wr => ∃ (i : Nat) (hr : List (Int × Int)), x = .int .i64 i ∧ i < hr.length ∧ hr.length = m ∧ TopAt wr base t k v hr ∧ TopM.Up hr i ∧ hr.Perm h ∧ Only (own2 t v) w wr) (fun x _ => (intOf x).toNat)
  case atStart => exact ⟨m - 1, h, by go_num, by rw [HM.out]; omega, HM.out, HX.out, hu, List.Perm.refl _, Only.refl _ _⟩
  case round =>
    clear hu c2 hcap hg
    obtain ⟨i, hr, rfl, hi, hrm, xr, ur, pr, onl⟩ := hrel
    by_cases h0 : i = 0
    · subst h0
      have hH := Lib.hid (TopM.up_end ur (.inl rfl))
      have hd : decide ((0 : Int) < ((0 : Nat) : Int)) = false := by simp
      clear ur hrm
      go_wp2
      go_end0
      exact ⟨rfl, hr, xr, hH.out, pr, onl⟩
    · obtain ⟨p, hp⟩ : ∃ p, p = TopM.par i := ⟨_, rfl⟩
      have hpi : p < i := by rw [hp]; unfold TopM.par; omega
      have hpe : ((i : Int) - 1) / 2 = (p : Int) := by rw [hp]; unfold TopM.par; omega
      have hd : decide ((0 : Int) < (i : Int)) = true := by simp; omega
      have c0 := xr.c0
      have c1 : wr.cell? ⟨t, 1, none⟩ = some (.func (.func 32) #[] #[]) := xr.c1
      have c2 := xr.c2
      obtain ⟨g2, cap2, hv2, hbg2, hg2, hcap2, hfz2, hc2⟩ := xr.row.cells (by omega)
      rw [hv2, hrm] at c2
      obtain ⟨ci0, ci1⟩ := hc2 i hi
      obtain ⟨cp0, cp1⟩ := hc2 p (by omega)
      have ai := TopM.at_get hi
      have ap := TopM.at_get (show p < hr.length by omega)
      rw [← ai] at ci0 ci1
      rw [← ap] at cp0 cp1
      obtain ⟨x, hxe⟩ : ∃ x, x = TopM.at_ hr p := ⟨_, rfl⟩
      obtain ⟨y, hye⟩ : ∃ y, y = TopM.at_ hr i := ⟨_, rfl⟩
      rw [← hye] at ci0 ci1
      rw [← hxe] at cp0 cp1
      have hbt := fun W => better_any x y W
      unfold sv at hbt
      have HI : Hid (TopM.bet (TopM.at_ hr (TopM.par i)) (TopM.at_ hr i) = TopM.bet x y) := Lib.hid (by rw [hxe, hye, hp])
      have HP := Lib.hid hp
      have HRM := Lib.hid hrm
      rw [hrm] at hi hcap2
      have hi1 : 0 < i := by omega
      have hpm : (p : Int) < (m : Int) := by omega
      have him : (i : Int) < (m : Int) := by omega
      have hp0 : (0 : Int) ≤ (p : Int) := by omega
      have hii0 : (0 : Int) ≤ (i : Int) := by omega
      clear ai ap hxe hye hp hrm hc2 hfz2 hv2
      cases hb : TopM.bet x y with
      | true =>
        rw [hb] at hbt HI
        have HB := Lib.hid hbt
        clear hbt hb
        go_wp2
        go_still_tail 18, (by kernel_rfl)
        change wpList _ _ _ _ _ wr.drew
        have xd := xr.drew
        have od := onl.drew
        clear xr onl
        generalize wr.drew = w2 at xd od ⊢
        clear c0 c1 c2 ci0 ci1 cp0 cp1
        go_wp2_with fail
        refine (HB.out _).mono ?_
        rintro e w3 ⟨rfl, o1, o2, rfl⟩
        have x3 := (xd.alloc o1).alloc o2
        have ol3 := (od.alloc o1).alloc o2
        clear xd od
        generalize (w2.alloc o1).alloc o2 = w3 at x3 ol3 ⊢
        go_wp2_with fail
        refine (swap_any base t k v hr p i w3 x3 (by rw [HRM.out]; omega) (by rw [HRM.out]; omega) (by omega) (by rw [HRM.out]; omega)).mono ?_
        rintro e w4 ⟨rfl, x4, o4⟩
        have ol4 := ol3.trans o4
        clear x3 ol3 o4
        go_wp2
        go_roundw
        case rel =>
          refine ⟨p, _, rfl, by rw [TopM.swp_len, HRM.out]; omega, by rw [TopM.swp_len, HRM.out], x4, ?_, (TopM.swp_perm hr p i (by rw [HRM.out]; omega) (by rw [HRM.out]; omega)).trans pr, ol4⟩
          have := TopM.up_step ur hi1 (by rw [HRM.out]; omega) HI.out
          rw [← HP.out] at this
          exact this
        case measure => simp [intOf]; omega
      | false =>
        rw [hb] at hbt HI
        have HB := Lib.hid hbt
        have hH := Lib.hid (TopM.up_end ur (.inr HI.out))
        clear hbt hb ur
        go_wp2
        go_still_tail 18, (by kernel_rfl)
        change wpList _ _ _ _ _ wr.drew
        have xd := xr.drew
        have od := onl.drew
        clear xr onl
        generalize wr.drew = w2 at xd od ⊢
        clear c0 c1 c2 ci0 ci1 cp0 cp1
        go_wp2_with fail
        refine (HB.out _).mono ?_
        rintro e w3 ⟨rfl, o1, o2, rfl⟩
        have x3 := (xd.alloc o1).alloc o2
        have ol3 := (od.alloc o1).alloc o2
        clear xd od
        generalize (w2.alloc o1).alloc o2 = w3 at x3 ol3 ⊢
        go_wp2
        exact bodyPost_ret (v := .tuple #[]) (by simp [results, Try.results45, go_sem]) rfl ⟨rfl, hr, x3, hH.out, pr, ol3⟩
end Go.Proofs.Ytjdlocmchmeipaa
