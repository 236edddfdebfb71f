
/- Is there room. -/
import Derived.Test.YteigkmeenokfoaaVdE
import Derived.Deep.RegionWith
namespace Go.Proofs.Yteigkmeenokfoaa.Vd
open Go.RowKit Go.Proofs.Yteigkmeenokfoaa VdM Go.Maps

theorem len_run {w : World} {m nn : Nat} {D : MD} {V : Name → Value} {fs : Fils} (hown : Own w m nn D) (hr : Rep D V fs) (hri : Rising fs) : (Builtin.len_ #[44] 3 #[.map (some m)]).run Try.prog w = .ok (.int .i64 (fs.length : Int)) w := by
  have h := hown.len Try.underlying44 3
  rw [size_rep hown hr hri] at h
  exact h
set_option maxHeartbeats 4000000 in
set_option maxRecDepth 100000 in
theorem hasroom_any (w : World) (F : Nat → Prop) (d : Nat) (s : Dsk) (h : Is w F d s) (nm : ByteArray) (k : Nat) (hn : nm.size ≤ 1000000000) :
    Calls Try.prog 19 #[.pointer (some ⟨d, 0, none⟩), .string nm, .int .i64 (k : Int)] w fun e w' => e = .returned (.bool (roomB s nm.data.toList k)) ∧ Below w.heap.size w w' := by
  have hIs := h
  obtain ⟨m, D, V, h⟩ := h
  obtain ⟨c0, c1, c2, c3, c4, c5⟩ := h.cells
  have hdl := h.dlt
  have hfit := h.ok.fits
  have hq1 := h.ok.q2
  have hmo := h.ok.most
  obtain ⟨sp, sn, sc, hsh⟩ := h.shape nm.data.toList
  obtain ⟨q, hq⟩ : ∃ q, lkF s.fs nm.data.toList = q := ⟨_, rfl⟩
  rw [hq] at hsh
  have hrn := look_run_ok h.own h.rep nm (key_is nm hn) q hq
  rw [hsh] at hrn
  obtain ⟨sy, hsy⟩ : ∃ x, x = synOf q := ⟨_, rfl⟩
  rw [← hsy] at hrn
  have HU := Lib.hid (fun W (hW : Below w.heap.size w W) => used_any W F d s (hIs.later hW))
  obtain ⟨u, hu⟩ : ∃ u, u = usF s.fs := ⟨_, rfl⟩
  rw [← hu] at hfit HU
  obtain ⟨qt, hqt⟩ : ∃ x, x = s.quota := ⟨_, rfl⟩
  rw [← hqt] at hfit hq1 c0
  obtain ⟨ok, hok⟩ : ∃ x, x = q.isSome := ⟨_, rfl⟩
  rw [← hok] at hrn
  obtain ⟨b2, hb2⟩ : ∃ b, decide ((k : Int) ≤ (qt : Int) - (u : Int)) = b := ⟨_, rfl⟩
  have HBE := Lib.hid hb2
  have hw1 : IntKind.i64.wrap ((qt : Int) - (u : Int)) = (qt : Int) - (u : Int) := by rw [IntKind.wrap_i64]; omega
  have hle : decide (u + k ≤ qt) = b2 := by rw [← hb2]; exact decide_eq_decide.2 (by omega)
  have hres : roomB s nm.data.toList k = ((ok || decide (s.fs.length < 64)) && b2) := by
    unfold roomB
    rw [hq, ← hu, ← hqt, hle, hok]
    cases q <;> simp
  have hB1 := pl1 w (.cells #[.slice sp sn sc, .int .i64 sy] 56)
  have hlen := len_run (h.later hB1).own h.rep h.ok.rise
  have y0 := (hB1.cell (p := ⟨d, 0, none⟩) hdl).trans c0
  have y1 := (hB1.cell (p := ⟨d, 1, none⟩) hdl).trans c1
  obtain ⟨L, hL⟩ : ∃ x, x = s.fs.length := ⟨_, rfl⟩
  rw [← hL] at hlen hmo hres
  have HUD0 := Lib.hid ((HU.out _ hB1.drew).mono fun e w' (h : _ ∧ _) => (⟨h.1, (Below.refl _ _).drew.trans h.2⟩ : _ ∧ _))
  have HB1 := Lib.hid hB1
  rw [hres]
  clear hIs h c2 c3 c4 c5 hfit hq1 hsh hq hsy hu hqt hok hb2 hle hres hB1 hL HU
  have HUD : Hid (Calls Try.prog 15 #[.pointer (some ⟨d, 0, none⟩)] (w.alloc (.cells #[.slice sp sn sc, .int .i64 sy] 56)).drew fun e w' => e = .returned (.int .i64 (u : Int)) ∧ Below (w.alloc (.cells #[.slice sp sn sc, .int .i64 sy] 56)).heap.size (w.alloc (.cells #[.slice sp sn sc, .int .i64 sy] 56)) w') := HUD0
  have hdl1 : d < (w.alloc (.cells #[.slice sp sn sc, .int .i64 sy] 56)).heap.size := by simp; omega
  clear hdl
  cases ok with
  | true =>
    rw [Bool.true_or, Bool.true_and]
    clear hlen hmo
    go_enter Try.func19, Try.ntmps19
    go_wp2
    go_region_with ((with_reducible refine HUD.out.mono ?_); rintro e w2 ⟨rfl, hb2⟩; have z0 := (hb2.cell (p := ⟨d, 0, none⟩) hdl1).trans y0)
    all_goals
      go_wp2
      go_ret
      exact ⟨by rw [← HBE.out]; rfl, HB1.out.trans (hb2.mono HB1.out.size)⟩
  | false =>
    rw [Bool.false_or]
    by_cases h64 : L < 64
    · have d64 : decide ((64 : Int) ≤ (L : Int)) = false := decide_eq_false (by omega)
      have e64 : decide (64 ≤ L) = false := decide_eq_false (by omega)
      rw [decide_eq_true h64, Bool.true_and]
      clear h64 hmo
      go_enter Try.func19, Try.ntmps19
      go_wp2
      go_region_with ((with_reducible refine HUD.out.mono ?_); rintro e w2 ⟨rfl, hb2⟩; have z0 := (hb2.cell (p := ⟨d, 0, none⟩) hdl1).trans y0)
      all_goals
        go_wp2
        go_ret
        exact ⟨by rw [← HBE.out]; rfl, HB1.out.trans (hb2.mono HB1.out.size)⟩
    · have d64 : decide ((64 : Int) ≤ (L : Int)) = true := decide_eq_true (by omega)
      have e64 : decide (64 ≤ L) = true := decide_eq_true (by omega)
      rw [decide_eq_false h64, Bool.false_and]
      clear h64 hmo
      go_enter Try.func19, Try.ntmps19
      go_wp2
      go_ret
      exact ⟨rfl, HB1.out⟩
end Go.Proofs.Yteigkmeenokfoaa.Vd
