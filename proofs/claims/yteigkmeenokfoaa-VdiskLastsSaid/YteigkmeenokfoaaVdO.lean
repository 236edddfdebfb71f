
/- Flip, walked. -/
import Derived.Test.YteigkmeenokfoaaVdN
import Derived.Laws.BitsAllLaws
namespace Go.Proofs.Yteigkmeenokfoaa.Vd
open Go.RowKit Go.Proofs.Yteigkmeenokfoaa VdM Go.Maps

set_option maxHeartbeats 1000000 in
set_option maxRecDepth 100000 in
theorem has_any (w : World) (R : Nat) (p : Option Addr) (n c : Nat) (sy bit : Int) (hR : FileAt w R (.slice p n c) sy) (hbit : bit ≤ 9223372036854775807) :
    Calls Try.prog 34 #[.pointer (some ⟨R, 0, none⟩), .int .i64 bit] w fun e w' => e = .returned (.bool (decide (0 ≤ bit) && decide (bit.toNat / 8 < n))) ∧ w = w' := by
  obtain ⟨c0, -, -, -⟩ := file_cells hR
  clear hR
  by_cases h0 : 0 ≤ bit
  · have d0 : decide ((0 : Int) ≤ bit) = true := decide_eq_true h0
    obtain ⟨b, rfl⟩ : ∃ b : Nat, bit = (b : Int) := ⟨bit.toNat, by omega⟩
    rw [d0, Bool.true_and, Int.toNat_natCast]
    obtain ⟨q, hq⟩ : ∃ q, q = b / 8 := ⟨_, rfl⟩
    have hqI : (b : Int) / 8 = (q : Int) := by omega
    obtain ⟨t, ht⟩ : ∃ t, decide (q < n) = t := ⟨_, rfl⟩
    have htI : decide ((q : Int) < (n : Int)) = t := by rw [← ht]; exact decide_eq_decide.2 (by omega)
    have hwq : wrap64 (q : Int) = (q : Int) := by unfold wrap64; omega
    rw [← hq, ht]
    clear hq
    go_enter Try.func34, Try.ntmps34
    go_wp2
    go_ret
    exact ⟨rfl, rfl⟩
  · have d0 : decide ((0 : Int) ≤ bit) = false := decide_eq_false h0
    rw [d0, Bool.false_and]
    go_enter Try.func34, Try.ntmps34
    go_wp2
    go_ret
    exact ⟨rfl, rfl⟩
theorem ByteRow.set_ {w : World} {g n c : Nat} {l : List UInt8} (h : ByteRow w (.slice (some ⟨g, 0, none⟩) n c) l) (q : Nat) (y : UInt8) : ByteRow (w.setCell ⟨g, q, none⟩ (byteV y)) (.slice (some ⟨g, 0, none⟩) n c) (l.set q y) := by
  refine ⟨by simp, ?_⟩
  rcases h.2 with ⟨e, e2⟩ | ⟨g', cap, cur, e, hb, hg, hnc, hcm, hcs, ht⟩
  · cases e
  · injection e with e1 e2 e3
    injection e1 with e1
    injection e1 with e1
    subst e1
    right
    refine ⟨g, cap, cur.setIfInBounds q (byteV y), by rw [List.length_set, e2, e3], hb, heap_setCell_row hg q (byteV y), by simpa using hnc, hcm, by simpa using hcs, ?_⟩
    rw [List.length_set, Array.toList_setIfInBounds, List.map_set, ← ht, List.take_set]
theorem flip_val (x : UInt8) (r : Nat) (hr : r < 8) : bits .xor .u8 (x.toNat : Int) (2 ^ r % 256) = (((x ^^^ ((1 : UInt8) <<< UInt8.ofNat r)).toNat : Nat) : Int) := by
  have h2 : ((2 : Int) ^ r % 256) = (((1 : UInt8) <<< UInt8.ofNat r).toNat : Int) := by
    match r, hr with
    | 0, _ => rfl
    | 1, _ => rfl
    | 2, _ => rfl
    | 3, _ => rfl
    | 4, _ => rfl
    | 5, _ => rfl
    | 6, _ => rfl
    | 7, _ => rfl
  rw [h2, u8_xor_nat _ _ x.toNat_lt ((1 : UInt8) <<< UInt8.ofNat r).toNat_lt, UInt8.toNat_xor]
set_option maxHeartbeats 4000000 in
set_option maxRecDepth 100000 in
theorem flip_any (w : World) (R g n c b : Nat) (sy : Int) (l : List UInt8) (hR : FileAt w R (.slice (some ⟨g, 0, none⟩) n c) sy) (hrow : ByteRow w (.slice (some ⟨g, 0, none⟩) n c) l) (hb : b / 8 < l.length) (hbit : b ≤ 9223372036854775807) :
    Calls Try.prog 35 #[.pointer (some ⟨R, 0, none⟩), .int .i64 (b : Int)] w fun e w' => e = .returned (.tuple #[]) ∧ Turned (fun x => x = g) w w' ∧ ByteRow w' (.slice (some ⟨g, 0, none⟩) n c) (flipB l b) := by
  obtain ⟨c0, -, -, -⟩ := file_cells hR
  obtain ⟨hn, hc, _⟩ := slice_bytes hrow
  obtain ⟨q, hq⟩ : ∃ q, q = b / 8 := ⟨_, rfl⟩
  obtain ⟨r, hr⟩ : ∃ r, r = b % 8 := ⟨_, rfl⟩
  rw [← hq] at hb
  have hqI : (b : Int) / 8 = (q : Int) := by omega
  have hrI : (b : Int) % 8 = (r : Int) := by omega
  have hwq : wrap64 (q : Int) = (q : Int) := by unfold wrap64; omega
  have hq0 : (0 : Int) ≤ (q : Int) := by omega
  have hqn : (q : Int) < (n : Int) := by omega
  obtain ⟨cb, fb⟩ := hrow.bytes_at q hb
  obtain ⟨x, hx⟩ : ∃ x, x = l[q] := ⟨_, rfl⟩
  rw [← hx] at cb
  have hx2 := x.toNat_lt
  have hr8 : r < 8 := by omega
  have HQ := Lib.hid hq
  have HRR := Lib.hid hr
  have HX := Lib.hid hx
  have HROW := Lib.hid hrow
  have hsz := hrow.lt (g := g) rfl
  clear hR hq hr hx hrow
  go_enter Try.func35, Try.ntmps35
  go_wp2
  go_region
  all_goals
    go_end0
    refine ⟨rfl, ?_, ?_⟩
    · exact (Turned.setc (F := fun x => x = g) rfl _ _).drew
    · rw [flip_val x r hr8]
      have hs := HROW.out.set_ q (x ^^^ ((1 : UInt8) <<< UInt8.ofNat r))
      have e : flipB l b = l.set q (x ^^^ ((1 : UInt8) <<< UInt8.ofNat r)) := by
        unfold flipB
        rw [← HQ.out, ← HRR.out, List.getD_eq_getElem?_getD, List.getElem?_eq_getElem hb, HX.out]
        rfl
      rw [e]
      exact hs
theorem At.flipped {w w' : World} {F : Nat → Prop} {d m : Nat} {D : MD} {V : Name → Value} {s : Dsk} (h : At w F d m D V s) {n : Name} {f : Fil} (hl : lkF s.fs n = some f) {g : Nat} (hg : (V n).ownBlock = some g) (x : List UInt8) (hx : x.length = f.bytes.length) (hT : Turned (fun b => b = g) w w') (hrow : ByteRow w' (V n) x) : At w' F d m D V { s with fs := ptF n ⟨x, f.syn⟩ s.fs } := by
  have h1 := h.ok.one hl
  have hgd := h.gd hl hg
  have hok : Ok { s with fs := ptF n ⟨x, f.syn⟩ s.fs } := by
    have h2 := h.ok.fits
    refine h.ok.put h1.2.2 (by show f.syn ≤ x.length; omega) ?_ (by rw [hl]; exact .inl rfl)
    rw [hl]
    show usF s.fs + x.length ≤ s.quota + f.bytes.length
    omega
  have hrep : Rep D V (ptF n ⟨x, f.syn⟩ s.fs) := by
    refine ⟨h.rep.map, fun n' => ?_, fun n' f' hl' z => ?_⟩
    · by_cases e : n' = n
      · subst e
        rw [h.rep.has, look_put_same, hl]
        rfl
      · rw [h.rep.has, look_put_other _ e]
    · by_cases e : n' = n
      · subst e
        rw [look_put_same] at hl'
        injection hl' with hl'
        subst hl'
        exact h.rep.at_ n' f hl z
      · rw [look_put_other _ e] at hl'
        exact h.rep.at_ n' f' hl' z
  have hlk : ∀ n' f', lkF (ptF n ⟨x, f.syn⟩ s.fs) n' = some f' → (n' = n ∧ f' = ⟨x, f.syn⟩) ∨ (n' ≠ n ∧ lkF s.fs n' = some f') := fun n' f' hl' => by
    by_cases e : n' = n
    · subst e
      rw [look_put_same] at hl'
      injection hl' with hl'
      exact .inl ⟨rfl, hl'.symm⟩
    · rw [look_put_other _ e] at hl'
      exact .inr ⟨e, hl'⟩
  have hlk2 : ∀ n' f', lkF (ptF n ⟨x, f.syn⟩ s.fs) n' = some f' → ∃ f0, lkF s.fs n' = some f0 := fun n' f' hl' => by
    rcases hlk n' f' hl' with ⟨e, _⟩ | ⟨_, e⟩
    · exact ⟨f, by rw [e]; exact hl⟩
    · exact ⟨f', e⟩
  refine ⟨(hT.block d h.dlt (fun e => hgd.1 e.symm)).trans h.ob, ?_, hrep, fun n' f' hl' => ?_, fun n1 f1 n2 f2 hl1 hl2 hne => ?_, h.fd, h.fm, fun n' f' hl' => ?_, fun b hb => Nat.lt_of_lt_of_le (h.lt b hb) hT.size, hok⟩
  · have ho : Own w' m s.fs.length D := Own.stay h.own (hT.block m (h.lt m h.fm) (fun e => hgd.2 e.symm))
    have := own_exact ho
    rw [size_rep ho hrep hok.rise] at this
    exact this
  · rcases hlk n' f' hl' with ⟨e, e2⟩ | ⟨e, e2⟩
    · rw [e, e2]
      exact hrow
    · have hr := h.row n' f' e2
      exact hr.stay fun g' hg' => hT.block g' (hr.lt hg') (fun e3 => h.apart n f n' f' hl e2 (fun e4 => e e4.symm) g hg (by rw [hg', e3]))
  · obtain ⟨f1', e1⟩ := hlk2 n1 f1 hl1
    obtain ⟨f2', e2⟩ := hlk2 n2 f2 hl2
    exact h.apart n1 f1' n2 f2' e1 e2 hne
  · obtain ⟨f1', e1⟩ := hlk2 n' f' hl'
    exact h.fv n' f1' e1
set_option maxHeartbeats 4000000 in
set_option maxRecDepth 100000 in
theorem dflip_any (w : World) (F : Nat → Prop) (d : Nat) (s : Dsk) (h : Is w F d s) (nm : ByteArray) (bit : Int) (hn : nm.size ≤ 1000000) (hbit : bit ≤ 9223372036854775807) :
    Calls Try.prog 17 #[.pointer (some ⟨d, 0, none⟩), .string nm, .int .i64 bit] w fun e w' => e = .returned (.int .i64 (VdM.flip s nm.data.toList bit).2) ∧ Went w w' F d (VdM.flip s nm.data.toList bit).1 := by
  obtain ⟨m, D, V, h⟩ := h
  have c1 := h.cells.2.1
  obtain ⟨p, k, c, hsl, hrow⟩ := h.rowq nm.data.toList
  obtain ⟨q, hq⟩ : ∃ q, lkF s.fs nm.data.toList = q := ⟨_, rfl⟩
  have hrn := look_run_ok h.own h.rep nm (key_is nm (by omega)) q hq
  rw [hq] at hsl hrow
  rw [hsl] at hrn
  obtain ⟨sy, hsy⟩ : ∃ y, y = synOf q := ⟨_, rfl⟩
  rw [← hsy] at hrn
  have hBU := pl1 w (.cells #[.slice p k c, .int .i64 sy] 56)
  have hRU : FileAt (w.alloc (.cells #[.slice p k c, .int .i64 sy] 56)) w.heap.size (.slice p k c) sy := heap_alloc_new w (.cells #[.slice p k c, .int .i64 sy] 56)
  have hrowU : ByteRow (w.alloc (.cells #[.slice p k c, .int .i64 sy] 56)) (.slice p k c) (bytesOf q) := hrow.stay fun g hg => hBU.block g (hrow.lt hg)
  have HH := Lib.hid (has_any _ w.heap.size p k c sy bit hRU hbit)
  have HSM := Lib.hid (Went.same ⟨m, D, V, h⟩ hBU)
  unfold VdM.flip
  rw [hq]
  cases q with
  | none =>
    clear h hsl hrow hq hsy hBU hRU hrowU
    go_enter Try.func17, Try.ntmps17
    go_wp2
    go_ret
    exact ⟨rfl, HSM.out⟩
  | some f =>
    have hk : k = f.bytes.length := (slice_bytes hrow).1
    simp only
    by_cases hb : 0 ≤ bit ∧ bit.toNat / 8 < f.bytes.length
    · rw [if_pos hb]
      have hd : (decide (0 ≤ bit) && decide (bit.toNat / 8 < k)) = true := by rw [hk, decide_eq_true hb.1, decide_eq_true hb.2]; rfl
      rw [hd] at HH
      obtain ⟨b, rfl⟩ : ∃ b : Nat, bit = (b : Int) := ⟨bit.toNat, by omega⟩
      rw [Int.toNat_natCast] at hb ⊢
      obtain ⟨g, hg⟩ : ∃ g, p = some ⟨g, 0, none⟩ := by
        rcases (slice_bytes hrow).2.2 with ⟨_, e⟩ | e
        · have := (slice_bytes hrow).2.1
          simp only [bytesOf] at this
          omega
        · exact e
      subst hg
      have HFL := Lib.hid (flip_any _ w.heap.size g k c b sy f.bytes hRU hrowU hb.2 (by omega))
      have HA := Lib.hid (h.later hBU)
      have HBU := Lib.hid hBU
      have HV : Hid (V nm.data.toList = .slice (some ⟨g, 0, none⟩) k c) := Lib.hid hsl
      have HQ := Lib.hid hq
      have HFV := Lib.hid (h.fv _ f hq g (by rw [show V nm.data.toList = .slice (some ⟨g, 0, none⟩) k c from hsl]; rfl))
      clear h hsl hrow hq hsy hBU hRU hrowU hk hb hd
      go_enter Try.func17, Try.ntmps17
      go_wp2_with fail
      refine HH.out.mono ?_
      rintro e w2 ⟨rfl, rfl⟩
      go_wp2_with fail
      refine HFL.out.mono ?_
      rintro e w3 ⟨rfl, hT3, hrow3⟩
      have HW : Hid (Went w w3 F d { s with fs := ptF nm.data.toList ⟨flipB f.bytes b, f.syn⟩ s.fs }) := Lib.hid ⟨(Turned.of_below HBU.out).trans (hT3.wide fun x hx => by rw [hx]; exact HFV.out), F, ⟨m, D, V, HA.out.flipped HQ.out (by rw [HV.out]; rfl) _ (by simp [flipB]) hT3 (by rw [HV.out]; exact hrow3)⟩, fun b hb => .inl hb⟩
      clear hT3 hrow3
      go_wp2
      go_ret
      exact ⟨rfl, HW.out⟩
    · rw [if_neg hb]
      have hd : (decide (0 ≤ bit) && decide (bit.toNat / 8 < k)) = false := by
        rw [hk]
        by_cases h0 : 0 ≤ bit
        · rw [decide_eq_true h0, Bool.true_and]
          exact decide_eq_false (fun h1 => hb ⟨h0, h1⟩)
        · rw [decide_eq_false h0]; rfl
      rw [hd] at HH
      clear h hsl hrow hq hsy hBU hRU hrowU hk hb hd
      go_enter Try.func17, Try.ntmps17
      go_wp2_with fail
      refine HH.out.mono ?_
      rintro e w2 ⟨rfl, rfl⟩
      go_wp2
      go_ret
      exact ⟨rfl, HSM.out⟩
end Go.Proofs.Yteigkmeenokfoaa.Vd
