/- Own texts, merged (22 of 42). -/
import Derived.Test.YtddnnhfffmhpmaaGreatDoorSm15
import Derived.Test.YtddnnhfffmhpmaaGreatDoorSm21
import Derived.Test.YtddnnhfffmhpmaaGreatDoorSm6
import Derived.Test.YtddnnhfffmhpmaaGreatDoorSm13
import Derived.Deep.RegionHeld3
import Derived.Test.YtddnnhfffmhpmaaGreatDoorSm10
import Derived.Laws.Concat

/- A change's numbers in their ranges; slices.IndexFunc and slices.ContainsFunc over terms, asked by a closure that may keep a state. -/
namespace Go.Proofs.YtddnnhfffmhpmaaGreatDoor.Do
open Go.RowKit Go.Proofs.YtddnnhfffmhpmaaGreatDoor DocM

theorem within_any (n a b : Int) (w : World) : Calls Tryz.prog 159 #[.int .i64 n, .int .i64 a, .int .i64 b] w fun e w' => e = .returned (.bool (isin n a b)) ∧ w' = w := by
  unfold isin
  by_cases h1 : a ≤ n
  · rw [decide_eq_true h1]
    obtain ⟨x, hx⟩ : ∃ x, decide (n ≤ b) = x := ⟨_, rfl⟩
    rw [hx]
    have hd := decide_eq_true h1
    clear h1
    go_enter Tryz.func159, Tryz.ntmps159
    go_wp2
    go_ret
    exact ⟨rfl, rfl⟩
  · have hd : decide (a ≤ n) = false := decide_eq_false h1
    rw [hd]
    clear h1
    go_enter Tryz.func159, Tryz.ntmps159
    go_wp2
    go_ret
    exact ⟨rfl, rfl⟩
theorem outterm_any (p : Int × Int) (w : World) : Calls Tryz.prog 161 #[sv p] w fun e w' => e = .returned (.bool (!tOk p)) ∧ Below w.heap.size w w' := by
  obtain ⟨p1, p2⟩ := p
  unfold sv tOk
  simp only
  obtain ⟨x, hx⟩ : ∃ x, x = isin p1 0 1048575 := ⟨_, rfl⟩
  rw [← hx]
  have HX := Lib.hid hx
  clear hx
  cases x with
  | true =>
    obtain ⟨y, hy⟩ : ∃ y, y = isin p2 1 65535 := ⟨_, rfl⟩
    rw [← hy]
    have HY := Lib.hid hy
    clear hy
    go_enter Tryz.func161, Tryz.ntmps161
    go_wp2_with fail
    refine (within_any _ _ _ _).mono ?_
    rintro e w' ⟨rfl, rfl⟩
    rw [← HX.out]
    go_wp2_with fail
    refine (within_any _ _ _ _).mono ?_
    rintro e w' ⟨rfl, rfl⟩
    rw [← HY.out]
    go_wp2
    go_ret
    exact ⟨by simp, (Below.refl _ _).alloc (Nat.le_refl _) _⟩
  | false =>
    go_enter Tryz.func161, Tryz.ntmps161
    go_wp2_with fail
    refine (within_any _ _ _ _).mono ?_
    rintro e w' ⟨rfl, rfl⟩
    rw [← HX.out]
    go_wp2
    go_ret
    exact ⟨by simp, (Below.refl _ _).alloc (Nat.le_refl _) _⟩

/-- what a closure does that is asked of the elements of l in order: q = its answers, I = its state, R = what of the world is told in the end -/
structure AskC (A : Option Addr) (n : Nat) (l : List (Int × Int)) (F : FuncId) (B : Array Value) (q : Nat → Bool) (I : Nat → World → Prop) (R : World → Prop) : Prop where
  call : ∀ args w, (callFunc F args).run Tryz.prog w = .ok (.enter F args) w
  reads : ∀ k W, I k W → Pairs W A n l
  tells : ∀ W, I n W → R W
  step : ∀ k (h : k < l.length) W, I k W → Calls Tryz.prog F (#[sv l[k]] ++ B) W fun e w' => e = .returned (.bool (q k)) ∧ R w' ∧ (q k = false → I (k + 1) w')
set_option maxHeartbeats 1600000 in
set_option maxRecDepth 100000 in
theorem indexfunc_any (A : Option Addr) (n cp : Nat) (l : List (Int × Int)) (F : FuncId) (B : Array Value) (q : Nat → Bool) (I : Nat → World → Prop) (R : World → Prop) (h : AskC A n l F B q I R) (w : World) (h0 : I 0 w) (hn : n ≤ 1000000000) :
    Calls Tryz.prog 192 #[.slice A n cp, .func (.func F) #[] B] w fun e w' => (∃ i : Int, e = .returned (.int .i64 i) ∧ (0 ≤ i ↔ ∃ k, k < n ∧ q k = true)) ∧ R w' := by
  have HA := Lib.hid h
  have HL := Lib.hid (h.reads 0 w h0).1
  have hcall := h.call
  have HCALL := Lib.hid hcall
  clear h hcall
  go_enter Tryz.func192, Tryz.ntmps192
  go_wp2
  go_loopw [8] (fun x wr => ∃ k : Nat, x = .int .i64 k ∧ k ≤ n ∧ I k wr ∧ ∀ j, j < k → q j = false) (fun x _ => n - (intOf x).toNat)
  case atStart => exact ⟨0, rfl, Nat.zero_le _, h0, fun j hj => by omega⟩
  case round =>
    obtain ⟨k, rfl, hkn, hI, hq⟩ := hrel
    by_cases hlt : k < n
    · have hmi : (k : Int) < (n : Int) := by omega
      have hkl : k < l.length := by rw [HL.out]; exact hlt
      have hst := HA.out.step k hkl wr hI
      obtain ⟨b, o, rfl, hbl, c0, c1⟩ := (HA.out.reads k wr hI).2 k hkl
      obtain ⟨⟨p1, p2⟩, hp⟩ : ∃ x, x = l[k] := ⟨_, rfl⟩
      rw [← hp] at c0 c1 hst
      simp only at c0 c1
      unfold sv at hst
      have HST := Lib.hid hst
      have HQ := Lib.hid hq
      obtain ⟨x, hx⟩ : ∃ x, x = q k := ⟨_, rfl⟩
      have HX := Lib.hid hx
      clear hst hq hp hx hI hbl
      have hcall := HCALL.out
      go_wp2_with fail
      refine HST.out.mono ?_
      rintro e w2 ⟨rfl, hR, hI2⟩
      rw [← HX.out] at hI2 ⊢
      have HR := Lib.hid hR
      have HI2 := Lib.hid hI2
      clear hR hI2
      cases x with
      | true =>
        go_wp2
        go_ret
        exact ⟨⟨k, rfl, ⟨fun _ => ⟨k, hlt, HX.out.symm⟩, fun _ => by omega⟩⟩, HR.out⟩
      | false =>
        go_wp2
        go_roundw
        case rel => exact ⟨k + 1, by go_num, by omega, HI2.out trivial, fun j hj => by
          rcases Nat.lt_or_ge j k with e | e
          · exact HQ.out j e
          · obtain rfl : j = k := by omega
            exact HX.out.symm⟩
        case measure => simp [intOf]; omega
    · have hmi : ¬ (k : Int) < (n : Int) := by omega
      obtain rfl : k = n := by omega
      have HR := Lib.hid (HA.out.tells wr hI)
      have HQ := Lib.hid hq
      clear hI hq
      go_wp2
      go_ret
      refine ⟨⟨-1, rfl, ⟨fun h => by omega, fun ⟨j, hj, h⟩ => ?_⟩⟩, HR.out⟩
      rw [HQ.out j hj] at h
      cases h
set_option maxHeartbeats 400000 in
theorem contains_any (A : Option Addr) (n cp : Nat) (l : List (Int × Int)) (F : FuncId) (B : Array Value) (q : Nat → Bool) (I : Nat → World → Prop) (R : World → Prop) (h : AskC A n l F B q I R) (w : World) (h0 : I 0 w) (hn : n ≤ 1000000000) (r : Bool) (hr : r = true ↔ ∃ k, k < n ∧ q k = true) :
    Calls Tryz.prog 160 #[.slice A n cp, .func (.func F) #[] B] w fun e w' => e = .returned (.bool r) ∧ R w' := by
  have HF := Lib.hid (indexfunc_any A n cp l F B q I R h w h0 hn)
  have HR := Lib.hid hr
  clear h h0 hr
  go_enter Tryz.func160, Tryz.ntmps160
  go_wp2_with fail
  refine HF.out.mono ?_
  rintro e w' ⟨⟨i, rfl, hi⟩, hR⟩
  have hd : decide (0 ≤ i) = r := by
    cases r with
    | true => exact decide_eq_true (hi.2 (HR.out.1 rfl))
    | false => exact decide_eq_false (fun h => by have := HR.out.2 (hi.1 h); cases this)
  clear hi
  go_wp2
  go_ret
  exact ⟨rfl, hR⟩
end Go.Proofs.YtddnnhfffmhpmaaGreatDoor.Do

/- Is a change in its ranges? is a term there twice? -/
namespace Go.Proofs.YtddnnhfffmhpmaaGreatDoor.Do
open Go.RowKit Go.Proofs.YtddnnhfffmhpmaaGreatDoor DocM

set_option maxRecDepth 100000 in
theorem ask_range (A : Option Addr) (n : Nat) (l : List (Int × Int)) (w : World) (h : Pairs w A n l) :
    AskC A n l 161 #[] (fun k => !tOk (l.getD k (0, 0))) (fun _ W => Below w.heap.size w W) (fun W => Below w.heap.size w W) where
  call := fun args w => rfl
  reads := fun k W hW => h.later hW
  tells := fun W hW => hW
  step := fun k hk W hW => (outterm_any l[k] W).mono fun e w' ⟨h1, h2⟩ => by
    have e1 : l.getD k (0, 0) = l[k] := by rw [List.getD_eq_getElem?_getD, List.getElem?_eq_getElem hk]; rfl
    have hb : Below w.heap.size w w' := hW.trans (h2.mono hW.size)
    exact ⟨by rw [h1, e1], hb, fun _ => hb⟩
theorem all_not (l : List (Int × Int)) : (!l.all tOk) = true ↔ ∃ k, k < l.length ∧ (!tOk (l.getD k (0, 0))) = true := by
  constructor
  · intro h
    have h : l.all tOk = false := by cases hh : l.all tOk <;> simp [hh] at h ⊢
    rw [List.all_eq_false] at h
    obtain ⟨x, hx, hn⟩ := h
    obtain ⟨k, hk, rfl⟩ := List.getElem_of_mem hx
    refine ⟨k, hk, ?_⟩
    rw [List.getD_eq_getElem?_getD, List.getElem?_eq_getElem hk]
    simpa using hn
  · rintro ⟨k, hk, h⟩
    rw [List.getD_eq_getElem?_getD, List.getElem?_eq_getElem hk] at h
    have : l.all tOk = false := List.all_eq_false.2 ⟨l[k], List.getElem_mem hk, by simpa using h⟩
    rw [this]
    rfl
set_option maxHeartbeats 1600000 in
set_option maxRecDepth 100000 in
theorem inrange_any (c : Ch) (A : Option Addr) (n cp : Nat) (V : Value) (w : World) (h : Pairs w A n c.ts) (hn : n ≤ 1000000000) :
    Calls Tryz.prog 107 #[.agg #[.int .i64 c.doc, .slice A n cp, V, .int .i64 c.tags]] w fun e w' => e = .returned (.bool (inR c)) ∧ Below w.heap.size w w' := by
  have H := Lib.hid h
  clear h
  obtain ⟨d, ts, v, tags, gone⟩ := c
  unfold inR
  simp only at H ⊢
  obtain ⟨x, hx⟩ : ∃ x, x = isin d 0 2147483647 := ⟨_, rfl⟩
  rw [← hx]
  have HX := Lib.hid hx
  clear hx
  cases x with
  | false =>
    go_enter Tryz.func107, Tryz.ntmps107
    go_wp2_with fail
    refine (within_any _ _ _ _).mono ?_
    rintro e w' ⟨rfl, rfl⟩
    rw [← HX.out]
    go_wp2
    go_ret
    exact ⟨by simp, (Below.refl _ _).alloc (Nat.le_refl _) _⟩
  | true =>
    obtain ⟨y, hy⟩ : ∃ y, y = isin tags 0 255 := ⟨_, rfl⟩
    rw [← hy]
    have HY := Lib.hid hy
    clear hy
    cases y with
    | false =>
      go_enter Tryz.func107, Tryz.ntmps107
      go_wp2_with fail
      refine (within_any _ _ _ _).mono ?_
      rintro e w' ⟨rfl, rfl⟩
      rw [← HX.out]
      go_wp2_with fail
      refine (within_any _ _ _ _).mono ?_
      rintro e w' ⟨rfl, rfl⟩
      rw [← HY.out]
      go_wp2
      go_ret
      exact ⟨by simp, (Below.refl _ _).alloc (Nat.le_refl _) _⟩
    | true =>
      go_enter Tryz.func107, Tryz.ntmps107
      go_wp2_with fail
      refine (within_any _ _ _ _).mono ?_
      rintro e w' ⟨rfl, rfl⟩
      rw [← HX.out]
      go_wp2_with fail
      refine (within_any _ _ _ _).mono ?_
      rintro e w' ⟨rfl, rfl⟩
      rw [← HY.out]
      go_wp2_with fail
      refine (contains_any A n cp ts _ _ _ _ _ (ask_range A n ts _ (H.out.later ((Below.refl _ _).alloc (Nat.le_refl _) _))) _ (Below.refl _ _) hn (!ts.all tOk) (by rw [← H.out.1]; exact all_not ts)).mono ?_
      rintro e w' ⟨rfl, hb⟩
      have HB := Lib.hid (((Below.refl _ w).alloc (Nat.le_refl _) _).trans (hb.mono (by simp)))
      clear hb
      go_wp2
      go_ret
      exact ⟨by simp, HB.out⟩
end Go.Proofs.YtddnnhfffmhpmaaGreatDoor.Do

/- Is a term there twice? -/
namespace Go.Proofs.YtddnnhfffmhpmaaGreatDoor.Do
open Go.RowKit Go.Proofs.YtddnnhfffmhpmaaGreatDoor DocM Ks Go.Maps

set_option maxHeartbeats 4000000 in
set_option maxRecDepth 100000 in
theorem twstep_any (p : Int × Int) (g b nn : Nat) (D : KD) (S : List Int) (W : World) (hp : -9223372036854775808 ≤ p.1 ∧ p.1 ≤ 9223372036854775807) (hc : W.cell? ⟨g, 0, none⟩ = some (.map (some b))) (ho : OwnU W b nn D) (hr : RepU D S) (hnn : nn ≤ 1000000) :
    Calls Tryz.prog 162 #[sv p, .pointer (some ⟨g, 0, none⟩)] W fun e w' => e = .returned (.bool (decide (p.1 ∈ S))) ∧ (∃ D', OwnU w' b (nn + 1) D' ∧ RepU D' (S ++ [p.1])) ∧ Turned (fun k => k = b) W w' := by
  obtain ⟨p1, p2⟩ := p
  unfold sv
  simp only at hp ⊢
  have hkey := key_is hp
  have hhas := hr.has p1
  obtain ⟨r, hr0⟩ : ∃ r, r = decide (p1 ∈ S) := ⟨_, rfl⟩
  rw [← hr0] at hhas ⊢
  have hgl : g < W.heap.size := World.block_lt_of_cell? W _ hc
  have hbl : b < W.heap.size := ho.lt
  have HO1 := Lib.hid (ho.later (pl1 W (.cells #[.int .i64 p1, .int .i64 p2] 109)))
  have HO2 := Lib.hid (HO1.out.later (pl1 (W.alloc (.cells #[.int .i64 p1, .int .i64 p2] 109)) (.cells #[] 63)))
  have HT2 : Hid (Turned (fun k => k = b) W ((W.alloc (.cells #[.int .i64 p1, .int .i64 p2] 109)).alloc (.cells #[] 63))) := Lib.hid (((Turned.refl _ _).alloc _).alloc _)
  have hz := zero_unit (W.alloc (.cells #[.int .i64 p1, .int .i64 p2] 109))
  have HHAS := Lib.hid hhas
  have HRE := Lib.hid hr
  have hgs : g ≠ W.heap.size := by omega
  clear hhas hr ho hr0
  go_enter Tryz.func162, Tryz.ntmps162
  go_wp2_with (first
    | (at_lookup; refine wpList_lookup_own_unit _ rfl _ _ 189 rfl 3 63 key_law Tryz.underlying189 hz b nn D rfl HO1.out _ _ rfl hkey ?_; rw [HHAS.out])
    | (at_mapUpdate; refine wpList_mapUpdate_own _ rfl _ _ _ 189 rfl 3 63 key_law Tryz.underlying189 _ b nn _ rfl HO2.out (by unfold maxLen; omega) _ _ _ rfl rfl hkey (.agg []) [] unitElem_mk ?_; intro w5 hown5 hgrow5))
  have HN : Hid ((∃ D', OwnU w5 b (nn + 1) D' ∧ RepU D' (S ++ [p1])) ∧ Turned (fun k => k = b) W w5) := Lib.hid ⟨⟨_, hown5, HRE.out.put p1⟩, HT2.out.trans (Turned.of_grown hgrow5 rfl)⟩
  clear hown5 hgrow5
  go_wp2
  go_ret
  exact ⟨rfl, HN.out.1, HN.out.2⟩

set_option maxRecDepth 100000 in
theorem ask_twice (A : Option Addr) (n : Nat) (l : List (Int × Int)) (g b : Nat) (u : World) (h : Pairs u A n l) (hbu : u.heap.size ≤ b) (hgb : g ≠ b) (hl : n ≤ 1000) (hk : ∀ p ∈ l, -9223372036854775808 ≤ p.1 ∧ p.1 ≤ 9223372036854775807) :
    AskC A n l 162 #[.pointer (some ⟨g, 0, none⟩)] (fun k => decide ((l.getD k (0, 0)).1 ∈ tms (l.take k))) (fun k W => (∃ D, OwnU W b k D ∧ RepU D (tms (l.take k))) ∧ W.cell? ⟨g, 0, none⟩ = some (.map (some b)) ∧ Below u.heap.size u W) (fun W => Below u.heap.size u W) where
  call := fun args w => rfl
  reads := fun k W hW => h.later hW.2.2
  tells := fun W hW => hW.2.2
  step := fun k hkl W ⟨⟨D, ho, hr⟩, hc, hb⟩ => by
    have e1 : l.getD k (0, 0) = l[k] := by rw [List.getD_eq_getElem?_getD, List.getElem?_eq_getElem hkl]; rfl
    have hkn : k < n := by rw [← h.1]; exact hkl
    refine (twstep_any l[k] g b k D (tms (l.take k)) W (hk _ (List.getElem_mem hkl)) hc ho hr (by omega)).mono fun e w' ⟨h1, ⟨D', h2, h3⟩, h4⟩ => ?_
    have hb' : Below u.heap.size u w' := h4.below hb (fun k hk => by rw [hk]; exact hbu)
    refine ⟨by rw [h1, e1], hb', fun _ => ⟨⟨D', h2, ?_⟩, ?_, hb'⟩⟩
    · rw [List.take_succ_eq_append_getElem hkl]
      unfold tms at h3 ⊢
      rw [List.map_append, List.map_singleton]
      exact h3
    · exact (h4.cell (p := ⟨g, 0, none⟩) (World.block_lt_of_cell? W _ hc) hgb).trans hc
theorem nodup_take (l : List Int) : ∀ n, n ≤ l.length → ((l.take n).Nodup ↔ ∀ k (h : k < l.length), k < n → l[k] ∉ l.take k)
  | 0, _ => by simp
  | n + 1, hn => by
    have ih := nodup_take l n (by omega)
    have hl : n < l.length := by omega
    rw [List.take_succ_eq_append_getElem hl, List.nodup_append, ih]
    constructor
    · rintro ⟨h1, _, h3⟩ k hk hkn hm
      rcases Nat.lt_or_ge k n with e | e
      · exact h1 k hk e hm
      · obtain rfl : k = n := by omega
        exact h3 _ hm _ (by simp) rfl
    · intro h
      refine ⟨fun k hk hkn => h k hk (by omega), by simp, fun a ha b hb e => ?_⟩
      have hb' : b = l[n] := by simpa using hb
      subst e
      rw [hb'] at ha
      exact h n hl (by omega) ha
theorem twice_iff (l : List (Int × Int)) : twice (tms l) = true ↔ ∃ k, k < l.length ∧ decide ((l.getD k (0, 0)).1 ∈ tms (l.take k)) = true := by
  have h := nodup_take (tms l) (tms l).length (Nat.le_refl _)
  rw [List.take_length] at h
  have e : ∀ k (hk : k < l.length), ((l.getD k (0, 0)).1 ∈ tms (l.take k) ↔ (tms l)[k]'(by rw [tms_len]; exact hk) ∈ (tms l).take k) := fun k hk => by
    rw [List.getD_eq_getElem?_getD, List.getElem?_eq_getElem hk]
    unfold tms
    simp only [Option.getD_some, List.getElem_map, List.map_take]
  unfold twice
  rw [Bool.not_eq_true', decide_eq_false_iff_not, h]
  constructor
  · intro hn
    rcases Classical.em (∃ k, k < l.length ∧ decide ((l.getD k (0, 0)).1 ∈ tms (l.take k)) = true) with hx | hx
    · exact hx
    · exfalso
      apply hn
      intro k hk _ hm
      rw [tms_len] at hk
      exact hx ⟨k, hk, decide_eq_true ((e k hk).2 hm)⟩
  · rintro ⟨k, hk, hd⟩ hall
    exact hall k (by rw [tms_len]; exact hk) (by rw [tms_len]; exact hk) ((e k hk).1 (of_decide_eq_true hd))
set_option maxHeartbeats 2000000 in
set_option maxRecDepth 100000 in
theorem istwice_any (A : Option Addr) (n cp : Nat) (l : List (Int × Int)) (w : World) (h : Pairs w A n l) (hl : n ≤ 1000) (hk : ∀ p ∈ l, -9223372036854775808 ≤ p.1 ∧ p.1 ≤ 9223372036854775807) :
    Calls Tryz.prog 108 #[.slice A n cp] w fun e w' => e = .returned (.bool (twice (tms l))) ∧ Below w.heap.size w w' := by
  have hmk := mk_hint n w
  have HA := Lib.hid (ask_twice A n l (w.heap.size + 1) w.heap.size w h (Nat.le_refl _) (by omega) hl hk)
  have HT := Lib.hid (twice_iff l)
  have HL := Lib.hid h.1
  clear h hk
  go_enter Tryz.func108, Tryz.ntmps108
  go_wp2_with fail
  refine (contains_any A n cp l _ _ _ _ _ HA.out _ ?_ (by omega) (twice (tms l)) (by rw [← HL.out]; exact HT.out)).mono ?_
  · refine ⟨⟨.map [], OwnU.later (World.ownsMap_made _ _ _ _) (pl1 _ _), RepU.none_⟩, ?_, (pl1 _ _).trans ((pl1 _ _).mono (by simp))⟩
    simp
  · rintro e w' ⟨rfl, hb⟩
    go_wp2
    go_ret
    exact ⟨rfl, hb⟩
end Go.Proofs.YtddnnhfffmhpmaaGreatDoor.Do

/- Do terms rise? slices.IsSortedFunc over terms by their numbers. -/
namespace Go.Proofs.YtddnnhfffmhpmaaGreatDoor.Do
open Go.RowKit Go.Proofs.YtddnnhfffmhpmaaGreatDoor DocM

def cmpZ (a b : Int) : Int := if a < b then -1 else if b < a then 1 else 0
theorem isnan_any (a : Int) (w : World) : Calls Tryz.prog 181 #[.int .i64 a] w fun e w' => e = .returned (.bool false) ∧ w' = w := by
  have hd : (a != a) = false := by simp
  go_enter Tryz.func181, Tryz.ntmps181
  go_wp2
  go_ret
  exact ⟨rfl, rfl⟩
set_option maxRecDepth 100000 in
theorem compare_any (a b : Int) (w : World) : Calls Tryz.prog 166 #[.int .i64 a, .int .i64 b] w fun e w' => e = .returned (.int .i64 (cmpZ a b)) ∧ w' = w := by
  unfold cmpZ
  by_cases h1 : a < b
  · rw [if_pos h1]
    have hd := decide_eq_true h1
    clear h1
    go_enter Tryz.func166, Tryz.ntmps166
    go_wp2_with fail
    refine (isnan_any _ _).mono ?_
    rintro e w' ⟨rfl, rfl⟩
    go_wp2_with fail
    refine (isnan_any _ _).mono ?_
    rintro e w' ⟨rfl, rfl⟩
    go_wp2
    go_ret
    exact ⟨rfl, rfl⟩
  · rw [if_neg h1]
    have hd : decide (a < b) = false := decide_eq_false h1
    by_cases h2 : b < a
    · rw [if_pos h2]
      have hd2 := decide_eq_true h2
      clear h1 h2
      go_enter Tryz.func166, Tryz.ntmps166
      go_wp2_with fail
      refine (isnan_any _ _).mono ?_
      rintro e w' ⟨rfl, rfl⟩
      go_wp2_with fail
      refine (isnan_any _ _).mono ?_
      rintro e w' ⟨rfl, rfl⟩
      go_wp2
      go_ret
      exact ⟨rfl, rfl⟩
    · rw [if_neg h2]
      have hd2 : decide (b < a) = false := decide_eq_false h2
      clear h1 h2
      go_enter Tryz.func166, Tryz.ntmps166
      go_wp2_with fail
      refine (isnan_any _ _).mono ?_
      rintro e w' ⟨rfl, rfl⟩
      go_wp2_with fail
      refine (isnan_any _ _).mono ?_
      rintro e w' ⟨rfl, rfl⟩
      go_wp2
      go_ret
      exact ⟨rfl, rfl⟩
set_option maxRecDepth 100000 in
theorem bynumber_any (p q : Int × Int) (w : World) : Calls Tryz.prog 165 #[sv p, sv q] w fun e w' => e = .returned (.int .i64 (cmpZ p.1 q.1)) ∧ ∃ o1 o2, w' = (w.alloc o1).alloc o2 := by
  obtain ⟨p1, p2⟩ := p
  obtain ⟨q1, q2⟩ := q
  unfold sv
  go_enter Tryz.func165, Tryz.ntmps165
  go_wp2_with fail
  refine (compare_any _ _ _).mono ?_
  rintro e w' ⟨rfl, rfl⟩
  go_wp2
  go_ret
  exact ⟨rfl, _, _, rfl⟩
theorem sorted_of {l : List Int} (h : ∀ j (hj : j + 1 < l.length), l[j] ≤ l[j + 1]) : sorted l = true := by
  unfold sorted
  refine decide_eq_true (List.pairwise_iff_getElem.2 ?_)
  intro i j hi hj hij
  induction j with
  | zero => omega
  | succ j ih =>
    rcases Nat.lt_or_ge i j with e | e
    · have h1 := ih (by omega) e
      have h2 := h j hj
      omega
    · obtain rfl : i = j := by omega
      exact h i hj
theorem sorted_not {l : List Int} {j : Nat} (hj : j + 1 < l.length) (h : l[j + 1] < l[j]) : sorted l = false := by
  unfold sorted
  refine decide_eq_false (fun hp => ?_)
  have := List.pairwise_iff_getElem.1 hp j (j + 1) (by omega) hj (by omega)
  omega
theorem kept2 {w : World} {o1 o2 : Obj} {b i : Nat} {u : Value} (hc : w.cell? ⟨b, i, none⟩ = some u) (h : b < w.heap.size) : ((w.alloc o1).alloc o2).drew.cell? ⟨b, i, none⟩ = some u := ((((Below.refl w.heap.size w).alloc (Nat.le_refl _) o1).alloc (by simp) o2).drew.cell (p := ⟨b, i, none⟩) h).trans hc
set_option maxHeartbeats 4000000 in
set_option maxRecDepth 100000 in
theorem issorted_any (A : Option Addr) (n cp : Nat) (l : List (Int × Int)) (w : World) (h : Pairs w A n l) (hn : n ≤ 1000000000) :
    Calls Tryz.prog 164 #[.slice A n cp, .func (.func 165) #[] #[]] w fun e w' => e = .returned (.bool (sorted (tms l))) ∧ Below w.heap.size w w' := by
  have H := Lib.hid h
  have HL := Lib.hid h.1
  clear h
  go_enter Tryz.func164, Tryz.ntmps164
  go_wp2
  go_loopw [5] (fun x wr => ∃ k : Int, x = .int .i64 k ∧ -1 ≤ k ∧ k < (n : Int) ∧ Below w.heap.size w wr ∧ ∀ j (hj : j + 1 < (tms l).length), k ≤ (j : Int) → (tms l)[j] ≤ (tms l)[j + 1]) (fun x _ => (intOf x + 1).toNat)
  case atStart => exact ⟨(n : Int) - 1, by go_num, by omega, by omega, Below.refl _ _, fun j hj hk => by rw [tms_len, HL.out] at hj; omega⟩
  case round =>
    obtain ⟨k0, rfl, hk1, hk2, hb, hs⟩ := hrel
    by_cases hp : 0 < k0
    · obtain ⟨k, m, rfl, hm⟩ : ∃ k m : Nat, k0 = (m : Int) ∧ m = k + 1 := ⟨(k0 - 1).toNat, k0.toNat, by omega, by omega⟩
      have hml : m < l.length := by rw [HL.out]; omega
      have hkl : k < l.length := by omega
      obtain ⟨b, o, rfl, hbl, q0, q1⟩ := H.out.2 m hml
      obtain ⟨b', o', e, _, r0, r1⟩ := H.out.2 k hkl
      injection e with e
      injection e with e1 e2 _
      subst e1; subst e2
      have hsn : l[m].1 < l[k].1 → sorted (tms l) = false := fun hx => sorted_not (l := tms l) (j := k) (by rw [tms_len]; omega) (by unfold tms; subst hm; simpa using hx)
      have hsy : ¬ l[m].1 < l[k].1 → ∀ j (hj : j + 1 < (tms l).length), (k : Int) ≤ (j : Int) → (tms l)[j] ≤ (tms l)[j + 1] := fun hx j hj hkj => by
        rcases Nat.lt_or_ge k j with e | e
        · exact hs j hj (by omega)
        · obtain rfl : j = k := by omega
          subst hm
          have e1 : (tms l)[j] = l[j].1 := by simp [tms]
          have e2 : (tms l)[j + 1] = l[j + 1].1 := by simp [tms]
          rw [e1, e2]
          omega
      obtain ⟨⟨x1, x2⟩, hx⟩ : ∃ x, x = l[m] := ⟨_, rfl⟩
      obtain ⟨⟨y1, y2⟩, hy⟩ : ∃ y, y = l[k] := ⟨_, rfl⟩
      rw [← hx] at q0 q1
      rw [← hx, ← hy] at hsn hsy
      rw [← hy] at r0 r1
      simp only at q0 q1 r0 r1 hsn hsy
      have c0 := (hb.cell (p := ⟨b, o + m * 2, none⟩) hbl).trans q0
      have c1 := (hb.cell (p := ⟨b, o + m * 2 + 1, none⟩) hbl).trans q1
      have d0 := (hb.cell (p := ⟨b, o + k * 2, none⟩) hbl).trans r0
      have d1 := (hb.cell (p := ⟨b, o + k * 2 + 1, none⟩) hbl).trans r1
      have hbr : b < wr.heap.size := Nat.lt_of_lt_of_le hbl hb.size
      have hmn : (m : Int) < (n : Int) := by omega
      have hkn : (k : Int) < (n : Int) := by omega
      have hp0 : (0 : Int) < (m : Int) := hp
      have hwm : IntKind.i64.wrap ((m : Int) - 1) = (k : Int) := by rw [IntKind.wrap_i64]; omega
      have HBN := Lib.hid (fun o1 o2 => (hb.trans (((pl1 wr o1).trans ((pl1 (wr.alloc o1) o2).mono (by simp))).mono hb.size)).drew)
      have HSN := Lib.hid hsn
      have HSY := Lib.hid hsy
      have HM := Lib.hid hm
      clear hb hs hsn hsy hx hy q0 q1 r0 r1 hm hk1 hk2 hp
      have HC := Lib.hid (fun W => bynumber_any (x1, x2) (y1, y2) W)
      have hc := HC.out
      unfold sv at hc
      simp only at hc
      obtain ⟨z, hz⟩ : ∃ z, z = cmpZ x1 y1 := ⟨_, rfl⟩
      rw [← hz] at hc
      have HC2 := Lib.hid hc
      have HZ : Hid (decide (z < 0) = decide (x1 < y1)) := Lib.hid (by
        rw [hz]; unfold cmpZ
        by_cases h1 : x1 < y1
        · rw [if_pos h1, decide_eq_true h1]; rfl
        · rw [if_neg h1, decide_eq_false h1]
          split <;> rfl)
      clear hc HC hz
      by_cases hlt : x1 < y1
      · have hd : decide (z < 0) = true := by rw [HZ.out, decide_eq_true hlt]
        have HF := Lib.hid (HSN.out hlt)
        clear hlt
        go_wp2
        go_region_held3 (fun w' => w'.cell? ⟨b, o + m * 2, none⟩ = some (.int .i64 x1) ∧ w'.cell? ⟨b, o + m * 2 + 1, none⟩ = some (.int .i64 x2) ∧ w'.cell? ⟨b, o + k * 2, none⟩ = some (.int .i64 y1) ∧ w'.cell? ⟨b, o + k * 2 + 1, none⟩ = some (.int .i64 y2))
          (first
            | exact ⟨kept2 c0 hbr, kept2 c1 hbr, kept2 d0 hbr, kept2 d1 hbr⟩
            | go_keep)
          ((first | ((with_reducible refine (HC2.out _).mono ?_); rintro e w5 ⟨rfl, o1, o2, rfl⟩)))
        have bz := HBN.out o1 o2
        generalize ((wr.alloc o1).alloc o2).drew = w5 at bz ⊢
        go_wp2
        go_ret
        exact ⟨by rw [HF.out]; rfl, bz⟩
      · have hd : decide (z < 0) = false := by rw [HZ.out, decide_eq_false hlt]
        have HG := Lib.hid (HSY.out hlt)
        clear hlt
        go_wp2
        go_region_held3 (fun w' => w'.cell? ⟨b, o + m * 2, none⟩ = some (.int .i64 x1) ∧ w'.cell? ⟨b, o + m * 2 + 1, none⟩ = some (.int .i64 x2) ∧ w'.cell? ⟨b, o + k * 2, none⟩ = some (.int .i64 y1) ∧ w'.cell? ⟨b, o + k * 2 + 1, none⟩ = some (.int .i64 y2))
          (first
            | exact ⟨kept2 c0 hbr, kept2 c1 hbr, kept2 d0 hbr, kept2 d1 hbr⟩
            | go_keep)
          ((first | ((with_reducible refine (HC2.out _).mono ?_); rintro e w5 ⟨rfl, o1, o2, rfl⟩)))
        have bz := HBN.out o1 o2
        generalize ((wr.alloc o1).alloc o2).drew = w5 at bz ⊢
        go_wp2
        go_roundw
        case rel => exact ⟨(k : Int), by go_num, by omega, by omega, bz, HG.out⟩
        case measure => have := HM.out; simp [intOf]; omega
    · have hd : decide (0 < k0) = false := decide_eq_false hp
      have HF : Hid (sorted (tms l) = true) := Lib.hid (sorted_of fun j hj => hs j hj (by omega))
      have HB := Lib.hid hb
      clear hs hb
      go_wp2
      go_ret
      exact ⟨by rw [HF.out]; rfl, HB.out⟩
end Go.Proofs.YtddnnhfffmhpmaaGreatDoor.Do

/- Is a change right? (the program's answer) -/
namespace Go.Proofs.YtddnnhfffmhpmaaGreatDoor.Do
open Go.RowKit Go.Proofs.YtddnnhfffmhpmaaGreatDoor DocM

/-- a change as a value: its terms and its vector lie in slices -/
def chV (c : Ch) (T V : Value) : Value := .agg #[.int .i64 c.doc, T, V, .int .i64 c.tags, .bool c.gone]
theorem n_eq0 (n : Nat) : ((n : Int) == 0) = decide (n = 0) := by
  by_cases h : n = 0
  · subst h; rfl
  · rw [decide_eq_false h]
    simp
    omega
set_option maxHeartbeats 2000000 in
set_option maxRecDepth 100000 in
theorem hasform_any (c : Ch) (A A2 : Option Addr) (n cp n2 cp2 : Nat) (w : World) (h : Pairs w A n c.ts) (hv : Ivs w A2 n2 c.v) (hn : n ≤ 1000000000) :
    Calls Tryz.prog 109 #[chV c (.slice A n cp) (.slice A2 n2 cp2)] w fun e w' => e = .returned (.bool (form c)) ∧ Below w.heap.size w w' := by
  have H := Lib.hid h
  have HV := Lib.hid hv
  clear h hv
  obtain ⟨d, ts, v, tags, gone⟩ := c
  unfold chV
  simp only at H HV ⊢
  cases gone with
  | true =>
    have hf : form ⟨d, ts, v, tags, true⟩ = (decide (n = 0) && decide (n2 = 0) && decide (tags = 0)) := by
      unfold form
      rw [if_pos rfl, H.out.1, HV.out.1]
    rw [hf]
    clear hf
    have e1 := n_eq0 n
    have e2 := n_eq0 n2
    have e3 : (tags == 0) = decide (tags = 0) := by
      by_cases h : tags = 0
      · subst h; rfl
      · rw [decide_eq_false h]; simpa using h
    obtain ⟨x, hx⟩ : ∃ x, x = decide (n = 0) := ⟨_, rfl⟩
    obtain ⟨y, hy⟩ : ∃ y, y = decide (n2 = 0) := ⟨_, rfl⟩
    obtain ⟨z, hz⟩ : ∃ z, z = decide (tags = 0) := ⟨_, rfl⟩
    rw [← hx] at e1 ⊢
    rw [← hy] at e2 ⊢
    rw [← hz] at e3 ⊢
    clear hx hy hz
    cases x with
    | false =>
      go_enter Tryz.func109, Tryz.ntmps109
      go_wp2
      go_ret
      exact ⟨by simp, pl1 _ _⟩
    | true =>
      cases y with
      | false =>
        go_enter Tryz.func109, Tryz.ntmps109
        go_wp2
        go_ret
        exact ⟨by simp, pl1 _ _⟩
      | true =>
        go_enter Tryz.func109, Tryz.ntmps109
        go_wp2
        go_ret
        exact ⟨by simp, pl1 _ _⟩
  | false =>
    have hf : form ⟨d, ts, v, tags, false⟩ = (DenM.vec v && sorted (tms ts)) := by
      unfold form
      rw [if_neg (by simp)]
    rw [hf]
    clear hf
    obtain ⟨x, hx⟩ : ∃ x, x = DenM.vec v := ⟨_, rfl⟩
    rw [← hx]
    have HX := Lib.hid hx
    clear hx
    go_enter Tryz.func109, Tryz.ntmps109
    go_wp2_with fail
    refine (dright_any _ _ _ v _ (HV.out.later (pl1 _ _))).mono ?_
    rintro e w' ⟨rfl, rfl⟩
    rw [← HX.out]
    cases x with
    | false =>
      go_wp2
      go_ret
      exact ⟨by simp, pl1 _ _⟩
    | true =>
      go_wp2_with fail
      refine (issorted_any _ _ _ ts _ (H.out.later (pl1 _ _)) hn).mono ?_
      rintro e w' ⟨rfl, hb⟩
      have HB := Lib.hid ((pl1 w _).trans (hb.mono (by simp)))
      clear hb
      go_wp2
      go_ret
      exact ⟨by simp, HB.out⟩
set_option maxHeartbeats 4000000 in
set_option maxRecDepth 100000 in
theorem right_any (c : Ch) (A A2 : Option Addr) (n cp n2 cp2 : Nat) (w : World) (h : Pairs w A n c.ts) (hv : Ivs w A2 n2 c.v) (hn : n ≤ 1000000000) :
    Calls Tryz.prog 75 #[chV c (.slice A n cp) (.slice A2 n2 cp2)] w fun e w' => e = .returned (.int .i64 (rightC c)) ∧ Below w.heap.size w w' := by
  have H := Lib.hid h
  have HV := Lib.hid hv
  have HL := Lib.hid h.1
  clear h hv
  have HR := Lib.hid (fun W hW => inrange_any c A n cp (.slice A2 n2 cp2) W hW hn)
  have HK : Hid (inR c = true → ∀ p ∈ c.ts, -9223372036854775808 ≤ p.1 ∧ p.1 ≤ 9223372036854775807) := Lib.hid (fun h p hp => by
    unfold inR at h
    simp only [Bool.and_eq_true, List.all_eq_true] at h
    have := h.2 p hp
    unfold tOk at this
    simp only [Bool.and_eq_true, isin_iff] at this
    omega)
  have HTW := Lib.hid (fun W hW h1 h2 => istwice_any A n cp c.ts W hW h1 h2)
  have HF := Lib.hid (fun W hW hX => hasform_any c A A2 n cp n2 cp2 W hW hX hn)
  obtain ⟨x, hx⟩ : ∃ x, x = inR c := ⟨_, rfl⟩
  obtain ⟨y, hy⟩ : ∃ y, y = twice (tms c.ts) := ⟨_, rfl⟩
  obtain ⟨z, hz⟩ : ∃ z, z = form c := ⟨_, rfl⟩
  have hc : rightC c = if x = false then 1 else if 64 < n then 3 else if y = true then 9 else if z = false then 2 else 0 := by
    unfold rightC
    rw [← hx, ← hy, ← hz, HL.out]
  rw [hc]
  rw [← hx] at HR HK
  rw [← hy] at HTW
  rw [← hz] at HF
  clear hc hx hy hz
  unfold chV at HF ⊢
  obtain ⟨d, ts, v, tags, gone⟩ := c
  simp only at H HV HL HR HK HTW HF ⊢
  go_enter Tryz.func75, Tryz.ntmps75
  go_wp2_with fail
  refine (HR.out _ (H.out.later (pl1 _ _))).mono ?_
  rintro e w1 ⟨rfl, hb⟩
  have q0 := cell_of_cells (i := 0) (heap_alloc_new w (.cells #[.int .i64 d, .slice A n cp, .slice A2 n2 cp2, .int .i64 tags, .bool gone] 35)) rfl
  have q1 := cell_of_cells (i := 1) (heap_alloc_new w (.cells #[.int .i64 d, .slice A n cp, .slice A2 n2 cp2, .int .i64 tags, .bool gone] 35)) rfl
  have q2 := cell_of_cells (i := 2) (heap_alloc_new w (.cells #[.int .i64 d, .slice A n cp, .slice A2 n2 cp2, .int .i64 tags, .bool gone] 35)) rfl
  have q3 := cell_of_cells (i := 3) (heap_alloc_new w (.cells #[.int .i64 d, .slice A n cp, .slice A2 n2 cp2, .int .i64 tags, .bool gone] 35)) rfl
  have q4 := cell_of_cells (i := 4) (heap_alloc_new w (.cells #[.int .i64 d, .slice A n cp, .slice A2 n2 cp2, .int .i64 tags, .bool gone] 35)) rfl
  have hl : w.heap.size < (w.alloc (.cells #[.int .i64 d, .slice A n cp, .slice A2 n2 cp2, .int .i64 tags, .bool gone] 35)).heap.size := by simp
  replace q0 := (hb.cell (p := ⟨w.heap.size, 0, none⟩) hl).trans q0
  replace q1 := (hb.cell (p := ⟨w.heap.size, 1, none⟩) hl).trans q1
  replace q2 := (hb.cell (p := ⟨w.heap.size, 2, none⟩) hl).trans q2
  replace q3 := (hb.cell (p := ⟨w.heap.size, 3, none⟩) hl).trans q3
  replace q4 := (hb.cell (p := ⟨w.heap.size, 4, none⟩) hl).trans q4
  have HB := Lib.hid ((pl1 w _).trans (hb.mono (by simp)))
  have hl1 : w.heap.size < w1.heap.size := World.block_lt_of_cell? w1 _ q0
  clear hb hl
  cases x with
  | false =>
    go_wp2
    go_ret
    exact ⟨rfl, HB.out⟩
  | true =>
    by_cases hlen : 64 < n
    · have hd : decide ((64 : Int) < (n : Int)) = true := decide_eq_true (by omega)
      go_wp2
      go_ret
      exact ⟨by first | rfl | simp [hlen], HB.out⟩
    · have hd : decide ((64 : Int) < (n : Int)) = false := decide_eq_false (by omega)
      go_wp2_with fail
      refine (HTW.out _ (H.out.later HB.out) (by omega) (HK.out trivial)).mono ?_
      rintro e w2 ⟨rfl, hb⟩
      replace q0 := (hb.cell (p := ⟨w.heap.size, 0, none⟩) hl1).trans q0
      replace q1 := (hb.cell (p := ⟨w.heap.size, 1, none⟩) hl1).trans q1
      replace q2 := (hb.cell (p := ⟨w.heap.size, 2, none⟩) hl1).trans q2
      replace q3 := (hb.cell (p := ⟨w.heap.size, 3, none⟩) hl1).trans q3
      replace q4 := (hb.cell (p := ⟨w.heap.size, 4, none⟩) hl1).trans q4
      have HB2 := Lib.hid (HB.out.trans (hb.mono HB.out.size))
      clear hb
      cases y with
      | true =>
        go_wp2
        go_ret
        exact ⟨by first | rfl | simp [hlen], HB2.out⟩
      | false =>
        go_wp2_with fail
        refine (HF.out _ (H.out.later HB2.out) (HV.out.later HB2.out)).mono ?_
        rintro e w3 ⟨rfl, hb⟩
        have HB3 := Lib.hid (HB2.out.trans (hb.mono HB2.out.size))
        clear hb q0 q1 q2 q3 q4
        cases z with
        | false =>
          go_wp2
          go_ret
          exact ⟨by first | rfl | simp [hlen], HB3.out⟩
        | true =>
          go_wp2
          go_ret
          exact ⟨by first | rfl | simp [hlen], HB3.out⟩
end Go.Proofs.YtddnnhfffmhpmaaGreatDoor.Do

/- each: what a closure answers of all of a list. -/
namespace Go.Proofs.YtddnnhfffmhpmaaGreatDoor.Do
open Go.RowKit Go.Proofs.YtddnnhfffmhpmaaGreatDoor DocM

theorem fill_at {x : Int} {l1 : List Int} {k m : Nat} (h : l1.length = k) : (l1 ++ List.replicate (m + 1) 0).set k x = (l1 ++ [x]) ++ List.replicate m 0 := by
  rw [← h]
  exact set_fill l1 m x
set_option maxHeartbeats 4000000 in
set_option maxRecDepth 100000 in
theorem eachterm_any (A : Option Addr) (n cp : Nat) (l : List (Int × Int)) (F : FuncId) (f : Int × Int → Int) (w : World) (h : Pairs w A n l) (hn : n ≤ 1000000) (hcall : ∀ args w, (callFunc F args).run Tryz.prog w = .ok (.enter F args) w)
    (hF : ∀ p W, Calls Tryz.prog F #[sv p] W fun e w' => e = .returned (.int .i64 (f p)) ∧ Below W.heap.size W w') :
    Calls Tryz.prog 111 #[.slice A n cp, .func (.func F) #[] #[]] w fun e w' => ∃ g, e = .returned (.slice (some ⟨g, 0, none⟩) n n) ∧ w.heap.size ≤ g ∧ Ivs w' (some ⟨g, 0, none⟩) n (l.map f) ∧ Below w.heap.size w w' := by
  obtain ⟨M, hmk, hz⟩ := made_ints w n (by omega)
  have H := Lib.hid h
  have HL := Lib.hid h.1
  have HF := Lib.hid hF
  have HCALL := Lib.hid hcall
  obtain ⟨g, hg⟩ : ∃ g, g = w.heap.size := ⟨_, rfl⟩
  have HZ := Lib.hid hz
  have HG := Lib.hid hg
  clear h hz hF hcall hg
  go_enter Tryz.func111, Tryz.ntmps111
  go_wp2
  clear hmk
  go_loopw [13] (fun x wr => ∃ (k : Nat) (r : List Int), x = .int .i64 k ∧ k ≤ n ∧ r = (l.take k).map f ∧ IntsAt wr w.heap.size (r ++ List.replicate (n - k) 0) ∧ Below w.heap.size w wr ∧ w.heap.size < wr.heap.size) (fun x _ => n - (intOf x).toNat)
  case atStart => exact ⟨0, [], by go_num, Nat.zero_le _, rfl, by simpa using HZ.out, pl1 _ _, by simp⟩
  case round =>
    obtain ⟨k, r, rfl, hkn, hr, hI, hb, hlt0⟩ := hrel
    have hrl : r.length = k := by rw [hr, List.length_map, List.length_take, HL.out]; omega
    have HRL := Lib.hid hrl
    have HR := Lib.hid hr
    clear hr hrl
    by_cases hlt : k < n
    · have hmi : (k : Int) < (n : Int) := by omega
      have hkl : k < l.length := by rw [HL.out]; exact hlt
      obtain ⟨b, o, rfl, hbl, c0, c1⟩ := H.out.2 k hkl
      have q0 := (hb.cell (p := ⟨b, o + k * 2, none⟩) hbl).trans c0
      have q1 := (hb.cell (p := ⟨b, o + k * 2 + 1, none⟩) hbl).trans c1
      have hnx : (l.take (k + 1)).map f = (l.take k).map f ++ [f l[k]] := by rw [List.take_succ_eq_append_getElem hkl, List.map_append, List.map_singleton]
      have hst := HF.out l[k] (wr.alloc (.cells #[.int .i64 l[k].1, .int .i64 l[k].2] 109))
      obtain ⟨⟨p1, p2⟩, hp⟩ : ∃ x, x = l[k] := ⟨_, rfl⟩
      rw [← hp] at q0 q1 hst hnx
      obtain ⟨y, hy⟩ : ∃ y, y = f (p1, p2) := ⟨_, rfl⟩
      rw [← hy] at hst hnx
      unfold sv at hst
      simp only at q0 q1 hst
      have hc0 := (hI k (by rw [List.length_append, HRL.out, List.length_replicate]; omega))
      have hset := hI.set_ k y
      obtain ⟨m, hm⟩ : ∃ m, n - k = m + 1 := ⟨n - k - 1, by omega⟩
      have HST := Lib.hid hst
      have HNX := Lib.hid hnx
      have HI := Lib.hid hI
      have HB := Lib.hid hb
      have hw1 : Below wr.heap.size wr (wr.alloc (.cells #[.int .i64 p1, .int .i64 p2] 109)) := pl1 _ _
      have hx0 := cell_of_cells (i := 0) (heap_alloc_new wr (.cells #[.int .i64 p1, .int .i64 p2] 109)) rfl
      have hx1 := cell_of_cells (i := 1) (heap_alloc_new wr (.cells #[.int .i64 p1, .int .i64 p2] 109)) rfl
      have hsz : wr.heap.size < (wr.alloc (.cells #[.int .i64 p1, .int .i64 p2] 109)).heap.size := by simp
      have HW1 := Lib.hid hw1
      have HM := Lib.hid hm
      clear hst hnx hset hI hb c0 c1 hp hy hw1 hx0 hx1 hm hbl
      have hcall := HCALL.out
      go_wp2_with fail
      refine HST.out.mono ?_
      rintro e w2 ⟨rfl, hb2⟩
      have hb3 : Below wr.heap.size wr w2 := HW1.out.trans (hb2.mono HW1.out.size)
      have hI2 : IntsAt w2 w.heap.size (r ++ List.replicate (n - k) 0) := fun j hj => ⟨(hb3.cell (p := ⟨w.heap.size, j, none⟩) hlt0).trans (HI.out j hj).1, (hb3.frozen (p := ⟨w.heap.size, j, none⟩) hlt0).trans (HI.out j hj).2⟩
      have hk2 := hI2 k (by rw [List.length_append, HRL.out, List.length_replicate]; omega)
      have d0 := hk2.1
      have f0 := hk2.2
      have hset := hI2.set_ k y
      rw [HM.out, fill_at HRL.out] at hset
      have HSET := Lib.hid hset
      have HBZ : Hid (Below w.heap.size w (w2.setCell ⟨w.heap.size, k, none⟩ (.int .i64 y))) := Lib.hid ((HB.out.trans (hb3.mono HB.out.size)).setCell (Nat.le_refl _) _)
      have hsz2 : w.heap.size < (w2.setCell ⟨w.heap.size, k, none⟩ (.int .i64 y)).heap.size := by have := hb3.size; simp; omega
      have HS2 := Lib.hid hsz2
      clear hb2 hb3 hI2 hk2 hset hsz2 q0 q1
      go_wp2
      go_roundw
      case rel => exact ⟨k + 1, r ++ [y], by go_num, by omega, by rw [HNX.out, ← HR.out], by rw [show n - (k + 1) = m by have := HM.out; omega]; exact HSET.out, HBZ.out, HS2.out⟩
      case measure => simp [intOf]; omega
    · have hmi : ¬ (k : Int) < (n : Int) := by omega
      obtain rfl : k = n := by omega
      rw [Nat.sub_self, List.replicate_zero, List.append_nil] at hI
      have HI := Lib.hid hI
      have HB := Lib.hid hb
      have HE : Hid (r = l.map f) := Lib.hid (by rw [HR.out, List.take_of_length_le (by rw [HL.out]; exact Nat.le_refl _)])
      clear hI hb
      go_wp2
      go_ret
      refine ⟨w.heap.size, rfl, Nat.le_refl _, ?_, HB.out⟩
      rw [← HE.out]
      exact HI.out.ints hlt0 HRL.out
set_option maxHeartbeats 4000000 in
set_option maxRecDepth 100000 in
theorem eachint_any (A : Option Addr) (n cp : Nat) (l : List Int) (F : FuncId) (f : Int → Int) (w : World) (h : Ivs w A n l) (hn : n ≤ 1000000) (hcall : ∀ args w, (callFunc F args).run Tryz.prog w = .ok (.enter F args) w)
    (hF : ∀ p ∈ l, ∀ W, Calls Tryz.prog F #[.int .i64 p] W fun e w' => e = .returned (.int .i64 (f p)) ∧ Below W.heap.size W w') :
    Calls Tryz.prog 114 #[.slice A n cp, .func (.func F) #[] #[]] w fun e w' => ∃ g, e = .returned (.slice (some ⟨g, 0, none⟩) n n) ∧ w.heap.size ≤ g ∧ Ivs w' (some ⟨g, 0, none⟩) n (l.map f) ∧ Below w.heap.size w w' := by
  obtain ⟨M, hmk, hz⟩ := made_ints w n (by omega)
  have H := Lib.hid h
  have HL := Lib.hid h.1
  have HF := Lib.hid hF
  have HCALL := Lib.hid hcall
  obtain ⟨g, hg⟩ : ∃ g, g = w.heap.size := ⟨_, rfl⟩
  have HZ := Lib.hid hz
  have HG := Lib.hid hg
  clear h hz hF hcall hg
  go_enter Tryz.func114, Tryz.ntmps114
  go_wp2
  clear hmk
  go_loopw [13] (fun x wr => ∃ (k : Nat) (r : List Int), x = .int .i64 k ∧ k ≤ n ∧ r = (l.take k).map f ∧ IntsAt wr w.heap.size (r ++ List.replicate (n - k) 0) ∧ Below w.heap.size w wr ∧ w.heap.size < wr.heap.size) (fun x _ => n - (intOf x).toNat)
  case atStart => exact ⟨0, [], by go_num, Nat.zero_le _, rfl, by simpa using HZ.out, pl1 _ _, by simp⟩
  case round =>
    obtain ⟨k, r, rfl, hkn, hr, hI, hb, hlt0⟩ := hrel
    have hrl : r.length = k := by rw [hr, List.length_map, List.length_take, HL.out]; omega
    have HRL := Lib.hid hrl
    have HR := Lib.hid hr
    clear hr hrl
    by_cases hlt : k < n
    · have hmi : (k : Int) < (n : Int) := by omega
      have hkl : k < l.length := by rw [HL.out]; exact hlt
      obtain ⟨b, o, rfl, hbl, c0⟩ := H.out.2 k hkl
      have q0 := (hb.cell (p := ⟨b, o + k, none⟩) hbl).trans c0
      have hnx : (l.take (k + 1)).map f = (l.take k).map f ++ [f l[k]] := by rw [List.take_succ_eq_append_getElem hkl, List.map_append, List.map_singleton]
      have hst := HF.out l[k] (List.getElem_mem hkl) wr
      obtain ⟨p, hp⟩ : ∃ x, x = l[k] := ⟨_, rfl⟩
      rw [← hp] at q0 hst hnx
      obtain ⟨y, hy⟩ : ∃ y, y = f p := ⟨_, rfl⟩
      rw [← hy] at hst hnx
      have hc0 := (hI k (by rw [List.length_append, HRL.out, List.length_replicate]; omega))
      have hset := hI.set_ k y
      obtain ⟨m, hm⟩ : ∃ m, n - k = m + 1 := ⟨n - k - 1, by omega⟩
      have HST := Lib.hid hst
      have HNX := Lib.hid hnx
      have HI := Lib.hid hI
      have HB := Lib.hid hb
      have HM := Lib.hid hm
      clear hst hnx hset hI hb c0 hp hy hm hbl
      have hcall := HCALL.out
      go_wp2_with fail
      refine HST.out.mono ?_
      rintro e w2 ⟨rfl, hb2⟩
      have hb3 : Below wr.heap.size wr w2 := hb2
      have hI2 : IntsAt w2 w.heap.size (r ++ List.replicate (n - k) 0) := fun j hj => ⟨(hb3.cell (p := ⟨w.heap.size, j, none⟩) hlt0).trans (HI.out j hj).1, (hb3.frozen (p := ⟨w.heap.size, j, none⟩) hlt0).trans (HI.out j hj).2⟩
      have hk2 := hI2 k (by rw [List.length_append, HRL.out, List.length_replicate]; omega)
      have d0 := hk2.1
      have f0 := hk2.2
      have hset := hI2.set_ k y
      rw [HM.out, fill_at HRL.out] at hset
      have HSET := Lib.hid hset
      have HBZ : Hid (Below w.heap.size w (w2.setCell ⟨w.heap.size, k, none⟩ (.int .i64 y))) := Lib.hid ((HB.out.trans (hb3.mono HB.out.size)).setCell (Nat.le_refl _) _)
      have hsz2 : w.heap.size < (w2.setCell ⟨w.heap.size, k, none⟩ (.int .i64 y)).heap.size := by have := hb3.size; simp; omega
      have HS2 := Lib.hid hsz2
      clear hb2 hb3 hI2 hk2 hset hsz2 q0
      go_wp2
      go_roundw
      case rel => exact ⟨k + 1, r ++ [y], by go_num, by omega, by rw [HNX.out, ← HR.out], by rw [show n - (k + 1) = m by have := HM.out; omega]; exact HSET.out, HBZ.out, HS2.out⟩
      case measure => simp [intOf]; omega
    · have hmi : ¬ (k : Int) < (n : Int) := by omega
      obtain rfl : k = n := by omega
      rw [Nat.sub_self, List.replicate_zero, List.append_nil] at hI
      have HI := Lib.hid hI
      have HB := Lib.hid hb
      have HE : Hid (r = l.map f) := Lib.hid (by rw [HR.out, List.take_of_length_le (by rw [HL.out]; exact Nat.le_refl _)])
      clear hI hb
      go_wp2
      go_ret
      refine ⟨w.heap.size, rfl, Nat.le_refl _, ?_, HB.out⟩
      rw [← HE.out]
      exact HI.out.ints hlt0 HRL.out
end Go.Proofs.YtddnnhfffmhpmaaGreatDoor.Do

/- A change's bytes (the program's). -/
namespace Go.Proofs.YtddnnhfffmhpmaaGreatDoor.Do
open Go.RowKit Go.Proofs.YtddnnhfffmhpmaaGreatDoor DocM

theorem term1_any (p : Int × Int) (w : World) : Calls Tryz.prog 112 #[sv p] w fun e w' => e = .returned (.int .i64 p.1) ∧ Below w.heap.size w w' := by
  obtain ⟨p1, p2⟩ := p
  unfold sv
  go_enter Tryz.func112, Tryz.ntmps112
  go_wp2
  go_ret
  exact ⟨rfl, pl1 _ _⟩
theorem term2_any (p : Int × Int) (w : World) : Calls Tryz.prog 113 #[sv p] w fun e w' => e = .returned (.int .i64 p.2) ∧ Below w.heap.size w w' := by
  obtain ⟨p1, p2⟩ := p
  unfold sv
  go_enter Tryz.func113, Tryz.ntmps113
  go_wp2
  go_ret
  exact ⟨rfl, pl1 _ _⟩
theorem up128_any (n : Int) (w : World) (h : -1000000 ≤ n ∧ n ≤ 1000000) : Calls Tryz.prog 115 #[.int .i64 n] w fun e w' => e = .returned (.int .i64 (n + 128)) ∧ Below w.heap.size w w' := by
  have hw : IntKind.i64.wrap (n + 128) = n + 128 := by rw [IntKind.wrap_i64]; omega
  obtain ⟨m, hm⟩ : ∃ m, m = n + 128 := ⟨_, rfl⟩
  rw [← hm] at hw ⊢
  rw [hm] at hw
  have hw2 : IntKind.i64.wrap (n + 128) = m := by rw [hw, hm]
  clear hw hm
  go_enter Tryz.func115, Tryz.ntmps115
  go_wp2
  go_ret
  exact ⟨rfl, Below.refl _ _⟩
theorem sure_any (s : ByteArray) (c : Value) (w : World) : Calls Tryz.prog 76 #[.string s, c] w fun e w' => e = .returned (.string s) ∧ w' = w := by
  go_enter Tryz.func76, Tryz.ntmps76
  go_wp2
  go_ret
  exact ⟨rfl, rfl⟩
theorem fixed16_any (A : Option Addr) (n cp : Nat) (l : List Int) (W : World) (hn : n ≤ 1000000) (hI : Ivs W A n l) (h64 : I64 l) :
    Calls Tryz.prog 116 #[.int .i64 16, .slice A n cp] W fun e W' => e = .returned (.tuple #[.string (ofBytes (fixS 16 l)), .int .i64 (fixC 16 l)]) ∧ Below W.heap.size W W' := fixed_any A n cp 16 l W (by omega) hn hI h64
theorem fixed8_any (A : Option Addr) (n cp : Nat) (l : List Int) (W : World) (hn : n ≤ 1000000) (hI : Ivs W A n l) (h64 : I64 l) :
    Calls Tryz.prog 116 #[.int .i64 8, .slice A n cp] W fun e W' => e = .returned (.tuple #[.string (ofBytes (fixS 8 l)), .int .i64 (fixC 8 l)]) ∧ Below W.heap.size W W' := fixed_any A n cp 8 l W (by omega) hn hI h64
theorem str_add {P : Program} (x y : List UInt8) (hx : x.length ≤ 1000000) (hy : y.length ≤ 1000000) (w : World) : (Op.stringOp .add (ofBytes x) (ofBytes y)).run P w = .ok (.string (ofBytes (x ++ y))) w := by
  rw [run_string_add_sum w _ _ (by rw [size_ofBytes, size_ofBytes]; omega), cat2]
theorem kC {U X w1 : World} {p : Addr} {v : Value} (hb : Below X.heap.size X w1) (h : X.cell? p = some v ∧ Below U.heap.size U X) : w1.cell? p = some v ∧ Below U.heap.size U w1 := ⟨(hb.cell (World.block_lt_of_cell? X p h.1)).trans h.1, h.2.trans (hb.mono h.2.size)⟩
theorem kA {U X : World} {p : Addr} {v : Value} {o : Obj} (h : X.cell? p = some v ∧ Below U.heap.size U X) : (X.alloc o).cell? p = some v ∧ Below U.heap.size U (X.alloc o) := kC (pl1 X o) h
theorem kD {U : World} {p : Addr} {v : Value} (h : U.cell? p = some v) : U.drew.cell? p = some v ∧ Below U.heap.size U U.drew := ⟨h, (Below.refl _ _).drew⟩
theorem ivs_new1d (w : World) (x : Int) : Ivs (w.alloc (.cells #[.int .i64 x] 3)).drew (some ⟨w.heap.size, 0, none⟩) 1 [x] := (ivs_new1 w x).later (Below.refl _ _).drew
set_option maxHeartbeats 8000000 in
set_option maxRecDepth 100000 in
theorem contents_any (c : Ch) (A A2 : Option Addr) (n cp n2 cp2 : Nat) (w : World) (h : Pairs w A n c.ts) (hv : Ivs w A2 n2 c.v) (hr : Rgt c) (hg : c.gone = false) :
    Calls Tryz.prog 78 #[.agg #[.int .i64 c.doc, .slice A n cp, .slice A2 n2 cp2, .int .i64 c.tags]] w fun e w' => e = .returned (.string (ofBytes (cont c))) ∧ Below w.heap.size w w' := by
  have H := Lib.hid h
  have HV := Lib.hid hv
  have HL := Lib.hid h.1
  have hvec := (DenM.vec_iff _).1 (hr.there hg)
  have hn64 : n ≤ 64 := by rw [← HL.out]; exact hr.len
  have hn8 : n2 ≤ 8 := by rw [← hv.1]; exact Nat.le_of_eq hvec.1
  have I1 : I64 (c.ts.map (fun p => p.1)) := fun v hv => by
    obtain ⟨p, hp, rfl⟩ := List.mem_map.1 hv
    have := (hr.ts p hp).1
    show -9223372036854775808 ≤ p.1 ∧ p.1 ≤ 9223372036854775807
    omega
  have I2 : I64 (c.ts.map (fun p => p.2)) := fun v hv => by
    obtain ⟨p, hp, rfl⟩ := List.mem_map.1 hv
    have := (hr.ts p hp).2
    show -9223372036854775808 ≤ p.2 ∧ p.2 ≤ 9223372036854775807
    omega
  have I3 : I64 (c.v.map (fun n => n + 128)) := fun v hv => by
    obtain ⟨p, hp, rfl⟩ := List.mem_map.1 hv
    have := hvec.2 p hp
    show -9223372036854775808 ≤ p + 128 ∧ p + 128 ≤ 9223372036854775807
    omega
  have I4 : I64 [c.tags] := fun v hv => by
    simp at hv
    subst hv
    have := hr.tags
    omega
  have HU := Lib.hid (fun p hp W => up128_any p W (by have := hvec.2 p hp; omega))
  have S1 := Lib.hid (risS_len (c.ts.map (fun p => p.1)) (by rw [List.length_map, HL.out]; omega) I1)
  have S2 := Lib.hid (fixS_len 16 (c.ts.map (fun p => p.2)) (by rw [List.length_map, HL.out]; omega))
  have S3 := Lib.hid (fixS_len 8 (c.v.map (fun n => n + 128)) (by rw [List.length_map]; omega))
  have S4 := Lib.hid (fixS_len 8 [c.tags] (by simp))
  have hcont : cont c = risS (c.ts.map (fun p => p.1)) ++ fixS 16 (c.ts.map (fun p => p.2)) ++ fixS 8 (c.v.map (fun n => n + 128)) ++ fixS 8 [c.tags] := rfl
  obtain ⟨x4, hx4⟩ : ∃ x, x = cont c := ⟨_, rfl⟩
  rw [← hx4]
  rw [← hx4] at hcont
  have a1234 := fun W => str_add (P := Tryz.prog) (risS (c.ts.map (fun p => p.1)) ++ fixS 16 (c.ts.map (fun p => p.2)) ++ fixS 8 (c.v.map (fun n => n + 128))) (fixS 8 [c.tags]) (by rw [List.length_append, List.length_append]; have := S1.out; have := S2.out; have := S3.out; omega) (by have := S4.out; omega) W
  simp only [← hcont] at a1234
  have A1234 := Lib.hid a1234
  have HI1 := Lib.hid I1
  have HI2 := Lib.hid I2
  have HI3 := Lib.hid I3
  have HI4 := Lib.hid I4
  clear h hv hvec hcont hx4 a1234 I1 I2 I3 I4 hr hg
  obtain ⟨d, ts, v, tags, gone⟩ := c
  simp only at *
  go_enter Tryz.func78, Tryz.ntmps78
  go_wp2_with fail
  have q1 := cell_of_cells (i := 1) (heap_alloc_new w (.cells #[.int .i64 d, .slice A n cp, .slice A2 n2 cp2, .int .i64 tags] 33)) rfl
  have q2 := cell_of_cells (i := 2) (heap_alloc_new w (.cells #[.int .i64 d, .slice A n cp, .slice A2 n2 cp2, .int .i64 tags] 33)) rfl
  have q3 := cell_of_cells (i := 3) (heap_alloc_new w (.cells #[.int .i64 d, .slice A n cp, .slice A2 n2 cp2, .int .i64 tags] 33)) rfl
  have B0 := Lib.hid (pl1 w (.cells #[.int .i64 d, .slice A n cp, .slice A2 n2 cp2, .int .i64 tags] 33))
  refine (eachterm_any A n cp ts _ (fun p => p.1) _ (H.out.later B0.out) (by omega) (fun _ _ => rfl) term1_any).mono ?_
  rintro e w1 ⟨g1, rfl, hg1, i1, hb⟩
  have hl : w.heap.size < (w.alloc (.cells #[.int .i64 d, .slice A n cp, .slice A2 n2 cp2, .int .i64 tags] 33)).heap.size := by simp
  replace q1 := (hb.cell (p := ⟨w.heap.size, 1, none⟩) hl).trans q1
  replace q2 := (hb.cell (p := ⟨w.heap.size, 2, none⟩) hl).trans q2
  replace q3 := (hb.cell (p := ⟨w.heap.size, 3, none⟩) hl).trans q3
  have B1 := Lib.hid (B0.out.trans (hb.mono B0.out.size))
  have J1 := Lib.hid i1
  clear hb hl i1
  go_wp2_with fail
  refine (eachterm_any A n cp ts _ (fun p => p.2) _ (H.out.later B1.out) (by omega) (fun _ _ => rfl) term2_any).mono ?_
  rintro e w2 ⟨g2, rfl, hg2, i2, hb⟩
  have hl := World.block_lt_of_cell? w1 _ q1
  replace q1 := (hb.cell (p := ⟨w.heap.size, 1, none⟩) hl).trans q1
  replace q2 := (hb.cell (p := ⟨w.heap.size, 2, none⟩) hl).trans q2
  replace q3 := (hb.cell (p := ⟨w.heap.size, 3, none⟩) hl).trans q3
  have B2 := Lib.hid (B1.out.trans (hb.mono B1.out.size))
  have J1 := Lib.hid (J1.out.later hb)
  have J2 := Lib.hid i2
  clear hb hl i2
  go_wp2_with fail
  refine (eachint_any A2 n2 cp2 v _ (fun n => n + 128) _ (HV.out.later B2.out) (by omega) (fun _ _ => rfl) HU.out).mono ?_
  rintro e w3 ⟨g3, rfl, hg3, i3, hb⟩
  have hl := World.block_lt_of_cell? w2 _ q1
  replace q3 := (hb.cell (p := ⟨w.heap.size, 3, none⟩) hl).trans q3
  have B3 := Lib.hid (B2.out.trans (hb.mono B2.out.size))
  have J1 := Lib.hid (J1.out.later hb)
  have J2 := Lib.hid (J2.out.later hb)
  have J3 := Lib.hid i3
  clear hb hl i3 q1 q2
  generalize ts.map (fun p => p.1) = L1 at J1 S1 HI1 A1234
  generalize ts.map (fun p => p.2) = L2 at J2 S2 HI2 A1234
  generalize v.map (fun n => n + 128) = L3 at J3 S3 HI3 A1234
  have R1 := Lib.hid (fun W (hS : W.cell? ⟨w.heap.size, 3, none⟩ = some (.int .i64 tags) ∧ Below w3.heap.size w3 W) => rising_any (some ⟨g1, 0, none⟩) n n L1 W (by omega) (J1.out.later hS.2) HI1.out)
  have R2 := Lib.hid (fun W (hS : W.cell? ⟨w.heap.size, 3, none⟩ = some (.int .i64 tags) ∧ Below w3.heap.size w3 W) => fixed16_any (some ⟨g2, 0, none⟩) n n L2 W (by omega) (J2.out.later hS.2) HI2.out)
  have R3 := Lib.hid (fun W (hS : W.cell? ⟨w.heap.size, 3, none⟩ = some (.int .i64 tags) ∧ Below w3.heap.size w3 W) => fixed8_any (some ⟨g3, 0, none⟩) n2 n2 L3 W (by omega) (J3.out.later hS.2) HI3.out)
  have R4 := Lib.hid (fun k W (hW : Ivs W (some ⟨k, 0, none⟩) 1 [tags]) => fixed8_any (some ⟨k, 0, none⟩) 1 1 [tags] W (by omega) hW HI4.out)
  generalize risS L1 = s1 at R1 S1 A1234
  generalize fixS 16 L2 = s2 at R2 S2 A1234
  generalize fixS 8 L3 = s3 at R3 S3 A1234
  generalize fixS 8 [tags] = s4 at R4 S4 A1234
  generalize risC L1 = k1 at R1
  generalize fixC 16 L2 = k2 at R2
  generalize fixC 8 L3 = k3 at R3
  generalize fixC 8 [tags] = k4 at R4
  clear HI1 HI2 HI3 HI4 J1 J2 J3 H HV HL HU
  have a12 := fun W => str_add (P := Tryz.prog) s1 s2 (by have := S1.out; omega) (by have := S2.out; omega) W
  have a123 := fun W => str_add (P := Tryz.prog) (s1 ++ s2) s3 (by rw [List.length_append]; have := S1.out; have := S2.out; omega) (by have := S3.out; omega) W
  have a1234 := A1234.out
  clear A1234
  generalize s1 ++ s2 = x2 at a12 a123 a1234
  generalize x2 ++ s3 = x3 at a123 a1234
  clear S1 S2 S3 S4 hg1 hg2 hg3 B0 B1 B2
  go_wp2
  go_region_held3 (fun w' => w'.cell? ⟨w.heap.size, 3, none⟩ = some (.int .i64 tags) ∧ Below w3.heap.size w3 w')
    ((first | exact kC hb (by assumption) | exact kA (by assumption) | exact kD q3 | go_keep))
    (first
      | (go_at_call 76; ((with_reducible refine (sure_any _ _ _).mono ?_); rintro e ws ⟨rfl, rfl⟩))
      | (go_at_call 98; ((with_reducible refine (R1.out _ (by assumption)).mono ?_); rintro e wa ⟨rfl, hb⟩))
      | (go_at_call 116; first
          | ((with_reducible refine (R2.out _ (by assumption)).mono ?_); rintro e wb ⟨rfl, hb⟩)
          | ((with_reducible refine (R3.out _ (by assumption)).mono ?_); rintro e wc ⟨rfl, hb⟩)
          | ((with_reducible refine (R4.out _ _ ?_).mono ?_); (first | exact (ivs_new1 _ _) | exact (ivs_new1 _ _).later hb | exact ((ivs_new1 _ _).later (by assumption)).later hb | exact (((ivs_new1 _ _).later (by assumption)).later (by assumption)).later hb | exact (ivs_new1d _ _) | exact (ivs_new1d _ _).later hb | exact ((ivs_new1d _ _).later (by assumption)).later hb | exact (((ivs_new1d _ _).later (by assumption)).later (by assumption)).later hb); rintro e wd ⟨rfl, hb⟩)))
  all_goals
    have hz : ws.cell? ⟨w.heap.size, 3, none⟩ = some (.int .i64 tags) ∧ Below w3.heap.size w3 ws := by assumption
    have hZ := Lib.hid (B3.out.trans (hz.2.mono B3.out.size))
    clear hz hb
    go_wp2
    go_ret
    exact ⟨rfl, hZ.out⟩
end Go.Proofs.YtddnnhfffmhpmaaGreatDoor.Do
