
/- Is a term there twice? -/
import Derived.Test.YtdjbdhfellofoaaDocB
import Derived.Test.YtdjbdhfellofoaaKeys
namespace Go.Proofs.Ytdjbdhfellofoaa.Do
open Go.RowKit Go.Proofs.Ytdjbdhfellofoaa DocM Ks Go.Maps

set_option maxHeartbeats 4000000 in
set_option maxRecDepth 100000 in
theorem twstep_any (p : Int × Int) (g b nn : Nat) (D : KD) (S : List Int) (W : World) (hp : -9223372036854775808 ≤ p.1 ∧ p.1 ≤ 9223372036854775807) (hc : W.cell? ⟨g, 0, none⟩ = some (.map (some b))) (ho : OwnU W b nn D) (hr : RepU D S) (hnn : nn ≤ 1000000) :
    Calls Try.prog 60 #[sv p, .pointer (some ⟨g, 0, none⟩)] W fun e w' => e = .returned (.bool (decide (p.1 ∈ S))) ∧ (∃ D', OwnU w' b (nn + 1) D' ∧ RepU D' (S ++ [p.1])) ∧ Turned (fun k => k = b) W w' := by
  obtain ⟨p1, p2⟩ := p
  unfold sv
  simp only at hp ⊢
  have hkey := key_is hp
  have hhas := hr.has p1
  obtain ⟨r, hr0⟩ : ∃ r, r = decide (p1 ∈ S) := ⟨_, rfl⟩
  rw [← hr0] at hhas ⊢
  have hgl : g < W.heap.size := World.block_lt_of_cell? W _ hc
  have hbl : b < W.heap.size := ho.lt
  have HO1 := Lib.hid (ho.later (pl1 W (.cells #[.int .i64 p1, .int .i64 p2] 56)))
  have HO2 := Lib.hid (HO1.out.later (pl1 (W.alloc (.cells #[.int .i64 p1, .int .i64 p2] 56)) (.cells #[] 102)))
  have HT2 : Hid (Turned (fun k => k = b) W ((W.alloc (.cells #[.int .i64 p1, .int .i64 p2] 56)).alloc (.cells #[] 102))) := Lib.hid (((Turned.refl _ _).alloc _).alloc _)
  have hz := zero_unit (W.alloc (.cells #[.int .i64 p1, .int .i64 p2] 56))
  have HHAS := Lib.hid hhas
  have HRE := Lib.hid hr
  have hgs : g ≠ W.heap.size := by omega
  clear hhas hr ho hr0
  go_enter Try.func60, Try.ntmps60
  go_wp2_with (first
    | (at_lookup; refine wpList_lookup_own_unit _ rfl _ _ 101 rfl 3 102 key_law Try.underlying101 hz b nn D rfl HO1.out _ _ rfl hkey ?_; rw [HHAS.out])
    | (at_mapUpdate; refine wpList_mapUpdate_own _ rfl _ _ _ 101 rfl 3 102 key_law Try.underlying101 _ b nn _ rfl HO2.out (by unfold maxLen; omega) _ _ _ rfl rfl hkey (.agg []) [] unitElem_mk ?_; intro w5 hown5 hgrow5))
  have HN : Hid ((∃ D', OwnU w5 b (nn + 1) D' ∧ RepU D' (S ++ [p1])) ∧ Turned (fun k => k = b) W w5) := Lib.hid ⟨⟨_, hown5, HRE.out.put p1⟩, HT2.out.trans (Turned.of_grown hgrow5 rfl)⟩
  clear hown5 hgrow5
  go_wp2
  go_ret
  exact ⟨rfl, HN.out.1, HN.out.2⟩

theorem ask_twice (A : Option Addr) (n : Nat) (l : List (Int × Int)) (g b : Nat) (u : World) (h : Pairs u A n l) (hbu : u.heap.size ≤ b) (hgb : g ≠ b) (hl : n ≤ 1000) (hk : ∀ p ∈ l, -9223372036854775808 ≤ p.1 ∧ p.1 ≤ 9223372036854775807) :
    AskC A n l 60 #[.pointer (some ⟨g, 0, none⟩)] (fun k => decide ((l.getD k (0, 0)).1 ∈ tms (l.take k))) (fun k W => (∃ D, OwnU W b k D ∧ RepU D (tms (l.take k))) ∧ W.cell? ⟨g, 0, none⟩ = some (.map (some b)) ∧ Below u.heap.size u W) (fun W => Below u.heap.size u W) where
  call := fun args w => rfl
  reads := fun k W hW => h.later hW.2.2
  tells := fun W hW => hW.2.2
  step := fun k hkl W ⟨⟨D, ho, hr⟩, hc, hb⟩ => by
    have e1 : l.getD k (0, 0) = l[k] := by rw [List.getD_eq_getElem?_getD, List.getElem?_eq_getElem hkl]; rfl
    have hkn : k < n := by rw [← h.1]; exact hkl
    refine (twstep_any l[k] g b k D (tms (l.take k)) W (hk _ (List.getElem_mem hkl)) hc ho hr (by omega)).mono fun e w' ⟨h1, ⟨D', h2, h3⟩, h4⟩ => ?_
    have hb' : Below u.heap.size u w' := h4.below hb (fun k hk => by rw [hk]; exact hbu)
    refine ⟨by rw [h1, e1], hb', fun _ => ⟨⟨D', h2, ?_⟩, ?_, hb'⟩⟩
    · rw [List.take_succ_eq_append_getElem hkl]
      unfold tms at h3 ⊢
      rw [List.map_append, List.map_singleton]
      exact h3
    · exact (h4.cell (p := ⟨g, 0, none⟩) (World.block_lt_of_cell? W _ hc) hgb).trans hc
theorem nodup_take (l : List Int) : ∀ n, n ≤ l.length → ((l.take n).Nodup ↔ ∀ k (h : k < l.length), k < n → l[k] ∉ l.take k)
  | 0, _ => by simp
  | n + 1, hn => by
    have ih := nodup_take l n (by omega)
    have hl : n < l.length := by omega
    rw [List.take_succ_eq_append_getElem hl, List.nodup_append, ih]
    constructor
    · rintro ⟨h1, _, h3⟩ k hk hkn hm
      rcases Nat.lt_or_ge k n with e | e
      · exact h1 k hk e hm
      · obtain rfl : k = n := by omega
        exact h3 _ hm _ (by simp) rfl
    · intro h
      refine ⟨fun k hk hkn => h k hk (by omega), by simp, fun a ha b hb e => ?_⟩
      have hb' : b = l[n] := by simpa using hb
      subst e
      rw [hb'] at ha
      exact h n hl (by omega) ha
theorem twice_iff (l : List (Int × Int)) : twice (tms l) = true ↔ ∃ k, k < l.length ∧ decide ((l.getD k (0, 0)).1 ∈ tms (l.take k)) = true := by
  have h := nodup_take (tms l) (tms l).length (Nat.le_refl _)
  rw [List.take_length] at h
  have e : ∀ k (hk : k < l.length), ((l.getD k (0, 0)).1 ∈ tms (l.take k) ↔ (tms l)[k]'(by rw [tms_len]; exact hk) ∈ (tms l).take k) := fun k hk => by
    rw [List.getD_eq_getElem?_getD, List.getElem?_eq_getElem hk]
    unfold tms
    simp only [Option.getD_some, List.getElem_map, List.map_take]
  unfold twice
  rw [Bool.not_eq_true', decide_eq_false_iff_not, h]
  constructor
  · intro hn
    rcases Classical.em (∃ k, k < l.length ∧ decide ((l.getD k (0, 0)).1 ∈ tms (l.take k)) = true) with hx | hx
    · exact hx
    · exfalso
      apply hn
      intro k hk _ hm
      rw [tms_len] at hk
      exact hx ⟨k, hk, decide_eq_true ((e k hk).2 hm)⟩
  · rintro ⟨k, hk, hd⟩ hall
    exact hall k (by rw [tms_len]; exact hk) (by rw [tms_len]; exact hk) ((e k hk).1 (of_decide_eq_true hd))
set_option maxHeartbeats 2000000 in
set_option maxRecDepth 100000 in
theorem istwice_any (A : Option Addr) (n cp : Nat) (l : List (Int × Int)) (w : World) (h : Pairs w A n l) (hl : n ≤ 1000) (hk : ∀ p ∈ l, -9223372036854775808 ≤ p.1 ∧ p.1 ≤ 9223372036854775807) :
    Calls Try.prog 34 #[.slice A n cp] w fun e w' => e = .returned (.bool (twice (tms l))) ∧ Below w.heap.size w w' := by
  have hmk := mk_hint n w
  have HA := Lib.hid (ask_twice A n l (w.heap.size + 1) w.heap.size w h (Nat.le_refl _) (by omega) hl hk)
  have HT := Lib.hid (twice_iff l)
  have HL := Lib.hid h.1
  clear h hk
  go_enter Try.func34, Try.ntmps34
  go_wp2_with fail
  refine (contains_any A n cp l _ _ _ _ _ HA.out _ ?_ (by omega) (twice (tms l)) (by rw [← HL.out]; exact HT.out)).mono ?_
  · refine ⟨⟨.map [], OwnU.later (World.ownsMap_made _ _ _ _) (pl1 _ _), RepU.none_⟩, ?_, (pl1 _ _).trans ((pl1 _ _).mono (by simp))⟩
    simp
  · rintro e w' ⟨rfl, hb⟩
    go_wp2
    go_ret
    exact ⟨rfl, hb⟩
end Go.Proofs.Ytdjbdhfellofoaa.Do
