
/- The answers that the document fixes. -/
import Derived.Test.YteigkmeenokfoaaVdO
import Derived.Test.YteigkmeenokfoaaVdIter
namespace Go.Proofs.Yteigkmeenokfoaa.Vd
open Go.RowKit Go.Proofs.Yteigkmeenokfoaa VdM Go.Maps

/-- a disk that was made behind w0 -/
def Here (w0 w : World) (d : Nat) (s : Dsk) : Prop := ∃ F, Is w F d s ∧ (∀ b, F b → w0.heap.size ≤ b) ∧ Below w0.heap.size w0 w
section
variable {w0 w w' : World} {d : Nat} {s s' : Dsk}
theorem Here.below (h : Here w0 w d s) : Below w0.heap.size w0 w := by
  obtain ⟨F, _, _, hB⟩ := h
  exact hB
theorem Here.later (h : Here w0 w d s) (hb : Below w.heap.size w w') : Here w0 w' d s := by
  obtain ⟨F, hI, hF, hB⟩ := h
  exact ⟨F, hI.later hb, hF, hB.trans (hb.mono hB.size)⟩
theorem here_went {F : Nat → Prop} (hF : ∀ b, F b → w0.heap.size ≤ b) (hB : Below w0.heap.size w0 w) (h : Went w w' F d s') : Here w0 w' d s' := by
  obtain ⟨hT, F', hI, hF'⟩ := h
  have hz := hB.size
  exact ⟨F', hI, fun b hb => (hF' b hb).elim (hF b) (fun x => Nat.le_trans hz x), hT.below hB hF⟩
theorem step_new (w : World) (q : Nat) (h1 : 1 ≤ q) (h2 : q ≤ 1048576) (qI : Int) (hq : qI = (q : Int)) : Calls Try.prog 6 #[.int .i64 qI] w fun e w' => e = .returned (.tuple #[.pointer (some ⟨w.heap.size + 1, 0, none⟩), .int .i64 0]) ∧ Here w w' (w.heap.size + 1) (fresh q) := by
  subst hq
  refine (new_yes q w h1 h2).mono ?_
  rintro e w' ⟨rfl, hI, hb⟩
  exact ⟨rfl, _, hI, fun b hb => by rcases hb with rfl | rfl <;> omega, hb⟩
theorem step_append (h : Here w0 w d s) (nm x : ByteArray) (he : s.eff + 1 ≤ 1000000000) (s' : Dsk) (e' : Int) (hs : append s nm.data.toList x.data.toList = (s', e')) :
    Calls Try.prog 7 #[.pointer (some ⟨d, 0, none⟩), .string nm, .string x] w fun e w' => e = .returned (.int .i64 e') ∧ Here w0 w' d s' := by
  obtain ⟨F, hI, hF, hB⟩ := h
  have hc := append_any w F d s hI nm x he
  rw [hs] at hc
  refine hc.mono ?_
  rintro e w' ⟨rfl, hw⟩
  exact ⟨rfl, here_went hF hB hw⟩
theorem step_sync (h : Here w0 w d s) (nm : ByteArray) (hn : nm.size ≤ 1000000) (he : s.eff + 1 ≤ 1000000000) (s' : Dsk) (e' : Int) (hs : sync s nm.data.toList = (s', e')) :
    Calls Try.prog 9 #[.pointer (some ⟨d, 0, none⟩), .string nm] w fun e w' => e = .returned (.int .i64 e') ∧ Here w0 w' d s' := by
  obtain ⟨F, hI, hF, hB⟩ := h
  have hc := sync_any w F d s hI nm hn he
  rw [hs] at hc
  refine hc.mono ?_
  rintro e w' ⟨rfl, hw⟩
  exact ⟨rfl, here_went hF hB hw⟩
theorem step_remove (h : Here w0 w d s) (nm : ByteArray) (hn : nm.size ≤ 1000000) (he : s.eff + 1 ≤ 1000000000) (s' : Dsk) (e' : Int) (hs : remove s nm.data.toList = (s', e')) :
    Calls Try.prog 14 #[.pointer (some ⟨d, 0, none⟩), .string nm] w fun e w' => e = .returned (.int .i64 e') ∧ Here w0 w' d s' := by
  obtain ⟨F, hI, hF, hB⟩ := h
  have hc := remove_any w F d s hI nm hn he
  rw [hs] at hc
  refine hc.mono ?_
  rintro e w' ⟨rfl, hw⟩
  exact ⟨rfl, here_went hF hB hw⟩
theorem step_rename (h : Here w0 w d s) (nm tn : ByteArray) (hn : nm.size ≤ 1000000) (he : s.eff + 1 ≤ 1000000000) (s' : Dsk) (e' : Int) (hs : rename s nm.data.toList tn.data.toList = (s', e')) :
    Calls Try.prog 13 #[.pointer (some ⟨d, 0, none⟩), .string nm, .string tn] w fun e w' => e = .returned (.int .i64 e') ∧ Here w0 w' d s' := by
  obtain ⟨F, hI, hF, hB⟩ := h
  have hc := rename_any w F d s hI nm tn hn he
  rw [hs] at hc
  refine hc.mono ?_
  rintro e w' ⟨rfl, hw⟩
  exact ⟨rfl, here_went hF hB hw⟩
theorem step_crash (h : Here w0 w d s) (keep : Int) (s' : Dsk) (hs : crash s keep = s') :
    Calls Try.prog 11 #[.pointer (some ⟨d, 0, none⟩), .int .i64 keep] w fun e w' => e = .returned (.tuple #[]) ∧ Here w0 w' d s' := by
  obtain ⟨F, hI, hF, hB⟩ := h
  have hc := crash_any w F d s hI keep
  rw [hs] at hc
  refine hc.mono ?_
  rintro e w' ⟨rfl, hT, hI'⟩
  exact ⟨rfl, here_went hF hB ⟨hT, F, hI', fun b hb => .inl hb⟩⟩
theorem step_start (h : Here w0 w d s) (s' : Dsk) (hs : { s with down := false } = s') :
    Calls Try.prog 12 #[.pointer (some ⟨d, 0, none⟩)] w fun e w' => e = .returned (.tuple #[]) ∧ Here w0 w' d s' := by
  obtain ⟨F, hI, hF, hB⟩ := h
  have hc := start_any w F d s hI
  rw [hs] at hc
  refine hc.mono ?_
  rintro e w' ⟨rfl, hT, hI'⟩
  exact ⟨rfl, here_went hF hB ⟨hT, F, hI', fun b hb => .inl hb⟩⟩
theorem step_read (h : Here w0 w d s) (nm : ByteArray) (hn : nm.size ≤ 1000000000) (t : ByteArray) (e' : Int) (ht : ofBytes (getF s nm.data.toList).bytes = t) (he : findE s nm.data.toList = e') :
    Calls Try.prog 10 #[.pointer (some ⟨d, 0, none⟩), .string nm] w fun e w' => e = .returned (.tuple #[.string t, .int .i64 e']) ∧ Here w0 w' d s ∧ Below w.heap.size w w' := by
  obtain ⟨F, hI, hF, hB⟩ := h
  have hc := read_any w F d s hI nm hn
  rw [ht, he] at hc
  refine hc.mono ?_
  rintro e w' ⟨rfl, hb⟩
  exact ⟨rfl, Here.later ⟨F, hI, hF, hB⟩ hb, hb⟩
theorem step_list (h : Here w0 w d s) (l : List Name) (hl : s.fs.map (·.1) = l) :
    Calls Try.prog 8 #[.pointer (some ⟨d, 0, none⟩)] w fun e w' => (∃ v, e = .returned v ∧ NameRow w' w.heap.size v l) ∧ Here w0 w' d s ∧ Below w.heap.size w w' := by
  obtain ⟨F, hI, hF, hB⟩ := h
  have hc := list_any w F d s hI
  rw [hl] at hc
  refine hc.mono ?_
  rintro e w' ⟨v, rfl, hr, hb⟩
  exact ⟨⟨v, rfl, hr⟩, Here.later ⟨F, hI, hF, hB⟩ hb, hb⟩
theorem step_used (h : Here w0 w d s) (u : Int) (hu : (usF s.fs : Int) = u) :
    Calls Try.prog 15 #[.pointer (some ⟨d, 0, none⟩)] w fun e w' => e = .returned (.int .i64 u) ∧ Here w0 w' d s := by
  obtain ⟨F, hI, hF, hB⟩ := h
  have hc := used_any w F d s hI
  rw [hu] at hc
  refine hc.mono ?_
  rintro e w' ⟨rfl, hb⟩
  exact ⟨rfl, Here.later ⟨F, hI, hF, hB⟩ hb⟩
theorem step_effects (h : Here w0 w d s) (u : Int) (hu : (s.eff : Int) = u) :
    Calls Try.prog 16 #[.pointer (some ⟨d, 0, none⟩)] w fun e w' => e = .returned (.int .i64 u) ∧ w = w' := by
  obtain ⟨F, hI, hF, hB⟩ := h
  have hc := effects_any w F d s hI
  rw [hu] at hc
  exact hc
theorem step_flip (h : Here w0 w d s) (nm : ByteArray) (bit : Int) (hn : nm.size ≤ 1000000) (hbit : bit ≤ 9223372036854775807) (s' : Dsk) (e' : Int) (hs : VdM.flip s nm.data.toList bit = (s', e')) :
    Calls Try.prog 17 #[.pointer (some ⟨d, 0, none⟩), .string nm, .int .i64 bit] w fun e w' => e = .returned (.int .i64 e') ∧ Here w0 w' d s' := by
  obtain ⟨F, hI, hF, hB⟩ := h
  have hc := dflip_any w F d s hI nm bit hn hbit
  rw [hs] at hc
  refine hc.mono ?_
  rintro e w' ⟨rfl, hw⟩
  exact ⟨rfl, here_went hF hB hw⟩
end
theorem NameRow.at_ {w : World} {base : Nat} {v : Value} {l : List Name} (h : NameRow w base v l) : ∃ p c, v = .slice p l.length c ∧ ∀ i (hi : i < l.length), ∃ g, p = some ⟨g, 0, none⟩ ∧ base ≤ g ∧ g < w.heap.size ∧ w.cell? ⟨g, i, none⟩ = some (encStr l[i]) := by
  rcases h.2 with ⟨rfl, e⟩ | ⟨g, cap, cur, rfl, hb, hg, hnc, hcm, hcs, ht⟩
  · exact ⟨none, 0, by rw [e], fun i hi => by omega⟩
  · refine ⟨_, cap, rfl, fun i hi => ⟨g, rfl, hb, (Array.getElem?_eq_some_iff.1 hg).1, ?_⟩⟩
    rw [cell_of_row _ _ _ _ _ _ hg]
    have h1 : (cur.toList.take (l.length * 1))[i]? = (l.map encStr)[i]? := by rw [ht]
    rw [List.getElem?_take, if_pos (by omega)] at h1
    rw [← Array.getElem?_toList, h1, List.getElem?_map, List.getElem?_eq_getElem hi]
    rfl
set_option maxHeartbeats 8000000 in
set_option maxRecDepth 100000 in
theorem awake9_any (w : World) : Calls Try.prog 4 #[] w fun e w' => e = .returned (.bool true) ∧ Below w.heap.size w w' := by
  have HN := Lib.hid (step_new w 100 (by decide) (by decide) 100 rfl)
  go_enter Try.func4, Try.ntmps4
  go_wp2_with fail
  refine HN.out.mono ?_
  rintro e w1 ⟨rfl, h1⟩
  go_wp2_with fail
  refine (new_no 0 w1 (by decide)).mono ?_
  rintro e w2 ⟨rfl, rfl⟩
  go_wp2_with fail
  refine (step_append h1 ⟨#[97]⟩ ⟨#[120, 121]⟩ (by decide) ⟨100, [([97], ⟨[120, 121], 0⟩)], false, 0, 0, 1⟩ 0 rfl).mono ?_
  rintro e w2 ⟨rfl, h2⟩
  clear h1
  go_wp2_with fail
  refine (step_sync h2 ⟨#[97]⟩ (by decide) (by decide) ⟨100, [([97], ⟨[120, 121], 2⟩)], false, 0, 0, 2⟩ 0 rfl).mono ?_
  rintro e w3 ⟨rfl, h3⟩
  clear h2
  go_wp2_with fail
  refine (step_append h3 ⟨#[97]⟩ ⟨#[122, 119]⟩ (by decide) ⟨100, [([97], ⟨[120, 121, 122, 119], 2⟩)], false, 0, 0, 3⟩ 0 rfl).mono ?_
  rintro e w4 ⟨rfl, h4⟩
  clear h3
  go_wp2_with fail
  refine (step_crash h4 1 ⟨100, [([97], ⟨[120, 121, 122], 3⟩)], true, 0, 0, 3⟩ rfl).mono ?_
  rintro e w5 ⟨rfl, h5⟩
  clear h4
  go_wp2_with fail
  refine (step_sync h5 ⟨#[97]⟩ (by decide) (by decide) ⟨100, [([97], ⟨[120, 121, 122], 3⟩)], true, 0, 0, 3⟩ 7 rfl).mono ?_
  rintro e w6 ⟨rfl, h6⟩
  clear h5
  go_wp2_with fail
  refine (step_start h6 ⟨100, [([97], ⟨[120, 121, 122], 3⟩)], false, 0, 0, 3⟩ rfl).mono ?_
  rintro e w7 ⟨rfl, h7⟩
  clear h6
  go_wp2_with fail
  refine (step_read h7 ⟨#[97]⟩ (by decide) ⟨#[120, 121, 122]⟩ 0 rfl rfl).mono ?_
  rintro e w8 ⟨rfl, h8, -⟩
  clear h7
  go_wp2_with fail
  refine (step_rename h8 ⟨#[97]⟩ ⟨#[98]⟩ (by decide) (by decide) ⟨100, [([98], ⟨[120, 121, 122], 3⟩)], false, 0, 0, 4⟩ 0 rfl).mono ?_
  rintro e w9 ⟨rfl, h9⟩
  clear h8
  go_wp2_with fail
  refine (step_remove h9 ⟨#[97]⟩ (by decide) (by decide) ⟨100, [([98], ⟨[120, 121, 122], 3⟩)], false, 0, 0, 4⟩ 4 rfl).mono ?_
  rintro e w10 ⟨rfl, h10⟩
  clear h9
  go_wp2_with fail
  refine (step_list h10 [[98]] rfl).mono ?_
  rintro e w11 ⟨⟨v, rfl, hv⟩, h11, -⟩
  clear h10
  obtain ⟨p, c, rfl, hp⟩ := hv.at_
  obtain ⟨g, rfl, hg1, hg2, hcell⟩ := hp 0 (by decide)
  have hc : w11.cell? ⟨g, 0, none⟩ = some (.string ⟨#[98]⟩) := hcell
  clear hv hp hcell
  go_wp2_with fail
  refine (step_used h11 3 rfl).mono ?_
  rintro e w12 ⟨rfl, h12⟩
  clear h11
  go_wp2_with fail
  refine (step_effects h12 4 rfl).mono ?_
  rintro e w13 ⟨rfl, rfl⟩
  go_wp2_with fail
  refine (step_flip h12 ⟨#[98]⟩ 0 (by decide) (by decide) ⟨100, [([98], ⟨[121, 121, 122], 3⟩)], false, 0, 0, 4⟩ 0 rfl).mono ?_
  rintro e w14 ⟨rfl, h14⟩
  clear h12
  go_wp2_with fail
  refine (step_append h14 ⟨#[]⟩ ⟨#[]⟩ (by decide) ⟨100, [([98], ⟨[121, 121, 122], 3⟩)], false, 0, 0, 4⟩ 2 rfl).mono ?_
  rintro e w15 ⟨rfl, h15⟩
  have HB := Lib.hid h15.below
  clear h14 h15
  go_wp2
  go_ret
  exact ⟨rfl, HB.out⟩
end Go.Proofs.Yteigkmeenokfoaa.Vd
