
/- List: a copy of what is kept, in order. -/
import Derived.Test.YtjdlocmchmeipaaTopI
namespace Go.Proofs.Ytjdlocmchmeipaa
open Go.RowKit Go.Sort

set_option maxRecDepth 100000 in
/-- append of what is read onto one's own row -/
theorem wp_append_pairs {w : World} {o : Oper} {a : Act} {K : Act → World → Prop} {Q : Exit → Act → World → Prop} (s x : Operand)
    (ho : o.op = .call { callee := .builtin .append, args := #[s, x], argTypes := #[31, 31] })
    (base : Nat) (v0 : Value) (l0 : List (Int × Int)) (hs : a.eval s = v0) (hown : PairRow w base v0 l0) (hbase : base ≤ w.heap.size)
    (A : Option Addr) (n cp : Nat) (l : List (Int × Int)) (hx : a.eval x = .slice A n cp) (hS : Pairs w A n l) (hA : A = none → cp = 0) (hn : l0.length + n ≤ 1000000000)
    (h : ∀ v' w', PairRow w' base v' (l0 ++ l) → w.grownBy w' v0.ownBlock → K (a.put o.dst v') w') : o.wp Try.prog a w K Q := by
  obtain ⟨i0, hi, hz0, hz1, hz2⟩ := info_parts pair_info
  rcases A with _ | ad
  · have hn0 : n = 0 := by
      rcases Nat.eq_zero_or_pos n with e | e
      · exact e
      · obtain ⟨b, o, e', _⟩ := hS.2 0 (by rw [hS.1]; exact e)
        cases e'
    subst hn0
    have hcp := hA rfl
    subst hcp
    have hl0 : l = [] := List.eq_nil_of_length_eq_zero hS.1
    subst hl0
    have hrun := run_append_owned_none (P := Try.prog) (w := w) base 31 o.type 54 i0 2 Try.underlying31 hi v0 l0.length (l0.flatMap enc2) hown
    have hfin := h v0 w (by rw [List.append_nil]; exact hown) (World.grownBy.refl w _)
    unfold Oper.wp
    simp [execOp, ho, resolve, invoke, builtin, hs, hx, hrun, Result.andThen]
    exact hfin
  · refine wp_append_own w s x 31 ho base 54 i0 _ 2 16 Try.underlying31 hi hz0 hz1 hz2 rfl (by omega) v0 l0.length (l0.flatMap enc2) hs hown ad n cp (l.flatMap enc2) hx (by rw [flat_len, hS.1]) (fun j u hu => ?_) (fun u hu => ?_) (by simp [maxLen]; omega) (by omega) hbase ?_
    · have hj : j < l.length * 2 := by
        have := (List.getElem?_eq_some_iff.1 hu).1
        rwa [flat_len] at this
      obtain ⟨b, o, e, _, h0, h1⟩ := hS.2 (j / 2) (by omega)
      obtain ⟨g0, g1⟩ := flat_get l (j / 2) (by omega)
      injection e with e
      subst e
      rw [add_none]
      rcases Nat.mod_two_eq_zero_or_one j with hm | hm
      · have ej : j = j / 2 * 2 := by omega
        rw [ej, g0] at hu
        rw [ej]
        exact h0.trans hu
      · have ej : j = j / 2 * 2 + 1 := by omega
        rw [ej, g1] at hu
        rw [ej, ← Nat.add_assoc]
        exact h1.trans hu
    · simp only [List.mem_flatMap, enc2] at hu
      obtain ⟨t, _, hu⟩ := hu
      simp at hu
      rcases hu with rfl | rfl <;> rfl
    · intro v' w' hown' hg' _
      refine h v' w' ?_ hg'
      unfold PairRow
      rw [List.length_append, List.flatMap_append, hS.1]
      exact hown'
theorem wpList_append_pairs {w : World} {ops : Array Oper} {rest : List Oper} {o : Oper} {a : Act} {Q : Exit → Act → World → Prop} (hgd : o.guard = none) (s x : Operand)
    (ho : o.op = .call { callee := .builtin .append, args := #[s, x], argTypes := #[31, 31] })
    (base : Nat) (v0 : Value) (l0 : List (Int × Int)) (hs : a.eval s = v0) (hown : PairRow w base v0 l0) (hbase : base ≤ w.heap.size)
    (A : Option Addr) (n cp : Nat) (l : List (Int × Int)) (hx : a.eval x = .slice A n cp) (hS : Pairs w A n l) (hA : A = none → cp = 0) (hn : l0.length + n ≤ 1000000000)
    (h : ∀ v' w', PairRow w' base v' (l0 ++ l) → w.grownBy w' v0.ownBlock → wpList Try.prog ops Q rest (a.put o.dst v') w') : wpList Try.prog ops Q (o :: rest) a w :=
  wpList_plain hgd fun _ hK => wp_append_pairs s x ho base v0 l0 hs hown hbase A n cp l hx hS hA hn fun v' w' h2 h3 => hK _ _ (h v' w' h2 h3)
/-- .. as a step -/
theorem step_pairs {w : World} {ops : Array Oper} {o : Oper} {a : Act} {K : Act → World → Prop} {Q : Exit → Act → World → Prop} {E : Prop} (hgd : o.guard = none) (s x : Operand)
    (ho : o.op = .call { callee := .builtin .append, args := #[s, x], argTypes := #[31, 31] })
    (base : Nat) (v0 : Value) (l0 : List (Int × Int)) (hs : a.eval s = v0) (hown : PairRow w base v0 l0) (hbase : base ≤ w.heap.size)
    (A : Option Addr) (n cp : Nat) (l : List (Int × Int)) (hx : a.eval x = .slice A n cp) (hS : Pairs w A n l) (hA : A = none → cp = 0) (hn : l0.length + n ≤ 1000000000)
    (h : ∀ v' w', PairRow w' base v' (l0 ++ l) → w.grownBy w' v0.ownBlock → K (a.put o.dst v') w') :
    if Region.wanted o (yielded ops a.tmps) = true then Oper.wp Try.prog o a w K Q else E := by
  have hw : Region.wanted o (yielded ops a.tmps) = true := by simp [Region.wanted, hgd]
  rw [if_pos hw]
  exact wp_append_pairs s x ho base v0 l0 hs hown hbase A n cp l hx hS hA hn h

set_option maxHeartbeats 1000000 in
set_option maxRecDepth 100000 in
theorem clone_any (v : Value) (l : List (Int × Int)) (w : World) (h : Prd w v l) (hl : l.length ≤ 1000000) :
    Calls Try.prog 36 #[v] w fun e w' => ∃ v', e = .returned v' ∧ PairRow w' w.heap.size v' l ∧ Below w.heap.size w w' := by
  obtain ⟨A, cp, rfl, hc, hA, hp⟩ := h
  rcases A with _ | ad
  · have hl0 : l = [] := by
      match l, hp with
      | [], _ => rfl
      | a :: t, hp =>
        obtain ⟨b, o, e, _⟩ := hp.2 0 (by simp)
        cases e
    subst hl0
    have := hA rfl
    subst this
    have hq : ∀ w, (binOp .eql 31 (.slice none 0 0) (.slice none 0 0)).run Try.prog w = .ok (.bool true) w := fun w => run_eql_sl_nil w _ _ none 0 0 Try.underlying31
    go_enter Try.func36, Try.ntmps36
    go_wp2
    go_ret
    exact ⟨_, rfl, PairRow.nil_ _ _, Below.refl _ _⟩
  · obtain ⟨n, hn⟩ : ∃ n, n = l.length := ⟨_, rfl⟩
    rw [← hn] at hc hp ⊢
    have hq : ∀ w, (binOp .eql 31 (.slice (some ad) n cp) (.slice none 0 0)).run Try.prog w = .ok (.bool false) w := fun w => run_eql_sl_nil w _ _ (some ad) n cp Try.underlying31
    have hp1 := hp.later ((Below.refl _ w).alloc (Nat.le_refl _) (.cells #[] 54))
    have HP := Lib.hid hp1
    have hln : n ≤ 1000000 := by omega
    clear hp hp1 hn
    go_enter Try.func36, Try.ntmps36
    go_wp2_with (at_builtin; refine wpList_append_pairs rfl _ _ rfl w.heap.size _ [] rfl ⟨rfl, .inr ⟨w.heap.size, 0, #[], rfl, Nat.le_refl _, heap_alloc_new w _, Nat.le_refl _, by simp [maxLen], rfl, rfl⟩⟩ (by simp) (some ad) n cp l rfl HP.out hA (by simp; omega) ?_; intro v' w1 hown' hg1)
    go_ret
    refine ⟨_, rfl, hown', ?_⟩
    exact ((Below.refl _ w).alloc (Nat.le_refl _) _).grown hg1 (by simp) (fun k hk => by
      have e : w.heap.size = k := Option.some.inj hk
      omega)

theorem holds_pairs {w : World} {base g n cap : Nat} {l : List (Int × Int)} (h : PairRow w base (.slice (some ⟨g, 0, none⟩) n cap) l) (hne : 0 < l.length) : HoldsK enc2 2 w g 0 l.toArray := by
  obtain ⟨g', cap', hv, _, _, _, hfz, hc⟩ := h.cells hne
  injection hv with e1
  injection e1 with e1
  injection e1 with e1
  subst e1
  intro j hj
  rw [size_flatK] at hj
  have hj' : j < l.length * 2 := hj
  rw [get_flatK _ _ _ _ hj, Nat.zero_add]
  refine ⟨?_, hfz j⟩
  obtain ⟨c0, c1⟩ := hc (j / 2) (by omega)
  have e : l.toArray[j / 2]! = l[j / 2] := by
    rw [getElem!_pos l.toArray (j / 2) (by simp; omega)]
    rfl
  rw [e]
  rcases Nat.mod_two_eq_zero_or_one j with hm | hm
  · rw [hm]
    have ej : j = j / 2 * 2 := by omega
    rw [← ej] at c0
    exact c0
  · rw [hm]
    have ej : j = j / 2 * 2 + 1 := by omega
    rw [← ej] at c1
    exact c1

theorem sorted_world {w : World} {g n m : Nat} {l0 l : List (Int × Int)} {os : Array Obj} (h : HoldsK enc2 2 w g 0 l0.toArray) (hg : g < w.heap.size) (hl : l.length = l0.length) (hm : m = l.length) :
    Pairs (sortWorldK enc2 2 w g 0 n l.toArray os) (some ⟨g, 0, none⟩) m l ∧ ∀ B, B ≤ g → Below B w (sortWorldK enc2 2 w g 0 n l.toArray os) := by
  have hH : HoldsK enc2 2 (putRowK enc2 2 (Sort.ahead w n) g 0 l.toArray) g 0 l.toArray := holdsK_putRowK enc2 2 (Sort.ahead w n) g 0 l0.toArray l.toArray h (by simp [hl])
  have hsz : (putRowK enc2 2 (Sort.ahead w n) g 0 l.toArray).heap.size = w.heap.size := by simp [putRowK, putRow, mapBlock, Sort.ahead]
  refine ⟨⟨hm.symm, fun k hk => ⟨g, 0, rfl, by unfold sortWorldK; simp [hsz]; omega, ?_⟩⟩, fun B hB => ⟨rfl, rfl, rfl, by unfold sortWorldK; simp [hsz], fun k hk => ?_⟩⟩
  · have a0 := (hH.cell (i := k) (c := 0) (by simpa using hk) (by omega)).1
    have a1 := (hH.cell (i := k) (c := 1) (by simpa using hk) (by omega)).1
    have e : l.toArray[k]! = l[k] := by
      rw [getElem!_pos l.toArray k (by simpa using hk)]
      rfl
    rw [e] at a0 a1
    unfold sortWorldK
    rw [cell?_grow _ _ _ (by rw [hsz]; exact hg), cell?_grow _ _ _ (by rw [hsz]; exact hg)]
    exact ⟨a0, a1⟩
  · unfold sortWorldK
    rw [heap_grow_old _ _ (by rw [hsz]; omega)]
    have hne : g ≠ k := by omega
    simp [putRowK, putRow, mapBlock, Sort.ahead, Array.getElem?_modify, hne]

theorem cell_sortWorld {w : World} {g m : Nat} {dk : Array (Int × Int)} {os : Array Obj} {p : Addr} {u : Value} (hc : w.cell? p = some u) (hne : p.block ≠ g) : (sortWorldK enc2 2 w g 0 m dk os).cell? p = some u := by
  have hlt := World.block_lt_of_cell? w _ hc
  have hsz : (putRowK enc2 2 (Sort.ahead w m) g 0 dk).heap.size = w.heap.size := by simp [putRowK, putRow, mapBlock, Sort.ahead]
  unfold sortWorldK
  rw [cell?_grow _ _ _ (by rw [hsz]; exact hlt), cell?_putRowK_other _ _ _ _ _ _ _ hne]
  exact hc
set_option maxHeartbeats 4000000 in
set_option maxRecDepth 100000 in
theorem list_any (base t k : Nat) (v : Value) (h : List (Int × Int)) (w : World) (hx : TopAt w base t k v h) (hl : h.length ≤ 1000000) :
    Calls Try.prog 27 #[.pointer (some ⟨t, 0, none⟩)] w fun e w' => ∃ v', e = .returned v' ∧ Prd w' v' (TopM.srt h) ∧ Below w.heap.size w w' := by
  have hcl := fun W hW => clone_any v h W hW hl
  have b1 : Below w.heap.size w (w.alloc (.cells #[.pointer (some ⟨t, 0, none⟩)] 71)) := (Below.refl _ w).alloc (Nat.le_refl _) _
  have x1 := hx.later b1
  have z1 : (w.alloc (.cells #[.pointer (some ⟨t, 0, none⟩)] 71)).cell? ⟨w.heap.size, 0, none⟩ = some (.pointer (some ⟨t, 0, none⟩)) := by go_simp
  have c2 := x1.c2
  have HCL := Lib.hid hcl
  clear hx hcl
  go_enter Try.func27, Try.ntmps27
  go_wp2_with fail
  generalize w.alloc (.cells #[.pointer (some ⟨t, 0, none⟩)] 71) = w1 at b1 x1 z1 c2 ⊢
  refine (HCL.out _ x1.row.prd).mono ?_
  rintro e w2 ⟨v', rfl, hrow, b2⟩
  have b12 := b1.trans (b2.mono b1.size)
  have hlt1 : w.heap.size < w1.heap.size := World.block_lt_of_cell? w1 _ z1
  have x2 := x1.later b2
  have z2 : w2.cell? ⟨w.heap.size, 0, none⟩ = some (.pointer (some ⟨t, 0, none⟩)) := (b2.cell (p := ⟨w.heap.size, 0, none⟩) hlt1).trans z1
  have htl := x1.lt
  clear x1 z1 c2
  obtain ⟨X, hX⟩ : ∃ X, X = w.heap.size := ⟨_, rfl⟩
  rw [← hX] at z2 ⊢
  have HX := Lib.hid hX
  clear hX
  by_cases hne : 0 < h.length
  · obtain ⟨g, cap, rfl, hbg, hg, hcap, _, _⟩ := hrow.cells hne
    have hH := holds_pairs hrow hne
    have e117 : ∀ args w, (callFunc 38 args).run Try.prog w = .ok (.enter 38 args) w := enters_of Try.func38 (by kernel_rfl) rfl
    have hcmp : CmpLays Try.prog 38 #[.pointer (some ⟨X, 0, none⟩)] enc2 2 cmpP g 0 h.toArray.size w2 := by
      intro m os dk hdk x y
      have hXg : X ≠ g := by rw [HX.out]; omega
      have htg : t ≠ g := by omega
      exact closure_any x y X t _ (cell_sortWorld z2 hXg) (cell_sortWorld (p := ⟨t, 1, none⟩) x2.c1 htg)
    have hcon := AnyQ.slices_SortFunc_total sortL 2 Try.isAgg54 Try.sizeOf54 enc2 (fun _ => rfl) (fun x v hv => by simp [enc2] at hv; rcases hv with rfl | rfl <;> rfl) cmpP swo_cmpP 38 #[.pointer (some ⟨X, 0, none⟩)] g 0 cap h.toArray w2 e117 hcmp hH hg (by simp; omega) (fun x y p q => by rw [lt_cmpP] at p q; exact TopM.same_of p q)
    change Calls Try.prog 37 _ _ _ at hcon
    have HCON := Lib.hid hcon
    have HH := Lib.hid hH
    clear hcon hcmp hH
    go_wp2_with fail
    refine HCON.out.mono ?_
    rintro e w3 ⟨rfl, n3, os3, rfl⟩
    have hms : h.toArray.toList.mergeSort (fun x y => !ltOf cmpP y x) = TopM.srt h := by
      unfold TopM.srt
      congr 1
      funext x y
      rw [lt_cmpP]
    rw [hms]
    obtain ⟨hP, hB⟩ := sorted_world (n := n3) (m := h.length) (os := os3) HH.out hg (TopM.srt_len h) (TopM.srt_len h).symm
    have hB2 := hB w.heap.size (by omega)
    have b123 := b12.trans hB2
    clear hB hB2 hms
    have hlen := TopM.srt_len h
    generalize sortWorldK enc2 2 w2 g 0 n3 (TopM.srt h).toArray os3 = w3 at hP b123 ⊢
    go_wp2
    go_ret
    refine ⟨_, rfl, ⟨some ⟨g, 0, none⟩, cap, by rw [hlen]; rfl, by rw [hlen]; exact hcap, (fun e => by cases e), by rw [hlen]; exact hP⟩, b123⟩
  · have h0 : h = [] := List.eq_nil_of_length_eq_zero (by omega)
    subst h0
    obtain ⟨A, cap, rfl, hcap, hA⟩ := hrow.form
    have hcon := fun fv W => AnyF.slices_SortFunc_none { sortL with } A cap fv W
    change ∀ fv W, Calls Try.prog 37 _ _ _ at hcon
    have HCON := Lib.hid hcon
    clear hcon
    go_wp2_with fail
    refine (HCON.out _ _).mono ?_
    rintro e w3 ⟨rfl, rfl⟩
    go_wp2
    go_ret
    exact ⟨_, rfl, by rw [TopM.srt_nil]; exact hrow.prd, b12⟩
end Go.Proofs.Ytjdlocmchmeipaa
