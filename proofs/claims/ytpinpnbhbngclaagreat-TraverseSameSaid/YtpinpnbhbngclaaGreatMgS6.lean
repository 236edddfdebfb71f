/- Own texts, merged (6 of 8). -/
import Derived.BigQuiet
import Derived.Laws.AppendOwnNone
import Derived.Laws.OwnMore
import Derived.Deep.AppendLies
import Derived.Deep.Slices
import Derived.Test.YtpinpnbhbngclaaGreatMgS5

/- List: a copy of what is kept, in order. -/
namespace Go.Proofs.YtpinpnbhbngclaaGreat
open Go.RowKit Go.Sort

set_option maxRecDepth 100000 in
/-- append of what is read onto one's own row -/
theorem wp_append_pairs {w : World} {o : Oper} {a : Act} {K : Act → World → Prop} {Q : Exit → Act → World → Prop} (s x : Operand)
    (ho : o.op = .call { callee := .builtin .append, args := #[s, x], argTypes := #[30, 30] })
    (base : Nat) (v0 : Value) (l0 : List (Int × Int)) (hs : a.eval s = v0) (hown : PairRow w base v0 l0) (hbase : base ≤ w.heap.size)
    (A : Option Addr) (n cp : Nat) (l : List (Int × Int)) (hx : a.eval x = .slice A n cp) (hS : Pairs w A n l) (hA : A = none → cp = 0) (hn : l0.length + n ≤ 1000000000)
    (h : ∀ v' w', PairRow w' base v' (l0 ++ l) → w.grownBy w' v0.ownBlock → K (a.put o.dst v') w') : o.wp Tryz.prog a w K Q := by
  obtain ⟨i0, hi, hz0, hz1, hz2⟩ := info_parts pair_info
  rcases A with _ | ad
  · have hn0 : n = 0 := by
      rcases Nat.eq_zero_or_pos n with e | e
      · exact e
      · obtain ⟨b, o, e', _⟩ := hS.2 0 (by rw [hS.1]; exact e)
        cases e'
    subst hn0
    have hcp := hA rfl
    subst hcp
    have hl0 : l = [] := List.eq_nil_of_length_eq_zero hS.1
    subst hl0
    have hrun := run_append_owned_none (P := Tryz.prog) (w := w) base 30 o.type 54 i0 2 Tryz.underlying30 hi v0 l0.length (l0.flatMap enc2) hown
    have hfin := h v0 w (by rw [List.append_nil]; exact hown) (World.grownBy.refl w _)
    unfold Oper.wp
    simp [execOp, ho, resolve, invoke, builtin, hs, hx, hrun, Result.andThen]
    exact hfin
  · refine wp_append_own w s x 30 ho base 54 i0 _ 2 16 Tryz.underlying30 hi hz0 hz1 hz2 rfl (by omega) v0 l0.length (l0.flatMap enc2) hs hown ad n cp (l.flatMap enc2) hx (by rw [flat_len, hS.1]) (fun j u hu => ?_) (fun u hu => ?_) (by simp [maxLen]; omega) (by omega) hbase ?_
    · have hj : j < l.length * 2 := by
        have := (List.getElem?_eq_some_iff.1 hu).1
        rwa [flat_len] at this
      obtain ⟨b, o, e, _, h0, h1⟩ := hS.2 (j / 2) (by omega)
      obtain ⟨g0, g1⟩ := flat_get l (j / 2) (by omega)
      injection e with e
      subst e
      rw [add_none]
      rcases Nat.mod_two_eq_zero_or_one j with hm | hm
      · have ej : j = j / 2 * 2 := by omega
        rw [ej, g0] at hu
        rw [ej]
        exact h0.trans hu
      · have ej : j = j / 2 * 2 + 1 := by omega
        rw [ej, g1] at hu
        rw [ej, ← Nat.add_assoc]
        exact h1.trans hu
    · simp only [List.mem_flatMap, enc2] at hu
      obtain ⟨t, _, hu⟩ := hu
      simp at hu
      rcases hu with rfl | rfl <;> rfl
    · intro v' w' hown' hg' _
      refine h v' w' ?_ hg'
      unfold PairRow
      rw [List.length_append, List.flatMap_append, hS.1]
      exact hown'
theorem wpList_append_pairs {w : World} {ops : Array Oper} {rest : List Oper} {o : Oper} {a : Act} {Q : Exit → Act → World → Prop} (hgd : o.guard = none) (s x : Operand)
    (ho : o.op = .call { callee := .builtin .append, args := #[s, x], argTypes := #[30, 30] })
    (base : Nat) (v0 : Value) (l0 : List (Int × Int)) (hs : a.eval s = v0) (hown : PairRow w base v0 l0) (hbase : base ≤ w.heap.size)
    (A : Option Addr) (n cp : Nat) (l : List (Int × Int)) (hx : a.eval x = .slice A n cp) (hS : Pairs w A n l) (hA : A = none → cp = 0) (hn : l0.length + n ≤ 1000000000)
    (h : ∀ v' w', PairRow w' base v' (l0 ++ l) → w.grownBy w' v0.ownBlock → wpList Tryz.prog ops Q rest (a.put o.dst v') w') : wpList Tryz.prog ops Q (o :: rest) a w :=
  wpList_plain hgd fun _ hK => wp_append_pairs s x ho base v0 l0 hs hown hbase A n cp l hx hS hA hn fun v' w' h2 h3 => hK _ _ (h v' w' h2 h3)
/-- .. as a step -/
theorem step_pairs {w : World} {ops : Array Oper} {o : Oper} {a : Act} {K : Act → World → Prop} {Q : Exit → Act → World → Prop} {E : Prop} (hgd : o.guard = none) (s x : Operand)
    (ho : o.op = .call { callee := .builtin .append, args := #[s, x], argTypes := #[30, 30] })
    (base : Nat) (v0 : Value) (l0 : List (Int × Int)) (hs : a.eval s = v0) (hown : PairRow w base v0 l0) (hbase : base ≤ w.heap.size)
    (A : Option Addr) (n cp : Nat) (l : List (Int × Int)) (hx : a.eval x = .slice A n cp) (hS : Pairs w A n l) (hA : A = none → cp = 0) (hn : l0.length + n ≤ 1000000000)
    (h : ∀ v' w', PairRow w' base v' (l0 ++ l) → w.grownBy w' v0.ownBlock → K (a.put o.dst v') w') :
    if Region.wanted o (yielded ops a.tmps) = true then Oper.wp Tryz.prog o a w K Q else E := by
  have hw : Region.wanted o (yielded ops a.tmps) = true := by simp [Region.wanted, hgd]
  rw [if_pos hw]
  exact wp_append_pairs s x ho base v0 l0 hs hown hbase A n cp l hx hS hA hn h

set_option maxHeartbeats 1000000 in
set_option maxRecDepth 100000 in
theorem clone_any (v : Value) (l : List (Int × Int)) (w : World) (h : Prd w v l) (hl : l.length ≤ 1000000) :
    Calls Tryz.prog 50 #[v] w fun e w' => ∃ v', e = .returned v' ∧ PairRow w' w.heap.size v' l ∧ Below w.heap.size w w' := by
  obtain ⟨A, cp, rfl, hc, hA, hp⟩ := h
  rcases A with _ | ad
  · have hl0 : l = [] := by
      match l, hp with
      | [], _ => rfl
      | a :: t, hp =>
        obtain ⟨b, o, e, _⟩ := hp.2 0 (by simp)
        cases e
    subst hl0
    have := hA rfl
    subst this
    have hq : ∀ w, (binOp .eql 30 (.slice none 0 0) (.slice none 0 0)).run Tryz.prog w = .ok (.bool true) w := fun w => run_eql_sl_nil w _ _ none 0 0 Tryz.underlying30
    go_enter Tryz.func50, Tryz.ntmps50
    go_wp2
    go_ret
    exact ⟨_, rfl, PairRow.nil_ _ _, Below.refl _ _⟩
  · obtain ⟨n, hn⟩ : ∃ n, n = l.length := ⟨_, rfl⟩
    rw [← hn] at hc hp ⊢
    have hq : ∀ w, (binOp .eql 30 (.slice (some ad) n cp) (.slice none 0 0)).run Tryz.prog w = .ok (.bool false) w := fun w => run_eql_sl_nil w _ _ (some ad) n cp Tryz.underlying30
    have hp1 := hp.later ((Below.refl _ w).alloc (Nat.le_refl _) (.cells #[] 54))
    have HP := Lib.hid hp1
    have hln : n ≤ 1000000 := by omega
    clear hp hp1 hn
    go_enter Tryz.func50, Tryz.ntmps50
    go_wp2_with (at_builtin; refine wpList_append_pairs rfl _ _ rfl w.heap.size _ [] rfl ⟨rfl, .inr ⟨w.heap.size, 0, #[], rfl, Nat.le_refl _, heap_alloc_new w _, Nat.le_refl _, by simp [maxLen], rfl, rfl⟩⟩ (by simp) (some ad) n cp l rfl HP.out hA (by simp; omega) ?_; intro v' w1 hown' hg1)
    go_ret
    refine ⟨_, rfl, hown', ?_⟩
    exact ((Below.refl _ w).alloc (Nat.le_refl _) _).grown hg1 (by simp) (fun k hk => by
      have e : w.heap.size = k := Option.some.inj hk
      omega)

theorem holds_pairs {w : World} {base g n cap : Nat} {l : List (Int × Int)} (h : PairRow w base (.slice (some ⟨g, 0, none⟩) n cap) l) (hne : 0 < l.length) : HoldsK enc2 2 w g 0 l.toArray := by
  obtain ⟨g', cap', hv, _, _, _, hfz, hc⟩ := h.cells hne
  injection hv with e1
  injection e1 with e1
  injection e1 with e1
  subst e1
  intro j hj
  rw [size_flatK] at hj
  have hj' : j < l.length * 2 := hj
  rw [get_flatK _ _ _ _ hj, Nat.zero_add]
  refine ⟨?_, hfz j⟩
  obtain ⟨c0, c1⟩ := hc (j / 2) (by omega)
  have e : l.toArray[j / 2]! = l[j / 2] := by
    rw [getElem!_pos l.toArray (j / 2) (by simp; omega)]
    rfl
  rw [e]
  rcases Nat.mod_two_eq_zero_or_one j with hm | hm
  · rw [hm]
    have ej : j = j / 2 * 2 := by omega
    rw [← ej] at c0
    exact c0
  · rw [hm]
    have ej : j = j / 2 * 2 + 1 := by omega
    rw [← ej] at c1
    exact c1

theorem sorted_world {w : World} {g n m : Nat} {l0 l : List (Int × Int)} {os : Array Obj} (h : HoldsK enc2 2 w g 0 l0.toArray) (hg : g < w.heap.size) (hl : l.length = l0.length) (hm : m = l.length) :
    Pairs (sortWorldK enc2 2 w g 0 n l.toArray os) (some ⟨g, 0, none⟩) m l ∧ ∀ B, B ≤ g → Below B w (sortWorldK enc2 2 w g 0 n l.toArray os) := by
  have hH : HoldsK enc2 2 (putRowK enc2 2 (Sort.ahead w n) g 0 l.toArray) g 0 l.toArray := holdsK_putRowK enc2 2 (Sort.ahead w n) g 0 l0.toArray l.toArray h (by simp [hl])
  have hsz : (putRowK enc2 2 (Sort.ahead w n) g 0 l.toArray).heap.size = w.heap.size := by simp [putRowK, putRow, mapBlock, Sort.ahead]
  refine ⟨⟨hm.symm, fun k hk => ⟨g, 0, rfl, by unfold sortWorldK; simp [hsz]; omega, ?_⟩⟩, fun B hB => ⟨rfl, rfl, rfl, by unfold sortWorldK; simp [hsz], fun k hk => ?_⟩⟩
  · have a0 := (hH.cell (i := k) (c := 0) (by simpa using hk) (by omega)).1
    have a1 := (hH.cell (i := k) (c := 1) (by simpa using hk) (by omega)).1
    have e : l.toArray[k]! = l[k] := by
      rw [getElem!_pos l.toArray k (by simpa using hk)]
      rfl
    rw [e] at a0 a1
    unfold sortWorldK
    rw [cell?_grow _ _ _ (by rw [hsz]; exact hg), cell?_grow _ _ _ (by rw [hsz]; exact hg)]
    exact ⟨a0, a1⟩
  · unfold sortWorldK
    rw [heap_grow_old _ _ (by rw [hsz]; omega)]
    have hne : g ≠ k := by omega
    simp [putRowK, putRow, mapBlock, Sort.ahead, Array.getElem?_modify, hne]

theorem cell_sortWorld {w : World} {g m : Nat} {dk : Array (Int × Int)} {os : Array Obj} {p : Addr} {u : Value} (hc : w.cell? p = some u) (hne : p.block ≠ g) : (sortWorldK enc2 2 w g 0 m dk os).cell? p = some u := by
  have hlt := World.block_lt_of_cell? w _ hc
  have hsz : (putRowK enc2 2 (Sort.ahead w m) g 0 dk).heap.size = w.heap.size := by simp [putRowK, putRow, mapBlock, Sort.ahead]
  unfold sortWorldK
  rw [cell?_grow _ _ _ (by rw [hsz]; exact hlt), cell?_putRowK_other _ _ _ _ _ _ _ hne]
  exact hc
set_option maxHeartbeats 4000000 in
set_option maxRecDepth 100000 in
theorem list_any (base t k : Nat) (v : Value) (h : List (Int × Int)) (w : World) (hx : TopAt w base t k v h) (hl : h.length ≤ 1000000) :
    Calls Tryz.prog 32 #[.pointer (some ⟨t, 0, none⟩)] w fun e w' => ∃ v', e = .returned v' ∧ Prd w' v' (TopM.srt h) ∧ Below w.heap.size w w' := by
  have hcl := fun W hW => clone_any v h W hW hl
  have b1 : Below w.heap.size w (w.alloc (.cells #[.pointer (some ⟨t, 0, none⟩)] 78)) := (Below.refl _ w).alloc (Nat.le_refl _) _
  have x1 := hx.later b1
  have z1 : (w.alloc (.cells #[.pointer (some ⟨t, 0, none⟩)] 78)).cell? ⟨w.heap.size, 0, none⟩ = some (.pointer (some ⟨t, 0, none⟩)) := by go_simp
  have c2 := x1.c2
  have HCL := Lib.hid hcl
  clear hx hcl
  go_enter Tryz.func32, Tryz.ntmps32
  go_wp2_with fail
  generalize w.alloc (.cells #[.pointer (some ⟨t, 0, none⟩)] 78) = w1 at b1 x1 z1 c2 ⊢
  refine (HCL.out _ x1.row.prd).mono ?_
  rintro e w2 ⟨v', rfl, hrow, b2⟩
  have b12 := b1.trans (b2.mono b1.size)
  have hlt1 : w.heap.size < w1.heap.size := World.block_lt_of_cell? w1 _ z1
  have x2 := x1.later b2
  have z2 : w2.cell? ⟨w.heap.size, 0, none⟩ = some (.pointer (some ⟨t, 0, none⟩)) := (b2.cell (p := ⟨w.heap.size, 0, none⟩) hlt1).trans z1
  have htl := x1.lt
  clear x1 z1 c2
  obtain ⟨X, hX⟩ : ∃ X, X = w.heap.size := ⟨_, rfl⟩
  rw [← hX] at z2 ⊢
  have HX := Lib.hid hX
  clear hX
  by_cases hne : 0 < h.length
  · obtain ⟨g, cap, rfl, hbg, hg, hcap, _, _⟩ := hrow.cells hne
    have hH := holds_pairs hrow hne
    have e117 : ∀ args w, (callFunc 52 args).run Tryz.prog w = .ok (.enter 52 args) w := enters_of Tryz.func52 (by kernel_rfl) rfl
    have hcmp : CmpLays Tryz.prog 52 #[.pointer (some ⟨X, 0, none⟩)] enc2 2 cmpP g 0 h.toArray.size w2 := by
      intro m os dk hdk x y
      have hXg : X ≠ g := by rw [HX.out]; omega
      have htg : t ≠ g := by omega
      exact closure_any x y X t _ (cell_sortWorld z2 hXg) (cell_sortWorld (p := ⟨t, 1, none⟩) x2.c1 htg)
    have hcon := AnyQ.slices_SortFunc_total sortL 2 Tryz.isAgg54 Tryz.sizeOf54 enc2 (fun _ => rfl) (fun x v hv => by simp [enc2] at hv; rcases hv with rfl | rfl <;> rfl) cmpP swo_cmpP 52 #[.pointer (some ⟨X, 0, none⟩)] g 0 cap h.toArray w2 e117 hcmp hH hg (by simp; omega) (fun x y p q => by rw [lt_cmpP] at p q; exact TopM.same_of p q)
    change Calls Tryz.prog 51 _ _ _ at hcon
    have HCON := Lib.hid hcon
    have HH := Lib.hid hH
    clear hcon hcmp hH
    go_wp2_with fail
    refine HCON.out.mono ?_
    rintro e w3 ⟨rfl, n3, os3, rfl⟩
    have hms : h.toArray.toList.mergeSort (fun x y => !ltOf cmpP y x) = TopM.srt h := by
      unfold TopM.srt
      congr 1
      funext x y
      rw [lt_cmpP]
    rw [hms]
    obtain ⟨hP, hB⟩ := sorted_world (n := n3) (m := h.length) (os := os3) HH.out hg (TopM.srt_len h) (TopM.srt_len h).symm
    have hB2 := hB w.heap.size (by omega)
    have b123 := b12.trans hB2
    clear hB hB2 hms
    have hlen := TopM.srt_len h
    generalize sortWorldK enc2 2 w2 g 0 n3 (TopM.srt h).toArray os3 = w3 at hP b123 ⊢
    go_wp2
    go_ret
    refine ⟨_, rfl, ⟨some ⟨g, 0, none⟩, cap, by rw [hlen]; rfl, by rw [hlen]; exact hcap, (fun e => by cases e), by rw [hlen]; exact hP⟩, b123⟩
  · have h0 : h = [] := List.eq_nil_of_length_eq_zero (by omega)
    subst h0
    obtain ⟨A, cap, rfl, hcap, hA⟩ := hrow.form
    have hcon := fun fv W => AnyF.slices_SortFunc_none { sortL with } A cap fv W
    change ∀ fv W, Calls Tryz.prog 51 _ _ _ at hcon
    have HCON := Lib.hid hcon
    clear hcon
    go_wp2_with fail
    refine (HCON.out _ _).mono ?_
    rintro e w3 ⟨rfl, rfl⟩
    go_wp2
    go_ret
    exact ⟨_, rfl, by rw [TopM.srt_nil]; exact hrow.prd, b12⟩
end Go.Proofs.YtpinpnbhbngclaaGreat

/- What is found, plainly; Find refused and Find done. -/
namespace Go.Proofs.YtpinpnbhbngclaaGreat
open Go.RowKit

theorem insD_len (d : Int) : ∀ o : List Int, (insD d o).length ≤ o.length + 1
  | [] => by simp [insD]
  | a :: t => by
    have := insD_len d t
    unfold insD
    repeat' split
    all_goals simp
    all_goals omega
theorem fold_len (m : List Int) : ∀ o : List Int, (m.foldl (fun o d => insD d o) o).length ≤ m.length + o.length := by
  induction m with
  | nil => intro o; simp
  | cons a t ih =>
    intro o
    have h1 := ih (insD a o)
    have h2 := insD_len a o
    simp only [List.foldl_cons, List.length_cons]
    omega
theorem flatQ_len : ∀ ps : List Prt, (∀ x ∈ ps, GoodP x) → (ps.flatMap fun x => x.l.map (·.1)).length ≤ 400 * ps.length
  | [], _ => by simp
  | x :: t, h => by
    have h1 := flatQ_len t (fun y hy => h y (by simp [hy]))
    have h2 := (h x (by simp)).len
    rw [List.flatMap_cons, List.length_append, List.length_map, List.length_cons]
    omega
theorem docsQ_len {ps : List Prt} (h : ∀ x ∈ ps, GoodP x) (hn : ps.length ≤ 64) : (docsQ ps).length ≤ 100000 := by
  have h1 := fold_len (ps.flatMap fun x => x.l.map (·.1)) []
  have h2 := flatQ_len ps h
  unfold docsQ
  simp only [List.length_nil] at h1
  omega
/-- a query's lists and weights as parts -/
def prtsR (rs : List (List (Int × Int) × Int)) : List Prt := rs.map fun x => ⟨0, 0, x.1, x.2⟩
def docsR (rs : List (List (Int × Int) × Int)) : List Int := docsQ (prtsR rs)
def scoreR (rs : List (List (Int × Int) × Int)) (d : Int) : Int := scoreQ (prtsR rs) d
theorem docsQ_is {ps : List Prt} {rs : List (List (Int × Int) × Int)} (h : ps.map (fun x => (x.l, x.wt)) = rs) : docsQ ps = docsR rs := by
  subst h
  unfold docsR docsQ prtsR
  rw [List.map_map, List.flatMap_map]
  rfl
theorem scoreQ_is {ps : List Prt} {rs : List (List (Int × Int) × Int)} (h : ps.map (fun x => (x.l, x.wt)) = rs) : scoreQ ps = scoreR rs := by
  subst h
  funext d
  unfold scoreR scoreQ prtsR
  rw [List.map_map, List.map_map]
  rfl
/-- what is found -/
def foundR (k : Nat) (rs : List (List (Int × Int) × Int)) (may : Int → Bool) : List (Int × Int) := TopM.best k (vl (docsR rs) may (scoreR rs) 2147483648)
set_option maxHeartbeats 2000000 in
set_option maxRecDepth 100000 in
theorem cfind6_no {A : Option Addr} {n cp sc : Nat} {k wi : Int} {mayv : Value} {rs : List (Option Nat × Int)} (w : World) (h : QN w A n rs) (hk1 : -9223372036854775808 ≤ k) (hk2 : k ≤ 9223372036854775807) (hn : n ≤ 1000000) (hno : wi < 0 ∨ 3 < wi ∨ trightB n k rs = false) :
    Calls Tryz.prog 15 #[.pointer (some ⟨sc, 0, none⟩), .int .i64 wi, .slice A n cp, .int .i64 k, mayv] w fun e w' => e = .returned (.tuple #[.slice none 0 0, .int .i64 1]) ∧ Below w.heap.size w w' := by
  have HR := Lib.hid (tright_any A n cp k rs w h hk1 hk2 hn)
  clear h
  go_enter Tryz.func15, Tryz.ntmps15
  by_cases h1 : wi < 0
  · have d1 : decide (wi < (0 : Int)) = true := decide_eq_true h1
    go_wp2
    go_ret2
    exact ⟨rfl, Below.refl _ _⟩
  have d1 : decide (wi < (0 : Int)) = false := decide_eq_false h1
  by_cases h2 : 3 < wi
  · have d2 : decide ((3 : Int) < wi) = true := decide_eq_true h2
    go_wp2
    go_ret2
    exact ⟨rfl, Below.refl _ _⟩
  have d2 : decide ((3 : Int) < wi) = false := decide_eq_false h2
  have hf : trightB n k rs = false := by
    rcases hno with c | c | c
    · exact absurd c h1
    · exact absurd c h2
    · exact c
  rw [hf] at HR
  go_wp2_with fail
  refine HR.out.mono ?_
  rintro e w2 ⟨rfl, hb⟩
  go_wp2
  go_ret2
  exact ⟨rfl, hb⟩
theorem way_at0 (s b : Nat) (W : World) : (Instr.index 74 (wayV s b) (.int .i64 0)).run Tryz.prog W = .ok (.func (.func 43) #[.pointer (some ⟨s, 0, none⟩)] #[]) W := by
  kernel_rfl
theorem way_at1 (s b : Nat) (W : World) : (Instr.index 74 (wayV s b) (.int .i64 1)).run Tryz.prog W = .ok (.func (.func 44) #[.pointer (some ⟨s, 0, none⟩)] #[]) W := by
  kernel_rfl
theorem way_at2 (s b : Nat) (W : World) : (Instr.index 74 (wayV s b) (.int .i64 2)).run Tryz.prog W = .ok (.func (.func 45) #[] #[.pointer (some ⟨b, 0, none⟩)]) W := by
  kernel_rfl
theorem way_at3 (s b : Nat) (W : World) : (Instr.index 74 (wayV s b) (.int .i64 3)).run Tryz.prog W = .ok (.func (.func 48) #[] #[.pointer (some ⟨b, 0, none⟩)]) W := by
  kernel_rfl
theorem partsB_good : ∀ qs : List (Nat × List (Int × Int) × Int), (∀ x ∈ qs, GoodQ x) → partsB (qs.map fun x => (some x.1, x.2.2)) = true
  | [], _ => rfl
  | x :: t, h => by
    have q := h x (by simp)
    have ih := partsB_good t (fun y hy => h y (by simp [hy]))
    simp only [List.map_cons, partsB, ih, Option.isSome_some, Bool.true_and, Bool.and_true, Bool.and_eq_true, decide_eq_true_eq]
    exact ⟨q.w1, q.w2⟩
theorem vl_len (dl : List Int) (may : Int → Bool) (sc : Int → Int) (D : Int) : (vl dl may sc D).length ≤ dl.length := by
  unfold vl
  rw [List.length_map]
  exact List.length_filter_le _ _
set_option maxHeartbeats 4000000 in
set_option maxRecDepth 100000 in
theorem cfind6_ok {A : Option Addr} {n cp sc k c0 : Nat} {wi : Int} {mayv : Value} {may : Int → Bool} {qs : List (Nat × List (Int × Int) × Int)} (w1 w : World) (h : QAt w1 A n qs) (hb : Below w1.heap.size w1 w) (hg : ∀ x ∈ qs, GoodQ x) (hn : n ≤ 64) (h1 : 1 ≤ k) (h2 : k ≤ 1000) (hc : w.heap[sc]? = some (.cells #[.int .i64 (c0 : Int)] 49 (0, 0))) (hsc : w1.heap.size ≤ sc) (hc0 : c0 ≤ 500000) (hm : MayC w sc mayv may) (hwi : wi = 0 ∨ wi = 1 ∨ wi = 2 ∨ wi = 3) :
    Calls Tryz.prog 15 #[.pointer (some ⟨sc, 0, none⟩), .int .i64 wi, .slice A n cp, .int .i64 k, mayv] w fun e w' => ∃ v', e = .returned (.tuple #[v', .int .i64 0]) ∧ Prd w' v' (foundR k (qs.map (·.2)) may) ∧ ∃ cn : Nat, w'.heap[sc]? = some (.cells #[.int .i64 (cn : Int)] 49 (0, 0)) ∧ c0 ≤ cn ∧ cn ≤ c0 + (vl (docsR (qs.map (·.2))) may (scoreR (qs.map (·.2))) 2147483648).length ∧ Turned (fun b => b = sc) w w' := by
  have hr := tright_any A n cp k _ w (h.later hb).qn (by omega) (by omega) (by omega)
  have ht : trightB n k (qs.map fun x => (some x.1, x.2.2)) = true := by
    unfold trightB
    rw [partsB_good qs hg, decide_eq_true hn, decide_eq_true (show (1 : Int) ≤ (k : Int) by omega), decide_eq_true (show (k : Int) ≤ 1000 by omega)]
    rfl
  rw [ht] at hr
  have HR := Lib.hid hr
  have HMAY : Hid (∀ w', Below w.heap.size w w' → MayC w' sc mayv may) := Lib.hid (fun w' hw => by
    obtain ⟨F, B, e, eg, hc⟩ := hm
    exact ⟨F, B, e, eg, fun W' hT d => hc W' ((Turned.of_below hw).trans hT) d⟩)
  obtain ⟨F, B, rfl, _⟩ := hm
  have HNS := Lib.hid (fun w2 (hw : Below w.heap.size w w2) => newsearch6_any (cp := cp) (f := .func F) (a := #[]) (c := B) w1 w2 h (hb.trans (hw.mono hb.size)) hg hn h2 (blk_stay hw hc) hsc)
  have e7 : (1 : Int) ≤ (k : Int) := by omega
  clear h hb hg hr ht hc
  rcases hwi with rfl | rfl | rfl | rfl
  · have e9 : decide ((0 : Int) < 0) = false := rfl
    have e8 : decide ((3 : Int) < 0) = false := rfl
    go_enter Tryz.func15, Tryz.ntmps15
    go_wp2_with fail
    refine HR.out.mono ?_
    rintro e w2 ⟨rfl, hb2⟩
    have HB2 := Lib.hid hb2
    clear hb2
    go_wp2_with fail
    refine (HNS.out w2 HB2.out).mono ?_
    rintro e w3 ⟨s, g, tb, ps, rfl, hss, hat, hps, hb3⟩
    have HSS := Lib.hid hss
    have HAT := Lib.hid hat
    have HPS := Lib.hid hps
    have HB3 := Lib.hid hb3
    clear hss hat hps hb3
    go_wp2_with fail
    refine (ways_any s w3).mono ?_
    rintro e w4 ⟨b, rfl, hbx, hb4⟩
    have HBX := Lib.hid hbx
    have HB4 := Lib.hid hb4
    have HS4 := Lib.hid (HSS.out.below hb4)
    have HA4 : Hid (∀ x ∈ ps, AtD x (atM w4 x.c) 0) := Lib.hid (fun x hx => by
      have e1 := ((HSS.out.pts x hx).below hb4).at_is
      rw [e1]
      exact HAT.out x hx)
    have hdl := docsQ_len HSS.out.good (by rw [HSS.out.row.len]; exact hn)
    have HM4 := Lib.hid (HMAY.out w2 HB2.out)
    clear hbx hb4
    have hix := way_at0 s b
    unfold wayV at hix ⊢
    go_wp2_with fail
    refine (sall_way HS4.out hn hc0 hdl HA4.out HM4.out).mono ?_
    rintro e w5 ⟨rfl, hwe⟩
    obtain ⟨ps', off', hperm, hs5, hbest, hle⟩ := hwe
    have HBEST := Lib.hid hbest
    have HLE := Lib.hid hle
    have HS5 := Lib.hid hs5
    have k2 := cell_of_cells (i := 2) hs5.obj rfl
    simp only [List.getElem_toArray, List.getElem_cons_zero, List.getElem_cons_succ] at k2
    obtain ⟨v, hh, ht, hbn⟩ := hs5.top
    have HBN := Lib.hid hbn
    have hvl := vl_len (docsQ ps) may (scoreQ ps) 2147483648
    have hhl := TopM.bnd_len hbn
    have HL := Lib.hid (list_any tb tb k v hh w5 ht (by omega))
    clear hperm hs5 hbest hle ht hbn hdl hvl hhl
    go_wp2_with fail
    refine HL.out.mono ?_
    rintro e w6 ⟨v', rfl, hprd, hb6⟩
    have HPRD := Lib.hid hprd
    have HB6 := Lib.hid hb6
    clear hprd hb6
    go_wp2
    go_ret2
    refine ⟨v', rfl, ?_, _, blk_stay HB6.out HS5.out.cnt, Nat.le_add_right _ _, ?_, (Turned.of_below HB2.out).trans (HS5.out.kept.on HB6.out)⟩
    · have e1 := TopM.bnd_srt HBN.out
      unfold foundR
      rw [← docsQ_is HPS.out, ← scoreQ_is HPS.out, ← HBEST.out, ← e1]
      exact HPRD.out
    · rw [← docsQ_is HPS.out, ← scoreQ_is HPS.out]
      have := HLE.out
      omega
  · have e9 : decide ((1 : Int) < 0) = false := rfl
    have e8 : decide ((3 : Int) < 1) = false := rfl
    go_enter Tryz.func15, Tryz.ntmps15
    go_wp2_with fail
    refine HR.out.mono ?_
    rintro e w2 ⟨rfl, hb2⟩
    have HB2 := Lib.hid hb2
    clear hb2
    go_wp2_with fail
    refine (HNS.out w2 HB2.out).mono ?_
    rintro e w3 ⟨s, g, tb, ps, rfl, hss, hat, hps, hb3⟩
    have HSS := Lib.hid hss
    have HAT := Lib.hid hat
    have HPS := Lib.hid hps
    have HB3 := Lib.hid hb3
    clear hss hat hps hb3
    go_wp2_with fail
    refine (ways_any s w3).mono ?_
    rintro e w4 ⟨b, rfl, hbx, hb4⟩
    have HBX := Lib.hid hbx
    have HB4 := Lib.hid hb4
    have HS4 := Lib.hid (HSS.out.below hb4)
    have HA4 : Hid (∀ x ∈ ps, AtD x (atM w4 x.c) 0) := Lib.hid (fun x hx => by
      have e1 := ((HSS.out.pts x hx).below hb4).at_is
      rw [e1]
      exact HAT.out x hx)
    have hdl := docsQ_len HSS.out.good (by rw [HSS.out.row.len]; exact hn)
    have HM4 := Lib.hid (HMAY.out w2 HB2.out)
    clear hbx hb4
    have hix := way_at1 s b
    unfold wayV at hix ⊢
    go_wp2_with fail
    refine (smaxima_any HS4.out hn (by omega) hc0 hdl HA4.out HM4.out).mono ?_
    rintro e w5 ⟨rfl, hwe⟩
    obtain ⟨ps', off', hperm, hs5, hbest, hle⟩ := hwe
    have HBEST := Lib.hid hbest
    have HLE := Lib.hid hle
    have HS5 := Lib.hid hs5
    have k2 := cell_of_cells (i := 2) hs5.obj rfl
    simp only [List.getElem_toArray, List.getElem_cons_zero, List.getElem_cons_succ] at k2
    obtain ⟨v, hh, ht, hbn⟩ := hs5.top
    have HBN := Lib.hid hbn
    have hvl := vl_len (docsQ ps) may (scoreQ ps) 2147483648
    have hhl := TopM.bnd_len hbn
    have HL := Lib.hid (list_any tb tb k v hh w5 ht (by omega))
    clear hperm hs5 hbest hle ht hbn hdl hvl hhl
    go_wp2_with fail
    refine HL.out.mono ?_
    rintro e w6 ⟨v', rfl, hprd, hb6⟩
    have HPRD := Lib.hid hprd
    have HB6 := Lib.hid hb6
    clear hprd hb6
    go_wp2
    go_ret2
    refine ⟨v', rfl, ?_, _, blk_stay HB6.out HS5.out.cnt, Nat.le_add_right _ _, ?_, (Turned.of_below HB2.out).trans (HS5.out.kept.on HB6.out)⟩
    · have e1 := TopM.bnd_srt HBN.out
      unfold foundR
      rw [← docsQ_is HPS.out, ← scoreQ_is HPS.out, ← HBEST.out, ← e1]
      exact HPRD.out
    · rw [← docsQ_is HPS.out, ← scoreQ_is HPS.out]
      have := HLE.out
      omega
  · have e9 : decide ((2 : Int) < 0) = false := rfl
    have e8 : decide ((3 : Int) < 2) = false := rfl
    go_enter Tryz.func15, Tryz.ntmps15
    go_wp2_with fail
    refine HR.out.mono ?_
    rintro e w2 ⟨rfl, hb2⟩
    have HB2 := Lib.hid hb2
    clear hb2
    go_wp2_with fail
    refine (HNS.out w2 HB2.out).mono ?_
    rintro e w3 ⟨s, g, tb, ps, rfl, hss, hat, hps, hb3⟩
    have HSS := Lib.hid hss
    have HAT := Lib.hid hat
    have HPS := Lib.hid hps
    have HB3 := Lib.hid hb3
    clear hss hat hps hb3
    go_wp2_with fail
    refine (ways_any s w3).mono ?_
    rintro e w4 ⟨b, rfl, hbx, hb4⟩
    have HBX := Lib.hid hbx
    have HB4 := Lib.hid hb4
    have HS4 := Lib.hid (HSS.out.below hb4)
    have HA4 : Hid (∀ x ∈ ps, AtD x (atM w4 x.c) 0) := Lib.hid (fun x hx => by
      have e1 := ((HSS.out.pts x hx).below hb4).at_is
      rw [e1]
      exact HAT.out x hx)
    have hdl := docsQ_len HSS.out.good (by rw [HSS.out.row.len]; exact hn)
    have HM4 := Lib.hid (HMAY.out w2 HB2.out)
    clear hbx hb4
    have hix := way_at2 s b
    unfold wayV at hix ⊢
    go_wp2_with fail
    refine (way3_any HS4.out hn (by omega) hc0 hdl HA4.out HM4.out (HBX.out)).mono ?_
    rintro e w5 ⟨rfl, hwe⟩
    obtain ⟨ps', off', hperm, hs5, hbest, hle⟩ := hwe
    have HBEST := Lib.hid hbest
    have HLE := Lib.hid hle
    have HS5 := Lib.hid hs5
    have k2 := cell_of_cells (i := 2) hs5.obj rfl
    simp only [List.getElem_toArray, List.getElem_cons_zero, List.getElem_cons_succ] at k2
    obtain ⟨v, hh, ht, hbn⟩ := hs5.top
    have HBN := Lib.hid hbn
    have hvl := vl_len (docsQ ps) may (scoreQ ps) 2147483648
    have hhl := TopM.bnd_len hbn
    have HL := Lib.hid (list_any tb tb k v hh w5 ht (by omega))
    clear hperm hs5 hbest hle ht hbn hdl hvl hhl
    go_wp2_with fail
    refine HL.out.mono ?_
    rintro e w6 ⟨v', rfl, hprd, hb6⟩
    have HPRD := Lib.hid hprd
    have HB6 := Lib.hid hb6
    clear hprd hb6
    go_wp2
    go_ret2
    refine ⟨v', rfl, ?_, _, blk_stay HB6.out HS5.out.cnt, Nat.le_add_right _ _, ?_, (Turned.of_below HB2.out).trans (HS5.out.kept.on HB6.out)⟩
    · have e1 := TopM.bnd_srt HBN.out
      unfold foundR
      rw [← docsQ_is HPS.out, ← scoreQ_is HPS.out, ← HBEST.out, ← e1]
      exact HPRD.out
    · rw [← docsQ_is HPS.out, ← scoreQ_is HPS.out]
      have := HLE.out
      omega
  · have e9 : decide ((3 : Int) < 0) = false := rfl
    have e8 : decide ((3 : Int) < 3) = false := rfl
    go_enter Tryz.func15, Tryz.ntmps15
    go_wp2_with fail
    refine HR.out.mono ?_
    rintro e w2 ⟨rfl, hb2⟩
    have HB2 := Lib.hid hb2
    clear hb2
    go_wp2_with fail
    refine (HNS.out w2 HB2.out).mono ?_
    rintro e w3 ⟨s, g, tb, ps, rfl, hss, hat, hps, hb3⟩
    have HSS := Lib.hid hss
    have HAT := Lib.hid hat
    have HPS := Lib.hid hps
    have HB3 := Lib.hid hb3
    clear hss hat hps hb3
    go_wp2_with fail
    refine (ways_any s w3).mono ?_
    rintro e w4 ⟨b, rfl, hbx, hb4⟩
    have HBX := Lib.hid hbx
    have HB4 := Lib.hid hb4
    have HS4 := Lib.hid (HSS.out.below hb4)
    have HA4 : Hid (∀ x ∈ ps, AtD x (atM w4 x.c) 0) := Lib.hid (fun x hx => by
      have e1 := ((HSS.out.pts x hx).below hb4).at_is
      rw [e1]
      exact HAT.out x hx)
    have hdl := docsQ_len HSS.out.good (by rw [HSS.out.row.len]; exact hn)
    have HM4 := Lib.hid (HMAY.out w2 HB2.out)
    clear hbx hb4
    have hix := way_at3 s b
    unfold wayV at hix ⊢
    go_wp2_with fail
    refine (way4_any HS4.out hn (by omega) hc0 hdl HA4.out HM4.out (HBX.out)).mono ?_
    rintro e w5 ⟨rfl, hwe⟩
    obtain ⟨ps', off', hperm, hs5, hbest, hle⟩ := hwe
    have HBEST := Lib.hid hbest
    have HLE := Lib.hid hle
    have HS5 := Lib.hid hs5
    have k2 := cell_of_cells (i := 2) hs5.obj rfl
    simp only [List.getElem_toArray, List.getElem_cons_zero, List.getElem_cons_succ] at k2
    obtain ⟨v, hh, ht, hbn⟩ := hs5.top
    have HBN := Lib.hid hbn
    have hvl := vl_len (docsQ ps) may (scoreQ ps) 2147483648
    have hhl := TopM.bnd_len hbn
    have HL := Lib.hid (list_any tb tb k v hh w5 ht (by omega))
    clear hperm hs5 hbest hle ht hbn hdl hvl hhl
    go_wp2_with fail
    refine HL.out.mono ?_
    rintro e w6 ⟨v', rfl, hprd, hb6⟩
    have HPRD := Lib.hid hprd
    have HB6 := Lib.hid hb6
    clear hprd hb6
    go_wp2
    go_ret2
    refine ⟨v', rfl, ?_, _, blk_stay HB6.out HS5.out.cnt, Nat.le_add_right _ _, ?_, (Turned.of_below HB2.out).trans (HS5.out.kept.on HB6.out)⟩
    · have e1 := TopM.bnd_srt HBN.out
      unfold foundR
      rw [← docsQ_is HPS.out, ← scoreQ_is HPS.out, ← HBEST.out, ← e1]
      exact HPRD.out
    · rw [← docsQ_is HPS.out, ← scoreQ_is HPS.out]
      have := HLE.out
      omega
end Go.Proofs.YtpinpnbhbngclaaGreat

/- Find and Scored. -/
namespace Go.Proofs.YtpinpnbhbngclaaGreat
open Go.RowKit

set_option maxHeartbeats 2000000 in
set_option maxRecDepth 100000 in
theorem find6_no {A : Option Addr} {n cp : Nat} {k wi : Int} {mayv : Value} {rs : List (Option Nat × Int)} (w : World) (h : QN w A n rs) (hk1 : -9223372036854775808 ≤ k) (hk2 : k ≤ 9223372036854775807) (hn : n ≤ 1000000) (hno : wi < 0 ∨ 3 < wi ∨ trightB n k rs = false) :
    Calls Tryz.prog 10 #[.int .i64 wi, .slice A n cp, .int .i64 k, mayv] w fun e w' => e = .returned (.tuple #[.slice none 0 0, .int .i64 1]) ∧ Below w.heap.size w w' := by
  have HC := Lib.hid (fun W (hW : Below w.heap.size w W) => cfind6_no (sc := w.heap.size) (cp := cp) (mayv := mayv) W (h.later hW) hk1 hk2 hn hno)
  clear h hno
  go_enter Tryz.func10, Tryz.ntmps10
  go_wp2_with fail
  refine (HC.out _ (pl1 _ _)).mono ?_
  rintro e w2 ⟨rfl, hb⟩
  go_wp2
  go_ret2
  exact ⟨rfl, (pl1 _ _).trans (hb.mono (pl1 _ _).size)⟩
set_option maxHeartbeats 2000000 in
set_option maxRecDepth 100000 in
theorem find6_ok {A : Option Addr} {n cp k : Nat} {wi : Int} {mayv : Value} {may : Int → Bool} {qs : List (Nat × List (Int × Int) × Int)} (w1 w : World) (h : QAt w1 A n qs) (hb : Below w1.heap.size w1 w) (hg : ∀ x ∈ qs, GoodQ x) (hn : n ≤ 64) (h1 : 1 ≤ k) (h2 : k ≤ 1000) (hm : MayIs w1 mayv may) (hwi : wi = 0 ∨ wi = 1 ∨ wi = 2 ∨ wi = 3) :
    Calls Tryz.prog 10 #[.int .i64 wi, .slice A n cp, .int .i64 k, mayv] w fun e w' => ∃ v', e = .returned (.tuple #[v', .int .i64 0]) ∧ Prd w' v' (foundR k (qs.map (·.2)) may) ∧ Below w.heap.size w w' := by
  have hU : Below w1.heap.size w1 (w.alloc (.cells #[.int .i64 0] 49)) := hb.trans ((pl1 _ _).mono hb.size)
  have HC := Lib.hid (cfind6_ok (cp := cp) (sc := w.heap.size) (c0 := 0) w1 (w.alloc (.cells #[.int .i64 0] 49)) h hU hg hn h1 h2 (heap_alloc_new w _) hb.size (by omega) (hm.mayc hU hb.size) hwi)
  clear h hb hm hU
  go_enter Tryz.func10, Tryz.ntmps10
  go_wp2_with fail
  refine HC.out.mono ?_
  rintro e w2 ⟨v', rfl, hp, cn, hc, hc1, hc2, hT⟩
  have HP := Lib.hid hp
  have HT := Lib.hid hT
  clear hp hc hc1 hc2 hT
  go_wp2
  go_ret2
  exact ⟨v', rfl, HP.out, HT.out.below (pl1 _ _) (fun k hk => Nat.le_of_eq hk.symm)⟩
set_option maxHeartbeats 400000 in
theorem iload6_any (b : Nat) (n : Int) (w : World) (h : w.cell? ⟨b, 0, none⟩ = some (.int .i64 n)) :
    Calls Tryz.prog 33 #[.pointer (some ⟨b, 0, none⟩)] w fun e w' => e = .returned (.int .i64 n) ∧ w = w' := by
  have hl := run_call_load (P := Tryz.prog) Tryz.func53 (by kernel_rfl) (by kernel_rfl) (by kernel_rfl) .i64 (by kernel_rfl) h
  go_enter Tryz.func33, Tryz.ntmps33
  go_wp2
  go_ret
  exact ⟨rfl, rfl⟩
set_option maxHeartbeats 400000 in
theorem scored6_any (c : Nat) (n : Int) (w : World) (h : w.cell? ⟨c, 0, none⟩ = some (.int .i64 n)) :
    Calls Tryz.prog 17 #[.pointer (some ⟨c, 0, none⟩)] w fun e w' => e = .returned (.int .i64 n) ∧ w' = w := by
  have HL := Lib.hid (iload6_any c n w h)
  clear h
  go_enter Tryz.func17, Tryz.ntmps17
  go_wp2_with fail
  refine HL.out.mono ?_
  rintro e w2 ⟨rfl, rfl⟩
  go_wp2
  go_ret
  exact ⟨rfl, rfl⟩
end Go.Proofs.YtpinpnbhbngclaaGreat

/- Score. -/
namespace Go.Proofs.YtpinpnbhbngclaaGreat
open Go.RowKit

/-- from place 0 on: what a part brings -/
theorem con_from {x : Prt} {a : Nat} {d : Int} (h : GoodP x) (hs : Sk x.l 0 d a) : conAt x a d = con x d :=
  (con_split h (fun k hk _ => hs.2.2.1 k (Nat.zero_le _) hk) hs.2.2.2).symm
theorem con_take (ps : List Prt) (d : Int) (k : Nat) (h : k < ps.length) : (ps.take (k + 1)).map (fun x => con x d) = (ps.take k).map (fun x => con x d) ++ [con ps[k] d] := by
  rw [List.take_succ_eq_append_getElem h, List.map_append]
  rfl
set_option maxHeartbeats 4000000 in
set_option maxRecDepth 100000 in
theorem score6_any {A : Option Addr} {n cp : Nat} {d : Int} {qs : List (Nat × List (Int × Int) × Int)} (w1 w : World) (h : QAt w1 A n qs) (hb : Below w1.heap.size w1 w) (hg : ∀ x ∈ qs, GoodQ x) (hn : n ≤ 64) :
    Calls Tryz.prog 18 #[.slice A n cp, .int .i64 d] w fun e w' => e = .returned (.int .i64 (scoreR (qs.map (·.2)) d)) ∧ Below w.heap.size w w' := by
  have hr := tright_any A n cp 1 _ w (h.later hb).qn (by omega) (by omega) (by omega)
  have ht : trightB n 1 (qs.map fun x => (some x.1, x.2.2)) = true := by
    unfold trightB
    rw [partsB_good qs hg, decide_eq_true hn]
    rfl
  rw [ht] at hr
  have HR := Lib.hid hr
  have HP := Lib.hid (fun W (hW : Below w.heap.size w W) => partsof_any (cp := cp) w1 W h (hb.trans (hW.mono hb.size)) hg hn)
  have hlen := h.1
  have HG := Lib.hid hg
  clear h hb hr ht hg
  go_enter Tryz.func18, Tryz.ntmps18
  go_wp2_with fail
  refine HR.out.mono ?_
  rintro e w2 ⟨rfl, hb2⟩
  have HB2 := Lib.hid hb2
  clear hb2
  go_wp2_with fail
  refine (HP.out w2 HB2.out).mono ?_
  rintro e w3 ⟨g, ps, rfl, hgw, hpl, hbeg, hb3⟩
  have hgood := hbeg.good (by rw [hpl, hlen]) HG.out
  have hsc : scoreR (qs.map (·.2)) d = sumL (ps.map fun x => con x d) := by
    rw [← scoreQ_is (ps := ps) (rs := qs.map (·.2))]
    · rfl
    · apply List.ext_getElem (by simp [hpl, hlen])
      intro j h1 h2
      simp only [List.getElem_map]
      rw [List.length_map] at h1 h2
      obtain ⟨e1, e2⟩ := hbeg.is_ j h1 h2
      rw [e1, e2]
  have HSC := Lib.hid hsc
  have HB3 : Hid (Below w.heap.size w w3) := Lib.hid (HB2.out.trans (hb3.mono HB2.out.size))
  have HBEG := Lib.hid hbeg
  have HGOOD := Lib.hid hgood
  have hgs : w.heap.size ≤ g := Nat.le_trans HB2.out.size hgw
  clear hgw hbeg hb3 hgood hsc
  go_wp2
  go_loopw [14, 5] (fun x y wr => ∃ (k : Nat) (M : Int), x = .int .i64 k ∧ k ≤ n ∧ y = .int .i64 M ∧ M = sumL ((ps.take k).map fun x => con x d) ∧ 0 ≤ M ∧ M ≤ k * 4294836225 ∧ (∀ j (h : j < ps.length), k ≤ j → PT w1 wr ps[j] 0) ∧ Turned (curs ps) w3 wr) (fun x _ _ => n - (intOf x).toNat)
  case atStart => exact ⟨0, 0, rfl, by omega, rfl, rfl, by omega, by omega, fun j h _ => HBEG.out.pts _ (List.getElem_mem h), Turned.refl _ _⟩
  case round =>
    obtain ⟨k, M, rfl, hk, rfl, hM, hM0, hM1, hpt, hT⟩ := hrel
    by_cases hlt : k < n
    · have hmi : (k : Int) < (n : Int) := by omega
      have hkl : k < ps.length := by rw [hpl]; exact hlt
      have hpk := hpt k hkl (Nat.le_refl _)
      have hgg := HGOOD.out ps[k] (List.getElem_mem hkl)
      have hc := (hT.cell (p := ⟨g, k, none⟩) (Array.getElem?_eq_some_iff.1 HBEG.out.row).1 (fun ⟨x, hx, e⟩ => by have := HBEG.out.far x hx; simp only at e; omega)).trans (cell_of_cells (i := k) HBEG.out.row (rowC_get hlt))
      rw [List.getElem?_eq_getElem hkl] at hc
      simp only [Option.map_some] at hc
      have hgl := World.block_lt_of_cell? wr _ hc
      simp only at hgl
      have hd := pbrings_any w1 wr ps[k] 0 d hpk hgg
      have htk := con_take ps d k hkl
      have hmm := sumL_snoc ((ps.take k).map fun x => con x d) (con ps[k] d)
      rw [← htk, ← hM] at hmm
      have hbd : 0 ≤ con ps[k] d ∧ con ps[k] d ≤ 4294836225 := by
        obtain ⟨a, ha⟩ := exists_at ps[k] d
        rw [con_split hgg (fun j hj _ => ha.2.1 j hj) ha.2.2]
        exact conAt_le hgg a d
      obtain ⟨c, hcc⟩ : ∃ c, c = con ps[k] d := ⟨_, rfl⟩
      rw [← hcc] at hmm hbd
      obtain ⟨pk, hpkE⟩ : ∃ pk, pk = ps[k].p := ⟨_, rfl⟩
      rw [← hpkE] at hc hd
      obtain ⟨N, hN⟩ : ∃ N, N = M + c := ⟨_, rfl⟩
      have hN1 : M + c = N := hN.symm
      have hN2 : 0 ≤ N ∧ N ≤ (k : Int) * 4294836225 + 4294836225 := by omega
      obtain ⟨hN3, hN4⟩ := hN2
      have hN5 : N ≤ 4294836225000 := by omega
      rw [hN1] at hmm
      have hd2 : Calls Tryz.prog 35 #[.pointer (some ⟨pk, 0, none⟩), .int .i64 d] wr fun e w' => e = .returned (.int .i64 c) ∧ (∀ j (h : j < ps.length), k + 1 ≤ j → PT w1 w' ps[j] 0) ∧ Turned (curs ps) w3 w' := hd.mono (fun e w' ⟨a', he, hpa, hsk, hT2⟩ => ⟨by rw [he, con_from hgg hsk, hcc], fun j hj hkj => by
          have hne := List.pairwise_iff_getElem.1 HBEG.out.nod k j (by simpa using hkl) (by simpa using hj) (by omega)
          rw [List.getElem_map, List.getElem_map] at hne
          exact (hpt j hj (by omega)).turned_one hpk hT2 (by omega), hT.trans (hT2.wide (fun q e => ⟨_, List.getElem_mem hkl, e⟩))⟩)
      have HD := Lib.hid hd2
      have HM := Lib.hid hmm
      clear hd hd2 hpt hpk hgg hcc htk hM hmm hpkE hN hbd hM0 hM1 hT
      go_wp2_with fail
      refine HD.out.mono ?_
      rintro e w4 ⟨rfl, hpt4, hT4⟩
      have HP4 := Lib.hid hpt4
      have HT4 := Lib.hid hT4
      clear hpt4 hT4
      go_wp2
      go_roundw
      case rel => exact ⟨k + 1, N, by go_num, by omega, rfl, HM.out.symm, hN3, by omega, HP4.out, HT4.out⟩
      case measure => simp [intOf]; omega
    · have hmi : ¬ (k : Int) < (n : Int) := by omega
      obtain rfl : k = n := by omega
      rw [List.take_of_length_le (by rw [hpl]; exact Nat.le_refl _)] at hM
      have HF := Lib.hid (HSC.out.trans hM.symm)
      have HT := Lib.hid hT
      clear hM hpt hT
      go_wp2
      go_ret
      refine ⟨by rw [HF.out]; rfl, HT.out.below HB3.out (fun q ⟨x, hx, e⟩ => ?_)⟩
      have := HBEG.out.far x hx
      omega
set_option maxHeartbeats 1000000 in
set_option maxRecDepth 100000 in
theorem score6_no {A : Option Addr} {n cp : Nat} {d : Int} {rs : List (Option Nat × Int)} (w : World) (h : QN w A n rs) (hn : n ≤ 1000000) (hno : trightB n 1 rs = false) :
    Calls Tryz.prog 18 #[.slice A n cp, .int .i64 d] w fun e w' => e = .returned (.int .i64 0) ∧ Below w.heap.size w w' := by
  have hr := tright_any A n cp 1 rs w h (by omega) (by omega) hn
  rw [hno] at hr
  have HR := Lib.hid hr
  clear h hr hno
  go_enter Tryz.func18, Tryz.ntmps18
  go_wp2_with fail
  refine HR.out.mono ?_
  rintro e w2 ⟨rfl, hb⟩
  go_wp2
  go_ret
  exact ⟨rfl, hb⟩
end Go.Proofs.YtpinpnbhbngclaaGreat

/- The document's side: is a query right. -/
namespace Go.Proofs.YtpinpnbhbngclaaGreat
open Go.RowKit

/-- a query in memory, as the document's side holds it: of each part the posts and the weight -/
def RQ (w : World) (A : Option Addr) (n : Nat) (rs : List (List (Int × Int) × Int)) : Prop :=
  rs.length = n ∧ ∀ k (h : k < rs.length), ∃ b o A2 c2, A = some ⟨b, o, none⟩ ∧ b < w.heap.size ∧ w.cell? ⟨b, o + k * 2, none⟩ = some (.slice A2 rs[k].1.length c2) ∧ w.cell? ⟨b, o + k * 2 + 1, none⟩ = some (.int .i64 rs[k].2) ∧ Pairs w A2 rs[k].1.length rs[k].1
theorem RQ.later {w w' : World} {A : Option Addr} {n : Nat} {rs : List (List (Int × Int) × Int)} (h : RQ w A n rs) (hb : Below w.heap.size w w') : RQ w' A n rs :=
  ⟨h.1, fun k hk => by
    obtain ⟨b, o, A2, c2, e, hl, h0, h1, h2⟩ := h.2 k hk
    exact ⟨b, o, A2, c2, e, Nat.lt_of_lt_of_le hl hb.size, (hb.cell (p := ⟨b, o + k * 2, none⟩) hl).trans h0, (hb.cell (p := ⟨b, o + k * 2 + 1, none⟩) hl).trans h1, h2.later hb⟩⟩
/-- are the weights right -/
def wtsB : List (List (Int × Int) × Int) → Bool
  | [] => true
  | x :: xs => decide (1 ≤ x.2) && decide (x.2 ≤ 65535) && wtsB xs
theorem wtsB_next {l : List (List (Int × Int) × Int)} {k : Nat} (h : k < l.length) : wtsB (l.drop k) = (decide (1 ≤ l[k].2) && decide (l[k].2 ≤ 65535) && wtsB (l.drop (k + 1))) := by
  rw [List.drop_eq_getElem_cons h]
  rfl
def rrightB (n : Nat) (k : Int) (rs : List (List (Int × Int) × Int)) : Bool := wtsB rs && decide (n ≤ 64) && decide (1 ≤ k) && decide (k ≤ 1000)
set_option maxHeartbeats 2000000 in
set_option maxRecDepth 100000 in
theorem refright6_any (A : Option Addr) (n cp : Nat) (k : Int) (rs : List (List (Int × Int) × Int)) (w : World) (h : RQ w A n rs) (hn : n ≤ 1000000) :
    Calls Tryz.prog 14 #[.slice A n cp, .int .i64 k] w fun e w' => e = .returned (.bool (rrightB n k rs)) ∧ Below w.heap.size w w' := by
  have H := Lib.hid h
  have HL := Lib.hid h.1
  clear h
  go_enter Tryz.func14, Tryz.ntmps14
  go_wp2
  go_loopw [5] (fun x wr => ∃ (i : Nat), x = .int .i64 i ∧ i ≤ n ∧ wtsB rs = wtsB (rs.drop i) ∧ Below w.heap.size w wr) (fun x _ => n - (intOf x).toNat)
  case atStart => exact ⟨0, rfl, by omega, rfl, Below.refl _ _⟩
  case round =>
    obtain ⟨i, rfl, hin, hpb, hb⟩ := hrel
    by_cases hlt : i < n
    · have hmi : (i : Int) < (n : Int) := by omega
      have hil : i < rs.length := by rw [HL.out]; exact hlt
      obtain ⟨b, o, A2, c2, rfl, hbl, hc0, hc1, _⟩ := (H.out.later hb).2 i hil
      rw [wtsB_next hil] at hpb
      obtain ⟨wt, hx⟩ : ∃ x, x = rs[i].2 := ⟨_, rfl⟩
      rw [← hx] at hc1 hpb
      have HPB := Lib.hid hpb
      have HB := Lib.hid hb
      clear hx hpb hb hc0
      by_cases h1 : wt < 1
      · have d1 : decide (wt < (1 : Int)) = true := decide_eq_true h1
        have HF : Hid (rrightB n k rs = false) := Lib.hid (by unfold rrightB; rw [HPB.out, decide_eq_false (show ¬ 1 ≤ wt by omega)]; rfl)
        go_wp2
        go_ret
        exact ⟨by rw [HF.out]; rfl, HB.out⟩
      · have d1 : decide (wt < (1 : Int)) = false := decide_eq_false h1
        by_cases h2 : 65535 < wt
        · have d2 : decide ((65535 : Int) < wt) = true := decide_eq_true h2
          have HF : Hid (rrightB n k rs = false) := Lib.hid (by unfold rrightB; rw [HPB.out, decide_eq_false (show ¬ wt ≤ 65535 by omega)]; simp)
          go_wp2
          go_ret
          exact ⟨by rw [HF.out]; rfl, HB.out⟩
        · have d2 : decide ((65535 : Int) < wt) = false := decide_eq_false h2
          have HF : Hid (wtsB rs = wtsB (rs.drop (i + 1))) := Lib.hid (by rw [HPB.out, decide_eq_true (show 1 ≤ wt by omega), decide_eq_true (show wt ≤ 65535 by omega)]; rfl)
          go_wp2
          go_roundw
          case rel => exact ⟨i + 1, by go_num, by omega, HF.out, HB.out⟩
          case measure => simp [intOf]; omega
    · have hmi : ¬ (i : Int) < (n : Int) := by omega
      obtain rfl : i = n := by omega
      have hw : wtsB rs = true := by rw [hpb, List.drop_of_length_le (by rw [HL.out]; exact Nat.le_refl _)]; rfl
      have HF : Hid (rrightB i k rs = (decide (i ≤ 64) && decide (1 ≤ k) && decide (k ≤ 1000))) := Lib.hid (by unfold rrightB; rw [hw]; rfl)
      have HB := Lib.hid hb
      clear hpb hw hb
      by_cases a1 : i ≤ 64
      · have e1 : decide ((i : Int) ≤ 64) = true := decide_eq_true (by omega)
        by_cases a2 : 1 ≤ k
        · have e2 : decide ((1 : Int) ≤ k) = true := decide_eq_true a2
          by_cases a3 : k ≤ 1000
          · have e3 : decide (k ≤ (1000 : Int)) = true := decide_eq_true a3
            have HG : Hid (rrightB i k rs = true) := Lib.hid (by rw [HF.out, decide_eq_true a1, e2, e3]; rfl)
            go_wp2
            go_ret
            exact ⟨by rw [HG.out]; rfl, HB.out⟩
          · have e3 : decide (k ≤ (1000 : Int)) = false := decide_eq_false a3
            have HG : Hid (rrightB i k rs = false) := Lib.hid (by rw [HF.out, decide_eq_true a1, e2, e3]; rfl)
            go_wp2
            go_ret
            exact ⟨by rw [HG.out]; rfl, HB.out⟩
        · have e2 : decide ((1 : Int) ≤ k) = false := decide_eq_false a2
          have HG : Hid (rrightB i k rs = false) := Lib.hid (by rw [HF.out, decide_eq_true a1, e2]; rfl)
          go_wp2
          go_ret
          exact ⟨by rw [HG.out]; rfl, HB.out⟩
      · have e1 : decide ((i : Int) ≤ 64) = false := decide_eq_false (by omega)
        have HG : Hid (rrightB i k rs = false) := Lib.hid (by rw [HF.out, decide_eq_false a1]; rfl)
        go_wp2
        go_ret
        exact ⟨by rw [HG.out]; rfl, HB.out⟩
end Go.Proofs.YtpinpnbhbngclaaGreat

/- The document's side: a document's score. -/
namespace Go.Proofs.YtpinpnbhbngclaaGreat
open Go.RowKit

/-- a list and a weight as a part -/
def prt (x : List (Int × Int) × Int) : Prt := ⟨0, 0, x.1, x.2⟩
/-- the first j posts' sum -/
def conJ (l : List (Int × Int)) (wt d : Int) (j : Nat) : Int := sumL (((l.take j).filter (fun p => p.1 == d)).map (fun p => wt * p.2))
theorem conJ_next (l : List (Int × Int)) (wt d : Int) (j : Nat) (h : j < l.length) : conJ l wt d (j + 1) = conJ l wt d j + if l[j].1 = d then wt * l[j].2 else 0 := by
  unfold conJ
  rw [List.take_succ_eq_append_getElem h, List.filter_append, List.map_append, sumL_append]
  congr 1
  by_cases c : l[j].1 = d
  · rw [if_pos c]
    simp [List.filter, c, sumL]
  · have : (l[j].1 == d) = false := by simpa using c
    rw [if_neg c]
    simp [List.filter, this, sumL]
theorem conJ_all (l : List (Int × Int)) (wt d : Int) : conJ l wt d l.length = con (prt (l, wt)) d := by
  unfold conJ con prt
  rw [List.take_length]
set_option maxHeartbeats 4000000 in
set_option maxRecDepth 100000 in
theorem refscore6_any {A : Option Addr} {n cp : Nat} {d : Int} {rs : List (List (Int × Int) × Int)} (w : World) (h : RQ w A n rs) (hg : ∀ x ∈ rs, GoodP (prt x)) (hn : n ≤ 64) :
    Calls Tryz.prog 27 #[.slice A n cp, .int .i64 d] w fun e w' => e = .returned (.int .i64 (scoreR rs d)) ∧ Below w.heap.size w w' := by
  have H := Lib.hid h
  have HL := Lib.hid h.1
  have HG := Lib.hid hg
  clear h hg
  go_enter Tryz.func27, Tryz.ntmps27
  go_wp2
  go_loopw [6, 5] (fun x y wr => ∃ (i : Nat) (M : Int), x = .int .i64 i ∧ i ≤ n ∧ y = .int .i64 M ∧ M = sumL ((rs.take i).map fun x => con (prt x) d) ∧ 0 ≤ M ∧ M ≤ i * 1717934490000 ∧ Below w.heap.size w wr) (fun x _ _ => n - (intOf x).toNat)
  case atStart => exact ⟨0, 0, rfl, by omega, rfl, rfl, by omega, by omega, Below.refl _ _⟩
  case round =>
    obtain ⟨i, M, rfl, hi, rfl, hM, hM0, hM1, hb⟩ := hrel
    by_cases hlt : i < n
    · have hmi : (i : Int) < (n : Int) := by omega
      have hil : i < rs.length := by rw [HL.out]; exact hlt
      have hgp := HG.out _ (List.getElem_mem hil)
      have HNX : Hid (sumL ((rs.take (i + 1)).map fun x => con (prt x) d) = M + con (prt rs[i]) d) := Lib.hid (by rw [List.take_succ_eq_append_getElem hil, List.map_append, sumL_append, ← hM]; simp [sumL])
      have HB := Lib.hid hb
      obtain ⟨⟨l, wt⟩, hx⟩ : ∃ x, x = rs[i] := ⟨_, rfl⟩
      rw [← hx] at hgp HNX
      have HAT : Hid (∀ W, Below w.heap.size w W → ∃ b o A2 c2, A = some ⟨b, o, none⟩ ∧ b < W.heap.size ∧ W.cell? ⟨b, o + i * 2, none⟩ = some (.slice A2 l.length c2) ∧ W.cell? ⟨b, o + i * 2 + 1, none⟩ = some (.int .i64 wt) ∧ Pairs W A2 l.length l) := Lib.hid (fun W hW => by
        obtain ⟨b, o, A2, c2, e, hl, h0, h1, h2⟩ := (H.out.later hW).2 i hil
        rw [← hx] at h0 h1 h2
        exact ⟨b, o, A2, c2, e, hl, h0, h1, h2⟩)
      have hr := hgp.right
      have hl4 := hgp.len
      have hw1 := hgp.w1
      have hw2 := hgp.w2
      simp only [prt] at hr hl4 hw1 hw2
      have HRG := Lib.hid (PostM.rgt_all hr)
      clear hx hM hb hgp hr
      go_wp2
      go_loopw [7, 5] (fun x y wr => ∃ (j : Nat) (N : Int), x = .int .i64 j ∧ j ≤ l.length ∧ y = .int .i64 N ∧ N = M + conJ l wt d j ∧ 0 ≤ N ∧ N ≤ M + j * 4294836225 ∧ Below w.heap.size w wr) (fun x _ _ => l.length - (intOf x).toNat)
      case atStart => exact ⟨0, M, rfl, by omega, rfl, by simp [conJ, sumL], by omega, by omega, HB.out⟩
      case round =>
        obtain ⟨j, N, rfl, hj, rfl, hN, hN0, hN1, hb⟩ := hrel
        obtain ⟨b, o, A2, c2, rfl, hbl, hc0, hc1, hP⟩ := HAT.out _ hb
        obtain ⟨ln, hln⟩ : ∃ x, x = l.length := ⟨_, rfl⟩
        rw [← hln] at hj hc0 hP hl4 ⊢
        by_cases hjl : j < ln
        · have hmj : (j : Int) < (ln : Int) := by omega
          have hjl2 : j < l.length := by omega
          obtain ⟨b2, o2, rfl, hbl2, p0, p1⟩ := hP.2 j hjl2
          have hpp := HRG.out _ (List.getElem_mem hjl2)
          have hnx := conJ_next l wt d j hjl2
          obtain ⟨⟨pd, pw⟩, hpx⟩ : ∃ x, x = l[j] := ⟨_, rfl⟩
          rw [← hpx] at p0 p1 hpp hnx
          simp only at p0 p1 hpp hnx
          obtain ⟨_, _, hq1, hq2⟩ := hpp
          have hml := mul_le hw1 hw2 (show 0 ≤ pw by omega) hq2
          obtain ⟨q, hq⟩ : ∃ q, q = wt * pw := ⟨_, rfl⟩
          rw [← hq] at hnx hml
          have hq3 : wt * pw = q := hq.symm
          obtain ⟨hq4, hq5⟩ := hml
          have HB3 := Lib.hid hb
          by_cases hd : pd = d
          · rw [if_pos hd] at hnx
            have hdt : decide (pd = d) = true := decide_eq_true hd
            obtain ⟨N2, hN2⟩ : ∃ x, x = N + q := ⟨_, rfl⟩
            have hN3 : N + q = N2 := hN2.symm
            have hwq : IntKind.i64.wrap q = q := by rw [IntKind.wrap_i64]; omega
            have hwn : IntKind.i64.wrap N2 = N2 := by rw [IntKind.wrap_i64]; omega
            have HF : Hid (N2 = M + conJ l wt d (j + 1)) := Lib.hid (by omega)
            have hN4 : 0 ≤ N2 ∧ N2 ≤ M + j * 4294836225 + 4294836225 := by omega
            have HN4 := Lib.hid hN4
            subst hd
            clear hnx hN hq hN2 hpx hb hN4 hP
            go_wp2
            go_quiet (fail)
            go_wp2
            go_roundw
            case rel => exact ⟨j + 1, N2, by go_num, by omega, rfl, HF.out, by have := HN4.out; omega, by have := HN4.out; omega, HB3.out.trans ((below_drewN_p _ _).mono HB3.out.size)⟩
            case measure => simp [intOf]; omega
          · rw [if_neg hd] at hnx
            have hdt : decide (pd = d) = false := decide_eq_false hd
            have HF : Hid (N = M + conJ l wt d (j + 1)) := Lib.hid (by omega)
            clear hnx hN hq hpx hb hP
            go_wp2
            go_roundw
            case rel => exact ⟨j + 1, N, by go_num, by omega, rfl, HF.out, by omega, by omega, HB3.out⟩
            case measure => simp [intOf]; omega
        · have hmj : ¬ (j : Int) < (ln : Int) := by omega
          have hjl : j = ln := by omega
          have HE : Hid (N = sumL ((rs.take (i + 1)).map fun x => con (prt x) d)) := Lib.hid (by rw [HNX.out, ← conJ_all, ← hln, ← hjl]; exact hN)
          have HB3 := Lib.hid hb
          clear hN hb hP
          go_wp2
          go_roundw
          case rel => exact ⟨i + 1, N, by go_num, by omega, rfl, HE.out, hN0, by omega, HB3.out⟩
          case measure => simp [intOf]; omega
    · have hmi : ¬ (i : Int) < (n : Int) := by omega
      obtain rfl : i = n := by omega
      rw [List.take_of_length_le (by rw [HL.out]; exact Nat.le_refl _)] at hM
      have HF : Hid (scoreR rs d = M) := Lib.hid (by rw [hM]; unfold scoreR scoreQ prtsR; rw [List.map_map]; rfl)
      have HB := Lib.hid hb
      clear hM hb
      go_wp2
      go_ret
      exact ⟨by rw [HF.out]; rfl, HB.out⟩
end Go.Proofs.YtpinpnbhbngclaaGreat

/- Slices of ints: read, and one's own row. -/
namespace Go.Proofs.YtpinpnbhbngclaaGreat
open Go.RowKit

def iv (x : Int) : Value := .int .i64 x
/-- a slice that reads as ints -/
def Ivs (w : World) (A : Option Addr) (n : Nat) (l : List Int) : Prop :=
  l.length = n ∧ ∀ k (h : k < l.length), ∃ b o, A = some ⟨b, o, none⟩ ∧ b < w.heap.size ∧ w.cell? ⟨b, o + k, none⟩ = some (.int .i64 l[k])
theorem Ivs.later {w w' : World} {A : Option Addr} {n : Nat} {l : List Int} (h : Ivs w A n l) (hb : Below w.heap.size w w') : Ivs w' A n l :=
  ⟨h.1, fun k hk => by
    obtain ⟨b, o, e, hl, h0⟩ := h.2 k hk
    exact ⟨b, o, e, Nat.lt_of_lt_of_le hl hb.size, (hb.cell (p := ⟨b, o + k, none⟩) hl).trans h0⟩⟩
theorem Ivs.turned {S : Nat → Prop} {w w' : World} {A : Option Addr} {n : Nat} {l : List Int} (h : Ivs w A n l) (hT : Turned S w w') (hS : ∀ ad, A = some ad → ¬ S ad.block) : Ivs w' A n l :=
  ⟨h.1, fun k hk => by
    obtain ⟨b, o, e, hl, h0⟩ := h.2 k hk
    exact ⟨b, o, e, Nat.lt_of_lt_of_le hl hT.size, (hT.cell (p := ⟨b, o + k, none⟩) hl (hS ⟨b, o, none⟩ e)).trans h0⟩⟩
theorem Ivs.take {w : World} {A : Option Addr} {n : Nat} {l : List Int} (h : Ivs w A n l) (k : Nat) (hk : k ≤ n) : Ivs w A k (l.take k) := by
  refine ⟨by rw [List.length_take, h.1]; omega, fun j hj => ?_⟩
  rw [List.length_take] at hj
  rw [List.getElem_take]
  exact h.2 j (by omega)
theorem Ivs.drop {w : World} {b o : Nat} {n : Nat} {l : List Int} (h : Ivs w (some ⟨b, o, none⟩) n l) (k : Nat) : Ivs w (some ⟨b, o + k, none⟩) (n - k) (l.drop k) := by
  refine ⟨by rw [List.length_drop, h.1], fun j hj => ?_⟩
  rw [List.length_drop] at hj
  rw [List.getElem_drop]
  obtain ⟨b', o', e, hb, c0⟩ := h.2 (k + j) (by omega)
  injection e with e
  injection e with e1 e2 e3
  subst e1; subst e2
  refine ⟨b, o + k, rfl, hb, ?_⟩
  rw [show o + k + j = o + (k + j) by omega]; exact c0
theorem ivs_nil (w : World) (A : Option Addr) : Ivs w A 0 [] := ⟨rfl, fun k hk => by simp at hk⟩

/-- one's own row of ints -/
def IvRow (w : World) (base : Nat) (v : Value) (l : List Int) : Prop := w.ownsRow base 3 1 v l.length (l.map iv)
theorem IvRow.nil_ (w : World) (base : Nat) : IvRow w base (.slice none 0 0) [] := World.ownsRow_nil _ _ _ _
theorem IvRow.kept {w w' : World} {base : Nat} {v : Value} {l : List Int} (h : IvRow w base v l) (hk : ∀ g, v.ownBlock = some g → w'.heap[g]? = w.heap[g]?) : IvRow w' base v l := by
  refine ⟨h.1, ?_⟩
  rcases h.2 with hn | ⟨g, cap, cur, rfl, hbg, hgg, rest⟩
  · exact .inl hn
  · exact .inr ⟨g, cap, cur, rfl, hbg, (hk g rfl).trans hgg, rest⟩
theorem IvRow.later {w w' : World} {base : Nat} {v : Value} {l : List Int} (h : IvRow w base v l) (hb : Below w.heap.size w w') : IvRow w' base v l :=
  h.kept fun g hg => hb.block g (World.ownsRow.lt h g hg).2
theorem IvRow.alloc {w : World} {base : Nat} {v : Value} {l : List Int} (h : IvRow w base v l) (o : Obj) : IvRow (w.alloc o) base v l := h.later ((Below.refl _ _).alloc (Nat.le_refl _) _)
theorem IvRow.wider {w : World} {base B : Nat} {v : Value} {l : List Int} (h : IvRow w B v l) (hB : base ≤ B) : IvRow w base v l := by
  refine ⟨h.1, ?_⟩
  rcases h.2 with hn | ⟨g, cap, cur, e, hbg, rest⟩
  · exact .inl hn
  · exact .inr ⟨g, cap, cur, e, Nat.le_trans hB hbg, rest⟩
theorem IvRow.form2 {w : World} {base : Nat} {v : Value} {l : List Int} (h : IvRow w base v l) : (v = .slice none 0 0 ∧ l = []) ∨ ∃ g cap, v = .slice (some ⟨g, 0, none⟩) l.length cap ∧ l.length ≤ cap ∧ base ≤ g ∧ g < w.heap.size ∧ Ivs w (some ⟨g, 0, none⟩) l.length l := by
  have h0 := h
  rcases h.2 with ⟨rfl, hn⟩ | ⟨g, cap, cur, rfl, hbg, hgg, hnc, rest⟩
  · exact .inl ⟨rfl, List.eq_nil_of_length_eq_zero hn⟩
  · refine .inr ⟨g, cap, rfl, by omega, hbg, (Array.getElem?_eq_some_iff.1 hgg).1, rfl, fun k hk => ⟨g, 0, rfl, (Array.getElem?_eq_some_iff.1 hgg).1, ?_⟩⟩
    have := World.ownsRow.cells h0 (g := g) rfl k (iv l[k]) (by simp [hk])
    rw [add_none] at this
    exact this
theorem IvRow.ivs {w : World} {base : Nat} {v : Value} {l : List Int} (h : IvRow w base v l) : ∃ A cp, v = .slice A l.length cp ∧ l.length ≤ cp ∧ (A = none → cp = 0) ∧ Ivs w A l.length l := by
  rcases h.form2 with ⟨rfl, rfl⟩ | ⟨g, cap, rfl, hc, _, _, hI⟩
  · exact ⟨none, 0, rfl, Nat.le_refl _, (fun _ => rfl), ivs_nil _ _⟩
  · exact ⟨_, cap, rfl, hc, (fun e => by cases e), hI⟩
set_option maxRecDepth 100000 in
/-- append of what is read onto one's own row -/
theorem wp_append_ivs {w : World} {o : Oper} {a : Act} {K : Act → World → Prop} {Q : Exit → Act → World → Prop} (s x : Operand)
    (ho : o.op = .call { callee := .builtin .append, args := #[s, x], argTypes := #[23, 23] })
    (base : Nat) (v0 : Value) (l0 : List Int) (hs : a.eval s = v0) (hown : IvRow w base v0 l0) (hbase : base ≤ w.heap.size)
    (A : Option Addr) (n cp : Nat) (l : List Int) (hx : a.eval x = .slice A n cp) (hS : Ivs w A n l) (hA : A = none → cp = 0) (hn : l0.length + n ≤ 1000000000)
    (h : ∀ v' w', IvRow w' base v' (l0 ++ l) → w.grownBy w' v0.ownBlock → K (a.put o.dst v') w') : o.wp Tryz.prog a w K Q := by
  obtain ⟨i0, hi, hz0, hz1, hz2⟩ := info_parts int_info
  rcases A with _ | ad
  · have hn0 : n = 0 := by
      rcases Nat.eq_zero_or_pos n with e | e
      · exact e
      · obtain ⟨b, o, e', _⟩ := hS.2 0 (by rw [hS.1]; exact e)
        cases e'
    subst hn0
    have hcp := hA rfl
    subst hcp
    have hl0 : l = [] := List.eq_nil_of_length_eq_zero hS.1
    subst hl0
    have hrun := run_append_owned_none (P := Tryz.prog) (w := w) base 23 o.type 3 i0 1 Tryz.underlying23 hi v0 l0.length (l0.map iv) hown
    have hfin := h v0 w (by rw [List.append_nil]; exact hown) (World.grownBy.refl w _)
    unfold Oper.wp
    simp [execOp, ho, resolve, invoke, builtin, hs, hx, hrun, Result.andThen]
    exact hfin
  · refine wp_append_own w s x 23 ho base 3 i0 _ 1 8 Tryz.underlying23 hi hz0 hz1 hz2 rfl (by omega) v0 l0.length (l0.map iv) hs hown ad n cp (l.map iv) hx (by rw [List.length_map, hS.1]; omega) (fun j u hu => ?_) (fun u hu => ?_) (by simp [maxLen]; omega) (by omega) hbase ?_
    · have hj : j < l.length := by
        have := (List.getElem?_eq_some_iff.1 hu).1
        rwa [List.length_map] at this
      obtain ⟨b, o, e, _, h0⟩ := hS.2 j hj
      injection e with e
      subst e
      rw [add_none]
      rw [List.getElem?_map, List.getElem?_eq_getElem hj] at hu
      simp only [Option.map_some, Option.some.injEq] at hu
      rw [← hu]
      exact h0
    · simp only [List.mem_map] at hu
      obtain ⟨t, _, rfl⟩ := hu
      rfl
    · intro v' w' hown' hg' _
      refine h v' w' ?_ hg'
      unfold IvRow
      rw [List.length_append, List.map_append, hS.1]
      exact hown'
theorem wpList_append_ivs {w : World} {ops : Array Oper} {rest : List Oper} {o : Oper} {a : Act} {Q : Exit → Act → World → Prop} (hgd : o.guard = none) (s x : Operand)
    (ho : o.op = .call { callee := .builtin .append, args := #[s, x], argTypes := #[23, 23] })
    (base : Nat) (v0 : Value) (l0 : List Int) (hs : a.eval s = v0) (hown : IvRow w base v0 l0) (hbase : base ≤ w.heap.size)
    (A : Option Addr) (n cp : Nat) (l : List Int) (hx : a.eval x = .slice A n cp) (hS : Ivs w A n l) (hA : A = none → cp = 0) (hn : l0.length + n ≤ 1000000000)
    (h : ∀ v' w', IvRow w' base v' (l0 ++ l) → w.grownBy w' v0.ownBlock → wpList Tryz.prog ops Q rest (a.put o.dst v') w') : wpList Tryz.prog ops Q (o :: rest) a w :=
  wpList_plain hgd fun _ hK => wp_append_ivs s x ho base v0 l0 hs hown hbase A n cp l hx hS hA hn fun v' w' h2 h3 => hK _ _ (h v' w' h2 h3)
/-- append of what is read onto a row that is newer than U, as a step -/
theorem step_ivsB {U w : World} {ops : Array Oper} {o : Oper} {a : Act} {K : Act → World → Prop} {Q : Exit → Act → World → Prop} {E : Prop} (hU : Below U.heap.size U w) (hgd : o.guard = none) (s x : Operand)
    (ho : o.op = .call { callee := .builtin .append, args := #[s, x], argTypes := #[23, 23] })
    (v0 : Value) (l0 : List Int) (hs : a.eval s = v0) (hown : IvRow w U.heap.size v0 l0)
    (A : Option Addr) (n cp : Nat) (l : List Int) (hx : a.eval x = .slice A n cp) (hS : Ivs w A n l) (hA : A = none → cp = 0) (hn : l0.length + n ≤ 1000000000)
    (h : ∀ v' w', IvRow w' U.heap.size v' (l0 ++ l) → Below U.heap.size U w' → w.heap.size ≤ w'.heap.size → (∀ g, g < w.heap.size → some g ≠ v0.ownBlock → w'.heap[g]? = w.heap[g]?) → K (a.put o.dst v') w') :
    if Region.wanted o (yielded ops a.tmps) = true then Oper.wp Tryz.prog o a w K Q else E := by
  have hw : Region.wanted o (yielded ops a.tmps) = true := by simp [Region.wanted, hgd]
  rw [if_pos hw]
  exact wp_append_ivs s x ho U.heap.size v0 l0 hs hown hU.size A n cp l hx hS hA hn fun v' w' h1 h2 => h v' w' h1 (hU.grown h2 hU.size fun k hk => (World.ownsRow.lt hown k hk).1) h2.size h2.block
theorem ivs_new1 (w : World) (x : Int) : Ivs (w.alloc (.cells #[.int .i64 x] 3)) (some ⟨w.heap.size, 0, none⟩) 1 [x] := by
  refine ⟨rfl, fun k hk => ⟨w.heap.size, 0, rfl, by simp, ?_⟩⟩
  have e : k = 0 := by simpa using hk
  subst e
  go_simp
theorem ivs_kept {w w' : World} {g o n : Nat} {l : List Int} (h : Ivs w (some ⟨g, o, none⟩) n l) (hk : w'.heap[g]? = w.heap[g]?) (hs : w.heap.size ≤ w'.heap.size) : Ivs w' (some ⟨g, o, none⟩) n l :=
  ⟨h.1, fun k hk' => by
    obtain ⟨b, o', e, hb, c0⟩ := h.2 k hk'
    injection e with e
    injection e with e1 e2 e3
    subst e1; subst e2
    exact ⟨g, o, rfl, by omega, (World.cell?_of_block (a := ⟨g, _, none⟩) hk).trans c0⟩⟩
theorem ivrow_new {U w : World} (h : Below U.heap.size U w) : IvRow (w.alloc (.cells #[] 3)) U.heap.size (.slice (some ⟨w.heap.size, 0, none⟩) 0 0) [] :=
  ⟨rfl, .inr ⟨w.heap.size, 0, #[], rfl, h.size, heap_alloc_new w _, Nat.le_refl _, by simp [maxLen], rfl, rfl⟩⟩
end Go.Proofs.YtpinpnbhbngclaaGreat

/- Two rows of one's own, apart, that grow in turn, whatever their elements; rows whose elements are two cells. -/
namespace Go.Proofs.YtpinpnbhbngclaaGreat
open Go.RowKit

structure Duo (w : World) (base : Nat) (e1 : TypeId) (s1 : Nat) (v1 : Value) (n1 : Nat) (x1 : List Value) (e2 : TypeId) (s2 : Nat) (v2 : Value) (n2 : Nat) (x2 : List Value) : Prop where
  a : w.ownsRow base e1 s1 v1 n1 x1
  b : w.ownsRow base e2 s2 v2 n2 x2
  ne : ∀ g, v1.ownBlock = some g → v2.ownBlock ≠ some g
theorem owns_later {w w' : World} {base : Nat} {e : TypeId} {s : Nat} {v : Value} {n : Nat} {x : List Value} (h : w.ownsRow base e s v n x) (hb : Below w.heap.size w w') : w'.ownsRow base e s v n x := by
  refine ⟨h.1, ?_⟩
  rcases h.2 with hn | ⟨g, cap, cur, rfl, hbg, hgg, rest⟩
  · exact .inl hn
  · exact .inr ⟨g, cap, cur, rfl, hbg, (hb.block g (Array.getElem?_eq_some_iff.1 hgg).1).trans hgg, rest⟩
section
variable {w w' : World} {base : Nat} {e1 : TypeId} {s1 : Nat} {v1 : Value} {n1 : Nat} {x1 : List Value} {e2 : TypeId} {s2 : Nat} {v2 : Value} {n2 : Nat} {x2 : List Value}
theorem Duo.symm (h : Duo w base e1 s1 v1 n1 x1 e2 s2 v2 n2 x2) : Duo w base e2 s2 v2 n2 x2 e1 s1 v1 n1 x1 := ⟨h.b, h.a, fun g h2 h1 => h.ne g h1 h2⟩
theorem Duo.later (h : Duo w base e1 s1 v1 n1 x1 e2 s2 v2 n2 x2) (hb : Below w.heap.size w w') : Duo w' base e1 s1 v1 n1 x1 e2 s2 v2 n2 x2 := ⟨owns_later h.a hb, owns_later h.b hb, h.ne⟩
theorem Duo.nil_ (w : World) (base : Nat) (e1 : TypeId) (s1 : Nat) (e2 : TypeId) (s2 : Nat) : Duo w base e1 s1 (.slice none 0 0) 0 [] e2 s2 (.slice none 0 0) 0 [] := ⟨World.ownsRow_nil _ _ _ _, World.ownsRow_nil _ _ _ _, fun g h => by simp [Value.ownBlock] at h⟩
theorem wp_append_duo {o : Oper} {a : Act} {K : Act → World → Prop} {Q : Exit → Act → World → Prop} (s x : Operand) (T : TypeId)
    (ho : o.op = .call { callee := .builtin .append, args := #[s, x], argTypes := #[T, T] })
    (ht : Tryz.prog.underlying T = some (.slice e1)) (i : TypeInfo) (z : Value) (bytes : Nat) (hi : Tryz.prog.info? e1 = some i) (hz : i.zero = some z) (hsize : i.size = s1) (hby : i.bytes = bytes) (hzs : z.cells.size = s1) (hsz : 0 < s1) (hby2 : bytes ≤ 1000)
    (hs : a.eval s = v1) (hT : Duo w base e1 s1 v1 n1 x1 e2 s2 v2 n2 x2)
    (ad : Addr) (c : Nat) (news : List Value) (hx : a.eval x = .slice (some ad) 1 c) (hl : news.length = s1) (hnews : ∀ j u, news[j]? = some u → w.cell? (ad.add j) = some u) (h1 : ∀ u ∈ news, u.oneCell' = true)
    (hbase : base ≤ w.heap.size) (hn : n1 ≤ 1000000)
    (h : ∀ v' w', Duo w' base e1 s1 v' (n1 + 1) (x1 ++ news) e2 s2 v2 n2 x2 → Below base w w' → (∀ g, g < w.heap.size → some g ≠ v1.ownBlock → w'.heap[g]? = w.heap[g]?) → w.heap.size ≤ w'.heap.size → (∀ g, v'.ownBlock = some g → v1.ownBlock = some g ∨ w.heap.size ≤ g) → K (a.put o.dst v') w') : o.wp Tryz.prog a w K Q := by
  have h1000 : (n1 + 1) * bytes ≤ (n1 + 1) * 1000 := Nat.mul_le_mul_left _ hby2
  refine wp_append_lies w s x T ho base e1 i z s1 bytes ht hi hz hsize hby hzs hsz _ _ _ hs hT.a ad 1 c news hx (by rw [hl, Nat.one_mul]) hnews h1 (by omega) (by simp [maxLen]; omega) (by omega) hbase _ rfl ?_
  intro g' cap w' hown' hg' hat hlt
  have hb : Below base w w' := (Below.refl _ _).grown hg' hbase (fun k hk => (World.ownsRow.lt hT.a k hk).1)
  refine h _ w' ⟨hown', World.ownsRow.kept hT.b hg' ?_, fun k hk h2 => ?_⟩ hb hg'.block hg'.size (fun k hk => ?_)
  · cases e : v2.ownBlock with
    | none => exact .inl rfl
    | some k => exact .inr (fun e1 => hT.ne k e1.symm e)
  · have e1 : g' = k := by simpa [Value.ownBlock] using hk
    subst e1
    rcases hat with h1 | h1
    · exact hT.ne _ h1 h2
    · have := (World.ownsRow.lt hT.b _ h2).2
      omega
  · have e1 : g' = k := by simpa [Value.ownBlock] using hk
    subst e1
    rcases hat with h1 | h1
    · exact .inl h1
    · exact .inr (by omega)
theorem wpList_append_duo {ops : Array Oper} {rest : List Oper} {o : Oper} {a : Act} {Q : Exit → Act → World → Prop} (hgd : o.guard = none) (s x : Operand) (T : TypeId)
    (ho : o.op = .call { callee := .builtin .append, args := #[s, x], argTypes := #[T, T] })
    (ht : Tryz.prog.underlying T = some (.slice e1)) (i : TypeInfo) (z : Value) (bytes : Nat) (hi : Tryz.prog.info? e1 = some i) (hz : i.zero = some z) (hsize : i.size = s1) (hby : i.bytes = bytes) (hzs : z.cells.size = s1) (hsz : 0 < s1) (hby2 : bytes ≤ 1000)
    (hs : a.eval s = v1) (hT : Duo w base e1 s1 v1 n1 x1 e2 s2 v2 n2 x2)
    (ad : Addr) (c : Nat) (news : List Value) (hx : a.eval x = .slice (some ad) 1 c) (hl : news.length = s1) (hnews : ∀ j u, news[j]? = some u → w.cell? (ad.add j) = some u) (h1 : ∀ u ∈ news, u.oneCell' = true)
    (hbase : base ≤ w.heap.size) (hn : n1 ≤ 1000000)
    (h : ∀ v' w', Duo w' base e1 s1 v' (n1 + 1) (x1 ++ news) e2 s2 v2 n2 x2 → Below base w w' → (∀ g, g < w.heap.size → some g ≠ v1.ownBlock → w'.heap[g]? = w.heap[g]?) → w.heap.size ≤ w'.heap.size → (∀ g, v'.ownBlock = some g → v1.ownBlock = some g ∨ w.heap.size ≤ g) → wpList Tryz.prog ops Q rest (a.put o.dst v') w') : wpList Tryz.prog ops Q (o :: rest) a w :=
  wpList_plain hgd fun _ hK => wp_append_duo s x T ho ht i z bytes hi hz hsize hby hzs hsz hby2 hs hT ad c news hx hl hnews h1 hbase hn fun v' w' h2 h3 h4 h5 h6 => hK _ _ (h v' w' h2 h3 h4 h5 h6)
/-- .. as a step -/
theorem step_append_duo {ops : Array Oper} {o : Oper} {a : Act} {K : Act → World → Prop} {Q : Exit → Act → World → Prop} {E : Prop} (hgd : o.guard = none) (s x : Operand) (T : TypeId)
    (ho : o.op = .call { callee := .builtin .append, args := #[s, x], argTypes := #[T, T] })
    (ht : Tryz.prog.underlying T = some (.slice e1)) (i : TypeInfo) (z : Value) (bytes : Nat) (hi : Tryz.prog.info? e1 = some i) (hz : i.zero = some z) (hsize : i.size = s1) (hby : i.bytes = bytes) (hzs : z.cells.size = s1) (hsz : 0 < s1) (hby2 : bytes ≤ 1000)
    (hs : a.eval s = v1) (hT : Duo w base e1 s1 v1 n1 x1 e2 s2 v2 n2 x2)
    (ad : Addr) (c : Nat) (news : List Value) (hx : a.eval x = .slice (some ad) 1 c) (hl : news.length = s1) (hnews : ∀ j u, news[j]? = some u → w.cell? (ad.add j) = some u) (h1 : ∀ u ∈ news, u.oneCell' = true)
    (hbase : base ≤ w.heap.size) (hn : n1 ≤ 1000000)
    (h : ∀ v' w', Duo w' base e1 s1 v' (n1 + 1) (x1 ++ news) e2 s2 v2 n2 x2 → Below base w w' → (∀ g, g < w.heap.size → some g ≠ v1.ownBlock → w'.heap[g]? = w.heap[g]?) → w.heap.size ≤ w'.heap.size → (∀ g, v'.ownBlock = some g → v1.ownBlock = some g ∨ w.heap.size ≤ g) → K (a.put o.dst v') w') : if Region.wanted o (yielded ops a.tmps) = true then Oper.wp Tryz.prog o a w K Q else E := by
  have hw : Region.wanted o (yielded ops a.tmps) = true := by simp [Region.wanted, hgd]
  rw [if_pos hw]
  exact wp_append_duo s x T ho ht i z bytes hi hz hsize hby hzs hsz hby2 hs hT ad c news hx hl hnews h1 hbase hn h
end
/-- a row whose elements are two cells: its cells, by number -/
theorem flat2_get {α : Type} (f g : α → Value) : ∀ (l : List α) (k : Nat) (h : k < l.length), (l.flatMap fun x => [f x, g x])[k * 2]? = some (f l[k]) ∧ (l.flatMap fun x => [f x, g x])[k * 2 + 1]? = some (g l[k])
  | a :: t, 0, _ => ⟨rfl, rfl⟩
  | a :: t, k + 1, h => by
    have := flat2_get f g t k (by simpa using h)
    rw [show (k + 1) * 2 = k * 2 + 1 + 1 by omega]
    exact this
/-- .. of one's own: where its cells lie -/
theorem owns2_cells {α : Type} (f g : α → Value) {w : World} {base : Nat} {e : TypeId} {v : Value} {n : Nat} {l : List α} (h : w.ownsRow base e 2 v n (l.flatMap fun x => [f x, g x])) (hn : l.length = n) :
    ∃ A cap, v = .slice A n cap ∧ n ≤ cap ∧ (A = none → cap = 0) ∧ ∀ k (hk : k < l.length), ∃ b, A = some ⟨b, 0, none⟩ ∧ base ≤ b ∧ b < w.heap.size ∧ w.cell? ⟨b, k * 2, none⟩ = some (f l[k]) ∧ w.cell? ⟨b, k * 2 + 1, none⟩ = some (g l[k]) := by
  have h0 := h
  rcases h.2 with ⟨rfl, hn0⟩ | ⟨b, cap, cur, rfl, hbg, hgg, hnc, rest⟩
  · exact ⟨none, 0, by rw [hn0], by omega, (fun _ => rfl), fun k hk => by omega⟩
  · refine ⟨_, cap, rfl, by omega, (fun e => by cases e), fun k hk => ⟨b, rfl, hbg, (Array.getElem?_eq_some_iff.1 hgg).1, ?_⟩⟩
    obtain ⟨f0, f1⟩ := flat2_get f g l k hk
    have c0 := World.ownsRow.cells h0 (g := b) rfl _ _ f0
    have c1 := World.ownsRow.cells h0 (g := b) rfl _ _ f1
    rw [add_none, Nat.zero_add] at c0 c1
    exact ⟨c0, c1⟩
theorem flat2_len {α : Type} (f g : α → Value) : ∀ l : List α, (l.flatMap fun x => [f x, g x]).length = l.length * 2
  | [] => rfl
  | a :: t => by
    have := flat2_len f g t
    rw [List.flatMap_cons, List.length_append, this, List.length_cons]
    simp
    omega
set_option maxRecDepth 100000 in
/-- append of what is read onto one's own row, elements of two cells -/
theorem wpList_append_src2 {α : Type} (f g : α → Value) {w : World} {ops : Array Oper} {rest : List Oper} {o : Oper} {a : Act} {Q : Exit → Act → World → Prop} (hgd : o.guard = none) (s x : Operand) (T e : TypeId)
    (ho : o.op = .call { callee := .builtin .append, args := #[s, x], argTypes := #[T, T] })
    (ht : Tryz.prog.underlying T = some (.slice e)) (i : TypeInfo) (z : Value) (bytes : Nat) (hi : Tryz.prog.info? e = some i) (hz : i.zero = some z) (hsize : i.size = 2) (hby : i.bytes = bytes) (hzs : z.cells.size = 2) (hby2 : bytes ≤ 1000)
    (base : Nat) (v0 : Value) (l0 : List α) (hs : a.eval s = v0) (hown : w.ownsRow base e 2 v0 l0.length (l0.flatMap fun x => [f x, g x])) (hbase : base ≤ w.heap.size)
    (A : Option Addr) (n cp : Nat) (l : List α) (hx : a.eval x = .slice A n cp) (hl : l.length = n) (hA : A = none → cp = 0) (hn : l0.length + n ≤ 1000000)
    (hS : ∀ k (hk : k < l.length), ∃ b o, A = some ⟨b, o, none⟩ ∧ w.cell? ⟨b, o + k * 2, none⟩ = some (f l[k]) ∧ w.cell? ⟨b, o + k * 2 + 1, none⟩ = some (g l[k]))
    (h1 : ∀ x ∈ l, (f x).oneCell' = true ∧ (g x).oneCell' = true)
    (h : ∀ v' w', w'.ownsRow base e 2 v' (l0.length + n) ((l0 ++ l).flatMap fun x => [f x, g x]) → w.grownBy w' v0.ownBlock → (v' = .slice none 0 0 → v0 = .slice none 0 0) → wpList Tryz.prog ops Q rest (a.put o.dst v') w') : wpList Tryz.prog ops Q (o :: rest) a w := by
  have h1000 : (l0.length + n) * bytes ≤ (l0.length + n) * 1000 := Nat.mul_le_mul_left _ hby2
  rcases A with _ | ad
  · have hn0 : n = 0 := by
      rcases Nat.eq_zero_or_pos n with e | e
      · exact e
      · obtain ⟨b, o, e', _⟩ := hS 0 (by omega)
        cases e'
    subst hn0
    have hcp := hA rfl
    subst hcp
    have hl0 : l = [] := List.eq_nil_of_length_eq_zero hl
    subst hl0
    have hrun := run_append_owned_none (P := Tryz.prog) (w := w) base T o.type e i 2 ht hi v0 l0.length (l0.flatMap fun x => [f x, g x]) hown
    refine wpList_plain hgd fun K hK => ?_
    unfold Oper.wp
    simp [execOp, ho, resolve, invoke, builtin, hs, hx, hrun, Result.andThen]
    exact hK _ _ (h v0 w (by rw [List.append_nil, Nat.add_zero]; exact hown) (World.grownBy.refl w _) id)
  · refine wpList_append_own w hgd s x T ho base e i z 2 bytes ht hi hz hsize hby hzs (by omega) v0 l0.length (l0.flatMap fun x => [f x, g x]) hs hown ad n cp (l.flatMap fun x => [f x, g x]) hx (by rw [flat2_len, hl]) (fun j u hu => ?_) (fun u hu => ?_) (by simp [maxLen]; omega) (by omega) hbase ?_
    · have hj : j < l.length * 2 := by
        have := (List.getElem?_eq_some_iff.1 hu).1
        rwa [flat2_len] at this
      obtain ⟨b, o, e, h0, h1⟩ := hS (j / 2) (by omega)
      obtain ⟨g0, g1⟩ := flat2_get f g l (j / 2) (by omega)
      injection e with e
      subst e
      rw [add_none]
      rcases Nat.mod_two_eq_zero_or_one j with hm | hm
      · have ej : j = j / 2 * 2 := by omega
        rw [ej, g0] at hu
        rw [ej]
        exact h0.trans hu
      · have ej : j = j / 2 * 2 + 1 := by omega
        rw [ej, g1] at hu
        rw [ej, ← Nat.add_assoc]
        exact h1.trans hu
    · simp only [List.mem_flatMap] at hu
      obtain ⟨t, ht, hu⟩ := hu
      simp at hu
      rcases hu with rfl | rfl
      · exact (h1 t ht).1
      · exact (h1 t ht).2
    · intro v' w' hown' hg' hiff
      refine h v' w' ?_ hg' (fun e => (hiff.1 e).1)
      rw [List.flatMap_append]
      exact hown'
/-- the second cell of one element, turned -/
theorem owns2_set {α : Type} (f g : α → Value) {w : World} {base : Nat} {e : TypeId} {b n cap : Nat} {l : List α} (h : w.ownsRow base e 2 (.slice (some ⟨b, 0, none⟩) n cap) n (l.flatMap fun x => [f x, g x])) (i : Nat) (y : α) (hi : i < l.length) (hf : f y = f l[i]) :
    (w.setCell ⟨b, i * 2 + 1, none⟩ (g y)).ownsRow base e 2 (.slice (some ⟨b, 0, none⟩) n cap) n ((l.set i y).flatMap fun x => [f x, g x]) := by
  have hset : (l.set i y).flatMap (fun x => [f x, g x]) = (l.flatMap fun x => [f x, g x]).set (i * 2 + 1) (g y) := by
    clear h
    induction l generalizing i with
    | nil => simp at hi
    | cons a t ih =>
      cases i with
      | zero =>
        simp only [List.getElem_cons_zero] at hf
        simp [hf]
      | succ i =>
        have := ih i (by simpa using hi) (by simpa using hf)
        rw [List.set_cons_succ, List.flatMap_cons, this, List.flatMap_cons, show (i + 1) * 2 + 1 = i * 2 + 1 + 1 + 1 by omega]
        rfl
  refine ⟨by rw [hset, List.length_set]; exact h.1, .inr ?_⟩
  rcases h.2 with ⟨e, _⟩ | ⟨b', cap', cur, e, hbg, hgg, h1, h2, h3, h4⟩
  · cases e
  · injection e with e1 e2 e3
    injection e1 with e1
    injection e1 with e1
    subst e1; subst e3
    refine ⟨b, cap, cur.setIfInBounds (i * 2 + 1) (g y), rfl, hbg, heap_setCell_row hgg _ _, h1, h2, by simpa using h3, ?_⟩
    rw [Array.toList_setIfInBounds, List.take_set, h4, hset]
end Go.Proofs.YtpinpnbhbngclaaGreat

/- All documents of any list, plainly, put in one by one; what the laws ask of what is found. -/
namespace Go.Proofs.YtpinpnbhbngclaaGreat
open Go.RowKit

theorem insD_new (d : Int) : ∀ (l : List Int) (a : Nat), a ≤ l.length → (∀ j (h : j < l.length), j < a → l[j] < d) → (∀ h : a < l.length, d < l[a]) → insD d l = l.take a ++ d :: l.drop a
  | [], a, h, _, _ => by
    have : a = 0 := by simpa using h
    subst this
    rfl
  | b :: t, 0, _, _, h2 => by
    have h := h2 (by simp)
    simp only [List.getElem_cons_zero] at h
    unfold insD
    rw [if_neg (by omega), if_neg (by omega)]
    rfl
  | b :: t, a + 1, h, h1, h2 => by
    have hb := h1 0 (by simp) (by omega)
    simp only [List.getElem_cons_zero] at hb
    unfold insD
    rw [if_pos hb, insD_new d t a (by simpa using h) (fun j hj ha => by have := h1 (j + 1) (by simpa using hj) (by omega); simpa using this) (fun ha => by have := h2 (by simpa using ha); simpa using this)]
    rfl
theorem insD_old (d : Int) : ∀ (l : List Int) (a : Nat) (h : a < l.length), (∀ j (h : j < l.length), j < a → l[j] < d) → l[a] = d → insD d l = l
  | b :: t, 0, _, _, h2 => by
    simp only [List.getElem_cons_zero] at h2
    unfold insD
    rw [if_neg (by omega), if_pos h2]
  | b :: t, a + 1, h, h1, h2 => by
    have hb := h1 0 (by simp) (by omega)
    simp only [List.getElem_cons_zero] at hb
    unfold insD
    rw [if_pos hb, insD_old d t a (by simpa using h) (fun j hj ha => by have := h1 (j + 1) (by simpa using hj) (by omega); simpa using this) (by simpa using h2)]
/-- put in one by one -/
def insAll (m : List Int) (o : List Int) : List Int := m.foldl (fun o d => insD d o) o
theorem docsR_is (rs : List (List (Int × Int) × Int)) : docsR rs = insAll (rs.flatMap fun x => x.1.map (·.1)) [] := by
  unfold docsR docsQ prtsR insAll
  rw [List.flatMap_map]
theorem docsR_next (rs : List (List (Int × Int) × Int)) (i : Nat) (h : i < rs.length) : docsR (rs.take (i + 1)) = insAll (rs[i].1.map (·.1)) (docsR (rs.take i)) := by
  rw [docsR_is, docsR_is, List.take_succ_eq_append_getElem h, List.flatMap_append]
  unfold insAll
  rw [List.foldl_append]
  simp
theorem insAll_next (l : List (Int × Int)) (o : List Int) (j : Nat) (h : j < l.length) : insAll ((l.take (j + 1)).map (·.1)) o = insD l[j].1 (insAll ((l.take j).map (·.1)) o) := by
  unfold insAll
  rw [List.take_succ_eq_append_getElem h, List.map_append, List.foldl_append]
  rfl
theorem insAll_len (m o : List Int) : (insAll m o).length ≤ m.length + o.length := fold_len m o
theorem flatR_len : ∀ rs : List (List (Int × Int) × Int), (∀ x ∈ rs, x.1.length ≤ 400) → (rs.flatMap fun x => x.1.map (·.1)).length ≤ 400 * rs.length
  | [], _ => by simp
  | x :: t, h => by
    have h1 := flatR_len t (fun y hy => h y (by simp [hy]))
    have h2 := h x (by simp)
    rw [List.flatMap_cons, List.length_append, List.length_map, List.length_cons]
    omega
theorem docsR_len {rs : List (List (Int × Int) × Int)} (h : ∀ x ∈ rs, x.1.length ≤ 400) : (docsR rs).length ≤ 400 * rs.length := by
  rw [docsR_is]
  have h1 := insAll_len (rs.flatMap fun x => x.1.map (·.1)) []
  have h2 := flatR_len rs h
  simp only [List.length_nil] at h1
  omega
end Go.Proofs.YtpinpnbhbngclaaGreat

/- What the laws ask of what is found, plainly: one out, twice the weights. -/
namespace Go.Proofs.YtpinpnbhbngclaaGreat
open Go.RowKit

/-! ### one out -/
theorem take_out {α : Type} (p : α → Bool) : ∀ (l : List α) (k : Nat), (l.filter fun x => !p x).length ≤ 1 → (((l.take (k + 1)).filter p).take k) = (l.filter p).take k
  | [], k, _ => by simp
  | a :: t, k, h => by
    cases hp : p a with
    | true =>
      cases k with
      | zero => simp
      | succ k =>
        have ih := take_out p t k (by simpa [List.filter_cons, hp] using h)
        rw [List.take_succ_cons, List.filter_cons_of_pos hp, List.filter_cons_of_pos hp, List.take_succ_cons, List.take_succ_cons, ih]
    | false =>
      have hn : (t.filter fun x => !p x).length = 0 := by
        rw [List.filter_cons_of_pos (by simp [hp])] at h
        simp only [List.length_cons] at h
        omega
      have hall : ∀ x ∈ t, p x = true := by
        have := List.eq_nil_of_length_eq_zero hn
        rw [List.filter_eq_nil_iff] at this
        intro x hx
        have := this x hx
        simpa using this
      rw [List.take_succ_cons, List.filter_cons_of_neg (by simp [hp]), List.filter_cons_of_neg (by simp [hp])]
      rw [List.filter_eq_self.2 (fun x hx => hall x (List.mem_of_mem_take hx)), List.filter_eq_self.2 hall, List.take_take, Nat.min_self]
theorem srt_filter (p : Int × Int → Bool) (l : List (Int × Int)) : TopM.srt (l.filter p) = (TopM.srt l).filter p :=
  TopM.srt_is ((TopM.srt_srt l).sublist List.filter_sublist) ((TopM.srt_perm l).filter p)
theorem best_out (p : Int × Int → Bool) (l : List (Int × Int)) (k : Nat) (h : (l.filter fun x => !p x).length ≤ 1) : TopM.best k (l.filter p) = ((TopM.best (k + 1) l).filter p).take k := by
  unfold TopM.best
  rw [srt_filter, take_out p _ k]
  rw [((TopM.srt_perm l).filter _).length_eq]
  exact h
theorem rising_one : ∀ (l : List Int), Rising l → ∀ e : Int, (l.filter fun d => d == e).length ≤ 1
  | [], _, _ => by simp
  | a :: t, h, e => by
    have ht := List.pairwise_cons.1 h
    by_cases c : a = e
    · rw [List.filter_cons_of_pos (by simpa using c)]
      have : t.filter (fun d => d == e) = [] := by
        rw [List.filter_eq_nil_iff]
        intro x hx
        have := ht.1 x hx
        simp
        omega
      rw [this]
      simp
    · rw [List.filter_cons_of_neg (by simpa using c)]
      exact rising_one t ht.2 e
/-- all but one -/
def notB (e : Int) (d : Int) : Bool := !(d == e)
theorem vl_out (dl : List Int) (sc : Int → Int) (D e : Int) : vl dl (notB e) sc D = (vl dl (fun _ => true) sc D).filter (fun p => notB e p.1) := by
  unfold vl
  rw [List.filter_map, List.filter_filter]
  congr 1
theorem found_out (k : Nat) (rs : List (List (Int × Int) × Int)) (e : Int) : foundR k rs (notB e) = ((foundR (k + 1) rs (fun _ => true)).filter (fun p => notB e p.1)).take k := by
  unfold foundR
  rw [vl_out, best_out]
  unfold vl
  rw [List.filter_map, List.length_map, List.filter_filter]
  have h1 := rising_one (docsR rs) (docsQ_rising _) e
  refine Nat.le_trans ?_ h1
  refine List.Sublist.length_le ?_
  have : (fun a => (((fun x : Int × Int => !notB e x.1) ∘ fun d => (d, scoreR rs d)) a && (true && decide (a < 2147483648)))) = fun a => (a == e) && decide (a < 2147483648) := by
    funext a
    simp [notB, Function.comp]
  rw [this]
  have h2 : (docsR rs).filter (fun a => (a == e) && decide (a < 2147483648)) = ((docsR rs).filter (fun a => a == e)).filter (fun a => decide (a < 2147483648)) := by
    rw [List.filter_filter]
    apply List.filter_congr
    intro x _
    rw [Bool.and_comm]
  rw [h2]
  exact List.filter_sublist
/-! ### twice the weights -/
def dbl (p : Int × Int) : Int × Int := (p.1, 2 * p.2)
theorem bet_dbl (a b : Int × Int) : TopM.bet (dbl a) (dbl b) = TopM.bet a b := by
  rw [Bool.eq_iff_iff, TopM.bet_iff, TopM.bet_iff]
  unfold dbl
  constructor <;> intro h <;> rcases h with h | h <;> first | (left; constructor <;> omega) | (right; omega)
theorem srt_dbl (l : List (Int × Int)) : TopM.srt (l.map dbl) = (TopM.srt l).map dbl := by
  refine TopM.srt_is ?_ ((TopM.srt_perm l).map dbl)
  have h := TopM.srt_srt l
  unfold TopM.Srt at h ⊢
  rw [List.pairwise_map]
  exact h.imp (fun {a b} hab => by rw [bet_dbl]; exact hab)
theorem best_dbl (k : Nat) (l : List (Int × Int)) : TopM.best k (l.map dbl) = (TopM.best k l).map dbl := by
  unfold TopM.best
  rw [srt_dbl, List.map_take]
/-- twice a part's weight -/
def twR (rs : List (List (Int × Int) × Int)) : List (List (Int × Int) × Int) := rs.map fun x => (x.1, 2 * x.2)
theorem sumL_dbl : ∀ l : List Int, sumL (l.map fun x => 2 * x) = 2 * sumL l
  | [] => rfl
  | a :: t => by
    have ih := sumL_dbl t
    have e1 := sumL_append [a] t
    have e2 := sumL_append [2 * a] (t.map fun x => 2 * x)
    rw [List.singleton_append] at e1 e2
    have e3 : sumL [a] = a := by simp [sumL]
    have e4 : sumL [2 * a] = 2 * a := by simp [sumL]
    rw [List.map_cons, e2, e1, ih, e3, e4]
    omega
theorem con_dbl (x : List (Int × Int) × Int) (d : Int) : con (prt (x.1, 2 * x.2)) d = 2 * con (prt x) d := by
  unfold con prt
  rw [← sumL_dbl, List.map_map]
  congr 1
  apply List.map_congr_left
  intro p _
  simp only [Function.comp]
  rw [Int.mul_assoc]
theorem scoreR_is (rs : List (List (Int × Int) × Int)) (d : Int) : scoreR rs d = sumL (rs.map fun x => con (prt x) d) := by
  unfold scoreR scoreQ prtsR
  rw [List.map_map]
  rfl
theorem scoreR_dbl (rs : List (List (Int × Int) × Int)) : scoreR (twR rs) = fun d => 2 * scoreR rs d := by
  funext d
  rw [scoreR_is, scoreR_is, ← sumL_dbl, twR, List.map_map, List.map_map]
  congr 1
  apply List.map_congr_left
  intro x _
  exact con_dbl x d
theorem docsR_dbl (rs : List (List (Int × Int) × Int)) : docsR (twR rs) = docsR rs := by
  rw [docsR_is, docsR_is, twR, List.flatMap_map]
theorem found_dbl (k : Nat) (rs : List (List (Int × Int) × Int)) (may : Int → Bool) : foundR k (twR rs) may = (foundR k rs may).map dbl := by
  unfold foundR
  rw [docsR_dbl, scoreR_dbl, ← best_dbl]
  congr 1
  unfold vl
  rw [List.map_map]
  rfl
/-! ### what is found: its scores, how many -/
theorem found_mem {k : Nat} {rs : List (List (Int × Int) × Int)} {may : Int → Bool} {p : Int × Int} (h : p ∈ foundR k rs may) : p.1 ∈ docsR rs ∧ p.2 = scoreR rs p.1 := by
  unfold foundR TopM.best at h
  have h2 := (TopM.srt_perm _).mem_iff.1 (List.mem_of_mem_take h)
  unfold vl at h2
  obtain ⟨d, hd, rfl⟩ := List.mem_map.1 h2
  exact ⟨(List.mem_filter.1 hd).1, rfl⟩
theorem mem_docsR {rs : List (List (Int × Int) × Int)} {d : Int} (h : d ∈ docsR rs) : ∃ x ∈ rs, ∃ p ∈ x.1, p.1 = d := by
  obtain ⟨x, hx, p, hp, e⟩ := (mem_docsQ (prtsR rs) d).1 h
  unfold prtsR at hx
  obtain ⟨y, hy, rfl⟩ := List.mem_map.1 hx
  exact ⟨y, hy, p, hp, e⟩
/-- a document of some list, of right parts, scores at least 1 -/
theorem scoreR_pos {rs : List (List (Int × Int) × Int)} (hg : ∀ x ∈ rs, GoodP (prt x)) {d : Int} (h : d ∈ docsR rs) : 1 ≤ scoreR rs d := by
  obtain ⟨x, hx, p, hp, e⟩ := mem_docsR h
  have := score_pos (ps := prtsR rs) (d := d) (fun y hy => by
    unfold prtsR at hy
    obtain ⟨z, hz, rfl⟩ := List.mem_map.1 hy
    exact hg z hz) ((mem_docsQ _ _).2 ⟨prt x, List.mem_map.2 ⟨x, hx, rfl⟩, p, hp, e⟩)
  exact this
theorem docsR_low {rs : List (List (Int × Int) × Int)} (hg : ∀ x ∈ rs, GoodP (prt x)) {d : Int} (h : d ∈ docsR rs) : d < 2147483648 := by
  obtain ⟨x, hx, p, hp, e⟩ := mem_docsR h
  have := (PostM.rgt_all (hg x hx).right) p hp
  omega
theorem vl_all {rs : List (List (Int × Int) × Int)} (hg : ∀ x ∈ rs, GoodP (prt x)) (may : Int → Bool) : vl (docsR rs) may (scoreR rs) 2147483648 = ((docsR rs).filter may).map (fun d => (d, scoreR rs d)) := by
  unfold vl
  congr 1
  apply List.filter_congr
  intro d hd
  rw [decide_eq_true (docsR_low hg hd), Bool.and_true]
theorem found_len (k : Nat) (rs : List (List (Int × Int) × Int)) (may : Int → Bool) : (foundR k rs may).length ≤ k := by
  unfold foundR
  rw [TopM.best_len]
  omega
end Go.Proofs.YtpinpnbhbngclaaGreat

/- The laws' helpers: few, but. -/
namespace Go.Proofs.YtpinpnbhbngclaaGreat
open Go.RowKit

/-! ### parts that came in -/
def RP (w : World) (A : Option Addr) (n : Nat) (rs : List (List (Int × Int) × Int)) : Prop :=
  rs.length = n ∧ ∀ k (h : k < rs.length), ∃ b o A2 c2, A = some ⟨b, o, none⟩ ∧ b < w.heap.size ∧ w.cell? ⟨b, o + k * 2, none⟩ = some (.slice A2 rs[k].1.length c2) ∧ w.cell? ⟨b, o + k * 2 + 1, none⟩ = some (.int .i64 rs[k].2) ∧ Prd w (.slice A2 rs[k].1.length c2) rs[k].1
theorem RP.later {w w' : World} {A : Option Addr} {n : Nat} {rs : List (List (Int × Int) × Int)} (h : RP w A n rs) (hb : Below w.heap.size w w') : RP w' A n rs :=
  ⟨h.1, fun k hk => by
    obtain ⟨b, o, A2, c2, e, hl, h0, h1, h2⟩ := h.2 k hk
    exact ⟨b, o, A2, c2, e, Nat.lt_of_lt_of_le hl hb.size, (hb.cell (p := ⟨b, o + k * 2, none⟩) hl).trans h0, (hb.cell (p := ⟨b, o + k * 2 + 1, none⟩) hl).trans h1, h2.later hb⟩⟩
/-! ### few -/
def lenS (rs : List (List (Int × Int) × Int)) : Nat := (rs.map fun x => x.1.length).sum
def few6 (rs : List (List (Int × Int) × Int)) : Bool := decide (rs.length ≤ 70) && decide (lenS rs ≤ 400)
theorem lenS_next (rs : List (List (Int × Int) × Int)) (k : Nat) (h : k < rs.length) : lenS (rs.take (k + 1)) = lenS (rs.take k) + rs[k].1.length := by
  unfold lenS
  rw [List.take_succ_eq_append_getElem h, List.map_append, List.sum_append]
  simp
theorem lenS_take (rs : List (List (Int × Int) × Int)) (k : Nat) : lenS (rs.take k) ≤ lenS rs := by
  have h := List.take_append_drop k rs
  have : lenS rs = lenS (rs.take k) + lenS (rs.drop k) := by
    conv => lhs; rw [← h]
    unfold lenS
    rw [List.map_append, List.sum_append]
  omega
theorem lenS_mem {rs : List (List (Int × Int) × Int)} {x : List (Int × Int) × Int} (h : x ∈ rs) : x.1.length ≤ lenS rs := by
  obtain ⟨a, b, rfl⟩ := List.append_of_mem h
  unfold lenS
  rw [List.map_append, List.sum_append, List.map_cons, List.sum_cons]
  omega
theorem few6_parts {rs : List (List (Int × Int) × Int)} (h : few6 rs = true) : rs.length ≤ 70 ∧ ∀ x ∈ rs, x.1.length ≤ 400 := by
  unfold few6 at h
  rw [Bool.and_eq_true, decide_eq_true_eq, decide_eq_true_eq] at h
  exact ⟨h.1, fun x hx => Nat.le_trans (lenS_mem hx) h.2⟩
theorem few6_no {rs : List (List (Int × Int) × Int)} {k : Nat} (h : k < rs.length) (hk : 70 ≤ k ∨ 400 < lenS (rs.take (k + 1))) : few6 rs = false := by
  unfold few6
  rcases hk with e | e
  · rw [decide_eq_false (show ¬ rs.length ≤ 70 by omega)]; rfl
  · have := lenS_take rs (k + 1)
    rw [decide_eq_false (show ¬ lenS rs ≤ 400 by omega)]; simp
set_option maxHeartbeats 1000000 in
set_option maxRecDepth 100000 in
theorem few6_any (A : Option Addr) (n cp : Nat) (rs : List (List (Int × Int) × Int)) (w : World) (h : RP w A n rs) (hsh : ∀ x ∈ rs, x.1.length ≤ 9000000000000000000) :
    Calls Tryz.prog 7 #[.slice A n cp] w fun e w' => e = .returned (.bool (few6 rs)) ∧ w = w' := by
  have H := Lib.hid h
  have HL := Lib.hid h.1
  have HSH := Lib.hid hsh
  clear h hsh
  go_enter Tryz.func7, Tryz.ntmps7
  go_wp2
  go_loop [4, 3] (fun x y => ∃ (k : Nat) (M : Int), x = .int .i64 k ∧ k ≤ n ∧ k ≤ 70 ∧ y = .int .i64 M ∧ M = (lenS (rs.take k) : Nat) ∧ 0 ≤ M ∧ M ≤ 400) (fun x _ => 71 - (intOf x).toNat)
  case atStart => exact ⟨0, 0, rfl, by omega, by omega, rfl, by simp [lenS], by omega, by omega⟩
  case round =>
    obtain ⟨k, M, rfl, hk, hk70, rfl, hM, hM0, hM1⟩ := hrel
    by_cases hlt : k < n
    · have hmi : (k : Int) < (n : Int) := by omega
      have hkl : k < rs.length := by rw [HL.out]; exact hlt
      obtain ⟨b, o, A2, c2, rfl, hbl, hc0, hc1, hP⟩ := H.out.2 k hkl
      have hnx := lenS_next rs k hkl
      have hs := HSH.out _ (List.getElem_mem hkl)
      obtain ⟨m, hmE⟩ : ∃ m, m = rs[k].1.length := ⟨_, rfl⟩
      rw [← hmE] at hc0 hnx hs
      obtain ⟨N, hN⟩ : ∃ N, N = M + (m : Int) := ⟨_, rfl⟩
      have HN : Hid (N = (lenS (rs.take (k + 1)) : Nat)) := Lib.hid (by omega)
      have hN1 : M + (m : Int) = N := hN.symm
      have hN2 : N ≤ 9000000000000000400 := by omega
      have hN3 : (0 : Int) ≤ N := by omega
      clear hP hmE hM hnx hc1 hN hs
      by_cases h1 : 70 ≤ k
      · have hd : decide ((70 : Int) ≤ (k : Int)) = true := decide_eq_true (by omega)
        have HF : Hid (few6 rs = false) := Lib.hid (few6_no hkl (.inl h1))
        go_wp2
        go_ret
        exact ⟨by rw [HF.out]; rfl, rfl⟩
      · have hd : decide ((70 : Int) ≤ (k : Int)) = false := decide_eq_false (by omega)
        by_cases h2 : 400 < N
        · have hd2 : decide ((400 : Int) < N) = true := decide_eq_true (by omega)
          have HF : Hid (few6 rs = false) := Lib.hid (few6_no hkl (.inr (by have := HN.out; omega)))
          go_wp2
          go_ret
          exact ⟨by rw [HF.out]; rfl, rfl⟩
        · have hd2 : decide ((400 : Int) < N) = false := decide_eq_false (by omega)
          go_wp2
          go_round
          case rel => exact ⟨k + 1, N, by go_num, by omega, by omega, rfl, HN.out, by omega, by omega⟩
          case measure => simp [intOf]; omega
    · have hmi : ¬ (k : Int) < (n : Int) := by omega
      obtain rfl : k = n := by omega
      have HF : Hid (few6 rs = true) := Lib.hid (by
        rw [List.take_of_length_le (by rw [HL.out]; exact Nat.le_refl _)] at hM
        unfold few6
        rw [decide_eq_true (show lenS rs ≤ 400 by omega), decide_eq_true (by rw [HL.out]; exact hk70)]
        rfl)
      clear hM
      go_wp2
      go_ret
      exact ⟨by rw [HF.out]; rfl, rfl⟩
/-! ### but: all documents but some -/
def but6 (l : List Int) (d : Int) : Bool := l.all fun x => !(x == d)
set_option maxHeartbeats 1000000 in
set_option maxRecDepth 100000 in
theorem but6fun_any (B : Nat) (A : Option Addr) (n cp : Nat) (l : List Int) (d : Int) (w : World) (h : Ivs w A n l) (hB : w.cell? ⟨B, 0, none⟩ = some (.slice A n cp)) (hn : n ≤ 1000000) :
    Calls Tryz.prog 29 #[.int .i64 d, .pointer (some ⟨B, 0, none⟩)] w fun e w' => e = .returned (.bool (but6 l d)) ∧ w = w' := by
  have H := Lib.hid h
  have HL := Lib.hid h.1
  clear h
  go_enter Tryz.func29, Tryz.ntmps29
  go_wp2
  go_loop [4] (fun x => ∃ k : Nat, x = .int .i64 k ∧ k ≤ n ∧ (l.take k).all (fun x => !(x == d)) = true) (fun x => n - (intOf x).toNat)
  case atStart => exact ⟨0, rfl, by omega, rfl⟩
  case round =>
    obtain ⟨k, rfl, hk, hall⟩ := hrel
    have HA := Lib.hid hall
    clear hall
    by_cases hlt : k < n
    · have hmi : (k : Int) < (n : Int) := by omega
      have hkl : k < l.length := by rw [HL.out]; exact hlt
      obtain ⟨b, o, rfl, hbl, hc⟩ := H.out.2 k hkl
      obtain ⟨x, hx⟩ : ∃ x, x = l[k] := ⟨_, rfl⟩
      rw [← hx] at hc
      have HX := Lib.hid hx
      clear hx
      by_cases h1 : x = d
      · have hd : (x == d) = true := by simpa using h1
        have hd2 : decide (x = d) = true := decide_eq_true h1
        have HF : Hid (but6 l d = false) := Lib.hid (List.all_eq_false.2 ⟨_, List.getElem_mem hkl, by rw [← HX.out, hd]; simp⟩)
        clear h1
        go_wp2
        go_ret
        exact ⟨by rw [HF.out]; rfl, rfl⟩
      · have hd : (x == d) = false := by simpa using h1
        have hd2 : decide (x = d) = false := decide_eq_false h1
        have HN : Hid ((l.take (k + 1)).all (fun x => !(x == d)) = true) := Lib.hid (by
          rw [List.take_succ_eq_append_getElem hkl, List.all_append, HA.out, ← HX.out]
          simp [hd])
        go_wp2
        go_round
        case rel => exact ⟨k + 1, by go_num, by omega, HN.out⟩
        case measure => simp [intOf]; omega
    · have hmi : ¬ (k : Int) < (n : Int) := by omega
      obtain rfl : k = n := by omega
      have HF : Hid (but6 l d = true) := Lib.hid (by
        have := HA.out
        rw [List.take_of_length_le (by rw [HL.out]; exact Nat.le_refl _)] at this
        exact this)
      go_wp2
      go_ret
      exact ⟨by rw [HF.out]; rfl, rfl⟩
set_option maxHeartbeats 1000000 in
set_option maxRecDepth 100000 in
theorem but6_any (A : Option Addr) (n cp : Nat) (l : List Int) (w : World) (h : Ivs w A n l) (hn : n ≤ 1000000) :
    Calls Tryz.prog 11 #[.slice A n cp] w fun e w' => ∃ v, e = .returned v ∧ MayIs w' v (but6 l) ∧ Below w.heap.size w w' := by
  have H := Lib.hid h
  clear h
  have hbl := heap_alloc_new w (.cells #[.slice A n cp] 23)
  have hM : MayIs (w.alloc (.cells #[.slice A n cp] 23)) (.func (.func 29) #[] #[.pointer (some ⟨w.heap.size, 0, none⟩)]) (but6 l) := by
    refine ⟨_, _, rfl, enters_of Tryz.func29 (by kernel_rfl) rfl, fun W hW d => ?_⟩
    have hb := cell_of_cells (i := 0) (blk_stay hW hbl) rfl
    exact (but6fun_any w.heap.size A n cp l d W ((H.out.later (pl1 w _)).later hW) hb hn).mono (fun e w' ⟨he, hw⟩ => ⟨he, by rw [hw]; exact Below.refl _ _⟩)
  have HM := Lib.hid hM
  clear hM hbl
  go_enter Tryz.func11, Tryz.ntmps11
  go_wp2
  go_ret
  exact ⟨_, rfl, HM.out, pl1 _ _⟩
end Go.Proofs.YtpinpnbhbngclaaGreat

/- Slices of ints that came in, as the walks take them. -/
namespace Go.Proofs.YtpinpnbhbngclaaGreat
open Go.ChangeShapes Go.WideShapes Go.ChangeAt Go.RowKit

theorem cells_int7 : Tryz.prog.cellsOf 3 = 1 := by kernel_rfl
theorem cells_ints7 : Tryz.prog.cellsOf 23 = 1 := by kernel_rfl
set_option maxRecDepth 100000 in
theorem ivs_of_trod0 {H : Type} {enc : TypeId × Value → H} {W : World} {fuel : Nat} {cs : List Value} {x : DataW H × List MemPlace} (hf : DataW.trod enc Tryz.prog W 0 (fun _ => true) true fuel 23 cs = some x) :
    ∃ A n cp l, cs = [.slice A n cp] ∧ Ivs W A n l := by
  rcases open_ints Tryz.underlying23 Tryz.underlying3 cells_int7 hf with ⟨hcs, _⟩ | ⟨a, len, cap, zs, hcs, _, hl, _, hz, hx, hcell, hwf⟩
  · exact ⟨none, 0, 0, [], hcs, rfl, fun k hk => by simp at hk⟩
  · simp only [if_true] at hz
    refine ⟨some a, len, cap, zs.take len, hcs, by rw [List.length_take]; omega, fun k hk => ?_⟩
    have hk' : k < len := by rw [List.length_take] at hk; omega
    have hc := hcell k (by omega)
    have h00 := hcell 0 (by omega)
    obtain ⟨b, o, spot⟩ := a
    have hspot : spot = none := by simpa [Addr.add] using World.cell?_spot h00
    subst hspot
    rw [add_none] at hc
    refine ⟨b, o, rfl, World.block_lt_of_cell? W _ hc, ?_⟩
    rw [hc]
    have hss : k < zs.length := by omega
    simp [List.getD, hss]
set_option maxRecDepth 100000 in
theorem ivs_of_trod {H : Type} {enc : TypeId × Value → H} {W : World} {v : Value} {d : DataW H} {ps : List MemPlace} {base : Nat} (hv : Value.okWide Tryz.prog W .any base 23 v)
    (h : DataW.Trod enc Tryz.prog W 0 (fun _ => true) true 23 v d ps) : ∃ A n cp l, v = .slice A n cp ∧ Ivs W A n l := by
  obtain ⟨a0, len, cap, rfl⟩ := okWide_slice Tryz.underlying23 hv
  obtain ⟨fuel, hf⟩ := h
  obtain ⟨A, n, cp, l, hcs, hI⟩ := ivs_of_trod0 hf
  have e : a0 = A ∧ len = n ∧ cap = cp := by simpa [Value.cells] using hcs
  obtain ⟨rfl, rfl, rfl⟩ := e
  exact ⟨a0, len, cap, l, rfl, hI⟩
end Go.Proofs.YtpinpnbhbngclaaGreat
