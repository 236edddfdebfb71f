/- Own texts, merged (4 of 5). -/
import Derived.ArgAppend
import Derived.Test.YtneofgaklofigaaMgO3

/- What a map of values reads as; what a list adds. -/
namespace Go.Proofs.Ytneofgaklofigaa.Fu
open Go.RowKit Go.Proofs.Ytneofgaklofigaa FuM Go.Maps

/-- a rational, as a datum; a value that reads so -/
def ratD (p : Int × Int) : MD := .agg [.lit (.int .i64 p.1), .lit (.int .i64 p.2)]
def ratElem (v : Value) : Option (MD × List MemPlace) :=
  match v with
  | .agg cs => match cs.toList with
    | [.int .i64 a, .int .i64 b] => some (ratD (a, b), [])
    | _ => none
  | _ => none
theorem ratElem_mk (p : Int × Int) : ratElem (rv p) = some (ratD p, []) := rfl
theorem ratElem_inv {v : Value} {y : MD × List MemPlace} (h : ratElem v = some y) : ∃ p, v = rv p ∧ y = (ratD p, []) := by
  unfold ratElem at h
  split at h
  · rename_i cs
    split at h
    · rename_i a b he
      injection h with h
      refine ⟨(a, b), ?_, h.symm⟩
      unfold rv
      rw [show cs = #[.int .i64 a, .int .i64 b] from by
        cases cs
        simp at he
        simp [he]]
    · cases h
  · cases h
theorem ratD_inj {p q : Int × Int} (h : ratD p = ratD q) : p = q := by
  unfold ratD at h
  injection h with h
  injection h with h1 h
  injection h with h2 _
  injection h1 with h1
  injection h2 with h2
  injection h1 with _ h1
  injection h2 with _ h2
  exact Prod.ext h1 h2
abbrev VM := Int → Option (Int × Int)
/-- the map's datum D is the values M -/
structure Rep (D : MD) (M : VM) : Prop where
  map : IsMap D
  has : ∀ d, Maps.has D (keyL d) = (M d).isSome
  at_ : ∀ d p, M d = some p → ∀ z, D.atKey (keyL d) z = ratD p
theorem Rep.none_ : Rep (.map [] : MD) (fun _ => none) := ⟨⟨[], rfl⟩, fun _ => rfl, fun d p h => by cases h⟩
def upd (M : VM) (d : Int) (p : Int × Int) : VM := fun e => if e = d then some p else M e
theorem Rep.put {D : MD} {M : VM} (h : Rep D M) (d : Int) (p : Int × Int) : Rep (D.put (keyL d) (ratD p)) (upd M d p) := by
  refine ⟨h.map.put _ _, fun e => ?_, fun e q hq z => ?_⟩
  · unfold upd
    by_cases c : e = d
    · subst c
      rw [if_pos rfl, has_put_same h.map (show WideAt.IsKeyLit (keyL e) from trivial)]
      rfl
    · rw [if_neg c, has_put_other (keyL_ne c)]
      exact h.has e
  · unfold upd at hq
    by_cases c : e = d
    · subst c
      rw [if_pos rfl] at hq
      injection hq with hq
      subst hq
      exact atKey_put_same h.map (show WideAt.IsKeyLit (keyL e) from trivial) _ _
    · rw [if_neg c] at hq
      rw [atKey_put_other (keyL_ne c)]
      exact h.at_ e q hq z
theorem Rep.cong {D : MD} {M M' : VM} (h : Rep D M) (e : ∀ d, M d = M' d) : Rep D M' := by
  have : M = M' := funext e
  rw [← this]
  exact h
/-- what a list gives a document -/
def vOf (f : Nat → Int → Int × Int) : Nat → List (Int × Int) → Int → Option (Int × Int)
  | _, [], _ => none
  | i, x :: t, d => if x.1 = d then some (f (i + 1) x.2) else vOf f (i + 1) t d
theorem vOf_snoc (f : Nat → Int → Int × Int) (x : Int × Int) (d : Int) : ∀ (l : List (Int × Int)) (i : Nat), vOf f i (l ++ [x]) d = match vOf f i l d with
    | some a => some a
    | none => if x.1 = d then some (f (i + l.length + 1) x.2) else none
  | [], i => by simp [vOf]
  | a :: t, i => by
    rw [List.cons_append, vOf, vOf]
    by_cases c : a.1 = d
    · rw [if_pos c, if_pos c]
    · rw [if_neg c, if_neg c, vOf_snoc f x d t (i + 1), List.length_cons, show i + 1 + t.length = i + (t.length + 1) by omega]
theorem vOf_none (f : Nat → Int → Int × Int) (d : Int) : ∀ (l : List (Int × Int)) (i : Nat), vOf f i l d = none ↔ d ∉ l.map (·.1)
  | [], i => by simp [vOf]
  | a :: t, i => by
    have ih := vOf_none f d t (i + 1)
    rw [vOf]
    by_cases c : a.1 = d
    · rw [if_pos c]
      simp [c]
    · rw [if_neg c, ih]
      simp
      intro h e
      exact c e.symm
/-- in the list, at its place -/
theorem vOf_at (f : Nat → Int → Int × Int) (d : Int) : ∀ (l : List (Int × Int)) (i : Nat) (v : Int × Int), vOf f i l d = some v → ∃ k, ∃ h : k < l.length, l[k].1 = d ∧ v = f (i + k + 1) l[k].2
  | [], i, v, h => by cases h
  | a :: t, i, v, h => by
    rw [vOf] at h
    by_cases c : a.1 = d
    · rw [if_pos c] at h
      injection h with h
      exact ⟨0, by simp, c, h.symm⟩
    · rw [if_neg c] at h
      obtain ⟨k, hk, h1, h2⟩ := vOf_at f d t (i + 1) v h
      exact ⟨k + 1, by simpa using hk, by simpa using h1, by rw [h2]; simp; congr 1; omega⟩
/-- a value, and what a list adds to it -/
def comb : Option (Int × Int) → Option (Int × Int) → Option (Int × Int)
  | a, none => a
  | none, some b => some b
  | some a, some b => some (sumV a b)
/-- the values behind the first k documents of l -/
def addM (f : Nat → Int → Int × Int) (l : List (Int × Int)) (M : VM) (k : Nat) : VM := fun d => comb (M d) (vOf f 0 (l.take k) d)
theorem addM_zero (f : Nat → Int → Int × Int) (l : List (Int × Int)) (M : VM) : addM f l M 0 = M := by
  funext d
  unfold addM
  rw [List.take_zero]
  unfold vOf comb
  cases M d <;> rfl
theorem not_before {l : List (Int × Int)} (hn : (l.map (·.1)).Nodup) {k : Nat} (h : k < l.length) : l[k].1 ∉ (l.take k).map (·.1) := by
  have e : (l.take k).map (·.1) ++ (l.drop k).map (·.1) = l.map (·.1) := by rw [← List.map_append, List.take_append_drop]
  rw [← e, List.nodup_append] at hn
  intro hm
  exact hn.2.2 _ hm l[k].1 (List.mem_map.2 ⟨l[k], by rw [List.drop_eq_getElem_cons h]; exact List.mem_cons_self, rfl⟩) rfl
theorem addM_at (f : Nat → Int → Int × Int) {l : List (Int × Int)} (hn : (l.map (·.1)).Nodup) (M : VM) {k : Nat} (h : k < l.length) : addM f l M k l[k].1 = M l[k].1 := by
  unfold addM
  rw [(vOf_none f _ _ 0).2 (not_before hn h)]
  cases M l[k].1 <;> rfl
theorem addM_next (f : Nat → Int → Int × Int) {l : List (Int × Int)} (hn : (l.map (·.1)).Nodup) (M : VM) {k : Nat} (h : k < l.length) :
    addM f l M (k + 1) = upd (addM f l M k) l[k].1 (match M l[k].1 with | some b => sumV b (f (k + 1) l[k].2) | none => f (k + 1) l[k].2) := by
  funext d
  unfold upd
  have hs := vOf_snoc f l[k] d (l.take k) 0
  rw [← List.take_succ_eq_append_getElem h, List.length_take, Nat.zero_add, show min k l.length = k by omega] at hs
  by_cases c : d = l[k].1
  · rw [if_pos c]
    unfold addM
    rw [hs, c, (vOf_none f _ _ 0).2 (not_before hn h)]
    simp only [if_true]
    cases M l[k].1 <;> rfl
  · rw [if_neg c]
    unfold addM
    rw [hs]
    cases vOf f 0 (l.take k) d with
    | some a => rfl
    | none => rw [if_neg (fun e => c e.symm)]
end Go.Proofs.Ytneofgaklofigaa.Fu

/- What a list adds, walked. -/
namespace Go.Proofs.Ytneofgaklofigaa.Fu
open Go.RowKit Go.Proofs.Ytneofgaklofigaa FuM Go.Maps

theorem grown_of {w w' : World} (h : Below w.heap.size w w') : w.grownBy w' none := ⟨h.os, h.tape, h.output, h.size, fun k hk _ => h.block k hk⟩
abbrev Own (w : World) (b n : Nat) (D : MD) : Prop := w.ownsMap Try.prog 3 ratElem b n D
theorem Own.later {w w' : World} {b n : Nat} {D : MD} (h : Own w b n D) (hb : Below w.heap.size w w') : Own w' b n D := h.kept (grown_of hb) (by simp)
theorem rat_zero (w : World) : (zeroValue 33).run Try.prog w = .ok (rv (0, 0)) w := by kernel_rfl
theorem wpList_lookup_rat {w : World} {ops : Array Oper} {rest : List Oper} {o : Oper} {a : Act} {Q : Exit → Act → World → Prop} (hg : o.guard = none) (m x : Operand) (hop : o.op = Op.lookup 49 m x true)
    (b n : Nat) (D : MD) (M : VM) (hm : a.eval m = .map (some b)) (hown : Own w b n D) (hr : Rep D M) (d : Int) (hx : a.eval x = .int .i64 d) (hkey : keyOf Try.prog 3 (.int .i64 d) = some (keyL d)) (q : Option (Int × Int)) (hq : M d = q)
    (hK : wpList Try.prog ops Q rest (a.put o.dst (.tuple #[.agg #[.int .i64 (q.getD (0, 0)).1, .int .i64 (q.getD (0, 0)).2], .bool q.isSome])) w) : wpList Try.prog ops Q (o :: rest) a w := by
  refine wpList_lookup_own_ok w hg m x 49 hop 3 33 key_law Try.underlying49 ratElem (rat_zero w) (ratD (0, 0)) [] rfl b n D hm hown _ (keyL d) hx hkey ?_
  intro v ps hv
  rw [hr.has d, hq]
  obtain ⟨p, rfl, hp⟩ := ratElem_inv hv
  injection hp with hp _
  have e : p = q.getD (0, 0) := by
    apply ratD_inj
    rw [← hp]
    cases q with
    | none =>
      have hn : Maps.has D (keyL d) = false := by rw [hr.has d, hq]; rfl
      rw [atKey_of_not_has hn]
      rfl
    | some r => exact hr.at_ d r hq _
  rw [e]
  exact hK
/-- what a closure of a list's adding does -/
def AddC (W0 : World) (b : Nat) (av : Value) (f : Nat → Int → Int × Int) (l : List (Int × Int)) : Prop :=
  ∃ F B, av = .func (.func F) #[] B ∧ (∀ args w, (callFunc F args).run Try.prog w = .ok (.enter F args) w) ∧ ∀ W, Turned (fun k => k = b) W0 W → ∀ k (h : k < l.length), Calls Try.prog F (#[.int .i64 ((k : Int) + 1), .int .i64 l[k].2] ++ B) W fun e w' => e = .returned (rv (f (k + 1) l[k].2)) ∧ Below W.heap.size W w'
theorem AddC.later {W0 W1 : World} {b : Nat} {av : Value} {f : Nat → Int → Int × Int} {l : List (Int × Int)} (h : AddC W0 b av f l) (hT : Turned (fun k => k = b) W0 W1) : AddC W1 b av f l := by
  obtain ⟨F, B, e, eg, hc⟩ := h
  exact ⟨F, B, e, eg, fun W hW => hc W (hT.trans hW)⟩
set_option maxHeartbeats 8000000 in
set_option maxRecDepth 100000 in
theorem fadd_any (A : Option Addr) (n cp b nn : Nat) (D : MD) (M : VM) (av : Value) (f : Nat → Int → Int × Int) (l : List (Int × Int)) (w : World) (h : Pairs w A n l) (hi : I2 l) (hn : n ≤ 1000) (hnd : (l.map (·.1)).Nodup) (hA : 0 < l.length → ∀ ad, A = some ad → ad.block ≠ b)
    (hown : Own w b nn D) (hrep : Rep D M) (hnn : nn ≤ 1000000) (hc : AddC w b av f l) (hf : ∀ k (h : k < l.length), R64 (f (k + 1) l[k].2)) (hM : ∀ d p, M d = some p → R64 p) :
    Calls Try.prog 16 #[.map (some b), .slice A n cp, av] w fun e w' => e = .returned (.tuple #[]) ∧ ∃ D', Own w' b (nn + n) D' ∧ Rep D' (addM f l M l.length) ∧ Turned (fun k => k = b) w w' := by
  obtain ⟨F, B, rfl, eg, hcall⟩ := hc
  have H := Lib.hid h
  have HL := Lib.hid h.1
  have HI := Lib.hid hi
  have HA := Lib.hid hA
  have HCA := Lib.hid hcall
  have HFR := Lib.hid hf
  have HMR := Lib.hid hM
  have hbw := hown.lt
  have HBW := Lib.hid hbw
  clear h hi hA hcall hf hM
  go_enter Try.func16, Try.ntmps16
  go_wp2
  go_loopw [13] (fun x wr => ∃ (i : Nat) (Di : MD), x = .int .i64 i ∧ i ≤ n ∧ Own wr b (nn + i) Di ∧ Rep Di (addM f l M i) ∧ Turned (fun k => k = b) w wr) (fun x _ => n - (intOf x).toNat)
  case atStart => exact ⟨0, D, rfl, by omega, hown, by rw [addM_zero]; exact hrep, Turned.refl _ _⟩
  case round =>
    obtain ⟨i, Di, rfl, hin, hO, hR, hT⟩ := hrel
    by_cases hlt : i < n
    · have hmi : (i : Int) < (n : Int) := by omega
      have hil : i < l.length := by rw [HL.out]; exact hlt
      obtain ⟨lb, lo, rfl, hbl, q0, q1⟩ := H.out.2 i hil
      have hne := HA.out (Nat.lt_of_le_of_lt (Nat.zero_le _) hil) _ rfl
      simp only at hne
      have hix := HI.out _ (List.getElem_mem hil)
      have hnx := addM_next f hnd M hil
      have hat := addM_at f hnd M hil
      have hfr := HFR.out i hil
      have p0 := (hT.cell (p := ⟨lb, lo + i * 2, none⟩) hbl hne).trans q0
      have p1 := (hT.cell (p := ⟨lb, lo + i * 2 + 1, none⟩) hbl hne).trans q1
      have hcl := HCA.out (wr.alloc (.cells #[.int .i64 l[i].1, .int .i64 l[i].2] 37)) (hT.alloc _) i hil
      obtain ⟨⟨d, s⟩, hds⟩ : ∃ x, x = l[i] := ⟨_, rfl⟩
      rw [← hds] at p0 p1 hix hnx hat hfr hcl
      simp only at p0 p1 hix hnx hat hfr hcl
      obtain ⟨v, hv⟩ : ∃ v, v = f (i + 1) s := ⟨_, rfl⟩
      rw [← hv] at hnx hfr hcl
      obtain ⟨q, hq⟩ : ∃ q, q = M d := ⟨_, rfl⟩
      rw [← hq] at hnx hat
      have HQR : Hid (∀ p, q = some p → R64 p) := Lib.hid (fun p hp => HMR.out d p (by rw [← hq]; exact hp))
      have hkey := key_is (d := d) hix.1
      have HCL := Lib.hid hcl
      have HO1 := Lib.hid (hO.later (pl1 wr (.cells #[.int .i64 d, .int .i64 s] 37)))
      have HT1 := Lib.hid (hT.alloc (.cells #[.int .i64 d, .int .i64 s] 37))
      have hX0 := cell_of_cells (i := 0) (heap_alloc_new wr (.cells #[.int .i64 d, .int .i64 s] 37)) rfl
      have HX0 := Lib.hid hX0
      have HR := Lib.hid hR
      have HNX := Lib.hid hnx
      have HAT := Lib.hid hat
      have hXs : wr.heap.size < (wr.alloc (.cells #[.int .i64 d, .int .i64 s] 37)).heap.size := by simp
      clear hO hR hT hnx hat hcl hds hv hq q0 q1 hX0 hix
      go_wp2_with fail
      refine HCL.out.mono ?_
      rintro e w2 ⟨rfl, hb2⟩
      have y0 := (hb2.cell (p := ⟨wr.heap.size, 0, none⟩) hXs).trans HX0.out
      obtain ⟨v1, v2⟩ := v
      unfold rv
      have HB2 := Lib.hid hb2
      have HO2 := Lib.hid (HO1.out.later hb2)
      have HT2 := Lib.hid (HT1.out.on hb2)
      clear hb2 hXs
      have HO3 := Lib.hid (HO2.out.later (pl1 w2 (.cells #[.int .i64 v1, .int .i64 v2] 33)))
      have hyb := heap_alloc_new w2 (.cells #[.int .i64 v1, .int .i64 v2] 33)
      have HYB := Lib.hid hyb
      have HY0 := Lib.hid y0
      have hXs2 : wr.heap.size < w2.heap.size := World.block_lt_of_cell? w2 _ y0
      have hbY : b ≠ w2.heap.size := by have h1 := HBW.out; have h2 := HT2.out.size; omega
      clear hyb y0
      cases q with
      | none =>
        have HO4 := Lib.hid (HO3.out.later (pl1 (w2.alloc (.cells #[.int .i64 v1, .int .i64 v2] 33)) (.cells #[.int .i64 0, .int .i64 0] 33)))
        have HT4 := Lib.hid ((HT2.out.alloc (.cells #[.int .i64 v1, .int .i64 v2] 33)).alloc (.cells #[.int .i64 0, .int .i64 0] 33))
        have hb4 : Below w2.heap.size w2 ((w2.alloc (.cells #[.int .i64 v1, .int .i64 v2] 33)).alloc (.cells #[.int .i64 0, .int .i64 0] 33)) := (pl1 _ _).trans ((pl1 _ _).mono (by simp))
        have y4 := (hb4.cell (p := ⟨wr.heap.size, 0, none⟩) hXs2).trans HY0.out
        have y2 := HY0.out
        have y3 := ((pl1 w2 (.cells #[.int .i64 v1, .int .i64 v2] 33)).cell (p := ⟨wr.heap.size, 0, none⟩) hXs2).trans HY0.out
        clear hb4
        go_wp2_with (first
          | (at_lookup; refine wpList_lookup_rat rfl _ _ rfl b (nn + i) Di _ rfl HO3.out HR.out d rfl hkey none HAT.out ?_)
          | (at_mapUpdate; refine wpList_mapUpdate_own _ rfl _ _ _ 49 rfl 3 33 key_law Try.underlying49 _ b (nn + i) _ rfl HO4.out (by unfold maxLen; omega) _ _ _ rfl rfl hkey (ratD (v1, v2)) [] (ratElem_mk (v1, v2)) ?_; intro w5 hown5 hgrow5))
        have HN : Hid (Own w5 b (nn + (i + 1)) (Di.put (keyL d) (ratD (v1, v2))) ∧ Rep (Di.put (keyL d) (ratD (v1, v2))) (addM f l M (i + 1)) ∧ Turned (fun k => k = b) w w5) := Lib.hid ⟨hown5, by rw [HNX.out]; exact HR.out.put d (v1, v2), HT4.out.trans (Turned.of_grown hgrow5 rfl)⟩
        clear hown5 hgrow5 y4 y2 y3
        go_wp2
        go_roundw
        case rel => exact ⟨i + 1, _, by go_num, by omega, HN.out.1, HN.out.2.1, HN.out.2.2⟩
        case measure => simp [intOf]; omega
      | some p =>
        obtain ⟨p1, p2⟩ := p
        have hsm := sum_any (p1, p2) (v1, v2) ((w2.alloc (.cells #[.int .i64 v1, .int .i64 v2] 33)).alloc (.cells #[.int .i64 p1, .int .i64 p2] 33)) (HQR.out _ rfl) hfr
        obtain ⟨⟨s1, s2⟩, hsE⟩ : ∃ x, x = sumV (p1, p2) (v1, v2) := ⟨_, rfl⟩
        obtain ⟨sc, hscE⟩ : ∃ x, x = sumC (p1, p2) (v1, v2) := ⟨_, rfl⟩
        rw [← hsE, ← hscE] at hsm
        have HNX2 : Hid (addM f l M (i + 1) = upd (addM f l M i) d (s1, s2)) := Lib.hid (by rw [HNX.out, hsE])
        unfold rv at hsm
        have HSM := Lib.hid hsm
        have HO4 := Lib.hid (HO3.out.later (pl1 (w2.alloc (.cells #[.int .i64 v1, .int .i64 v2] 33)) (.cells #[.int .i64 p1, .int .i64 p2] 33)))
        have HT4 := Lib.hid ((HT2.out.alloc (.cells #[.int .i64 v1, .int .i64 v2] 33)).alloc (.cells #[.int .i64 p1, .int .i64 p2] 33))
        have hb4 : Below w2.heap.size w2 ((w2.alloc (.cells #[.int .i64 v1, .int .i64 v2] 33)).alloc (.cells #[.int .i64 p1, .int .i64 p2] 33)) := (pl1 _ _).trans ((pl1 _ _).mono (by simp))
        have HY4 := Lib.hid ((hb4.cell (p := ⟨wr.heap.size, 0, none⟩) hXs2).trans HY0.out)
        have HYB4 := Lib.hid (blk_stay (pl1 (w2.alloc (.cells #[.int .i64 v1, .int .i64 v2] 33)) (.cells #[.int .i64 p1, .int .i64 p2] 33)) HYB.out)
        have y2 := HY0.out
        have y3 := ((pl1 w2 (.cells #[.int .i64 v1, .int .i64 v2] 33)).cell (p := ⟨wr.heap.size, 0, none⟩) hXs2).trans HY0.out
        have hXs4 : wr.heap.size < ((w2.alloc (.cells #[.int .i64 v1, .int .i64 v2] 33)).alloc (.cells #[.int .i64 p1, .int .i64 p2] 33)).heap.size := Nat.lt_of_lt_of_le hXs2 hb4.size
        clear hb4 hsm hsE hscE
        go_wp2_with (at_lookup; refine wpList_lookup_rat rfl _ _ rfl b (nn + i) Di _ rfl HO3.out HR.out d rfl hkey (some (p1, p2)) HAT.out ?_)
        refine HSM.out.mono ?_
        rintro e w6 ⟨rfl, hb6⟩
        have y6 := (hb6.cell (p := ⟨wr.heap.size, 0, none⟩) hXs4).trans HY4.out
        have hY6 := blk_stay hb6 HYB4.out
        have f0 := frozen_of_cells (i := 0) hY6
        have f1 := frozen_of_cells (i := 1) hY6
        have c0 := cell_of_cells (i := 0) hY6 rfl
        have c1 := cell_of_cells (i := 1) hY6 rfl
        have HO6 := Lib.hid (((HO4.out.later hb6).setCell (a := ⟨w2.heap.size, 0, none⟩) hbY (.int .i64 s1)).setCell (a := ⟨w2.heap.size, 1, none⟩) hbY (.int .i64 s2))
        have hwY : w.heap.size ≤ w2.heap.size := HT2.out.size
        have HT6 := Lib.hid (((HT4.out.on hb6).put_ (b := w2.heap.size) (.inr hwY) 0 (.int .i64 s1)).put_ (b := w2.heap.size) (.inr hwY) 1 (.int .i64 s2))
        have hXY : wr.heap.size ≠ w2.heap.size := by omega
        clear hb6 hY6 y2 y3 hXs2 hXs4
        go_wp2_with (at_mapUpdate; refine wpList_mapUpdate_own _ rfl _ _ _ 49 rfl 3 33 key_law Try.underlying49 _ b (nn + i) _ rfl HO6.out (by unfold maxLen; omega) _ _ _ rfl rfl hkey (ratD (s1, s2)) [] (ratElem_mk (s1, s2)) ?_; intro w5 hown5 hgrow5)
        have HN : Hid (Own w5 b (nn + (i + 1)) (Di.put (keyL d) (ratD (s1, s2))) ∧ Rep (Di.put (keyL d) (ratD (s1, s2))) (addM f l M (i + 1)) ∧ Turned (fun k => k = b) w w5) := Lib.hid ⟨hown5, by rw [HNX2.out]; exact HR.out.put d (s1, s2), HT6.out.trans (Turned.of_grown hgrow5 rfl)⟩
        clear hown5 hgrow5 y6 f0 f1 c0 c1
        go_wp2
        go_roundw
        case rel => exact ⟨i + 1, _, by go_num, by omega, HN.out.1, HN.out.2.1, HN.out.2.2⟩
        case measure => simp [intOf]; omega
    · have hmi : ¬ (i : Int) < (n : Int) := by omega
      obtain rfl : i = n := by omega
      have HO := Lib.hid hO
      have HR := Lib.hid hR
      have HT := Lib.hid hT
      clear hO hR hT
      go_wp2
      go_end0
      exact ⟨rfl, Di, HO.out, by rw [HL.out]; exact HR.out, HT.out⟩
end Go.Proofs.Ytneofgaklofigaa.Fu

/- The best of a map of values, walked: it is gone through in whatever order. -/
namespace Go.Proofs.Ytneofgaklofigaa.Fu
open Go.RowKit Go.Proofs.Ytneofgaklofigaa FuM Go.Maps

abbrev Rng (w : World) (b r n : Nat) (D : MD) (left : Lit → Bool) (cnt : Nat) : Prop := w.ranges Try.prog 3 ratElem b r n D left cnt
theorem Rng.stay {w w' : World} {b r n cnt : Nat} {D : MD} {left : Lit → Bool} (h : Rng w b r n D left cnt) (hb : w'.heap[b]? = w.heap[b]?) (hr : w'.heap[r]? = w.heap[r]?) : Rng w' b r n D left cnt := by
  obtain ⟨es, clock, since, seen, c0, h1, h2, h3, h4, h5, h6⟩ := h
  exact ⟨es, clock, since, seen, c0, hb.trans h1, h2, h3, h4, hr.trans h5, h6⟩
theorem Rng.later {w w' : World} {b r n cnt : Nat} {D : MD} {left : Lit → Bool} (h : Rng w b r n D left cnt) (hb : Below w.heap.size w w') : Rng w' b r n D left cnt :=
  h.stay (hb.block b h.owns.lt) (hb.block r h.lt)
/-- neither the map nor what goes through it is among a bound's blocks -/
theorem Rng.apart {w : World} {b r n cnt base t k : Nat} {D : MD} {left : Lit → Bool} {v : Value} {l : List FV} (h : Rng w b r n D left cnt) (x : TopAt w base t k v l) : ¬ own2 t v b ∧ ¬ own2 t v r := by
  obtain ⟨es, clock, since, seen, c0, h1, _, _, _, h5, _⟩ := h
  have hg : ∀ g, v.ownBlock = some g → ∃ cur, w.heap[g]? = some (.cells cur 35 (0, 0)) := fun g hg => by
    rcases x.row.2 with ⟨e, _⟩ | ⟨g', cap, cur, e, _, hgg, _⟩
    · rw [e] at hg; simp [Value.ownBlock] at hg
    · rw [e] at hg
      have e2 : g' = g := by simpa [Value.ownBlock] using hg
      subst e2
      exact ⟨_, hgg⟩
  constructor
  · rintro (e | e)
    · subst e; rw [x.blk] at h1; cases h1
    · obtain ⟨cur, hc⟩ := hg b e; rw [hc] at h1; cases h1
  · rintro (e | e)
    · subst e; rw [x.blk] at h5; cases h5
    · obtain ⟨cur, hc⟩ := hg r e; rw [hc] at h5; cases h5
/-- a bound stays where blocks turn that aren't its own -/
theorem TopAt.stay {w w' : World} {base t k : Nat} {v : Value} {h : List FV} (x : TopAt w base t k v h) (hk : ∀ g, g < w.heap.size → own2 t v g → w'.heap[g]? = w.heap[g]?) : TopAt w' base t k v h :=
  ⟨x.old, (hk t x.lt (.inl rfl)).trans x.blk, x.row.kept fun g hg => hk g (World.ownsRow.lt x.row g hg).2 (.inr hg)⟩
/-- the values of a map are right -/
def OkM (M : VM) : Prop := ∀ d p, M d = some p → Ok (d, p)
/-- off are the documents of M that have come -/
structure Come (M : VM) (left : Lit → Bool) (off : List FV) : Prop where
  nod : off.Nodup
  mem : ∀ x : FV, x ∈ off ↔ M x.1.1 = some x.1.2 ∧ left (keyL x.1.1) = false
theorem Come.start {D : MD} {M : VM} (h : Rep D M) : Come M (Maps.has D) [] :=
  ⟨List.nodup_nil, fun x => ⟨fun h => by simp at h, fun ⟨h1, h2⟩ => by rw [h.has, h1] at h2; cases h2⟩⟩
theorem Come.next {M : VM} {left : Lit → Bool} {off : List FV} (h : Come M left off) (z : FV) (hz : M z.1.1 = some z.1.2) (hl : left (keyL z.1.1) = true) : Come M (fun k => left k && !k.sameKey (keyL z.1.1)) (off ++ [z]) := by
  refine ⟨?_, fun x => ?_⟩
  · rw [List.nodup_append]
    refine ⟨h.nod, by simp, fun a ha b hb e => ?_⟩
    obtain rfl : b = z := by simpa using hb
    subst e
    have := ((h.mem a).1 ha).2
    rw [hl] at this
    cases this
  · rw [List.mem_append, h.mem]
    by_cases e : x.1.1 = z.1.1
    · rw [e, sameKey_i]
      simp only [beq_self_eq_true, Bool.not_true, Bool.and_false]
      constructor
      · rintro (⟨h1, _⟩ | h1)
        · exact ⟨h1, trivial⟩
        · obtain rfl : x = z := by simpa using h1
          exact ⟨hz, trivial⟩
      · rintro ⟨h1, _⟩
        right
        rw [hz] at h1
        injection h1 with h1
        have : x = z := Subtype.ext (Prod.ext e h1.symm)
        simp [this]
    · have hk : (keyL x.1.1).sameKey (keyL z.1.1) = false := by rw [sameKey_i]; simpa using e
      rw [hk]
      simp only [Bool.not_false, Bool.and_true]
      constructor
      · rintro (h1 | h1)
        · exact h1
        · obtain rfl : x = z := by simpa using h1
          exact absurd rfl e
      · exact fun h1 => .inl h1
set_option maxHeartbeats 8000000 in
set_option maxRecDepth 100000 in
theorem best_any (b n : Nat) (k : Int) (D : MD) (M : VM) (w : World) (hown : Own w b n D) (hrep : Rep D M) (hok : OkM M) (hn : n ≤ 100000) :
    Calls Try.prog 17 #[.map (some b), .int .i64 k] w fun e w' => ∃ v' off, e = .returned v' ∧ Vrd w' v' (FuM.best k.toNat off) ∧ off.Nodup ∧ (∀ x : FV, x ∈ off ↔ M x.1.1 = some x.1.2) ∧ Below w.heap.size w w' := by
  have HN := Lib.hid (new_any k w)
  have hsz := hown.size_le
  have hbl := hown.lt
  go_enter Try.func17, Try.ntmps17
  go_wp2_with fail
  refine HN.out.mono ?_
  rintro e w1 ⟨rfl, ht, hb1⟩
  have hown1 := hown.later hb1
  have HT := Lib.hid ht
  have HB1 := Lib.hid hb1
  have hz1 : w.heap.size ≤ w1.heap.size := hb1.size
  clear hown ht hb1
  go_wp2_with (at_range; refine wpList_range_own _ rfl _ 49 rfl 3 33 key_law Try.underlying49 _ b n _ rfl hown1 ?_; intro w0 hrg0 hg0 hs0)
  have HT0 : Hid (TopAt w0 w.heap.size w.heap.size k.toNat (.slice none 0 0) []) := Lib.hid (HT.out.stay (fun g hg _ => hg0.block g hg (by simp)))
  have HB0 : Hid (Below w.heap.size w w0) := Lib.hid (HB1.out.grown hg0 hz1 (fun q hq => by cases hq))
  obtain ⟨t, htE⟩ : ∃ t, t = w.heap.size := ⟨_, rfl⟩
  obtain ⟨r, hrE⟩ : ∃ r, r = w1.heap.size := ⟨_, rfl⟩
  rw [← htE] at HT0
  rw [← htE, ← hrE]
  rw [← hrE] at hrg0
  have hrw : w.heap.size ≤ r := by omega
  have HTE := Lib.hid htE
  clear hown1 hg0 hs0 htE hrE
  go_frame
  go_loopw [6] (fun _ wr => ∃ (left : Lit → Bool) (cnt : Nat) (off h : List FV) (v : Value), Rng wr b r n D left cnt ∧ TopAt wr t t k.toNat v h ∧ FuM.Bnd k.toNat off h ∧ Come M left off ∧ off.length + cnt ≤ Maps.size D ∧ Below w.heap.size w wr) (fun _ wr => wr.rangeLeft b r)
  case atStart => exact ⟨_, _, [], [], _, hrg0, HT0.out, FuM.bnd_nil _, Come.start hrep, by simp, HB0.out⟩
  case round =>
    obtain ⟨left, cnt, off, h, v, hrg, hx, hbn, hcm, hlen, hb⟩ := hrel
    have HX := Lib.hid hx
    have HBN := Lib.hid hbn
    have HCM := Lib.hid hcm
    have HB := Lib.hid hb
    have HRG := Lib.hid hrg
    have hwz : w.heap.size ≤ wr.heap.size := hb.size
    clear hx hbn hcm hb
    go_wp2_with (at_next; refine wpList_next_ranges _ rfl _ rfl 3 key_law ratElem (Value.int .i64) rv (fun key kl hk => by obtain ⟨x, rfl, _⟩ := Maps.keyOf_int_inv Try.underlying3 hk; exact ⟨x, rfl⟩) (fun v y hv => by obtain ⟨c, rfl, _⟩ := ratElem_inv hv; exact ⟨c, rfl⟩) b r n D left cnt rfl hrg ?_ ?_)
    · intro _ hl0
      have HL := Lib.hid (list_any t t k.toNat v h wr HX.out (by have := FuM.bnd_len HBN.out; omega))
      have hfin : ∀ x : FV, x ∈ off ↔ M x.1.1 = some x.1.2 := fun x => by
        rw [HCM.out.mem, hl0]
        simp
      have HFIN := Lib.hid hfin
      clear hfin hl0 hrg
      go_wp2_with fail
      refine HL.out.mono ?_
      rintro e w9 ⟨v', rfl, hv', hb9⟩
      have HV := Lib.hid hv'
      have HB9 := Lib.hid (HB.out.trans (hb9.mono hwz))
      clear hv' hb9
      go_wp2
      go_ret
      exact ⟨_, off, rfl, by rw [← FuM.bnd_srt HBN.out]; exact HV.out, HCM.out.nod, HFIN.out, HB9.out⟩
    · intro x ca cb kl y yl w2 cnt2 hkey hlx hrc hat hrg2 hlt hg2 hs2 hen
      obtain ⟨x', ex, rfl, hwx⟩ := Maps.keyOf_int_inv Try.underlying3 hkey
      cases ex
      obtain ⟨c, hcE⟩ : ∃ c : Int × Int, c = (ca, cb) := ⟨_, rfl⟩
      rw [← hcE] at hrc hen
      obtain ⟨c', ec, hy⟩ := ratElem_inv hrc
      injection hy with hy _
      subst hy
      have hc : c = c' := by
        unfold rv at ec
        simp at ec
        exact Prod.ext ec.1 ec.2
      subst hc
      have hMx : M x = some c := by
        have h1 : Maps.has D (keyL x) = true := has_true_of_atKey (y := ratD c) hat
        rw [hrep.has] at h1
        obtain ⟨p, hp⟩ := Option.isSome_iff_exists.1 h1
        have := ratD_inj ((hrep.at_ x p hp .nil).symm.trans (hat .nil))
        rw [hp, this]
      obtain ⟨z, hz1, hz2⟩ : ∃ z : FV, z.1.1 = x ∧ z.1.2 = c := ⟨⟨(x, c), hok x c hMx⟩, rfl, rfl⟩
      subst hz1
      obtain rfl : ca = z.1.2.1 := by rw [hz2, hcE]
      obtain rfl : cb = z.1.2.2 := by rw [hz2, hcE]
      rw [← hz2] at hen hMx
      clear hz2 hcE
      have hap := Rng.apart hrg HX.out
      have hx2 : TopAt w2 t t k.toNat v h := HX.out.stay fun g hg ho => hg2.block g hg (fun e => by injection e with e; subst e; exact hap.2 ho)
      have hx3 := hx2.later (pl1 w2 (.cells #[.int .i64 z.1.2.1, .int .i64 z.1.2.2] 33))
      have hrg3 := Rng.later hrg2 (pl1 w2 (.cells #[.int .i64 z.1.2.1, .int .i64 z.1.2.2] 33))
      have hap3 := Rng.apart hrg3 hx3
      have hof := offer_any t t k.toNat v off h z _ hx3 HBN.out (by omega)
      have hb2 : Below w.heap.size w w2 := HB.out.grown hg2 hwz (fun q hq => by injection hq with hq; omega)
      have hwz2 : w.heap.size ≤ w2.heap.size := hb2.size
      have HB3 := Lib.hid (hb2.trans ((pl1 w2 (.cells #[.int .i64 z.1.2.1, .int .i64 z.1.2.2] 33)).mono hwz2))
      have hown : ∀ g, own2 t v g → w.heap.size ≤ g := fun g hg => by
        rcases hg with rfl | hg
        · rw [HTE.out]
          exact Nat.le_refl _
        · have := (World.ownsRow.lt hx3.row g hg).1
          rw [HTE.out] at this
          exact this
      have HOW := Lib.hid hown
      unfold sv at hof
      have HOF := Lib.hid hof
      have HC2 := Lib.hid (HCM.out.next z hMx hlx)
      have HRG3 := Lib.hid hrg3
      have HAP3 := Lib.hid hap3
      have HLE := Lib.hid hrg.left_eq
      unfold rv at hen
      clear hown hof hx2 hx3 hrg2 hrg3 hap3 hap hat hlx hb2 hrc hkey hrg hg2
      go_wp2_with fail
      refine HOF.out.mono ?_
      rintro e w4 ⟨rfl, v2, h2, hx4, hbn4, hon4, hbk4⟩
      have HB4 := Lib.hid (HB3.out.trans (hon4.below HOW.out HB3.out.size))
      have HRG4 : Hid (Rng w4 b r n D (fun z1 => left z1 && !z1.sameKey (keyL z.1.1)) cnt2) := Lib.hid (HRG3.out.stay (hon4.block b HRG3.out.owns.lt HAP3.out.1) (hon4.block r HRG3.out.lt HAP3.out.2))
      have HX4 := Lib.hid hx4
      have HBN4 := Lib.hid hbn4
      clear hx4 hbn4 hon4
      go_wp2
      go_roundw
      case rel => exact ⟨_, cnt2, off ++ [z], h2, v2, HRG4.out, HX4.out, HBN4.out, HC2.out, by rw [List.length_append, List.length_singleton]; omega, HB4.out⟩
      case measure => rw [HRG4.out.left_eq, HLE.out]; exact hlt
end Go.Proofs.Ytneofgaklofigaa.Fu

/- What a list adds by ranks, what by weights; the limits. -/
namespace Go.Proofs.Ytneofgaklofigaa.Fu
open Go.RowKit Go.Proofs.Ytneofgaklofigaa FuM

def findB (k : Int) : Bool := decide (1 ≤ k) && decide (k ≤ 1000)
def wgtB (k : Int) : Bool := decide (0 ≤ k) && decide (k ≤ 1000000)
theorem mayfind_any (k : Int) (w : World) : Calls Try.prog 13 #[.int .i64 k] w fun e w' => e = .returned (.bool (findB k)) ∧ w' = w := by
  unfold findB
  by_cases h1 : (1 : Int) ≤ k
  · rw [decide_eq_true h1]
    obtain ⟨b, hb⟩ : ∃ b, decide (k ≤ 1000) = b := ⟨_, rfl⟩
    rw [hb]
    go_enter Try.func13, Try.ntmps13
    go_wp2
    go_ret
    exact ⟨rfl, rfl⟩
  · have h1' : decide ((1 : Int) ≤ k) = false := decide_eq_false h1
    rw [h1']
    go_enter Try.func13, Try.ntmps13
    go_wp2
    go_ret
    exact ⟨rfl, rfl⟩
theorem isweight_any (k : Int) (w : World) : Calls Try.prog 18 #[.int .i64 k] w fun e w' => e = .returned (.bool (wgtB k)) ∧ w' = w := by
  unfold wgtB
  by_cases h1 : (0 : Int) ≤ k
  · rw [decide_eq_true h1]
    obtain ⟨b, hb⟩ : ∃ b, decide (k ≤ 1000000) = b := ⟨_, rfl⟩
    rw [hb]
    go_enter Try.func18, Try.ntmps18
    go_wp2
    go_ret
    exact ⟨rfl, rfl⟩
  · have h1' : decide ((0 : Int) ≤ k) = false := decide_eq_false h1
    rw [h1']
    go_enter Try.func18, Try.ntmps18
    go_wp2
    go_ret
    exact ⟨rfl, rfl⟩
theorem ratV_one (m : Int) (h : 0 < m) : ratV 1 m = (1, m) := by
  unfold ratV ExactM.low
  rw [if_pos h, Int.one_gcd]
  simp
theorem ratV_int (m : Int) : ratV m 1 = (m, 1) := by
  unfold ratV ExactM.low
  rw [if_pos (by decide), Int.gcd_one]
  simp
theorem fset2_0 {w1 : World} {R : Nat} {v0 v1 : Value} (h0 : w1.cell? ⟨R, 0, none⟩ = some v0) (x y : Value) (_h1 : w1.cell? ⟨R, 1, none⟩ = some v1) : ((w1.setCell ⟨R, 0, none⟩ x).setCell ⟨R, 1, none⟩ y).cell? ⟨R, 0, none⟩ = some x := by
  rw [World.cell?_setCell_other _ _ _ _ (fun e => by injection e with e1 e2; omega), World.cell?_setCell_same _ _ _ h0]
theorem fset2_1 {w1 : World} {R : Nat} {v1 : Value} (h1 : w1.cell? ⟨R, 1, none⟩ = some v1) (x y : Value) : ((w1.setCell ⟨R, 0, none⟩ x).setCell ⟨R, 1, none⟩ y).cell? ⟨R, 1, none⟩ = some y := by
  have : (w1.setCell ⟨R, 0, none⟩ x).cell? ⟨R, 1, none⟩ = some v1 := by rw [World.cell?_setCell_other _ _ _ _ (fun e => by injection e with e1 e2; omega), h1]
  rw [World.cell?_setCell_same _ _ _ this]
theorem fbelow_set2 {n R : Nat} {w w1 : World} (h : Below n w w1) (hR : n ≤ R) (x y : Value) : Below n w ((w1.setCell ⟨R, 0, none⟩ x).setCell ⟨R, 1, none⟩ y) := (h.setCell (by exact hR) _).setCell (by exact hR) _
set_option maxHeartbeats 2000000 in
set_option maxRecDepth 100000 in
theorem ranked_any (q : Nat) (c r s : Int) (W : World) (hq : W.cell? ⟨q, 0, none⟩ = some (.int .i64 c)) (hc : 1 ≤ c ∧ c ≤ 1000000) (hr : 1 ≤ r ∧ r ≤ 1000) :
    Calls Try.prog 14 #[.int .i64 r, .int .i64 s, .pointer (some ⟨q, 0, none⟩)] W fun e w' => e = .returned (rv (1, c + r)) ∧ Below W.heap.size W w' := by
  have hwr : IntKind.i64.wrap (c + r) = c + r := by rw [IntKind.wrap_i64]; omega
  obtain ⟨m, hm⟩ : ∃ m, m = c + r := ⟨_, rfl⟩
  have hR := fun w => ratio_any 1 m w (by unfold I64n; omega) (by unfold I64n; omega)
  rw [ratV_one m (by omega)] at hR
  rw [← hm]
  have hwr2 : IntKind.i64.wrap (c + r) = m := by rw [hm]; exact hwr
  clear hwr
  unfold rv at hR ⊢
  have hq2 := ((pl1 W (.cells #[.int .i64 0, .int .i64 0] 33)).cell (p := ⟨q, 0, none⟩) (World.block_lt_of_cell? W _ hq)).trans hq
  have hb0 := pl1 W (.cells #[.int .i64 0, .int .i64 0] 33)
  have hX := heap_alloc_new W (.cells #[.int .i64 0, .int .i64 0] 33)
  have HR := Lib.hid hR
  have HB0 := Lib.hid hb0
  have HX := Lib.hid hX
  clear hm hR hb0 hX
  go_enter Try.func14, Try.ntmps14
  go_wp2_with fail
  refine (HR.out _).mono ?_
  rintro e w2 ⟨rfl, hb2⟩
  have hX2 := blk_stay hb2 HX.out
  have hX3 := blk_stay (pl1 w2 (.cells #[.int .i64 1, .int .i64 m] 33)) hX2
  have f0 := frozen_of_cells (i := 0) hX3
  have f1 := frozen_of_cells (i := 1) hX3
  have c0 := cell_of_cells (i := 0) hX3 rfl
  have c1 := cell_of_cells (i := 1) hX3 rfl
  have HB2 := Lib.hid (HB0.out.trans (hb2.mono (by simp)))
  have HB3 := Lib.hid (HB2.out.trans ((pl1 w2 (.cells #[.int .i64 1, .int .i64 m] 33)).mono HB2.out.size))
  clear hb2 hX2
  go_wp2
  have g0 := fset2_0 c0 (.int .i64 1) (.int .i64 m) c1
  have g1 := fset2_1 c1 (.int .i64 1) (.int .i64 m)
  have gB := fbelow_set2 HB3.out (Nat.le_refl _) (.int .i64 1) (.int .i64 m)
  generalize ((w2.alloc (.cells #[.int .i64 1, .int .i64 m] 33)).setCell ⟨W.heap.size, 0, none⟩ (.int .i64 1)).setCell ⟨W.heap.size, 1, none⟩ (.int .i64 m) = w3 at g0 g1 gB ⊢
  exact bodyPost_ret (v := .agg #[.int .i64 1, .int .i64 m]) (by simp [results, Try.results14, go_sem, g0, g1]) rfl ⟨rfl, gB⟩
set_option maxHeartbeats 2000000 in
set_option maxRecDepth 100000 in
theorem weighed_any (q : Nat) (a r s : Int) (W : World) (hq : W.cell? ⟨q, 0, none⟩ = some (.int .i64 a)) (h1 : -4611686018427387904 ≤ a * s) (h2 : a * s ≤ 4611686018427387904) :
    Calls Try.prog 20 #[.int .i64 r, .int .i64 s, .pointer (some ⟨q, 0, none⟩)] W fun e w' => e = .returned (rv (a * s, 1)) ∧ Below W.heap.size W w' := by
  have hwr : IntKind.i64.wrap (a * s) = a * s := by rw [IntKind.wrap_i64]; omega
  obtain ⟨m, hm⟩ : ∃ m, m = a * s := ⟨_, rfl⟩
  have hR := fun w => ratio_any m 1 w (by unfold I64n; omega) (by unfold I64n; omega)
  rw [ratV_int m] at hR
  rw [← hm]
  have hwr2 : IntKind.i64.wrap (a * s) = m := by rw [hm]; exact hwr
  clear hwr
  unfold rv at hR ⊢
  have hq2 := ((pl1 W (.cells #[.int .i64 0, .int .i64 0] 33)).cell (p := ⟨q, 0, none⟩) (World.block_lt_of_cell? W _ hq)).trans hq
  have hb0 := pl1 W (.cells #[.int .i64 0, .int .i64 0] 33)
  have hX := heap_alloc_new W (.cells #[.int .i64 0, .int .i64 0] 33)
  have HR := Lib.hid hR
  have HB0 := Lib.hid hb0
  have HX := Lib.hid hX
  clear hm hR hb0 hX
  go_enter Try.func20, Try.ntmps20
  go_wp2_with fail
  refine (HR.out _).mono ?_
  rintro e w2 ⟨rfl, hb2⟩
  have hX2 := blk_stay hb2 HX.out
  have hX3 := blk_stay (pl1 w2 (.cells #[.int .i64 m, .int .i64 1] 33)) hX2
  have f0 := frozen_of_cells (i := 0) hX3
  have f1 := frozen_of_cells (i := 1) hX3
  have c0 := cell_of_cells (i := 0) hX3 rfl
  have c1 := cell_of_cells (i := 1) hX3 rfl
  have HB2 := Lib.hid (HB0.out.trans (hb2.mono (by simp)))
  have HB3 := Lib.hid (HB2.out.trans ((pl1 w2 (.cells #[.int .i64 m, .int .i64 1] 33)).mono HB2.out.size))
  clear hb2 hX2
  go_wp2
  have g0 := fset2_0 c0 (.int .i64 m) (.int .i64 1) c1
  have g1 := fset2_1 c1 (.int .i64 m) (.int .i64 1)
  have gB := fbelow_set2 HB3.out (Nat.le_refl _) (.int .i64 m) (.int .i64 1)
  generalize ((w2.alloc (.cells #[.int .i64 m, .int .i64 1] 33)).setCell ⟨W.heap.size, 0, none⟩ (.int .i64 m)).setCell ⟨W.heap.size, 1, none⟩ (.int .i64 1) = w3 at g0 g1 gB ⊢
  exact bodyPost_ret (v := .agg #[.int .i64 m, .int .i64 1]) (by simp [results, Try.results20, go_sem, g0, g1]) rfl ⟨rfl, gB⟩
end Go.Proofs.Ytneofgaklofigaa.Fu

/- What two lists give, plainly: values by ranks and by weights are right, and hang on no order; the best of one map is one. -/
namespace Go.Proofs.Ytneofgaklofigaa.Fu
open Go.RowKit Go.Proofs.Ytneofgaklofigaa FuM

def OkP (p : Int × Int) : Prop := ExactM.Rt p ∧ R64 p
theorem ok_iff (d : Int) (p : Int × Int) : Ok (d, p) ↔ OkP p := Iff.rfl
theorem sumV_turn (p q : Int × Int) : sumV p q = sumV q p := by
  unfold sumV
  rw [Bool.and_comm, Int.add_comm (p.1 * q.2), Int.mul_comm p.2]
theorem sumV_ok {p q : Int × Int} (hp : ExactM.Rt p) (hq : ExactM.Rt q) (h : R64 (ExactM.add p q)) : sumV p q = ExactM.add p q := by
  unfold sumV
  rw [(rtB_iff p).2 hp, (rtB_iff q).2 hq]
  unfold ansV ansB
  unfold ExactM.add at h ⊢
  rw [fitB_true h.1, fitB_true h.2]
  rfl
theorem sumV_okp {p q : Int × Int} (hp : ExactM.Rt p) (hq : ExactM.Rt q) (h : R64 (ExactM.add p q)) : OkP (sumV p q) := by
  rw [sumV_ok hp hq h]
  exact ⟨ExactM.add_rt hp.1 hq.1, h⟩
theorem comb_turn (a b : Option (Int × Int)) : comb a b = comb b a := by
  cases a with
  | none => cases b <;> rfl
  | some a =>
    cases b with
    | none => rfl
    | some b =>
      show some (sumV a b) = some (sumV b a)
      rw [sumV_turn]
theorem comb_none (a : Option (Int × Int)) : comb none a = a := by cases a <;> rfl
/-- what two lists give -/
def both (f g : Nat → Int → Int × Int) (x y : List (Int × Int)) : VM := fun d => comb (vOf f 0 x d) (vOf g 0 y d)
theorem both_turn (f g : Nat → Int → Int × Int) (x y : List (Int × Int)) (d : Int) : both f g x y d = both g f y x d := comb_turn _ _
theorem addM_one (f : Nat → Int → Int × Int) (x : List (Int × Int)) : addM f x (fun _ => none) x.length = vOf f 0 x := by
  funext d
  unfold addM
  rw [List.take_length, comb_none]
theorem addM_two (f g : Nat → Int → Int × Int) (x y : List (Int × Int)) : addM g y (vOf f 0 x) y.length = both f g x y := by
  funext d
  unfold addM both
  rw [List.take_length]
/-- a list's values are right, and so are the sums -/
structure Good (f g : Nat → Int → Int × Int) (x y : List (Int × Int)) : Prop where
  l : ∀ k (h : k < x.length), OkP (f (k + 1) x[k].2)
  r : ∀ k (h : k < y.length), OkP (g (k + 1) y[k].2)
  s : ∀ k (h : k < x.length) j (h2 : j < y.length), OkP (sumV (f (k + 1) x[k].2) (g (j + 1) y[j].2))
theorem vOf_ok {f : Nat → Int → Int × Int} {x : List (Int × Int)} (h : ∀ k (h : k < x.length), OkP (f (k + 1) x[k].2)) {d : Int} {p : Int × Int} (hp : vOf f 0 x d = some p) : OkP p := by
  obtain ⟨k, hk, _, rfl⟩ := vOf_at f d x 0 p hp
  rw [Nat.zero_add]
  exact h k hk
theorem both_ok {f g : Nat → Int → Int × Int} {x y : List (Int × Int)} (h : Good f g x y) : ∀ d p, both f g x y d = some p → OkP p := by
  intro d p hp
  unfold both at hp
  cases ha : vOf f 0 x d with
  | none =>
    rw [ha, comb_none] at hp
    exact vOf_ok h.r hp
  | some a =>
    rw [ha] at hp
    cases hb : vOf g 0 y d with
    | none =>
      rw [hb] at hp
      unfold comb at hp
      injection hp with hp
      subst hp
      exact vOf_ok h.l ha
    | some b =>
      rw [hb] at hp
      unfold comb at hp
      injection hp with hp
      subst hp
      obtain ⟨k, hk, _, rfl⟩ := vOf_at f d x 0 a ha
      obtain ⟨j, hj, _, rfl⟩ := vOf_at g d y 0 b hb
      rw [Nat.zero_add, Nat.zero_add]
      exact h.s k hk j hj
/-- by ranks, by weights -/
def rkF (c : Int) : Nat → Int → Int × Int := fun r _ => (1, c + r)
def wtF (a : Int) : Nat → Int → Int × Int := fun _ s => (a * s, 1)
theorem rt_one {m : Int} (h : 0 < m) : ExactM.Rt (1, m) := ⟨h, Int.one_gcd⟩
theorem rt_int (m : Int) : ExactM.Rt (m, 1) := ⟨Int.zero_lt_one, Int.gcd_one⟩
theorem low_int (m : Int) : ExactM.low m 1 = (m, 1) := by
  unfold ExactM.low
  rw [Int.gcd_one]
  simp
theorem ediv_in {n g : Int} (hg : 0 < g) (hn : 0 ≤ n) : 0 ≤ n / g ∧ n / g ≤ n := ⟨Int.ediv_nonneg hn (by omega), Int.ediv_le_self _ hn⟩
theorem add_one_one {p q : Int} (hp : 0 < p ∧ p ≤ 2000000) (hq : 0 < q ∧ q ≤ 2000000) : R64 (ExactM.add (1, p) (1, q)) := by
  unfold ExactM.add
  simp only [Int.one_mul]
  have hm : 0 < p * q := Int.mul_pos hp.1 hq.1
  have hM : p * q ≤ 2000000 * 2000000 := Int.mul_le_mul hp.2 hq.2 (by omega) (by decide)
  have hg := ExactM.gcd_pos (n := q + p) hm
  obtain ⟨a1, a2⟩ := ediv_in (n := q + p) hg (by omega)
  obtain ⟨b1, b2⟩ := ediv_in (n := p * q) hg (by omega)
  unfold ExactM.low R64 I64n
  refine ⟨⟨?_, ?_⟩, ?_, ?_⟩ <;> simp only <;> omega
theorem add_int_int (m n : Int) : ExactM.add (m, 1) (n, 1) = (m + n, 1) := by
  unfold ExactM.add
  simp only [Int.mul_one]
  exact low_int _
theorem good_rk (c : Int) (hc : 1 ≤ c ∧ c ≤ 1000000) (x y : List (Int × Int)) (hx : x.length ≤ 1000) (hy : y.length ≤ 1000) : Good (rkF c) (rkF c) x y := by
  refine ⟨fun k h => ⟨rt_one (by omega), ?_⟩, fun k h => ⟨rt_one (by omega), ?_⟩, fun k h j h2 => sumV_okp (rt_one (by omega)) (rt_one (by omega)) (add_one_one (by omega) (by omega))⟩ <;>
  · unfold rkF R64 I64n
    refine ⟨⟨?_, ?_⟩, ?_, ?_⟩ <;> simp only <;> omega
theorem far_of {l : List (Int × Int)} (h : listB l = true) : (∀ x ∈ l, -1099511627776 ≤ x.2 ∧ x.2 ≤ 1099511627776) ∧ l.length ≤ 1000 ∧ (l.map (·.1)).Nodup := by
  unfold listB at h
  simp only [Bool.and_eq_true, List.all_eq_true, decide_eq_true_eq] at h
  obtain ⟨⟨h1, h2⟩, h3⟩ := h
  refine ⟨fun x hx => ?_, h1, h3⟩
  have := h2 x hx
  unfold far at this
  simpa using this
theorem mul_in {a s : Int} (ha : 0 ≤ a ∧ a ≤ 1000000) (hs : -1099511627776 ≤ s ∧ s ≤ 1099511627776) : -1099511627776000000 ≤ a * s ∧ a * s ≤ 1099511627776000000 := by
  have h1 : a * s ≤ a * 1099511627776 := Int.mul_le_mul_of_nonneg_left hs.2 ha.1
  have h2 : a * (-1099511627776) ≤ a * s := Int.mul_le_mul_of_nonneg_left hs.1 ha.1
  omega
theorem good_wt (a b : Int) (ha : 0 ≤ a ∧ a ≤ 1000000) (hb : 0 ≤ b ∧ b ≤ 1000000) (x y : List (Int × Int)) (hx : ∀ z ∈ x, -1099511627776 ≤ z.2 ∧ z.2 ≤ 1099511627776) (hy : ∀ z ∈ y, -1099511627776 ≤ z.2 ∧ z.2 ≤ 1099511627776) : Good (wtF a) (wtF b) x y := by
  have mx := fun k (h : k < x.length) => mul_in ha (hx _ (List.getElem_mem h))
  have my := fun k (h : k < y.length) => mul_in hb (hy _ (List.getElem_mem h))
  refine ⟨fun k h => ⟨rt_int _, ?_⟩, fun k h => ⟨rt_int _, ?_⟩, fun k h j h2 => sumV_okp (rt_int _) (rt_int _) ?_⟩
  · have := mx k h
    unfold wtF R64 I64n
    refine ⟨⟨?_, ?_⟩, ?_, ?_⟩ <;> simp only <;> omega
  · have := my k h
    unfold wtF R64 I64n
    refine ⟨⟨?_, ?_⟩, ?_, ?_⟩ <;> simp only <;> omega
  · have h3 := mx k h
    have h4 := my j h2
    unfold wtF
    rw [add_int_int]
    unfold R64 I64n
    refine ⟨⟨?_, ?_⟩, ?_, ?_⟩ <;> simp only <;> omega
/-- off are the documents of M with their values, each once -/
def Off (M : VM) (off : List FV) : Prop := off.Nodup ∧ ∀ x : FV, x ∈ off ↔ M x.1.1 = some x.1.2
theorem Off.perm {M M' : VM} {a b : List FV} (h : Off M a) (h2 : Off M' b) (e : ∀ d, M d = M' d) : a.Perm b :=
  (List.perm_ext_iff_of_nodup h.1 h2.1).2 fun x => by rw [h.2, h2.2, e]
theorem Off.best {M M' : VM} {a b : List FV} (h : Off M a) (h2 : Off M' b) (e : ∀ d, M d = M' d) (k : Nat) : FuM.best k a = FuM.best k b := by
  unfold FuM.best
  rw [FuM.srt_congr (h.perm h2 e)]
theorem best_next (k : Nat) (l : List FV) : FuM.best k l = (FuM.best (k + 1) l).take (FuM.best k l).length ∧ (FuM.best k l).length ≤ (FuM.best (k + 1) l).length := by
  rw [FuM.best_len, FuM.best_len]
  refine ⟨?_, by omega⟩
  unfold FuM.best
  rw [List.take_take]
  have hl := FuM.srt_len l
  by_cases hk : k ≤ l.length
  · rw [Nat.min_eq_left hk, Nat.min_eq_left (show k ≤ k + 1 by omega)]
  · rw [Nat.min_eq_right (show l.length ≤ k by omega), Nat.min_eq_left (show l.length ≤ k + 1 by omega), List.take_of_length_le (by omega), List.take_of_length_le (by omega)]
/-- the errors' numbers -/
def rkC (x y : List (Int × Int)) (c k : Int) : Int := if (listB x && listB y) = false then 2 else if (decide (1 ≤ c) && decide (c ≤ 1000000) && (decide (1 ≤ k) && decide (k ≤ 1000))) = false then 1 else 0
def wtC (x y : List (Int × Int)) (a b k : Int) : Int := if (listB x && listB y) = false then 2 else if (decide (0 ≤ a) && decide (a ≤ 1000000) && (decide (0 ≤ b) && decide (b ≤ 1000000)) && !(decide (a = 0) && decide (b = 0)) && (decide (1 ≤ k) && decide (k ≤ 1000))) = false then 1 else 0
theorem rkC_turn (x y : List (Int × Int)) (c k : Int) : rkC x y c k = rkC y x c k := by
  unfold rkC
  rw [Bool.and_comm]
theorem rkC_next (x y : List (Int × Int)) (c k : Int) (hk : 1 ≤ k ∧ k ≤ 999) : rkC x y c k = rkC x y c (k + 1) := by
  unfold rkC
  rw [decide_eq_true (show 1 ≤ k by omega), decide_eq_true (show k ≤ 1000 by omega), decide_eq_true (show 1 ≤ k + 1 by omega), decide_eq_true (show k + 1 ≤ 1000 by omega)]
theorem wtC_turn (x y : List (Int × Int)) (a b k : Int) : wtC x y a b k = wtC y x b a k := by
  unfold wtC
  rw [Bool.and_comm (listB x), Bool.and_comm (decide (0 ≤ a) && decide (a ≤ 1000000)), Bool.and_comm (decide (a = 0))]
end Go.Proofs.Ytneofgaklofigaa.Fu

/- Two lists made one by their ranks. -/
namespace Go.Proofs.Ytneofgaklofigaa.Fu
open Go.RowKit Go.Proofs.Ytneofgaklofigaa FuM Go.Maps

theorem hmf_ (fn : Fn) (fs cap : Array Value) (w : World) : (Instr.makeFunc fn fs cap).run Try.prog w = .ok (.func fn fs cap) w := rfl
theorem addc_rk (W0 : World) (q b : Nat) (c : Int) (l : List (Int × Int)) (hq : W0.cell? ⟨q, 0, none⟩ = some (.int .i64 c)) (hne : q ≠ b) (hc : 1 ≤ c ∧ c ≤ 1000000) (hl : l.length ≤ 1000) :
    AddC W0 b (.func (.func 14) #[] #[.pointer (some ⟨q, 0, none⟩)]) (rkF c) l := by
  refine ⟨_, _, rfl, enters_of Try.func14 (by kernel_rfl) rfl, fun W hT k h => ?_⟩
  have hq2 := (hT.cell (p := ⟨q, 0, none⟩) (World.block_lt_of_cell? W0 _ hq) hne).trans hq
  exact ranked_any q c ((k : Int) + 1) l[k].2 W hq2 hc (by omega)
theorem addc_wt (W0 : World) (q b : Nat) (a : Int) (l : List (Int × Int)) (hq : W0.cell? ⟨q, 0, none⟩ = some (.int .i64 a)) (hne : q ≠ b) (ha : 0 ≤ a ∧ a ≤ 1000000) (hl : ∀ z ∈ l, -1099511627776 ≤ z.2 ∧ z.2 ≤ 1099511627776) :
    AddC W0 b (.func (.func 20) #[] #[.pointer (some ⟨q, 0, none⟩)]) (wtF a) l := by
  refine ⟨_, _, rfl, enters_of Try.func20 (by kernel_rfl) rfl, fun W hT k h => ?_⟩
  have hq2 := (hT.cell (p := ⟨q, 0, none⟩) (World.block_lt_of_cell? W0 _ hq) hne).trans hq
  have hm := mul_in ha (hl _ (List.getElem_mem h))
  exact weighed_any q a ((k : Int) + 1) l[k].2 W hq2 (by omega) (by omega)
theorem pairs_blk {w : World} {A : Option Addr} {n : Nat} {l : List (Int × Int)} (h : Pairs w A n l) (hl : 0 < l.length) (ad : Addr) (hA : A = some ad) : ad.block < w.heap.size := by
  obtain ⟨b, o, e, hb, _⟩ := h.2 0 hl
  rw [hA] at e
  injection e with e
  subst e
  exact hb
theorem pairs_turned {S : Nat → Prop} {w w' : World} {A : Option Addr} {n : Nat} {l : List (Int × Int)} (h : Pairs w A n l) (hT : Turned S w w') (hS : 0 < l.length → ∀ ad, A = some ad → ¬ S ad.block) : Pairs w' A n l :=
  ⟨h.1, fun k hk => by
    obtain ⟨b, o, e, hl, h0, h1⟩ := h.2 k hk
    have hs := hS (by omega) _ e
    exact ⟨b, o, e, Nat.lt_of_lt_of_le hl hT.size, (hT.cell (p := ⟨b, o + k * 2, none⟩) hl hs).trans h0, (hT.cell (p := ⟨b, o + k * 2 + 1, none⟩) hl hs).trans h1⟩⟩
theorem mk_sums (w : World) : (Instr.makeMap 49 none).run Try.prog w = .ok (.map (some w.heap.size)) (w.alloc (.map #[] 0)) := by
  simp [Instr.makeMap, Result.andThen]
/-- both lists added, the best told: what a fusing answers -/
def Fused (w' : World) (v' : Value) (l : List FV) (code : Int) (M : VM) (k : Int) : Prop :=
  Vrd w' v' l ∧ (code = 0 → ∃ off, Off M off ∧ l = FuM.best k.toNat off) ∧ (code ≠ 0 → l = [])
theorem fused_no (w' : World) (code : Int) (M : VM) (k : Int) (h : code ≠ 0) : Fused w' (.slice none 0 0) [] code M k := ⟨vrd_nil _, fun e => absurd e h, fun _ => rfl⟩
set_option maxHeartbeats 8000000 in
set_option maxRecDepth 100000 in
theorem ranks_any (A1 A2 : Option Addr) (n1 n2 cp1 cp2 : Nat) (x y : List (Int × Int)) (c k : Int) (w : World) (hx : Pairs w A1 n1 x) (hy : Pairs w A2 n2 y) (ix : I2 x) (iy : I2 y) (hn1 : n1 ≤ 1000000) (hn2 : n2 ≤ 1000000) :
    Calls Try.prog 6 #[.slice A1 n1 cp1, .slice A2 n2 cp2, .int .i64 c, .int .i64 k] w fun e w' => ∃ v' l, e = .returned (.tuple #[v', .int .i64 (rkC x y c k)]) ∧ Fused w' v' l (rkC x y c k) (both (rkF c) (rkF c) x y) k ∧ Below w.heap.size w w' := by
  have HX := Lib.hid hx
  have HY := Lib.hid hy
  have HIX := Lib.hid ix
  have HIY := Lib.hid iy
  have hA0 := pl1 w (.cells #[.int .i64 c] 3)
  have hbx := heap_alloc_new w (.cells #[.int .i64 c] 3)
  have HA0 := Lib.hid hA0
  have HBX := Lib.hid hbx
  have hr1 := fright_any A1 n1 cp1 x _ (hx.later hA0) ix hn1
  clear hx hy ix iy hA0 hbx
  obtain ⟨cd, hcd⟩ : ∃ cd, cd = rkC x y c k := ⟨_, rfl⟩
  rw [← hcd]
  have hcd2 := hcd
  unfold rkC at hcd2
  cases h1 : listB x with
  | false =>
    rw [h1] at hr1 hcd2
    have HR1 := Lib.hid hr1
    obtain rfl : cd = 2 := by simpa using hcd2
    clear hr1 hcd hcd2 h1
    go_enter Try.func6, Try.ntmps6
    go_wp2_with fail
    refine HR1.out.mono ?_
    rintro e w2 ⟨rfl, hb2⟩
    have HB2 := Lib.hid (HA0.out.trans (hb2.mono HA0.out.size))
    clear hb2
    go_wp2
    exact bodyPost_ret (v := .tuple #[.slice none 0 0, .int .i64 2]) (by simp [results, Try.results6, go_sem]) rfl ⟨_, [], rfl, fused_no _ _ _ _ (by decide), HB2.out⟩
  | true =>
    rw [h1] at hr1 hcd2
    have HR1 := Lib.hid hr1
    have H1 := Lib.hid h1
    clear hr1 hcd h1
    cases h2 : listB y with
    | false =>
      have H2 := Lib.hid h2
      rw [h2] at hcd2
      obtain rfl : cd = 2 := by simpa using hcd2
      clear hcd2 h2
      go_enter Try.func6, Try.ntmps6
      go_wp2_with fail
      refine HR1.out.mono ?_
      rintro e w2 ⟨rfl, hb2⟩
      have HB2 := Lib.hid (HA0.out.trans (hb2.mono HA0.out.size))
      have hr2 := fright_any A2 n2 cp2 y _ (HY.out.later HB2.out) HIY.out hn2
      rw [H2.out] at hr2
      have HR2 := Lib.hid hr2
      clear hb2 hr2
      go_wp2_with fail
      refine HR2.out.mono ?_
      rintro e w3 ⟨rfl, hb3⟩
      have HB3 := Lib.hid (HB2.out.trans (hb3.mono HB2.out.size))
      clear hb3
      go_wp2
      exact bodyPost_ret (v := .tuple #[.slice none 0 0, .int .i64 2]) (by simp [results, Try.results6, go_sem]) rfl ⟨_, [], rfl, fused_no _ _ _ _ (by decide), HB3.out⟩
    | true =>
      have H2 := Lib.hid h2
      rw [h2] at hcd2
      simp only [Bool.and_self, Bool.true_eq_false, if_false] at hcd2
      clear h2
      have hbits : ∀ (a b : Bool), (a && b) = false ∨ (a = true ∧ b = true) := by decide
      by_cases hc1 : 1 ≤ c
      · have e1 : decide (c < 1) = false := decide_eq_false (by omega)
        by_cases hc2 : c ≤ 1000000
        · have e2 : decide (1000000 < c) = false := decide_eq_false (by omega)
          rw [decide_eq_true hc1, decide_eq_true hc2, Bool.and_self, Bool.true_and] at hcd2
          have hmay := fun W => mayfind_any k W
          unfold findB at hmay
          obtain ⟨fb, hfb⟩ : ∃ fb, fb = (decide (1 ≤ k) && decide (k ≤ 1000)) := ⟨_, rfl⟩
          rw [← hfb] at hmay hcd2
          have HM := Lib.hid hmay
          have HFB := Lib.hid hfb
          clear hmay hfb hbits
          cases fb with
          | false =>
            rw [if_pos rfl] at hcd2
            subst hcd2
            go_enter Try.func6, Try.ntmps6
            go_wp2_with fail
            refine HR1.out.mono ?_
            rintro e w2 ⟨rfl, hb2⟩
            have HB2 := Lib.hid (HA0.out.trans (hb2.mono HA0.out.size))
            have hr2 := fright_any A2 n2 cp2 y _ (HY.out.later HB2.out) HIY.out hn2
            rw [H2.out] at hr2
            have HR2 := Lib.hid hr2
            have HBX2 := Lib.hid (blk_stay hb2 HBX.out)
            clear hb2 hr2
            go_wp2_with fail
            refine HR2.out.mono ?_
            rintro e w3 ⟨rfl, hb3⟩
            have HB3 := Lib.hid (HB2.out.trans (hb3.mono HB2.out.size))
            have HBX3 := Lib.hid (blk_stay hb3 HBX2.out)
            have p0 := cell_of_cells (i := 0) HBX3.out rfl
            clear hb3
            go_wp2_with fail
            refine (HM.out _).mono ?_
            rintro e w4 ⟨rfl, rfl⟩
            go_wp2
            exact bodyPost_ret (v := .tuple #[.slice none 0 0, .int .i64 1]) (by simp [results, Try.results6, go_sem]) rfl ⟨_, [], rfl, fused_no _ _ _ _ (by decide), HB3.out⟩
          | true =>
            rw [if_neg (by decide)] at hcd2
            subst hcd2
            have HC : Hid (1 ≤ c ∧ c ≤ 1000000) := Lib.hid ⟨hc1, hc2⟩
            clear hc1 hc2
            have hmf := hmf_
            have hmk := mk_sums
            go_enter Try.func6, Try.ntmps6
            go_wp2_with fail
            refine HR1.out.mono ?_
            rintro e w2 ⟨rfl, hb2⟩
            have HB2 := Lib.hid (HA0.out.trans (hb2.mono HA0.out.size))
            have hr2 := fright_any A2 n2 cp2 y _ (HY.out.later HB2.out) HIY.out hn2
            rw [H2.out] at hr2
            have HR2 := Lib.hid hr2
            have HBX2 := Lib.hid (blk_stay hb2 HBX.out)
            clear hb2 hr2
            go_wp2_with fail
            refine HR2.out.mono ?_
            rintro e w3 ⟨rfl, hb3⟩
            have HB3 := Lib.hid (HB2.out.trans (hb3.mono HB2.out.size))
            have HBX3 := Lib.hid (blk_stay hb3 HBX2.out)
            have p0 := cell_of_cells (i := 0) HBX3.out rfl
            clear hb3
            go_wp2_with fail
            refine (HM.out _).mono ?_
            rintro e w4 ⟨rfl, rfl⟩
            go_wp2_with fail
            have gB : Below w.heap.size w (w4.alloc (.map #[] 0)) := HB3.out.trans ((pl1 _ _).mono HB3.out.size)
            have gO : Own (w4.alloc (.map #[] 0)) w4.heap.size 0 (.map []) := World.ownsMap_made _ _ _ _
            have gc := cell_of_cells (i := 0) (blk_stay (pl1 w4 (.map #[] 0)) HBX3.out) rfl
            have gX := HX.out.later gB
            have gY := HY.out.later gB
            have hwb : w.heap.size < w4.heap.size := (Array.getElem?_eq_some_iff.1 HBX3.out).1
            obtain ⟨b, hb⟩ : ∃ b, b = w4.heap.size := ⟨_, rfl⟩
            rw [← hb] at gO hwb ⊢
            generalize w4.alloc (.map #[] 0) = U at gB gO gc gX gY ⊢
            obtain ⟨fx1, fx2, fx3⟩ := far_of H1.out
            obtain ⟨fy1, fy2, fy3⟩ := far_of H2.out
            have hG := good_rk c HC.out x y fx2 fy2
            have hln1 := HX.out.1
            have hln2 := HY.out.1
            have hax : 0 < x.length → ∀ ad, A1 = some ad → ad.block ≠ b := fun h ad e => by
              have := pairs_blk HX.out h ad e
              omega
            have hay : 0 < y.length → ∀ ad, A2 = some ad → ad.block ≠ b := fun h ad e => by
              have := pairs_blk HY.out h ad e
              omega
            have hS1 := fadd_any A1 n1 cp1 b 0 _ _ _ (rkF c) x U gX HIX.out (by omega) fx3 hax gO Rep.none_ (by decide) (addc_rk U w.heap.size b c x gc (by omega) HC.out fx2) (fun k h => (hG.l k h).2) (fun d p h => by cases h)
            have HGO := Lib.hid hG
            have HAY := Lib.hid hay
            have HGY := Lib.hid gY
            have HGB := Lib.hid gB
            have HGC := Lib.hid gc
            have HF := Lib.hid (And.intro fy2 fy3)
            have HWB := Lib.hid hwb
            have HS1 := Lib.hid hS1
            clear hS1 hG hay hax gY gX gB gc gO fx1 fx2 fx3 fy1 fy2 fy3 hwb hb p0 HBX3
            refine HS1.out.mono ?_
            rintro e w5 ⟨rfl, D1, ho1, hr1, ht1⟩
            rw [addM_one] at hr1
            have hS2 := fadd_any A2 n2 cp2 b (0 + n1) D1 _ _ (rkF c) y w5 (pairs_turned HGY.out ht1 HAY.out) HIY.out (by have := HF.out.1; omega) HF.out.2 HAY.out ho1 hr1 (by omega) ((addc_rk U w.heap.size b c y HGC.out (by have := HWB.out; omega) HC.out HF.out.1).later ht1) (fun k h => (HGO.out.r k h).2) (fun d p h => (vOf_ok HGO.out.l h).2)
            have HT1 := Lib.hid ht1
            have HS2 := Lib.hid hS2
            clear hS2 ho1 hr1 ht1
            go_wp2_with fail
            refine HS2.out.mono ?_
            rintro e w6 ⟨rfl, D2, ho2, hr2, ht2⟩
            rw [addM_two] at hr2
            have hS3 := best_any b (0 + n1 + n2) k D2 _ w6 ho2 hr2 (fun d p h => both_ok HGO.out d p h) (by have := HF.out.1; have := (far_of H1.out).2.1; omega)
            have HT2 := Lib.hid (HT1.out.trans ht2)
            have HS3 := Lib.hid hS3
            clear hS3 ho2 hr2 ht2
            go_wp2_with fail
            refine HS3.out.mono ?_
            rintro e w7 ⟨v', off, rfl, hv, hnd, hmem, hb7⟩
            have HB7 : Hid (Below w.heap.size w w7) := Lib.hid (((HT2.out.below HGB.out (fun k hk => by have := HWB.out; omega))).trans (hb7.mono (by have := HGB.out.size; have := HT2.out.size; omega)))
            have HV := Lib.hid hv
            have HOFF : Hid (Off _ off) := Lib.hid ⟨hnd, hmem⟩
            clear hv hnd hmem hb7
            go_wp2
            exact bodyPost_ret (v := .tuple #[v', .int .i64 0]) (by simp [results, Try.results6, go_sem]) rfl ⟨v', _, rfl, ⟨HV.out, fun _ => ⟨off, HOFF.out, rfl⟩, fun h => absurd rfl h⟩, HB7.out⟩
        · have e2 : decide (1000000 < c) = true := decide_eq_true (by omega)
          have : cd = 1 := by rw [hcd2, decide_eq_false hc2]; simp
          subst this
          clear hcd2
          go_enter Try.func6, Try.ntmps6
          go_wp2_with fail
          refine HR1.out.mono ?_
          rintro e w2 ⟨rfl, hb2⟩
          have HB2 := Lib.hid (HA0.out.trans (hb2.mono HA0.out.size))
          have hr2 := fright_any A2 n2 cp2 y _ (HY.out.later HB2.out) HIY.out hn2
          rw [H2.out] at hr2
          have HR2 := Lib.hid hr2
          have HBX2 := Lib.hid (blk_stay hb2 HBX.out)
          clear hb2 hr2
          go_wp2_with fail
          refine HR2.out.mono ?_
          rintro e w3 ⟨rfl, hb3⟩
          have HB3 := Lib.hid (HB2.out.trans (hb3.mono HB2.out.size))
          have HBX3 := Lib.hid (blk_stay hb3 HBX2.out)
          have p0 := cell_of_cells (i := 0) HBX3.out rfl
          clear hb3
          go_wp2
          exact bodyPost_ret (v := .tuple #[.slice none 0 0, .int .i64 1]) (by simp [results, Try.results6, go_sem]) rfl ⟨_, [], rfl, fused_no _ _ _ _ (by decide), HB3.out⟩
      · have e1 : decide (c < 1) = true := decide_eq_true (by omega)
        have : cd = 1 := by rw [hcd2, decide_eq_false hc1]; simp
        subst this
        clear hcd2
        go_enter Try.func6, Try.ntmps6
        go_wp2_with fail
        refine HR1.out.mono ?_
        rintro e w2 ⟨rfl, hb2⟩
        have HB2 := Lib.hid (HA0.out.trans (hb2.mono HA0.out.size))
        have hr2 := fright_any A2 n2 cp2 y _ (HY.out.later HB2.out) HIY.out hn2
        rw [H2.out] at hr2
        have HR2 := Lib.hid hr2
        have HBX2 := Lib.hid (blk_stay hb2 HBX.out)
        clear hb2 hr2
        go_wp2_with fail
        refine HR2.out.mono ?_
        rintro e w3 ⟨rfl, hb3⟩
        have HB3 := Lib.hid (HB2.out.trans (hb3.mono HB2.out.size))
        have HBX3 := Lib.hid (blk_stay hb3 HBX2.out)
        have p0 := cell_of_cells (i := 0) HBX3.out rfl
        clear hb3
        go_wp2
        exact bodyPost_ret (v := .tuple #[.slice none 0 0, .int .i64 1]) (by simp [results, Try.results6, go_sem]) rfl ⟨_, [], rfl, fused_no _ _ _ _ (by decide), HB3.out⟩
end Go.Proofs.Ytneofgaklofigaa.Fu

/- Two lists made one by their scores. -/
namespace Go.Proofs.Ytneofgaklofigaa.Fu
open Go.RowKit Go.Proofs.Ytneofgaklofigaa FuM Go.Maps

set_option maxHeartbeats 2000000 in
set_option maxRecDepth 100000 in
theorem wmake_any (a : Int) (w : World) : Calls Try.prog 19 #[.int .i64 a] w fun e w' => e = .returned (.func (.func 20) #[] #[.pointer (some ⟨w.heap.size, 0, none⟩)]) ∧ w' = w.alloc (.cells #[.int .i64 a] 3) := by
  have hmf := hmf_
  go_enter Try.func19, Try.ntmps19
  go_wp2
  go_ret
  exact ⟨rfl, rfl⟩
set_option maxHeartbeats 8000000 in
set_option maxRecDepth 100000 in
theorem weights_any (A1 A2 : Option Addr) (n1 n2 cp1 cp2 : Nat) (x y : List (Int × Int)) (a b k : Int) (w : World) (hx : Pairs w A1 n1 x) (hy : Pairs w A2 n2 y) (ix : I2 x) (iy : I2 y) (hn1 : n1 ≤ 1000000) (hn2 : n2 ≤ 1000000) :
    Calls Try.prog 7 #[.slice A1 n1 cp1, .slice A2 n2 cp2, .int .i64 a, .int .i64 b, .int .i64 k] w fun e w' => ∃ v' l, e = .returned (.tuple #[v', .int .i64 (wtC x y a b k)]) ∧ Fused w' v' l (wtC x y a b k) (both (wtF a) (wtF b) x y) k ∧ Below w.heap.size w w' := by
  have HX := Lib.hid hx
  have HY := Lib.hid hy
  have HIX := Lib.hid ix
  have HIY := Lib.hid iy
  have hr1 := fright_any A1 n1 cp1 x _ hx ix hn1
  clear hx hy ix iy
  obtain ⟨cd, hcd⟩ : ∃ cd, cd = wtC x y a b k := ⟨_, rfl⟩
  rw [← hcd]
  have hcd2 := hcd
  unfold wtC at hcd2
  cases h1 : listB x with
  | false =>
    rw [h1] at hr1 hcd2
    have HR1 := Lib.hid hr1
    obtain rfl : cd = 2 := by simpa using hcd2
    clear hr1 hcd hcd2 h1
    go_enter Try.func7, Try.ntmps7
    go_wp2_with fail
    refine HR1.out.mono ?_
    rintro e w2 ⟨rfl, hb2⟩
    have HB2 := Lib.hid hb2
    clear hb2
    go_wp2
    exact bodyPost_ret (v := .tuple #[.slice none 0 0, .int .i64 2]) (by simp [results, Try.results7, go_sem]) rfl ⟨_, [], rfl, fused_no _ _ _ _ (by decide), HB2.out⟩
  | true =>
    rw [h1] at hr1 hcd2
    have HR1 := Lib.hid hr1
    have H1 := Lib.hid h1
    clear hr1 hcd h1
    cases h2 : listB y with
    | false =>
      have H2 := Lib.hid h2
      rw [h2] at hcd2
      obtain rfl : cd = 2 := by simpa using hcd2
      clear hcd2 h2
      go_enter Try.func7, Try.ntmps7
      go_wp2_with fail
      refine HR1.out.mono ?_
      rintro e w2 ⟨rfl, hb2⟩
      have HB2 := Lib.hid hb2
      have hr2 := fright_any A2 n2 cp2 y _ (HY.out.later HB2.out) HIY.out hn2
      rw [H2.out] at hr2
      have HR2 := Lib.hid hr2
      clear hb2 hr2
      go_wp2_with fail
      refine HR2.out.mono ?_
      rintro e w3 ⟨rfl, hb3⟩
      have HB3 := Lib.hid (HB2.out.trans (hb3.mono HB2.out.size))
      clear hb3
      go_wp2
      exact bodyPost_ret (v := .tuple #[.slice none 0 0, .int .i64 2]) (by simp [results, Try.results7, go_sem]) rfl ⟨_, [], rfl, fused_no _ _ _ _ (by decide), HB3.out⟩
    | true =>
      have H2 := Lib.hid h2
      rw [h2] at hcd2
      simp only [Bool.and_self, Bool.true_eq_false, if_false] at hcd2
      clear h2
      have hwa := fun W => isweight_any a W
      have hwb := fun W => isweight_any b W
      have hmay := fun W => mayfind_any k W
      unfold findB at hmay
      unfold wgtB at hwa hwb
      obtain ⟨fa, hfa⟩ : ∃ fa, fa = (decide (0 ≤ a) && decide (a ≤ 1000000)) := ⟨_, rfl⟩
      obtain ⟨fb, hfb⟩ : ∃ fb, fb = (decide (0 ≤ b) && decide (b ≤ 1000000)) := ⟨_, rfl⟩
      obtain ⟨fk, hfk⟩ : ∃ fk, fk = (decide (1 ≤ k) && decide (k ≤ 1000)) := ⟨_, rfl⟩
      rw [← hfa] at hwa hcd2
      rw [← hfb] at hwb hcd2
      rw [← hfk] at hmay hcd2
      have HM := Lib.hid hmay
      have HWA := Lib.hid hwa
      have HWB := Lib.hid hwb
      have HFA := Lib.hid hfa
      have HFB := Lib.hid hfb
      clear hmay hfk hwa hwb hfa hfb
      cases fa with
      | false =>
        obtain rfl : cd = 1 := by simpa using hcd2
        clear hcd2
        go_enter Try.func7, Try.ntmps7
        go_wp2_with fail
        refine HR1.out.mono ?_
        rintro e w2 ⟨rfl, hb2⟩
        have HB2 := Lib.hid hb2
        have hr2 := fright_any A2 n2 cp2 y _ (HY.out.later HB2.out) HIY.out hn2
        rw [H2.out] at hr2
        have HR2 := Lib.hid hr2
        clear hb2 hr2
        go_wp2_with fail
        refine HR2.out.mono ?_
        rintro e w3 ⟨rfl, hb3⟩
        have HB3 := Lib.hid (HB2.out.trans (hb3.mono HB2.out.size))
        clear hb3
        go_wp2_with fail
        refine (HWA.out _).mono ?_
        rintro e w4 ⟨rfl, rfl⟩
        go_wp2
        exact bodyPost_ret (v := .tuple #[.slice none 0 0, .int .i64 1]) (by simp [results, Try.results7, go_sem]) rfl ⟨_, [], rfl, fused_no _ _ _ _ (by decide), HB3.out⟩
      | true =>
        cases fb with
        | false =>
          obtain rfl : cd = 1 := by simpa using hcd2
          clear hcd2
          go_enter Try.func7, Try.ntmps7
          go_wp2_with fail
          refine HR1.out.mono ?_
          rintro e w2 ⟨rfl, hb2⟩
          have HB2 := Lib.hid hb2
          have hr2 := fright_any A2 n2 cp2 y _ (HY.out.later HB2.out) HIY.out hn2
          rw [H2.out] at hr2
          have HR2 := Lib.hid hr2
          clear hb2 hr2
          go_wp2_with fail
          refine HR2.out.mono ?_
          rintro e w3 ⟨rfl, hb3⟩
          have HB3 := Lib.hid (HB2.out.trans (hb3.mono HB2.out.size))
          clear hb3
          go_wp2_with fail
          refine (HWA.out _).mono ?_
          rintro e w4 ⟨rfl, rfl⟩
          go_wp2_with fail
          refine (HWB.out _).mono ?_
          rintro e w4 ⟨rfl, rfl⟩
          go_wp2
          exact bodyPost_ret (v := .tuple #[.slice none 0 0, .int .i64 1]) (by simp [results, Try.results7, go_sem]) rfl ⟨_, [], rfl, fused_no _ _ _ _ (by decide), HB3.out⟩
        | true =>
          by_cases hz : a = 0 ∧ b = 0
          · obtain ⟨rfl, rfl⟩ := hz
            obtain rfl : cd = 1 := by simpa using hcd2
            clear hcd2
            go_enter Try.func7, Try.ntmps7
            go_wp2_with fail
            refine HR1.out.mono ?_
            rintro e w2 ⟨rfl, hb2⟩
            have HB2 := Lib.hid hb2
            have hr2 := fright_any A2 n2 cp2 y _ (HY.out.later HB2.out) HIY.out hn2
            rw [H2.out] at hr2
            have HR2 := Lib.hid hr2
            clear hb2 hr2
            go_wp2_with fail
            refine HR2.out.mono ?_
            rintro e w3 ⟨rfl, hb3⟩
            have HB3 := Lib.hid (HB2.out.trans (hb3.mono HB2.out.size))
            clear hb3
            go_wp2_with fail
            refine (HWA.out _).mono ?_
            rintro e w4 ⟨rfl, rfl⟩
            go_wp2_with fail
            refine (HWB.out _).mono ?_
            rintro e w4 ⟨rfl, rfl⟩
            go_wp2
            exact bodyPost_ret (v := .tuple #[.slice none 0 0, .int .i64 1]) (by simp [results, Try.results7, go_sem]) rfl ⟨_, [], rfl, fused_no _ _ _ _ (by decide), HB3.out⟩
          · have hzb : (decide (a = 0) && decide (b = 0)) = false := by
              rw [Bool.and_eq_false_iff, decide_eq_false_iff_not, decide_eq_false_iff_not]
              omega
            rw [hzb] at hcd2
            simp only [Bool.and_self, Bool.not_false, Bool.true_and] at hcd2
            cases fk with
            | false =>
              obtain rfl : cd = 1 := by simpa using hcd2
              clear hcd2 hzb
              by_cases ha0 : a = 0
              · have e1 : (a == (0 : Int)) = true := by simp; exact ha0
                have e2 : (b == (0 : Int)) = false := by simp; omega
                clear hz ha0
                go_enter Try.func7, Try.ntmps7
                go_wp2_with fail
                refine HR1.out.mono ?_
                rintro e w2 ⟨rfl, hb2⟩
                have HB2 := Lib.hid hb2
                have hr2 := fright_any A2 n2 cp2 y _ (HY.out.later HB2.out) HIY.out hn2
                rw [H2.out] at hr2
                have HR2 := Lib.hid hr2
                clear hb2 hr2
                go_wp2_with fail
                refine HR2.out.mono ?_
                rintro e w3 ⟨rfl, hb3⟩
                have HB3 := Lib.hid (HB2.out.trans (hb3.mono HB2.out.size))
                clear hb3
                go_wp2_with fail
                refine (HWA.out _).mono ?_
                rintro e w4 ⟨rfl, rfl⟩
                go_wp2_with fail
                refine (HWB.out _).mono ?_
                rintro e w4 ⟨rfl, rfl⟩
                go_wp2_with fail
                refine (HM.out _).mono ?_
                rintro e w4 ⟨rfl, rfl⟩
                go_wp2
                exact bodyPost_ret (v := .tuple #[.slice none 0 0, .int .i64 1]) (by simp [results, Try.results7, go_sem]) rfl ⟨_, [], rfl, fused_no _ _ _ _ (by decide), HB3.out⟩
              · have e1 : (a == (0 : Int)) = false := by simp; omega
                clear hz ha0
                go_enter Try.func7, Try.ntmps7
                go_wp2_with fail
                refine HR1.out.mono ?_
                rintro e w2 ⟨rfl, hb2⟩
                have HB2 := Lib.hid hb2
                have hr2 := fright_any A2 n2 cp2 y _ (HY.out.later HB2.out) HIY.out hn2
                rw [H2.out] at hr2
                have HR2 := Lib.hid hr2
                clear hb2 hr2
                go_wp2_with fail
                refine HR2.out.mono ?_
                rintro e w3 ⟨rfl, hb3⟩
                have HB3 := Lib.hid (HB2.out.trans (hb3.mono HB2.out.size))
                clear hb3
                go_wp2_with fail
                refine (HWA.out _).mono ?_
                rintro e w4 ⟨rfl, rfl⟩
                go_wp2_with fail
                refine (HWB.out _).mono ?_
                rintro e w4 ⟨rfl, rfl⟩
                go_wp2_with fail
                refine (HM.out _).mono ?_
                rintro e w4 ⟨rfl, rfl⟩
                go_wp2
                exact bodyPost_ret (v := .tuple #[.slice none 0 0, .int .i64 1]) (by simp [results, Try.results7, go_sem]) rfl ⟨_, [], rfl, fused_no _ _ _ _ (by decide), HB3.out⟩
            | true =>
              obtain rfl : cd = 0 := by simpa using hcd2
              have HC : Hid ((0 ≤ a ∧ a ≤ 1000000) ∧ 0 ≤ b ∧ b ≤ 1000000) := Lib.hid (by
                have q1 := HFA.out
                have q2 := HFB.out
                simp at q1 q2
                omega)
              clear hcd2 hzb HFA HFB
              have hmk := mk_sums
              by_cases ha0 : a = 0
              · have e1 : (a == (0 : Int)) = true := by simp; exact ha0
                have e2 : (b == (0 : Int)) = false := by simp; omega
                clear hz ha0
                go_enter Try.func7, Try.ntmps7
                go_wp2_with fail
                refine HR1.out.mono ?_
                rintro e w2 ⟨rfl, hb2⟩
                have HB2 := Lib.hid hb2
                have hr2 := fright_any A2 n2 cp2 y _ (HY.out.later HB2.out) HIY.out hn2
                rw [H2.out] at hr2
                have HR2 := Lib.hid hr2
                clear hb2 hr2
                go_wp2_with fail
                refine HR2.out.mono ?_
                rintro e w3 ⟨rfl, hb3⟩
                have HB3 := Lib.hid (HB2.out.trans (hb3.mono HB2.out.size))
                clear hb3
                go_wp2_with fail
                refine (HWA.out _).mono ?_
                rintro e w4 ⟨rfl, rfl⟩
                go_wp2_with fail
                refine (HWB.out _).mono ?_
                rintro e w4 ⟨rfl, rfl⟩
                go_wp2_with fail
                refine (HM.out _).mono ?_
                rintro e w4 ⟨rfl, rfl⟩
                go_wp2_with fail
                have gB : Below w.heap.size w (w4.alloc (.map #[] 0)) := HB3.out.trans ((pl1 _ _).mono HB3.out.size)
                have gO : Own (w4.alloc (.map #[] 0)) w4.heap.size 0 (.map []) := World.ownsMap_made _ _ _ _
                have hwm : w.heap.size ≤ w4.heap.size := HB3.out.size
                obtain ⟨m, hm⟩ : ∃ m, m = w4.heap.size := ⟨_, rfl⟩
                rw [← hm] at gO hwm ⊢
                generalize w4.alloc (.map #[] 0) = U at gB gO ⊢
                have hmU := gO.lt
                have HGB1 := Lib.hid (gB.trans ((pl1 U (.cells #[.int .i64 a] 3)).mono gB.size))
                have gO1 := gO.later (pl1 U (.cells #[.int .i64 a] 3))
                have gc1 := cell_of_cells (i := 0) (heap_alloc_new U (.cells #[.int .i64 a] 3)) rfl
                obtain ⟨fx1, fx2, fx3⟩ := far_of H1.out
                obtain ⟨fy1, fy2, fy3⟩ := far_of H2.out
                have hG := good_wt a b HC.out.1 HC.out.2 x y fx1 fy1
                have hln1 := HX.out.1
                have hln2 := HY.out.1
                have hax : 0 < x.length → ∀ ad, A1 = some ad → ad.block ≠ m := fun h ad e => by
                  have := pairs_blk HX.out h ad e
                  omega
                have hay : 0 < y.length → ∀ ad, A2 = some ad → ad.block ≠ m := fun h ad e => by
                  have := pairs_blk HY.out h ad e
                  omega
                have hS1 := fadd_any A1 n1 cp1 m 0 _ _ _ (wtF a) x _ (HX.out.later HGB1.out) HIX.out (by omega) fx3 hax gO1 Rep.none_ (by decide) (addc_wt _ U.heap.size m a x gc1 (by omega) HC.out.1 fx1) (fun k h => (hG.l k h).2) (fun d p h => by cases h)
                have HGO := Lib.hid hG
                have HAY := Lib.hid hay
                have HF := Lib.hid (And.intro fy1 (And.intro fy2 fy3))
                have HWM := Lib.hid (And.intro hwm hmU)
                have HS1 := Lib.hid hS1
                clear hS1 hG hay hax gB gO gO1 gc1 fx1 fx2 fx3 fy1 fy2 fy3 hwm hmU hm
                refine (wmake_any a U).mono ?_
                rintro e w5 ⟨rfl, rfl⟩
                go_wp2_with fail
                refine HS1.out.mono ?_
                rintro e w5 ⟨rfl, D1, ho1, hr1, ht1⟩
                rw [addM_one] at hr1
                have HT1 := Lib.hid ht1
                have HO1 := Lib.hid ho1
                have HR1' := Lib.hid hr1
                clear ht1 ho1 hr1
                go_wp2_with fail
                refine (wmake_any b w5).mono ?_
                rintro e w6 ⟨rfl, rfl⟩
                have hS2 := fadd_any A2 n2 cp2 m (0 + n1) D1 _ _ (wtF b) y (w5.alloc (.cells #[.int .i64 b] 3)) (pairs_turned (HY.out.later HGB1.out) (HT1.out.alloc _) HAY.out) HIY.out (by have := HF.out.2.1; omega) HF.out.2.2 HAY.out (HO1.out.later (pl1 _ _)) HR1'.out (by omega) (addc_wt _ w5.heap.size m b y (cell_of_cells (i := 0) (heap_alloc_new w5 (.cells #[.int .i64 b] 3)) rfl) (by have := HO1.out.lt; omega) HC.out.2 HF.out.1) (fun k h => (HGO.out.r k h).2) (fun d p h => (vOf_ok HGO.out.l h).2)
                have HS2 := Lib.hid hS2
                have HT1b := Lib.hid (HT1.out.alloc (.cells #[.int .i64 b] 3))
                clear hS2
                go_wp2_with fail
                refine HS2.out.mono ?_
                rintro e w6 ⟨rfl, D2, ho2, hr2, ht2⟩
                rw [addM_two] at hr2
                have hS3 := best_any m (0 + n1 + n2) k D2 _ w6 ho2 hr2 (fun d p h => both_ok HGO.out d p h) (by have := HF.out.2.1; have := (far_of H1.out).2.1; omega)
                have HT2 := Lib.hid (HT1b.out.trans ht2)
                have HS3 := Lib.hid hS3
                clear hS3 ho2 hr2 ht2
                go_wp2_with fail
                refine HS3.out.mono ?_
                rintro e w7 ⟨v', off, rfl, hv, hnd, hmem, hb7⟩
                have HB6 : Hid (Below w.heap.size w w6) := Lib.hid (HT2.out.below HGB1.out (fun k hk => by have := HWM.out; omega))
                have HB7 : Hid (Below w.heap.size w w7) := Lib.hid (HB6.out.trans (hb7.mono HB6.out.size))
                have HV := Lib.hid hv
                have HOFF : Hid (Off _ off) := Lib.hid ⟨hnd, hmem⟩
                clear hv hnd hmem hb7
                go_wp2
                exact bodyPost_ret (v := .tuple #[v', .int .i64 0]) (by simp [results, Try.results7, go_sem]) rfl ⟨v', _, rfl, ⟨HV.out, fun _ => ⟨off, HOFF.out, rfl⟩, fun h => absurd rfl h⟩, HB7.out⟩
              · have e1 : (a == (0 : Int)) = false := by simp; omega
                clear hz ha0
                go_enter Try.func7, Try.ntmps7
                go_wp2_with fail
                refine HR1.out.mono ?_
                rintro e w2 ⟨rfl, hb2⟩
                have HB2 := Lib.hid hb2
                have hr2 := fright_any A2 n2 cp2 y _ (HY.out.later HB2.out) HIY.out hn2
                rw [H2.out] at hr2
                have HR2 := Lib.hid hr2
                clear hb2 hr2
                go_wp2_with fail
                refine HR2.out.mono ?_
                rintro e w3 ⟨rfl, hb3⟩
                have HB3 := Lib.hid (HB2.out.trans (hb3.mono HB2.out.size))
                clear hb3
                go_wp2_with fail
                refine (HWA.out _).mono ?_
                rintro e w4 ⟨rfl, rfl⟩
                go_wp2_with fail
                refine (HWB.out _).mono ?_
                rintro e w4 ⟨rfl, rfl⟩
                go_wp2_with fail
                refine (HM.out _).mono ?_
                rintro e w4 ⟨rfl, rfl⟩
                go_wp2_with fail
                have gB : Below w.heap.size w (w4.alloc (.map #[] 0)) := HB3.out.trans ((pl1 _ _).mono HB3.out.size)
                have gO : Own (w4.alloc (.map #[] 0)) w4.heap.size 0 (.map []) := World.ownsMap_made _ _ _ _
                have hwm : w.heap.size ≤ w4.heap.size := HB3.out.size
                obtain ⟨m, hm⟩ : ∃ m, m = w4.heap.size := ⟨_, rfl⟩
                rw [← hm] at gO hwm ⊢
                generalize w4.alloc (.map #[] 0) = U at gB gO ⊢
                have hmU := gO.lt
                have HGB1 := Lib.hid (gB.trans ((pl1 U (.cells #[.int .i64 a] 3)).mono gB.size))
                have gO1 := gO.later (pl1 U (.cells #[.int .i64 a] 3))
                have gc1 := cell_of_cells (i := 0) (heap_alloc_new U (.cells #[.int .i64 a] 3)) rfl
                obtain ⟨fx1, fx2, fx3⟩ := far_of H1.out
                obtain ⟨fy1, fy2, fy3⟩ := far_of H2.out
                have hG := good_wt a b HC.out.1 HC.out.2 x y fx1 fy1
                have hln1 := HX.out.1
                have hln2 := HY.out.1
                have hax : 0 < x.length → ∀ ad, A1 = some ad → ad.block ≠ m := fun h ad e => by
                  have := pairs_blk HX.out h ad e
                  omega
                have hay : 0 < y.length → ∀ ad, A2 = some ad → ad.block ≠ m := fun h ad e => by
                  have := pairs_blk HY.out h ad e
                  omega
                have hS1 := fadd_any A1 n1 cp1 m 0 _ _ _ (wtF a) x _ (HX.out.later HGB1.out) HIX.out (by omega) fx3 hax gO1 Rep.none_ (by decide) (addc_wt _ U.heap.size m a x gc1 (by omega) HC.out.1 fx1) (fun k h => (hG.l k h).2) (fun d p h => by cases h)
                have HGO := Lib.hid hG
                have HAY := Lib.hid hay
                have HF := Lib.hid (And.intro fy1 (And.intro fy2 fy3))
                have HWM := Lib.hid (And.intro hwm hmU)
                have HS1 := Lib.hid hS1
                clear hS1 hG hay hax gB gO gO1 gc1 fx1 fx2 fx3 fy1 fy2 fy3 hwm hmU hm
                refine (wmake_any a U).mono ?_
                rintro e w5 ⟨rfl, rfl⟩
                go_wp2_with fail
                refine HS1.out.mono ?_
                rintro e w5 ⟨rfl, D1, ho1, hr1, ht1⟩
                rw [addM_one] at hr1
                have HT1 := Lib.hid ht1
                have HO1 := Lib.hid ho1
                have HR1' := Lib.hid hr1
                clear ht1 ho1 hr1
                go_wp2_with fail
                refine (wmake_any b w5).mono ?_
                rintro e w6 ⟨rfl, rfl⟩
                have hS2 := fadd_any A2 n2 cp2 m (0 + n1) D1 _ _ (wtF b) y (w5.alloc (.cells #[.int .i64 b] 3)) (pairs_turned (HY.out.later HGB1.out) (HT1.out.alloc _) HAY.out) HIY.out (by have := HF.out.2.1; omega) HF.out.2.2 HAY.out (HO1.out.later (pl1 _ _)) HR1'.out (by omega) (addc_wt _ w5.heap.size m b y (cell_of_cells (i := 0) (heap_alloc_new w5 (.cells #[.int .i64 b] 3)) rfl) (by have := HO1.out.lt; omega) HC.out.2 HF.out.1) (fun k h => (HGO.out.r k h).2) (fun d p h => (vOf_ok HGO.out.l h).2)
                have HS2 := Lib.hid hS2
                have HT1b := Lib.hid (HT1.out.alloc (.cells #[.int .i64 b] 3))
                clear hS2
                go_wp2_with fail
                refine HS2.out.mono ?_
                rintro e w6 ⟨rfl, D2, ho2, hr2, ht2⟩
                rw [addM_two] at hr2
                have hS3 := best_any m (0 + n1 + n2) k D2 _ w6 ho2 hr2 (fun d p h => both_ok HGO.out d p h) (by have := HF.out.2.1; have := (far_of H1.out).2.1; omega)
                have HT2 := Lib.hid (HT1b.out.trans ht2)
                have HS3 := Lib.hid hS3
                clear hS3 ho2 hr2 ht2
                go_wp2_with fail
                refine HS3.out.mono ?_
                rintro e w7 ⟨v', off, rfl, hv, hnd, hmem, hb7⟩
                have HB6 : Hid (Below w.heap.size w w6) := Lib.hid (HT2.out.below HGB1.out (fun k hk => by have := HWM.out; omega))
                have HB7 : Hid (Below w.heap.size w w7) := Lib.hid (HB6.out.trans (hb7.mono HB6.out.size))
                have HV := Lib.hid hv
                have HOFF : Hid (Off _ off) := Lib.hid ⟨hnd, hmem⟩
                clear hv hnd hmem hb7
                go_wp2
                exact bodyPost_ret (v := .tuple #[v', .int .i64 0]) (by simp [results, Try.results7, go_sem]) rfl ⟨v', _, rfl, ⟨HV.out, fun _ => ⟨off, HOFF.out, rfl⟩, fun h => absurd rfl h⟩, HB7.out⟩
end Go.Proofs.Ytneofgaklofigaa.Fu

/- awake of layer 8 answers true. -/
namespace Go.Proofs.Ytneofgaklofigaa.Fu
open Go.RowKit Go.Proofs.Ytneofgaklofigaa FuM

theorem scored_ty : PairTy 37 22 := ⟨by kernel_rfl, Try.underlying22⟩
theorem pairs_cells {w : World} {b o n : Nat} {l : List (Int × Int)} (hS : Pairs w (some ⟨b, o, none⟩) n l) (j : Nat) (u : Value) (hu : (l.flatMap enc2)[j]? = some u) : w.cell? ⟨b, o + j, none⟩ = some u := by
  have hj : j < l.length * 2 := by
    have := (List.getElem?_eq_some_iff.1 hu).1
    rwa [Go.Proofs.Ytneofgaklofigaa.flat_len] at this
  obtain ⟨b', o', e, _, h0, h1⟩ := hS.2 (j / 2) (by omega)
  obtain ⟨g0, g1⟩ := Go.Proofs.Ytneofgaklofigaa.flat_get l (j / 2) (by omega)
  injection e with e
  injection e with e1 e2 _
  subst e1
  subst e2
  rcases Nat.mod_two_eq_zero_or_one j with hm | hm
  · have ej : j = j / 2 * 2 := by omega
    rw [ej, g0] at hu
    rw [ej]
    exact h0.trans hu
  · have ej : j = j / 2 * 2 + 1 := by omega
    rw [ej, g1] at hu
    rw [ej, ← Nat.add_assoc]
    exact h1.trans hu
theorem enc_one (l : List (Int × Int)) : ∀ u ∈ l.flatMap enc2, u.oneCell' = true := fun u hu => by
  simp only [List.mem_flatMap, enc2] at hu
  obtain ⟨t, _, hu⟩ := hu
  simp at hu
  rcases hu with rfl | rfl <;> rfl
/-- append onto a full row: new memory -/
theorem wpList_append_full {w : World} {ops : Array Oper} {rest : List Oper} {o : Oper} {a : Act} {Q : Exit → Act → World → Prop} {e T : TypeId} (ty : PairTy e T) (hgd : o.guard = none) (s x : Operand)
    (ho : o.op = .call { callee := .builtin .append, args := #[s, x], argTypes := #[T, T] })
    (b off n : Nat) (l0 : List (Int × Int)) (hs : a.eval s = .slice (some ⟨b, off, none⟩) n n) (h0 : Pairs w (some ⟨b, off, none⟩) n l0)
    (b2 off2 m cp : Nat) (l : List (Int × Int)) (hx : a.eval x = .slice (some ⟨b2, off2, none⟩) m cp) (h1 : Pairs w (some ⟨b2, off2, none⟩) m l) (hm : 0 < m) (hn : n + m ≤ 1000000000)
    (h : ∀ v' w', PRow e w' w.heap.size v' (l0 ++ l) → w.grownBy w' none → wpList Try.prog ops Q rest (a.put o.dst v') w') : wpList Try.prog ops Q (o :: rest) a w := by
  obtain ⟨i0, hi, hz0, hz1, hz2⟩ := info_parts ty.info
  refine wpList_append_arg w hgd s x T ho e i0 _ 2 16 ty.sl hi hz0 hz1 hz2 rfl (by omega) b off n n (l0.flatMap enc2) hs (by rw [Go.Proofs.Ytneofgaklofigaa.flat_len, h0.1]) (pairs_cells h0) ⟨b2, off2, none⟩ m cp (l.flatMap enc2) hx (by rw [Go.Proofs.Ytneofgaklofigaa.flat_len, h1.1]) (fun j u hu => by rw [add_none]; exact pairs_cells h1 j u hu) (enc_one l) (fun hc => absurd hc (by omega)) (by simp [maxLen]; omega) (by omega) (fun hc => absurd hc (by omega)) ?_
  intro _ v' w' hown hg
  refine h v' w' ?_ hg
  unfold PRow
  rw [List.length_append, List.flatMap_append, h0.1, h1.1]
  exact hown

theorem off_one (M : VM) (a : FV) (h : ∀ d, M d = if d = a.1.1 then some a.1.2 else none) : Off M [a] := by
  refine ⟨by simp, fun z => ?_⟩
  rw [h, List.mem_singleton]
  constructor
  · rintro rfl
    rw [if_pos rfl]
  · intro hz
    split at hz
    · rename_i e
      injection hz with hz
      exact Subtype.ext (Prod.ext e hz.symm)
    · cases hz
theorem off_two (M : VM) (a b : FV) (hne : a.1.1 ≠ b.1.1) (h : ∀ d, M d = if d = a.1.1 then some a.1.2 else if d = b.1.1 then some b.1.2 else none) : Off M [a, b] := by
  refine ⟨by simp; rintro rfl; exact hne rfl, fun z => ?_⟩
  rw [h]
  simp only [List.mem_cons, List.not_mem_nil, or_false]
  constructor
  · rintro (rfl | rfl)
    · rw [if_pos rfl]
    · rw [if_neg (fun e => hne e.symm), if_pos rfl]
  · intro hz
    split at hz
    · rename_i e
      injection hz with hz
      exact .inl (Subtype.ext (Prod.ext e hz.symm))
    · split at hz
      · rename_i e
        injection hz with hz
        exact .inr (Subtype.ext (Prod.ext e hz.symm))
      · cases hz
theorem srt_two {a b : FV} (h : FuM.bet b a = false) : FuM.srt [a, b] = [a, b] := FuM.srt_is (by unfold FuM.Srt; simp [h]) (List.Perm.refl _)
def aX : List (Int × Int) := [(5, 2)]
def aY : List (Int × Int) := [(5, 3), (6, 1)]
theorem ok_a5 : Ok (5, 1, 1) := ⟨⟨by decide, by decide⟩, by decide, by decide, by decide⟩
theorem ok_a6 : Ok (6, 1, 3) := ⟨⟨by decide, by decide⟩, by decide, by decide, by decide⟩
theorem ok_b5 : Ok (5, 23, 1) := ⟨⟨by decide, by decide⟩, by decide, by decide, by decide⟩
theorem ok_b6 : Ok (6, 1, 1) := ⟨⟨by decide, by decide⟩, by decide, by decide, by decide⟩
def a5 : FV := ⟨(5, 1, 1), ok_a5⟩
def a6 : FV := ⟨(6, 1, 3), ok_a6⟩
def b5 : FV := ⟨(5, 23, 1), ok_b5⟩
def b6 : FV := ⟨(6, 1, 1), ok_b6⟩
theorem aw8_ma (d : Int) : both (rkF 1) (rkF 1) aX aY d = if d = 5 then some (1, 1) else if d = 6 then some (1, 3) else none := by
  have e : sumV (1, 2) (1, 2) = (1, 1) := by decide
  by_cases h5 : d = 5
  · subst h5
    show some (sumV (1, 2) (1, 2)) = _
    rw [e]
    rfl
  · by_cases h6 : d = 6
    · subst h6
      rfl
    · unfold both aX aY
      simp only [vOf]
      rw [if_neg (fun e => h5 e.symm), if_neg (fun e => h5 e.symm), if_neg (fun e => h6 e.symm), if_neg h5, if_neg h6]
      rfl
theorem aw8_mb (d : Int) : both (wtF 10) (wtF 1) aX aY d = if d = 5 then some (23, 1) else if d = 6 then some (1, 1) else none := by
  have e : sumV (20, 1) (3, 1) = (23, 1) := by decide
  by_cases h5 : d = 5
  · subst h5
    show some (sumV (20, 1) (3, 1)) = _
    rw [e]
    rfl
  · by_cases h6 : d = 6
    · subst h6
      rfl
    · unfold both aX aY
      simp only [vOf]
      rw [if_neg (fun e => h5 e.symm), if_neg (fun e => h5 e.symm), if_neg (fun e => h6 e.symm), if_neg h5, if_neg h6]
      rfl
theorem aw8_a {off : List FV} (h : Off (both (rkF 1) (rkF 1) aX aY) off) : FuM.best (9 : Int).toNat off = [a5, a6] := by
  rw [h.best (off_two (both (rkF 1) (rkF 1) aX aY) a5 a6 (by decide) aw8_ma) (fun _ => rfl)]
  unfold FuM.best
  rw [srt_two (by decide)]
  rfl
theorem aw8_b {off : List FV} (h : Off (both (wtF 10) (wtF 1) aX aY) off) : FuM.best (1 : Int).toNat off = [b5] := by
  rw [h.best (off_two (both (wtF 10) (wtF 1) aX aY) b5 b6 (by decide) aw8_mb) (fun _ => rfl)]
  unfold FuM.best
  rw [srt_two (by decide)]
  rfl
theorem aw8_c : rkC aX aY 1 9 = 0 ∧ wtC aX aY 10 1 1 = 0 ∧ rkC (aY ++ aY) aX 1 9 = 2 ∧ wtC aX aY 0 0 9 = 1 ∧ listB aY = true ∧ FuM.bet a5 a6 = true := by decide
end Go.Proofs.Ytneofgaklofigaa.Fu

/- awake of layer 8, walked. -/
namespace Go.Proofs.Ytneofgaklofigaa.Fu
open Go.RowKit Go.Proofs.Ytneofgaklofigaa FuM

theorem keepV {B : Nat} {w w' : World} {p : Addr} {v : Value} (hb : Below B w w') (h : w.cell? p = some v) (hp : p.block < B) : w'.cell? p = some v := (hb.cell hp).trans h
theorem below_none {w w' : World} (hg : w.grownBy w' none) : Below w.heap.size w w' := ⟨hg.os, hg.tape, hg.output, hg.size, fun k hk => hg.block k hk (by simp)⟩
set_option maxHeartbeats 8000000 in
set_option maxRecDepth 100000 in
theorem awake8_any (w : World) :
    Calls Try.prog 5 #[] w fun e w' => e = .returned (.bool true) ∧ Below w.heap.size w w' := by
  obtain ⟨U, hU⟩ : ∃ U, U = (w.alloc (.cells #[.int .i64 5, .int .i64 2] 37)).alloc (.cells #[.int .i64 5, .int .i64 3, .int .i64 6, .int .i64 1] 37) := ⟨_, rfl⟩
  have hB : Below w.heap.size w U := by rw [hU]; exact (pl1 _ _).trans ((pl1 _ _).mono (by simp))
  have hx0 := heap_alloc_new w (.cells #[.int .i64 5, .int .i64 2] 37)
  have hX0 := blk_stay (pl1 (w.alloc (.cells #[.int .i64 5, .int .i64 2] 37)) (.cells #[.int .i64 5, .int .i64 3, .int .i64 6, .int .i64 1] 37)) hx0
  have hY0 := heap_alloc_new (w.alloc (.cells #[.int .i64 5, .int .i64 2] 37)) (.cells #[.int .i64 5, .int .i64 3, .int .i64 6, .int .i64 1] 37)
  rw [show (w.alloc (.cells #[.int .i64 5, .int .i64 2] 37)).heap.size = w.heap.size + 1 by simp] at hY0
  rw [← hU] at hX0 hY0
  obtain ⟨X, hXe⟩ : ∃ X, X = w.heap.size := ⟨_, rfl⟩
  have hPX : Pairs U (some ⟨w.heap.size, 0, none⟩) 1 aX := ⟨rfl, fun k hk => by
    match k, hk with
    | 0, _ => exact ⟨_, 0, rfl, (Array.getElem?_eq_some_iff.1 hX0).1, cell_of_cells (i := 0) hX0 rfl, cell_of_cells (i := 1) hX0 rfl⟩⟩
  have hPY : Pairs U (some ⟨w.heap.size + 1, 0, none⟩) 2 aY := ⟨rfl, fun k hk => by
    match k, hk with
    | 0, _ => exact ⟨_, 0, rfl, (Array.getElem?_eq_some_iff.1 hY0).1, cell_of_cells (i := 0) hY0 rfl, cell_of_cells (i := 1) hY0 rfl⟩
    | 1, _ => exact ⟨_, 0, rfl, (Array.getElem?_eq_some_iff.1 hY0).1, cell_of_cells (i := 2) hY0 rfl, cell_of_cells (i := 3) hY0 rfl⟩⟩
  have ix : I2 aX := by unfold I2 aX; simp
  have iy : I2 aY := by unfold I2 aY; simp
  have HX := Lib.hid hPX
  have HY := Lib.hid hPY
  have HB := Lib.hid hB
  obtain ⟨c1, c2, c3, c4, c5, c6⟩ := aw8_c
  have R1 := Lib.hid (fun W (hW : Below U.heap.size U W) => ranks_any (some ⟨w.heap.size, 0, none⟩) (some ⟨w.heap.size + 1, 0, none⟩) 1 2 1 2 aX aY 1 9 W (HX.out.later hW) (HY.out.later hW) ix iy (by decide) (by decide))
  rw [c1] at R1
  have R2 := Lib.hid (fun W (hW : Below U.heap.size U W) => weights_any (some ⟨w.heap.size, 0, none⟩) (some ⟨w.heap.size + 1, 0, none⟩) 1 2 1 2 aX aY 10 1 1 W (HX.out.later hW) (HY.out.later hW) ix iy (by decide) (by decide))
  rw [c2] at R2
  have R3 := Lib.hid (fun W (hW : Below U.heap.size U W) A cp (hA : Pairs W A 4 (aY ++ aY)) => ranks_any A (some ⟨w.heap.size, 0, none⟩) 4 1 cp 1 (aY ++ aY) aX 1 9 W hA (HX.out.later hW) (by unfold I2 aY; simp) ix (by decide) (by decide))
  rw [c3] at R3
  have R4 := Lib.hid (fun W (hW : Below U.heap.size U W) => weights_any (some ⟨w.heap.size, 0, none⟩) (some ⟨w.heap.size + 1, 0, none⟩) 1 2 1 2 aX aY 0 0 9 W (HX.out.later hW) (HY.out.later hW) ix iy (by decide) (by decide))
  rw [c4] at R4
  have R5 := Lib.hid (fun W (hW : Below U.heap.size U W) => fright_any (some ⟨w.heap.size + 1, 0, none⟩) 2 2 aY W (HY.out.later hW) iy (by decide))
  rw [c5] at R5
  have R6 := Lib.hid (fun W => better_any a5 a6 W)
  rw [c6] at R6
  rw [← hXe] at HX HY R1 R2 R3 R4 R5
  clear hB hx0 hX0 hY0 hPX hPY ix iy c1 c2 c3 c4 c5 c6
  go_enter Try.func5, Try.ntmps5
  go_wp2_with fail
  rw [← hU, ← hXe]
  clear hU hXe
  refine (R1.out _ (Below.refl _ _)).mono ?_
  rintro e w1 ⟨v1, l1, rfl, ⟨hv1, hl1, _⟩, b1⟩
  obtain ⟨off1, ho1, rfl⟩ := hl1 rfl
  rw [aw8_a ho1] at hv1
  have B1 := Lib.hid b1
  have HV1 := Lib.hid hv1
  clear hl1 ho1 hv1 b1
  go_wp2_with fail
  refine (R2.out _ B1.out).mono ?_
  rintro e w2 ⟨v2, l2, rfl, ⟨hv2, hl2, _⟩, b2⟩
  obtain ⟨off2, ho2, rfl⟩ := hl2 rfl
  rw [aw8_b ho2] at hv2
  have B2 := Lib.hid (B1.out.trans (b2.mono B1.out.size))
  have HV12 := Lib.hid (HV1.out.later b2)
  have HV2 := Lib.hid hv2
  clear hl2 ho2 hv2 b2
  go_wp2_with (at_builtin; refine wpList_append_full scored_ty rfl _ _ rfl (X + 1) 0 2 aY rfl (HY.out.later B2.out) (X + 1) 0 2 2 aY rfl (HY.out.later B2.out) (by decide) (by decide) ?_; intro v3 w3 hown3 hg3)
  have b3 := below_none hg3
  have B3 := Lib.hid (B2.out.trans (b3.mono B2.out.size))
  obtain ⟨A3, cp3, e3, _, _, hp3⟩ := hown3.prd
  subst e3
  have hr3 := R3.out w3 B3.out A3 cp3 hp3
  have HR3 := Lib.hid hr3
  have HV13 := Lib.hid (HV12.out.later b3)
  have HV23 := Lib.hid (HV2.out.later b3)
  clear hown3 hg3 b3 hp3 hr3
  refine HR3.out.mono ?_
  rintro e w4 ⟨v4, l4, rfl, _, b4⟩
  have B4 := Lib.hid (B3.out.trans (b4.mono B3.out.size))
  have HV14 := Lib.hid (HV13.out.later b4)
  have HV24 := Lib.hid (HV23.out.later b4)
  clear b4
  go_wp2_with fail
  refine (R4.out _ B4.out).mono ?_
  rintro e w5 ⟨v5, l5, rfl, _, b5⟩
  have B5 := Lib.hid (B4.out.trans (b5.mono B4.out.size))
  have hv1 := HV14.out.later b5
  have hv2 := HV24.out.later b5
  clear b5
  obtain ⟨A1, ca1, rfl, hca1, _, _, hP1⟩ := hv1
  obtain ⟨A2, ca2, rfl, hca2, _, _, hP2⟩ := hv2
  obtain ⟨g1, o1, rfl, hgl1, q0, q1, q2⟩ := hP1 0 (by decide)
  obtain ⟨g1', o1', e', _, q3, q4, q5⟩ := hP1 1 (by decide)
  injection e' with e'
  injection e' with e1 e2 _
  subst e1
  subst e2
  obtain ⟨g2, o2, rfl, hgl2, r0, r1, r2⟩ := hP2 0 (by decide)
  change w5.cell? ⟨g1, o1 + 0 * 3, none⟩ = some (.int .i64 5) at q0
  change w5.cell? ⟨g1, o1 + 0 * 3 + 1, none⟩ = some (.int .i64 1) at q1
  change w5.cell? ⟨g1, o1 + 0 * 3 + 2, none⟩ = some (.int .i64 1) at q2
  change w5.cell? ⟨g1, o1 + 1 * 3, none⟩ = some (.int .i64 6) at q3
  change w5.cell? ⟨g1, o1 + 1 * 3 + 1, none⟩ = some (.int .i64 1) at q4
  change w5.cell? ⟨g1, o1 + 1 * 3 + 2, none⟩ = some (.int .i64 3) at q5
  change w5.cell? ⟨g2, o2 + 0 * 3, none⟩ = some (.int .i64 5) at r0
  change w5.cell? ⟨g2, o2 + 0 * 3 + 1, none⟩ = some (.int .i64 23) at r1
  change w5.cell? ⟨g2, o2 + 0 * 3 + 2, none⟩ = some (.int .i64 1) at r2
  simp only [List.length_cons, List.length_nil] at hca1 hca2 ⊢
  rw [Nat.zero_mul, Nat.add_zero] at q0 q1 q2 r0 r1 r2
  rw [Nat.one_mul] at q3 q4 q5
  change Hid (∀ W, Calls Try.prog 11 #[.agg #[.int .i64 5, .int .i64 1, .int .i64 1], .agg #[.int .i64 6, .int .i64 1, .int .i64 3]] W fun e w' => e = .returned (.bool true) ∧ Mo.Below W.heap.size W w') at R6
  clear hP1 hP2
  have HR5 : Hid (∀ W, Below w5.heap.size w5 W → Calls Try.prog 12 #[.slice (some ⟨X + 1, 0, none⟩) 2 2] W fun e w' => e = .returned (.bool true) ∧ Below w5.heap.size w5 w') := Lib.hid (fun W hW => (R5.out W (B5.out.trans (hW.mono B5.out.size))).mono (by
    rintro e w' ⟨rfl, hb⟩
    exact ⟨rfl, hW.trans (hb.mono hW.size)⟩))
  have HR6 : Hid (∀ W, Below w5.heap.size w5 W → Calls Try.prog 11 #[.agg #[.int .i64 5, .int .i64 1, .int .i64 1], .agg #[.int .i64 6, .int .i64 1, .int .i64 3]] W fun e w' => e = .returned (.bool true) ∧ Below w5.heap.size w5 w') := Lib.hid (fun W hW => (R6.out W).mono (by
    rintro e w' ⟨rfl, hb⟩
    exact ⟨rfl, hW.trans (hb.low.mono hW.size)⟩))
  clear R1 R2 R3 R4 R5 R6 HR3 HV1 HV12 HV13 HV14 HV2 HV23 HV24 HX HY B1 B2 B3 B4
  go_wp2_with fail
  go_region_held3 (fun w' => w'.cell? ⟨g1, o1, none⟩ = some (.int .i64 5) ∧ w'.cell? ⟨g1, o1 + 1, none⟩ = some (.int .i64 1) ∧ w'.cell? ⟨g1, o1 + 2, none⟩ = some (.int .i64 1) ∧ w'.cell? ⟨g1, o1 + 3, none⟩ = some (.int .i64 6) ∧ w'.cell? ⟨g1, o1 + 3 + 1, none⟩ = some (.int .i64 1) ∧ w'.cell? ⟨g1, o1 + 3 + 2, none⟩ = some (.int .i64 3) ∧ w'.cell? ⟨g2, o2, none⟩ = some (.int .i64 5) ∧ w'.cell? ⟨g2, o2 + 1, none⟩ = some (.int .i64 23) ∧ w'.cell? ⟨g2, o2 + 2, none⟩ = some (.int .i64 1) ∧ Below w5.heap.size w5 w')
    ((first | exact ⟨keepV hbz q0 hgl1, keepV hbz q1 hgl1, keepV hbz q2 hgl1, keepV hbz q3 hgl1, keepV hbz q4 hgl1, keepV hbz q5 hgl1, keepV hbz r0 hgl2, keepV hbz r1 hgl2, keepV hbz r2 hgl2, hbz⟩ | exact ⟨q0, q1, q2, q3, q4, q5, r0, r1, r2, (Below.refl w5.heap.size w5).drew⟩ | go_keep))
    (first
      | (go_at_call 12; ((with_reducible refine (HR5.out _ (by first | assumption | exact (Below.refl _ _).drew)).mono ?_); rintro e wz ⟨rfl, hbz⟩))
      | (go_at_call 11; ((with_reducible refine (HR6.out _ (by first | assumption | exact (Below.refl _ _).drew)).mono ?_); rintro e wy ⟨rfl, hbz⟩)))
  go_wp2
  go_ret
  exact ⟨rfl, HB.out.trans ((B5.out.trans (hbz.mono B5.out.size)).mono HB.out.size)⟩
end Go.Proofs.Ytneofgaklofigaa.Fu

/- Values as the document has them; two rows of the same values. -/
namespace Go.Proofs.Ytneofgaklofigaa.Fu
open Go.RowKit Go.Proofs.Ytneofgaklofigaa FuM

def RRow8 (w : World) (base : Nat) (v : Value) (l : List FV) : Prop := w.ownsRow base 54 3 v l.length (l.flatMap enc3)
theorem rv8_info : (Try.prog.info? 54).map (fun i => (i.zero, i.size, i.bytes)) = some (some (.agg #[.int .i64 0, .int .i64 0, .int .i64 0]), 3, 24) := by kernel_rfl
theorem RRow8.cells {w : World} {base : Nat} {v : Value} {l : List FV} (h : RRow8 w base v l) (hne : 0 < l.length) :
    ∃ g cap, v = .slice (some ⟨g, 0, none⟩) l.length cap ∧ g < w.heap.size ∧ l.length ≤ cap ∧ ∀ k (hk : k < l.length), w.cell? ⟨g, k * 3, none⟩ = some (.int .i64 l[k].1.1) ∧ w.cell? ⟨g, k * 3 + 1, none⟩ = some (.int .i64 l[k].1.2.1) ∧ w.cell? ⟨g, k * 3 + 2, none⟩ = some (.int .i64 l[k].1.2.2) := by
  have h0 := h
  rcases h.2 with ⟨rfl, hn⟩ | ⟨g, cap, cur, rfl, hbg, hgg, hnc, rest⟩
  · omega
  · refine ⟨g, cap, rfl, (Array.getElem?_eq_some_iff.1 hgg).1, by omega, fun k hk => ?_⟩
    obtain ⟨f0, f1, f2⟩ := Fu.flat_get l k hk
    have c0 := World.ownsRow.cells h0 (g := g) rfl _ _ f0
    have c1 := World.ownsRow.cells h0 (g := g) rfl _ _ f1
    have c2 := World.ownsRow.cells h0 (g := g) rfl _ _ f2
    rw [add_none, Nat.zero_add] at c0 c1 c2
    exact ⟨c0, c1, c2⟩
theorem RRow8.later {w w' : World} {base : Nat} {v : Value} {l : List FV} (h : RRow8 w base v l) (hb : Below w.heap.size w w') : RRow8 w' base v l := by
  have hk : ∀ g, v.ownBlock = some g → w'.heap[g]? = w.heap[g]? := fun g hg => hb.block g (World.ownsRow.lt h g hg).2
  refine ⟨h.1, ?_⟩
  rcases h.2 with hn | ⟨g, cap, cur, rfl, hbg, hgg, rest⟩
  · exact .inl hn
  · exact .inr ⟨g, cap, cur, rfl, hbg, (hk g rfl).trans hgg, rest⟩
theorem RRow8.vrd {w : World} {base : Nat} {v : Value} {l : List FV} (h : RRow8 w base v l) : Vrd w v l := by
  by_cases hl : 0 < l.length
  · obtain ⟨g, cap, rfl, hg, hcap, hc⟩ := h.cells hl
    refine ⟨_, cap, rfl, hcap, (fun e => by cases e), rfl, fun k hk => ⟨g, 0, rfl, hg, ?_⟩⟩
    rw [Nat.zero_add]
    exact hc k hk
  · rcases h.2 with ⟨rfl, hn⟩ | ⟨g, cap, cur, rfl, hbg, hgg, hnc, rest⟩
    · exact ⟨none, 0, by rw [hn], by omega, fun _ => rfl, rfl, fun k hk => by omega⟩
    · exact ⟨_, cap, rfl, by omega, (fun e => by cases e), rfl, fun k hk => by omega⟩
theorem wpList_append_r8 {w : World} {ops : Array Oper} {rest : List Oper} {o : Oper} {a : Act} {Q : Exit → Act → World → Prop} (hgd : o.guard = none) (s x : Operand)
    (ho : o.op = .call { callee := .builtin .append, args := #[s, x], argTypes := #[30, 30] })
    (base : Nat) (v : Value) (l : List FV) (hs : a.eval s = v) (hown : RRow8 w base v l)
    (g c : Nat) (p : FV) (hx : a.eval x = .slice (some ⟨g, 0, none⟩) 1 c) (hc0 : w.cell? ⟨g, 0, none⟩ = some (.int .i64 p.1.1)) (hc1 : w.cell? ⟨g, 1, none⟩ = some (.int .i64 p.1.2.1)) (hc2 : w.cell? ⟨g, 2, none⟩ = some (.int .i64 p.1.2.2)) (hbase : base ≤ w.heap.size) (hn : l.length ≤ 1000000000)
    (h : ∀ v' w', RRow8 w' base v' (l ++ [p]) → w.grownBy w' v.ownBlock → wpList Try.prog ops Q rest (a.put o.dst v') w') : wpList Try.prog ops Q (o :: rest) a w := by
  obtain ⟨i0, hi, hz0, hz1, hz2⟩ := info_parts rv8_info
  refine wpList_append_own w hgd s x 30 ho base 54 i0 _ 3 24 Try.underlying30 hi hz0 hz1 hz2 rfl (by omega) _ _ _ hs hown ⟨g, 0, none⟩ 1 c (enc3 p) hx rfl (fun j u hu => ?_) (fun u hu => ?_) (by simp [maxLen]; omega) (by omega) hbase ?_
  · match j, hu with
    | 0, hu => simp [enc3] at hu; subst hu; rw [add_none]; exact hc0
    | 1, hu => simp [enc3] at hu; subst hu; rw [add_none]; exact hc1
    | 2, hu => simp [enc3] at hu; subst hu; rw [add_none]; exact hc2
  · simp [enc3] at hu; rcases hu with rfl | rfl | rfl <;> rfl
  · intro v' w' hown' hg' _
    refine h v' w' ?_ hg'
    unfold RRow8
    rw [List.length_append, List.flatMap_append]
    simpa using hown'
set_option maxHeartbeats 2000000 in
set_option maxRecDepth 100000 in
theorem of8_any (v : Value) (l : List FV) (w : World) (h : Vrd w v l) (hl : l.length ≤ 1000000) :
    Calls Try.prog 9 #[v] w fun e w' => ∃ v', e = .returned v' ∧ Vrd w' v' l ∧ Below w.heap.size w w' := by
  obtain ⟨A, cp, rfl, hcp, hA, hV⟩ := h
  obtain ⟨n, hn⟩ : ∃ n, n = l.length := ⟨_, rfl⟩
  rw [← hn] at hcp hl ⊢
  have HV := Lib.hid hV
  have HN := Lib.hid hn
  clear hV hn hA
  go_enter Try.func9, Try.ntmps9
  go_wp2
  go_loopw [3, 4] (fun x y wr => ∃ k : Nat, y = .int .i64 k ∧ k ≤ n ∧ RRow8 wr w.heap.size x (l.take k) ∧ Below w.heap.size w wr) (fun _ y _ => n - (intOf y).toNat)
  case atStart => exact ⟨0, rfl, by omega, World.ownsRow_nil _ _ _ _, Below.refl _ _⟩
  case round =>
    rename_i vrow _ _
    obtain ⟨k, rfl, hk, hrow, hb⟩ := hrel
    by_cases hlt : k < n
    · have hmi : (k : Int) < (n : Int) := by omega
      have hkr : k < l.length := by rw [← HN.out]; exact hlt
      obtain ⟨b, o, rfl, hbl, hc0, hc1, hc2⟩ := HV.out.2 k hkr
      have hc0' := (hb.cell (p := ⟨b, o + k * 3, none⟩) hbl).trans hc0
      have hc1' := (hb.cell (p := ⟨b, o + k * 3 + 1, none⟩) hbl).trans hc1
      have hc2' := (hb.cell (p := ⟨b, o + k * 3 + 2, none⟩) hbl).trans hc2
      obtain ⟨p, hp⟩ : ∃ p, p = l[k] := ⟨_, rfl⟩
      rw [← hp] at hc0' hc1' hc2'
      have HP := Lib.hid hp
      have hlen : (l.take k).length = k := by rw [List.length_take]; omega
      have HROW := Lib.hid (hrow.later (pl1 wr (.cells #[.int .i64 p.1.1, .int .i64 p.1.2.1, .int .i64 p.1.2.2] 54)))
      have HB := Lib.hid hb
      have HLEN := Lib.hid hlen
      have hsz : w.heap.size ≤ wr.heap.size := hb.size
      clear hp hc0 hc1 hc2 hrow hb hlen hbl
      have hbk := heap_alloc_new wr (.cells #[.int .i64 p.1.1, .int .i64 p.1.2.1, .int .i64 p.1.2.2] 54)
      have d0 := Lib.hid (cell_of_cells (i := 0) hbk rfl)
      have d1 := Lib.hid (cell_of_cells (i := 1) hbk rfl)
      have d2 := Lib.hid (cell_of_cells (i := 2) hbk rfl)
      have HB2 : Hid (Below w.heap.size w (wr.alloc (.cells #[.int .i64 p.1.1, .int .i64 p.1.2.1, .int .i64 p.1.2.2] 54))) := Lib.hid (HB.out.trans ((pl1 _ _).mono HB.out.size))
      clear hbk
      go_wp2_with (at_builtin; refine wpList_append_r8 rfl _ _ rfl w.heap.size _ _ rfl HROW.out wr.heap.size 1 p rfl d0.out d1.out d2.out (by simp; omega) (by rw [HLEN.out]; omega) ?_; intro v' w1 hown' hg1)
      have HF : Hid (RRow8 w1 w.heap.size v' (l.take (k + 1)) ∧ Below w.heap.size w w1) := Lib.hid (by
        refine ⟨by rw [List.take_succ_eq_append_getElem hkr, ← HP.out]; exact hown', ?_⟩
        exact HB2.out.grown hg1 (by simp; omega) (fun q hq => (World.ownsRow.lt HROW.out q hq).1))
      clear hown' hg1
      go_roundw
      case rel => exact ⟨k + 1, by go_num, by omega, HF.out.1, HF.out.2⟩
      case measure => simp [intOf]; omega
    · have hmi : ¬ (k : Int) < (n : Int) := by omega
      obtain rfl : k = n := by omega
      rw [List.take_of_length_le (by rw [← HN.out]; exact Nat.le_refl _)] at hrow
      have HRW := Lib.hid hrow.vrd
      have HB := Lib.hid hb
      clear hrow hb
      go_wp2
      go_ret
      exact ⟨_, rfl, HRW.out, HB.out⟩
set_option maxHeartbeats 4000000 in
set_option maxRecDepth 100000 in
theorem same8_any (v1 v2 : Value) (l : List FV) (w : World) (h1 : Vrd w v1 l) (h2 : Vrd w v2 l) (hl : l.length ≤ 1000000) :
    Calls Try.prog 8 #[v1, v2] w fun e w' => e = .returned (.bool true) ∧ ∃ n, w' = w.drewN n := by
  obtain ⟨A1, cp1, rfl, hcp1, hA1, hP1⟩ := h1
  obtain ⟨A2, cp2, rfl, hcp2, hA2, hP2⟩ := h2
  obtain ⟨n, hn⟩ : ∃ n, n = l.length := ⟨_, rfl⟩
  have HP1 := Lib.hid hP1
  have HP2 := Lib.hid hP2
  rw [← hn] at hcp1 hcp2 hl ⊢
  have HN := Lib.hid hn
  have hd : ((n : Int) != (n : Int)) = false := by simp
  clear hP1 hP2 hA1 hA2 hn
  go_enter Try.func8, Try.ntmps8
  go_wp2
  go_loopw [5] (fun x wr => ∃ i : Nat, x = .int .i64 i ∧ i ≤ n ∧ ∃ q, wr = w.drewN q) (fun x _ => n - (intOf x).toNat)
  case atStart => exact ⟨0, by go_num, Nat.zero_le _, 0, rfl⟩
  case round =>
    obtain ⟨i, rfl, hi, q, rfl⟩ := hrel
    by_cases hlt : i < n
    · have hd1 : decide ((i : Int) < (n : Int)) = true := decide_eq_true (by omega)
      have hd2 : decide (i < n) = true := decide_eq_true hlt
      have hi1 : i < l.length := by rw [← HN.out]; exact hlt
      obtain ⟨b1, o1, rfl, _, c0, c1, c2⟩ := HP1.out.2 i hi1
      obtain ⟨b2, o2, rfl, _, e0, e1, e2⟩ := HP2.out.2 i hi1
      obtain ⟨x, hx⟩ : ∃ x, x = l[i] := ⟨_, rfl⟩
      rw [← hx] at c0 c1 c2 e0 e1 e2
      have hi0 : (0 : Int) ≤ (i : Int) := by omega
      have hin : (i : Int) < (n : Int) := by omega
      clear hx
      go_wp2
      go_quiet (fail)
      go_wp2
      exact ⟨⟨i + 1, by go_num, by omega, _, rfl⟩, by simp [intOf]; omega⟩
    · have hd1 : decide ((i : Int) < (n : Int)) = false := decide_eq_false (by omega)
      have hd2 : decide (i < n) = false := decide_eq_false hlt
      go_wp2
      go_ret
      exact ⟨rfl, _, rfl⟩
end Go.Proofs.Ytneofgaklofigaa.Fu

/- What the laws ask of what is fused, plainly: a list alone keeps its order; each document once, in order, of either list; what both have first is first. -/
namespace Go.Proofs.Ytneofgaklofigaa.Fu
open Go.RowKit Go.Proofs.Ytneofgaklofigaa FuM

theorem vOf_get (f : Nat → Int → Int × Int) : ∀ (l : List (Int × Int)) (i k : Nat) (h : k < l.length), (l.map (·.1)).Nodup → vOf f i l l[k].1 = some (f (i + k + 1) l[k].2)
  | [], _, _, h, _ => by simp at h
  | a :: t, i, 0, h, _ => by simp [vOf]
  | a :: t, i, k + 1, h, hn => by
    rw [List.map_cons, List.nodup_cons] at hn
    have ht : k < t.length := by simpa using h
    have hne : a.1 ≠ t[k].1 := fun e => hn.1 (List.mem_map.2 ⟨t[k], List.getElem_mem ht, e.symm⟩)
    rw [List.getElem_cons_succ, vOf, if_neg hne, vOf_get f t (i + 1) k ht hn.2, show i + 1 + k + 1 = i + (k + 1) + 1 by omega]
theorem okp_rk {m : Int} (h : 0 < m ∧ m ≤ 2000000) (d : Int) : Ok (d, 1, m) := by
  refine ⟨rt_one h.1, ⟨?_, ?_⟩, ?_, ?_⟩ <;> simp only <;> omega
theorem cmp_ranks {p q : Int} (h : p < q) : ExactM.cmp (1, q) (1, p) = -1 := by
  unfold ExactM.cmp
  simp only [Int.one_mul]
  rw [if_pos h]
/-- a list alone, by ranks -/
theorem alone_row (c : Int) (hc : 1 ≤ c ∧ c ≤ 1000000) (x : List (Int × Int)) (hx : x.length ≤ 1000) : ∃ R : List FV, R.length = x.length ∧ ∀ p (h : p < x.length) (h2 : p < R.length), R[p].1 = (x[p].1, 1, c + ((p + 1 : Nat) : Int)) := by
  refine ⟨(List.range x.length).map fun p => if h : p < x.length then ⟨(x[p].1, 1, c + ((p + 1 : Nat) : Int)), okp_rk (by omega) _⟩ else default, by simp, fun p h h2 => ?_⟩
  rw [List.getElem_map, List.getElem_range, dif_pos h]
theorem alone_off (c : Int) (hc : 1 ≤ c ∧ c ≤ 1000000) (x : List (Int × Int)) (hx : x.length ≤ 1000) (hn : (x.map (·.1)).Nodup) (off : List FV) (h : Off (both (rkF c) (rkF c) x []) off) :
    ∃ R : List FV, R.length = x.length ∧ (∀ p (h : p < x.length) (h2 : p < R.length), R[p].1 = (x[p].1, 1, c + ((p + 1 : Nat) : Int))) ∧ FuM.srt off = R := by
  obtain ⟨R, hl, hR⟩ := alone_row c hc x hx
  refine ⟨R, hl, hR, ?_⟩
  have hM : ∀ d, both (rkF c) (rkF c) x [] d = vOf (rkF c) 0 x d := fun d => by
    unfold both
    show comb (vOf (rkF c) 0 x d) none = _
    cases vOf (rkF c) 0 x d <;> rfl
  have hnd : R.Nodup := by
    rw [List.nodup_iff_pairwise_ne, List.pairwise_iff_getElem]
    intro i j hi hj hij e
    have e1 := hR i (by omega) hi
    have e2 := hR j (by omega) hj
    rw [e] at e1
    have := e1.symm.trans e2
    injection this with _ e3
    injection e3 with _ e4
    omega
  have hoff : Off (both (rkF c) (rkF c) x []) R := by
    refine ⟨hnd, fun z => ?_⟩
    rw [hM]
    constructor
    · intro hz
      obtain ⟨p, hp, rfl⟩ := List.mem_iff_getElem.1 hz
      have e := hR p (by omega) hp
      rw [e]
      have hg := vOf_get (rkF c) x 0 p (by omega) hn
      rw [hg]
      unfold rkF
      rw [Nat.zero_add]
    · intro hz
      obtain ⟨p, hp, h1, h2⟩ := vOf_at (rkF c) z.1.1 x 0 z.1.2 hz
      have e := hR p hp (by omega)
      have : z = R[p]'(by omega) := Subtype.ext (by
        rw [e]
        refine Prod.ext h1.symm ?_
        rw [h2]
        unfold rkF
        rw [Nat.zero_add])
      rw [this]
      exact List.getElem_mem _
  refine FuM.srt_is ?_ (hoff.perm h (fun _ => rfl))
  unfold FuM.Srt
  rw [List.pairwise_iff_getElem]
  intro i j hi hj hij
  have e1 := hR i (by omega) hi
  have e2 := hR j (by omega) hj
  have hc2 : ExactM.cmp (R[j]).1.2 (R[i]).1.2 = -1 := by
    rw [e1, e2]
    exact cmp_ranks (by omega)
  unfold FuM.bet
  rw [hc2]
  rfl

/-- each document once -/
theorem off_docs {M : VM} {off : List FV} (h : Off M off) : (off.map (·.1.1)).Nodup := by
  rw [List.Nodup, List.pairwise_map]
  refine List.Pairwise.imp_of_mem ?_ (List.nodup_iff_pairwise_ne.1 h.1)
  intro a b ha hb hne e
  apply hne
  have h1 := (h.2 a).1 ha
  have h2 := (h.2 b).1 hb
  rw [e, h2] at h1
  injection h1 with h1
  exact Subtype.ext (Prod.ext e h1.symm)
theorem vOf_mem {f : Nat → Int → Int × Int} {x : List (Int × Int)} {i : Nat} {d : Int} : (vOf f i x d).isSome = true ↔ d ∈ x.map (·.1) := by
  rw [← Decidable.not_iff_not, ← vOf_none f d x i]
  cases vOf f i x d <;> simp
theorem both_mem {f g : Nat → Int → Int × Int} {x y : List (Int × Int)} {d : Int} : (both f g x y d).isSome = true ↔ d ∈ x.map (·.1) ∨ d ∈ y.map (·.1) := by
  rw [← vOf_mem (f := f) (i := 0), ← vOf_mem (f := g) (i := 0)]
  unfold both
  cases vOf f 0 x d <;> cases vOf g 0 y d <;> simp [comb]
theorem off_has {M : VM} {off : List FV} (h : Off M off) (hok : OkM M) {d : Int} : d ∈ off.map (·.1.1) ↔ (M d).isSome = true := by
  constructor
  · intro hd
    obtain ⟨z, hz, rfl⟩ := List.mem_map.1 hd
    rw [(h.2 z).1 hz]
    rfl
  · intro hd
    obtain ⟨p, hp⟩ := Option.isSome_iff_exists.1 hd
    exact List.mem_map.2 ⟨⟨(d, p), hok d p hp⟩, (h.2 _).2 hp, rfl⟩
theorem len_le_of_sub : ∀ {a b : List Int} (_ : a.Nodup) (_ : ∀ x ∈ a, x ∈ b), a.length ≤ b.length
  | [], _, _, _ => Nat.zero_le _
  | x :: t, b, ha, h => by
    rw [List.nodup_cons] at ha
    have hx := h x (by simp)
    have ih := len_le_of_sub (a := t) (b := b.erase x) ha.2 (fun y hy => (List.mem_erase_of_ne (fun e => ha.1 (by rw [← e]; exact hy))).2 (h y (by simp [hy])))
    rw [List.length_erase_of_mem hx] at ih
    have := List.length_pos_of_mem hx
    rw [List.length_cons]
    omega
theorem off_len {f g : Nat → Int → Int × Int} {x y : List (Int × Int)} {off : List FV} (h : Off (both f g x y) off) (hok : OkM (both f g x y)) : off.length ≤ x.length + y.length := by
  have := len_le_of_sub (b := x.map (·.1) ++ y.map (·.1)) (off_docs h) (fun d hd => by
    rw [List.mem_append, ← both_mem (f := f) (g := g)]
    exact (off_has h hok).1 hd)
  simpa using this
/-- in order: each is better than the next one -/
theorem srt_bet {off : List FV} (hn : off.Nodup) (i : Nat) (h : i + 1 < (FuM.srt off).length) : FuM.bet (FuM.srt off)[i] (FuM.srt off)[i + 1] = true := by
  have hs := FuM.srt_srt off
  unfold FuM.Srt at hs
  rw [List.pairwise_iff_getElem] at hs
  have h1 := hs i (i + 1) (by omega) h (by omega)
  rcases FuM.tot h1 with e | e
  · have hnd : (FuM.srt off).Nodup := (FuM.srt_perm off).nodup_iff.2 hn
    have := (List.getElem_inj hnd).1 e
    omega
  · exact e
/-- the first in order is better than the others -/
theorem srt_first {off : List FV} {z : FV} (hz : z ∈ off) (hb : ∀ u ∈ off, u ≠ z → FuM.bet z u = true) (h : 0 < (FuM.srt off).length) : (FuM.srt off)[0] = z := by
  have hs := FuM.srt_srt off
  unfold FuM.Srt at hs
  rw [List.pairwise_iff_getElem] at hs
  obtain ⟨j, hj, e⟩ := List.mem_iff_getElem.1 ((FuM.srt_perm off).mem_iff.2 hz)
  rcases Nat.eq_zero_or_pos j with rfl | h0
  · exact e
  · have h1 := hs 0 j h hj h0
    by_cases hu : (FuM.srt off)[0] = z
    · exact hu
    · have h2 := hb _ ((FuM.srt_perm off).mem_iff.1 (List.getElem_mem h)) hu
      rw [e, h2] at h1
      cases h1
end Go.Proofs.Ytneofgaklofigaa.Fu

/- What both lists have first is first. -/
namespace Go.Proofs.Ytneofgaklofigaa.Fu
open Go.RowKit Go.Proofs.Ytneofgaklofigaa FuM

theorem cmp_gt {a b : Int × Int} (h : b.1 * a.2 < a.1 * b.2) : ExactM.cmp a b = 1 := by
  unfold ExactM.cmp
  rw [if_neg (by omega), if_neg (by omega)]
theorem low_one (m : Int) : ExactM.low 1 m = (1, m) := by
  unfold ExactM.low
  rw [Int.one_gcd]
  simp
theorem bet_of {z u : FV} (h : ExactM.cmp z.1.2 u.1.2 = 1) : FuM.bet z u = true := by
  unfold FuM.bet
  rw [h]
  rfl
theorem first_one {p P : Int} (hp : 0 < p) (h : p < P) : ExactM.cmp (ExactM.add (1, p) (1, p)) (1, P) = 1 := by
  rw [← low_one P]
  unfold ExactM.add
  rw [ExactM.cmp_low (Int.mul_pos hp hp) (by omega)]
  apply cmp_gt
  simp only [Int.one_mul]
  have h1 : p * p < p * P := Int.mul_lt_mul_of_pos_left h hp
  have h2 : 0 < p * P := Int.mul_pos hp (by omega)
  have h3 : (p + p) * P = p * P + p * P := Int.add_mul _ _ _
  omega
theorem first_two {p P Q : Int} (hp : 0 < p) (h : p < P) (h' : p < Q) : ExactM.cmp (ExactM.add (1, p) (1, p)) (ExactM.add (1, P) (1, Q)) = 1 := by
  unfold ExactM.add
  rw [ExactM.cmp_low (Int.mul_pos hp hp) (Int.mul_pos (by omega) (by omega))]
  apply cmp_gt
  simp only [Int.one_mul]
  have h1 : p * Q < P * Q := Int.mul_lt_mul_of_pos_right h (by omega)
  have h2 : p * P < Q * P := Int.mul_lt_mul_of_pos_right h' (by omega)
  have h3 : Q * P = P * Q := Int.mul_comm _ _
  have h4 : p * (p * Q + p * P) < p * (P * Q + P * Q) := Int.mul_lt_mul_of_pos_left (by omega) hp
  have h5 : (Q + P) * (p * p) = p * (p * Q + p * P) := by grind
  have h6 : (p + p) * (P * Q) = p * (P * Q + P * Q) := by grind
  omega
theorem rk_at {c : Int} {x : List (Int × Int)} {d : Int} {v : Int × Int} (h0 : 0 < x.length) (hd : d ≠ x[0].1) (h : vOf (rkF c) 0 x d = some v) : ∃ k, 1 ≤ k ∧ k < x.length ∧ v = (1, c + ((k + 1 : Nat) : Int)) := by
  obtain ⟨k, hk, h1, h2⟩ := vOf_at (rkF c) d x 0 v h
  refine ⟨k, ?_, hk, ?_⟩
  · rcases Nat.eq_zero_or_pos k with rfl | h0
    · exact absurd h1.symm hd
    · exact h0
  · rw [h2]
    unfold rkF
    rw [Nat.zero_add]
theorem both_first (c : Int) (hc : 1 ≤ c ∧ c ≤ 1000000) (x y : List (Int × Int)) (hx : x.length ≤ 1000) (hy : y.length ≤ 1000) (nx : (x.map (·.1)).Nodup) (ny : (y.map (·.1)).Nodup) (x0 : 0 < x.length) (y0 : 0 < y.length) (he : x[0].1 = y[0].1)
    (off : List FV) (h : Off (both (rkF c) (rkF c) x y) off) (hl : 0 < (FuM.srt off).length) : (FuM.srt off)[0].1.1 = x[0].1 := by
  have hG := good_rk c hc x y hx hy
  have hok : OkM (both (rkF c) (rkF c) x y) := fun d p h => both_ok hG d p h
  have hpp : R64 (ExactM.add (1, c + 1) (1, c + 1)) := add_one_one (by omega) (by omega)
  have hs : sumV (1, c + 1) (1, c + 1) = ExactM.add (1, c + 1) (1, c + 1) := sumV_ok (rt_one (by omega)) (rt_one (by omega)) hpp
  have hM : both (rkF c) (rkF c) x y x[0].1 = some (ExactM.add (1, c + 1) (1, c + 1)) := by
    unfold both
    have g1 := vOf_get (rkF c) x 0 0 x0 nx
    have g2 := vOf_get (rkF c) y 0 0 y0 ny
    rw [← he] at g2
    rw [g1, g2]
    show some (sumV (1, c + ((0 + 0 + 1 : Nat) : Int)) (1, c + ((0 + 0 + 1 : Nat) : Int))) = _
    rw [show c + ((0 + 0 + 1 : Nat) : Int) = c + 1 by omega, hs]
  obtain ⟨z, hz⟩ : ∃ z : FV, z.1 = (x[0].1, ExactM.add (1, c + 1) (1, c + 1)) := ⟨⟨_, hok _ _ hM⟩, rfl⟩
  have hzo : z ∈ off := (h.2 z).2 (by rw [hz]; exact hM)
  have hbest := srt_first (off := off) (z := z) hzo (fun u hu hne => ?_) hl
  · rw [hbest, hz]
  · have hu1 := (h.2 u).1 hu
    have hdu : u.1.1 ≠ x[0].1 := fun e => by
      apply hne
      rw [e, hM] at hu1
      injection hu1 with hu1
      exact Subtype.ext (by rw [hz]; exact Prod.ext e hu1.symm)
    refine bet_of ?_
    rw [hz]
    show ExactM.cmp (ExactM.add (1, c + 1) (1, c + 1)) u.1.2 = 1
    unfold both at hu1
    cases ha : vOf (rkF c) 0 x u.1.1 with
    | none =>
      rw [ha, comb_none] at hu1
      obtain ⟨k, hk1, hk2, e⟩ := rk_at y0 (by rw [← he]; exact hdu) hu1
      rw [e]
      exact first_one (by omega) (by omega)
    | some a =>
      obtain ⟨k, hk1, hk2, e⟩ := rk_at x0 hdu ha
      rw [ha] at hu1
      cases hb : vOf (rkF c) 0 y u.1.1 with
      | none =>
        rw [hb] at hu1
        have : u.1.2 = a := by
          unfold comb at hu1
          injection hu1 with hu1
          exact hu1.symm
        rw [this, e]
        exact first_one (by omega) (by omega)
      | some b =>
        obtain ⟨j, hj1, hj2, e2⟩ := rk_at y0 (by rw [← he]; exact hdu) hb
        rw [hb] at hu1
        have : u.1.2 = sumV a b := by
          unfold comb at hu1
          injection hu1 with hu1
          exact hu1.symm
        rw [this, e, e2, sumV_ok (rt_one (by omega)) (rt_one (by omega)) (add_one_one (by omega) (by omega))]
        exact first_two (by omega) (by omega) (by omega)
end Go.Proofs.Ytneofgaklofigaa.Fu
