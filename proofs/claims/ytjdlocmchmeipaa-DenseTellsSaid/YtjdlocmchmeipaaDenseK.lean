
/- The document's side: a score, whatever is asked; rows as the document has them. -/
import Derived.Test.YtjdlocmchmeipaaDenseJ
namespace Go.Proofs.Ytjdlocmchmeipaa
open Go.RowKit

set_option maxHeartbeats 1000000 in
set_option maxRecDepth 100000 in
theorem refscore7_range (x : Int) (v1 v2 : Value) (w : World) (h : mOf x = none) :
    Calls Try.prog 9 #[.int .i64 x, v1, v2] w fun e w' => e = .returned (.tuple #[.int .i64 0, .int .i64 1]) ∧ Below w.heap.size w w' := by
  obtain ⟨h0, h1⟩ := mOf_none h
  have d0 : (x != 0) = true := by simpa using h0
  have d1 : (x != 1) = true := by simpa using h1
  have d2 : (x == 0) = false := by simpa using h0
  have d3 : (x == 1) = false := by simpa using h1
  clear h h0 h1
  go_enter Try.func9, Try.ntmps9
  go_wp2
  go_ret2
  exact ⟨rfl, Below.refl _ _⟩
set_option maxHeartbeats 1000000 in
set_option maxRecDepth 100000 in
theorem refscore7_form (m : Bool) (A1 A2 : Option Addr) (n1 n2 c1 c2 : Nat) (a b : List Int) (w : World) (h1 : Ivs w A1 n1 a) (h2 : Ivs w A2 n2 b) (hn1 : n1 ≤ 1000000) (hn2 : n2 ≤ 1000000) (h : (DenM.vec a && DenM.vec b) = false) :
    Calls Try.prog 9 #[.int .i64 (mI m), .slice A1 n1 c1, .slice A2 n2 c2] w fun e w' => e = .returned (.tuple #[.int .i64 0, .int .i64 2]) ∧ Below w.heap.size w w' := by
  have R1 := Lib.hid (refright7_any A1 n1 c1 a w h1 hn1)
  have R2 := Lib.hid (refright7_any A2 n2 c2 b w h2 hn2)
  obtain ⟨x, hx⟩ : ∃ x, x = DenM.vec a := ⟨_, rfl⟩
  obtain ⟨y, hy⟩ : ∃ y, y = DenM.vec b := ⟨_, rfl⟩
  rw [← hx] at R1 h
  rw [← hy] at R2 h
  clear h1 h2 hx hy hn1 hn2
  cases m with
  | false =>
    unfold mI
    cases x with
    | false =>
      clear h
      go_enter Try.func9, Try.ntmps9
      go_wp2_with fail
      refine R1.out.mono ?_
      rintro e w3 ⟨rfl, hw3⟩
      have hw4 := hw3.symm
      subst hw4
      go_wp2
      go_ret2
      exact ⟨rfl, Below.refl _ _⟩
    | true =>
      obtain rfl : y = false := by simpa using h
      clear h
      go_enter Try.func9, Try.ntmps9
      go_wp2_with fail
      refine R1.out.mono ?_
      rintro e w3 ⟨rfl, hw3⟩
      have hw4 := hw3.symm
      subst hw4
      go_wp2_with fail
      refine R2.out.mono ?_
      rintro e w3 ⟨rfl, hw3⟩
      have hw4 := hw3.symm
      subst hw4
      go_wp2
      go_ret2
      exact ⟨rfl, Below.refl _ _⟩
  | true =>
    unfold mI
    cases x with
    | false =>
      clear h
      go_enter Try.func9, Try.ntmps9
      go_wp2_with fail
      refine R1.out.mono ?_
      rintro e w3 ⟨rfl, hw3⟩
      have hw4 := hw3.symm
      subst hw4
      go_wp2
      go_ret2
      exact ⟨rfl, Below.refl _ _⟩
    | true =>
      obtain rfl : y = false := by simpa using h
      clear h
      go_enter Try.func9, Try.ntmps9
      go_wp2_with fail
      refine R1.out.mono ?_
      rintro e w3 ⟨rfl, hw3⟩
      have hw4 := hw3.symm
      subst hw4
      go_wp2_with fail
      refine R2.out.mono ?_
      rintro e w3 ⟨rfl, hw3⟩
      have hw4 := hw3.symm
      subst hw4
      go_wp2
      go_ret2
      exact ⟨rfl, Below.refl _ _⟩
theorem refscore7_any (x : Int) (A1 A2 : Option Addr) (n1 n2 c1 c2 : Nat) (a b : List Int) (w : World) (h1 : Ivs w A1 n1 a) (h2 : Ivs w A2 n2 b) (hn1 : n1 ≤ 1000000) (hn2 : n2 ≤ 1000000) :
    Calls Try.prog 9 #[.int .i64 x, .slice A1 n1 c1, .slice A2 n2 c2] w fun e w' => e = .returned (.tuple #[.int .i64 (scV x a b), .int .i64 (scE x a b)]) ∧ Below w.heap.size w w' := by
  unfold scV
  cases h : mOf x with
  | none =>
    have e1 : scE x a b = 1 := by unfold scE; rw [if_pos h]
    rw [e1, if_neg (by decide)]
    exact refscore7_range x _ _ w h
  | some m =>
    have hx := mOf_some h
    by_cases h3 : (DenM.vec a && DenM.vec b) = true
    · have e1 : scE x a b = 0 := by unfold scE; rw [if_neg (by rw [h]; simp), if_pos h3]
      rw [e1, if_pos rfl, hx]
      rw [Bool.and_eq_true] at h3
      obtain rfl : n1 = 8 := by rw [← h1.1]; exact ((DenM.vec_iff a).1 h3.1).1
      obtain rfl : n2 = 8 := by rw [← h2.1]; exact ((DenM.vec_iff b).1 h3.2).1
      exact refscore7_ok m A1 A2 c1 c2 a b w h1 h2 h3.1 h3.2
    · have e1 : scE x a b = 2 := by unfold scE; rw [if_neg (by rw [h]; simp), if_neg h3]
      rw [e1, if_neg (by decide), hx]
      exact refscore7_form m A1 A2 n1 n2 c1 c2 a b w h1 h2 hn1 hn2 (by simpa using h3)
/-! ### rows as the document has them -/
/-- a row as its two cells -/
abbrev RC : Type := Int × Option Addr × Nat × Nat
def encR (p : RC) : List Value := [.int .i64 p.1, .slice p.2.1 p.2.2.1 p.2.2.2]
def RRow (w : World) (base : Nat) (v : Value) (l : List RC) : Prop := w.ownsRow base 63 2 v l.length (l.flatMap encR)
theorem row_info : (Try.prog.info? 63).map (fun i => (i.zero, i.size, i.bytes)) = some (some (.agg #[.int .i64 0, .slice none 0 0]), 2, 32) := by kernel_rfl
theorem flatR_len (l : List RC) : (l.flatMap encR).length = l.length * 2 := by
  induction l with
  | nil => rfl
  | cons a t ih => rw [List.flatMap_cons, List.length_append, ih, List.length_cons]; simp [encR]; omega
theorem flatR_get (l : List RC) (k : Nat) (h : k < l.length) : (l.flatMap encR)[k * 2]? = some (.int .i64 l[k].1) ∧ (l.flatMap encR)[k * 2 + 1]? = some (.slice l[k].2.1 l[k].2.2.1 l[k].2.2.2) := by
  induction l generalizing k with
  | nil => simp at h
  | cons a t ih =>
    rw [List.flatMap_cons]
    match k, h with
    | 0, _ => simp [encR]
    | k + 1, h =>
      have := ih k (by simpa using h)
      have e1 : (k + 1) * 2 = k * 2 + 2 := by omega
      have e2 : k * 2 + 2 + 1 = k * 2 + 1 + 2 := by omega
      rw [e1, e2]
      rw [List.getElem?_append_right (by simp [encR]), List.getElem?_append_right (by simp [encR])]
      simpa [encR] using this
theorem RRow.cells {w : World} {base : Nat} {v : Value} {l : List RC} (h : RRow w base v l) (hne : 0 < l.length) :
    ∃ g cap, v = .slice (some ⟨g, 0, none⟩) l.length cap ∧ g < w.heap.size ∧ ∀ k (hk : k < l.length), w.cell? ⟨g, k * 2, none⟩ = some (.int .i64 l[k].1) ∧ w.cell? ⟨g, k * 2 + 1, none⟩ = some (.slice l[k].2.1 l[k].2.2.1 l[k].2.2.2) := by
  have h0 := h
  rcases h.2 with ⟨rfl, hn⟩ | ⟨g, cap, cur, rfl, hbg, hgg, hnc, rest⟩
  · omega
  · refine ⟨g, cap, rfl, (Array.getElem?_eq_some_iff.1 hgg).1, fun k hk => ?_⟩
    obtain ⟨f0, f1⟩ := flatR_get l k hk
    have c0 := World.ownsRow.cells h0 (g := g) rfl _ _ f0
    have c1 := World.ownsRow.cells h0 (g := g) rfl _ _ f1
    rw [add_none, Nat.zero_add] at c0 c1
    exact ⟨c0, c1⟩
theorem RRow.later {w w' : World} {base : Nat} {v : Value} {l : List RC} (h : RRow w base v l) (hb : Below w.heap.size w w') : RRow w' base v l := by
  refine ⟨h.1, ?_⟩
  rcases h.2 with hn | ⟨g, cap, cur, rfl, hbg, hgg, rest⟩
  · exact .inl hn
  · exact .inr ⟨g, cap, cur, rfl, hbg, blk_stay hb hgg, rest⟩
theorem RRow.form {w : World} {base : Nat} {v : Value} {l : List RC} (h : RRow w base v l) : ∃ A cap, v = .slice A l.length cap := by
  rcases h.2 with ⟨rfl, hn⟩ | ⟨g, cap, cur, rfl, hbg, hgg, hnc, rest⟩
  · rw [hn]; exact ⟨none, 0, rfl⟩
  · exact ⟨_, cap, rfl⟩
theorem wpList_append_r {w : World} {ops : Array Oper} {rest : List Oper} {o : Oper} {a : Act} {Q : Exit → Act → World → Prop} (hgd : o.guard = none) (s x : Operand)
    (ho : o.op = .call { callee := .builtin .append, args := #[s, x], argTypes := #[38, 38] })
    (base : Nat) (v : Value) (l : List RC) (hs : a.eval s = v) (hown : RRow w base v l)
    (g c : Nat) (p : RC) (hx : a.eval x = .slice (some ⟨g, 0, none⟩) 1 c) (hc0 : w.cell? ⟨g, 0, none⟩ = some (.int .i64 p.1)) (hc1 : w.cell? ⟨g, 1, none⟩ = some (.slice p.2.1 p.2.2.1 p.2.2.2)) (hbase : base ≤ w.heap.size) (hn : l.length ≤ 1000000000)
    (h : ∀ v' w', RRow w' base v' (l ++ [p]) → w.grownBy w' v.ownBlock → wpList Try.prog ops Q rest (a.put o.dst v') w') : wpList Try.prog ops Q (o :: rest) a w := by
  obtain ⟨i0, hi, hz0, hz1, hz2⟩ := info_parts row_info
  refine wpList_append_own w hgd s x 38 ho base 63 i0 _ 2 32 Try.underlying38 hi hz0 hz1 hz2 rfl (by omega) _ _ _ hs hown ⟨g, 0, none⟩ 1 c (encR p) hx rfl (fun j u hu => ?_) (fun u hu => ?_) (by simp [maxLen]; omega) (by omega) hbase ?_
  · match j, hu with
    | 0, hu => simp [encR] at hu; subst hu; rw [add_none]; exact hc0
    | 1, hu => simp [encR] at hu; subst hu; rw [add_none]; exact hc1
  · simp [encR] at hu; rcases hu with rfl | rfl <;> rfl
  · intro v' w' hown' hg' _
    refine h v' w' ?_ hg'
    unfold RRow
    rw [List.length_append, List.flatMap_append]
    simpa using hown'
/-- a slice of rows as cells -/
theorem Rws.raw {w : World} {A : Option Addr} {n : Nat} {l : List (Int × List Int)} (h : Rws w A n l) : ∃ rr : List RC, rr.length = n ∧ ∀ k (hk : k < rr.length) (hk2 : k < l.length), rr[k].1 = l[k].1 ∧ Ivs w rr[k].2.1 rr[k].2.2.1 l[k].2 ∧ ∃ b o, A = some ⟨b, o, none⟩ ∧ b < w.heap.size ∧ w.cell? ⟨b, o + k * 2, none⟩ = some (.int .i64 rr[k].1) ∧ w.cell? ⟨b, o + k * 2 + 1, none⟩ = some (.slice rr[k].2.1 rr[k].2.2.1 rr[k].2.2.2) := by
  have hone : ∀ k, k < l.length → ∃ p : RC, ∀ hk : k < l.length, p.1 = l[k].1 ∧ Ivs w p.2.1 p.2.2.1 l[k].2 ∧ ∃ b o, A = some ⟨b, o, none⟩ ∧ b < w.heap.size ∧ w.cell? ⟨b, o + k * 2, none⟩ = some (.int .i64 p.1) ∧ w.cell? ⟨b, o + k * 2 + 1, none⟩ = some (.slice p.2.1 p.2.2.1 p.2.2.2) := fun k hk => by
    obtain ⟨b, o, A2, n2, c2, e, hl, h0, h1, h2⟩ := h.2 k hk
    exact ⟨(l[k].1, A2, n2, c2), fun _ => ⟨rfl, h2, b, o, e, hl, h0, h1⟩⟩
  refine ⟨(List.range n).map fun k => if hk : k < l.length then (hone k hk).choose else (0, none, 0, 0), by simp, fun k hk hk2 => ?_⟩
  have e : ((List.range n).map fun k => if hk : k < l.length then (hone k hk).choose else ((0, none, 0, 0) : RC))[k] = (hone k hk2).choose := by
    rw [List.getElem_map, List.getElem_range, dif_pos hk2]
  rw [e]
  exact (hone k hk2).choose_spec hk2
theorem RRow.rws {w0 w : World} {base : Nat} {v : Value} {rr : List RC} {l : List (Int × List Int)} (h : RRow w base v rr) (hl : l.length = rr.length) (hI : ∀ k (hk : k < rr.length) (hk2 : k < l.length), rr[k].1 = l[k].1 ∧ Ivs w0 rr[k].2.1 rr[k].2.2.1 l[k].2) (hb : Below w0.heap.size w0 w) : ∃ A cap, v = .slice A l.length cap ∧ Rws w A l.length l := by
  by_cases hne : 0 < rr.length
  · obtain ⟨g, cap, rfl, hg, hc⟩ := h.cells hne
    refine ⟨some ⟨g, 0, none⟩, cap, by rw [hl], rfl, fun k hk => ?_⟩
    obtain ⟨c0, c1⟩ := hc k (by omega)
    obtain ⟨i0, i1⟩ := hI k (by omega) hk
    refine ⟨g, 0, _, _, (rr[k]'(by omega)).2.2.2, rfl, hg, ?_, ?_, i1.later hb⟩
    · rw [Nat.zero_add, ← i0]; exact c0
    · rw [Nat.zero_add]; exact c1
  · obtain ⟨A, cap, rfl⟩ := h.form
    exact ⟨A, cap, by rw [hl], rfl, fun k hk => by omega⟩
set_option maxHeartbeats 2000000 in
set_option maxRecDepth 100000 in
theorem of_any (A : Option Addr) (n cp : Nat) (l : List (Int × List Int)) (w : World) (h : Rws w A n l) (hn : n ≤ 1000000) :
    Calls Try.prog 13 #[.slice A n cp] w fun e w' => ∃ A' cap, e = .returned (.slice A' n cap) ∧ Rws w' A' n l ∧ Below w.heap.size w w' := by
  obtain ⟨rr, hrr, hraw⟩ := h.raw
  have HL := Lib.hid h.1
  have HRR := Lib.hid hrr
  have HRAW := Lib.hid hraw
  clear h hrr hraw
  go_enter Try.func13, Try.ntmps13
  go_wp2
  go_loopw [3, 4] (fun x y wr => ∃ k : Nat, y = .int .i64 k ∧ k ≤ n ∧ RRow wr w.heap.size x (rr.take k) ∧ Below w.heap.size w wr) (fun _ y _ => n - (intOf y).toNat)
  case atStart => exact ⟨0, rfl, by omega, World.ownsRow_nil _ _ _ _, Below.refl _ _⟩
  case round =>
    rename_i vrow _ _
    obtain ⟨k, rfl, hk, hrow, hb⟩ := hrel
    by_cases hlt : k < n
    · have hmi : (k : Int) < (n : Int) := by omega
      have hkr : k < rr.length := by rw [HRR.out]; exact hlt
      obtain ⟨_, _, b, o, rfl, hbl, hc0, hc1⟩ := HRAW.out k hkr (by rw [HL.out]; exact hlt)
      have hbl2 := Nat.lt_of_lt_of_le hbl hb.size
      have hc0' := (hb.cell (p := ⟨b, o + k * 2, none⟩) hbl).trans hc0
      have hc1' := (hb.cell (p := ⟨b, o + k * 2 + 1, none⟩) hbl).trans hc1
      obtain ⟨p, hp⟩ : ∃ p, p = rr[k] := ⟨_, rfl⟩
      rw [← hp] at hc0' hc1'
      have HP := Lib.hid hp
      have hlen : (rr.take k).length = k := by rw [List.length_take]; omega
      have HROW := Lib.hid (hrow.later (pl1 wr (.cells #[.int .i64 p.1, .slice p.2.1 p.2.2.1 p.2.2.2] 63)))
      have HB := Lib.hid hb
      have HLEN := Lib.hid hlen
      have hsz : w.heap.size ≤ wr.heap.size := hb.size
      clear hp hc0 hc1 hrow hb hlen hbl
      obtain ⟨p1, pA, pn, pc⟩ := p
      have hbk := heap_alloc_new wr (.cells #[.int .i64 p1, .slice pA pn pc] 63)
      have d0 := Lib.hid (cell_of_cells (i := 0) hbk rfl)
      have d1 := Lib.hid (cell_of_cells (i := 1) hbk rfl)
      have HB2 : Hid (Below w.heap.size w (wr.alloc (.cells #[.int .i64 p1, .slice pA pn pc] 63))) := Lib.hid (HB.out.trans ((pl1 _ _).mono HB.out.size))
      simp only at hc0' hc1'
      clear hbk
      go_wp2_with (at_builtin; refine wpList_append_r rfl _ _ rfl w.heap.size _ _ rfl HROW.out wr.heap.size 1 (p1, pA, pn, pc) rfl d0.out d1.out (by simp; omega) (by rw [HLEN.out]; omega) ?_; intro v' w1 hown' hg1)
      have HF : Hid (RRow w1 w.heap.size v' (rr.take (k + 1)) ∧ Below w.heap.size w w1) := Lib.hid (by
        refine ⟨by rw [List.take_succ_eq_append_getElem hkr, ← HP.out]; exact hown', ?_⟩
        exact HB2.out.grown hg1 (by simp; omega) (fun q hq => (World.ownsRow.lt HROW.out q hq).1))
      clear hown' hg1
      go_roundw
      case rel => exact ⟨k + 1, by go_num, by omega, HF.out.1, HF.out.2⟩
      case measure => simp [intOf]; omega
    · have hmi : ¬ (k : Int) < (n : Int) := by omega
      obtain rfl : k = n := by omega
      rw [List.take_of_length_le (by rw [HRR.out]; exact Nat.le_refl _)] at hrow
      obtain ⟨A', cap, rfl, hR⟩ := hrow.rws (l := l) (by rw [HRR.out, HL.out]) (fun k h1 h2 => by obtain ⟨g1, g2, _⟩ := HRAW.out k h1 h2; exact ⟨g1, g2⟩) hb
      have HRW := Lib.hid hR
      clear hR hrow
      rw [HL.out] at HRW ⊢
      go_wp2
      go_ret
      exact ⟨A', ⟨cap, rfl⟩, HRW.out, hb⟩
end Go.Proofs.Ytjdlocmchmeipaa
