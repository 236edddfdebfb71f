
/- A search on its way: a document looked at. -/
import Derived.Test.YtjdlocmchmeipaaDenseE
import Derived.Test.YtjdlocmchmeipaaTopE
import Derived.StillTailTactics
namespace Go.Proofs.Ytjdlocmchmeipaa
open Go.RowKit

theorem Only.turned {S : Nat → Prop} {w w' : World} (h : Only S w w') : Turned S w w' := ⟨h.os, h.tape, h.output, h.size, h.block⟩
/-- a search at block s, its bound at t, a count at c; what it was offered, how many numbers were looked at -/
structure SD (w1 W0 W : World) (s t c : Nat) (m : Bool) (k : Nat) (q : List Int) (off : List (Int × Int)) (cnt : Nat) : Prop where
  obj : W.heap[s]? = some (.cells (seaL (brV m) (moV m) q (lefts m q 0) t).toArray 73 (0, 0))
  top : ∃ v h, TopAt W t t k v h ∧ TopM.Bnd k off h
  cnt : W.heap[c]? = some (.cells #[.int .i64 (cnt : Int)] 49 (0, 0))
  o0 : w1.heap.size ≤ c
  o1 : c < t
  o2 : t < s
  o3 : W0.heap.size ≤ t
  low : Below w1.heap.size w1 W
  kept : Turned (fun b => b = c) W0 W
section
variable {w1 W0 W : World} {s t c : Nat} {m : Bool} {k : Nat} {q : List Int} {off : List (Int × Int)} {cnt : Nat}
theorem SD.below {W' : World} (h : SD w1 W0 W s t c m k q off cnt) (hb : Below W.heap.size W W') : SD w1 W0 W' s t c m k q off cnt := by
  obtain ⟨v, hh, ht, hbn⟩ := h.top
  exact ⟨blk_stay hb h.obj, ⟨v, hh, ht.later hb, hbn⟩, blk_stay hb h.cnt, h.o0, h.o1, h.o2, h.o3, h.low.trans (hb.mono h.low.size), h.kept.on hb⟩
/-- what a bound's row takes up is neither the search nor the count -/
theorem own_far {v : Value} {hh : List (Int × Int)} (h : SD w1 W0 W s t c m k q off cnt) (ht : TopAt W t t k v hh) : ∀ b, own2 t v b → t ≤ b ∧ b ≠ s ∧ b < W.heap.size := fun b hb => by
  have h2 := h.o2
  rcases hb with e | e
  · subst e; exact ⟨Nat.le_refl _, by omega, ht.lt⟩
  · have h1 := World.ownsRow.lt ht.row b e
    refine ⟨h1.1, fun es => ?_, h1.2⟩
    rcases ht.row.2 with ⟨ev, _⟩ | ⟨g', cap, cur, ev, _, hgg, _⟩
    · rw [ev] at e; simp [Value.ownBlock] at e
    · rw [ev] at e
      have e' : g' = b := by simpa [Value.ownBlock] using e
      rw [e', es, h.obj] at hgg
      injection hgg with hgg
      injection hgg with _ hgg _
      revert hgg
      decide
theorem SD.offered {W' : World} {v v' : Value} {hh h' : List (Int × Int)} {x : Int × Int} (h : SD w1 W0 W s t c m k q off cnt) (ht : TopAt W t t k v hh) (ho : Only (own2 t v) W W') (ht' : TopAt W' t t k v' h') (hb : TopM.Bnd k (off ++ [x]) h') : SD w1 W0 W' s t c m k q (off ++ [x]) cnt := by
  have hf := own_far h ht
  have h0 := h.o0
  have h1 := h.o1
  have h3 := h.o3
  refine ⟨(ho.block s (Array.getElem?_eq_some_iff.1 h.obj).1 (fun e => (hf s e).2.1 rfl)).trans h.obj, ⟨v', h', ht', hb⟩, (ho.block c (Array.getElem?_eq_some_iff.1 h.cnt).1 (fun e => by have := (hf c e).1; omega)).trans h.cnt, h0, h1, h.o2, h3, h.low.trans (ho.below (fun b hb => by have := (hf b hb).1; omega) h.low.size), ?_⟩
  exact ⟨ho.os.trans h.kept.os, ho.tape.trans h.kept.tape, ho.output.trans h.kept.output, Nat.le_trans h.kept.size ho.size, fun b hb hn => (ho.block b (Nat.lt_of_lt_of_le hb h.kept.size) (fun e => by have := (hf b e).1; omega)).trans (h.kept.block b hb hn)⟩
end
/-- how looking at a document ends -/
def LookEnd (w1 W0 : World) (s t c : Nat) (m : Bool) (k : Nat) (q : List Int) (off : List (Int × Int)) (cnt : Nat) (x : Int × Int) (w' : World) : Prop :=
  ∃ off', SD w1 W0 w' s t c m k q off' cnt ∧ (off' = off ++ [x] ∨ off' = off ∧ 0 < k ∧ k ≤ off.length ∧ ∃ p, (TopM.best k off).getLast? = some p ∧ x.2 ≤ p.2)

set_option maxHeartbeats 4000000 in
set_option maxRecDepth 100000 in
theorem look_any {w1 W0 W : World} {s t c : Nat} {m : Bool} {k : Nat} {q : List Int} {off : List (Int × Int)} {cnt : Nat} (d : Int) (A : Option Addr) (cp : Nat) (v : List Int) (h : SD w1 W0 W s t c m k q off cnt) (hI : Ivs W A 8 v) (hv : DenM.vec v = true) (hq : DenM.vec q = true) (hol : off.length ≤ 1000000) :
    Calls Try.prog 26 #[.pointer (some ⟨s, 0, none⟩), .agg #[.int .i64 d, .slice A 8 cp]] W fun e w' => (∃ n : Nat, e = .returned (.int .i64 n) ∧ 1 ≤ n ∧ n ≤ 8) ∧ LookEnd w1 W0 s t c m k q off cnt (d, DenM.score m q v) w' := by
  obtain ⟨tv, hh, ht, hbn⟩ := h.top
  have HWR := Lib.hid (fun W' (hb : Below W.heap.size W W') => worst_any t t k tv hh W' (ht.later hb))
  have HT := Lib.hid ht
  have HBN := Lib.hid hbn
  have H := Lib.hid h
  have HI := Lib.hid hI
  obtain ⟨hvl, hvo⟩ := (DenM.vec_iff v).1 hv
  obtain ⟨hql, hqo⟩ := (DenM.vec_iff q).1 hq
  have HVL := Lib.hid hvl
  have HVO := Lib.hid hvo
  have HQL := Lib.hid hql
  have HQO := Lib.hid hqo
  have HV := Lib.hid hv
  have HQ := Lib.hid hq
  obtain ⟨F, hF, eF, hbr⟩ := brings_any m
  have HBR := Lib.hid hbr
  have hobj := h.obj
  rw [hF] at hobj
  have HOB := Lib.hid hobj
  have ks := cell_of_cells (i := 18) hobj (v := .pointer (some ⟨t, 0, none⟩)) (by
    match q, hql with
    | [a0, a1, a2, a3, a4, a5, a6, a7], _ => rfl)
  obtain ⟨wv, hwv⟩ : ∃ p, p = worstV k hh := ⟨_, rfl⟩
  obtain ⟨fb, hfb⟩ : ∃ b, b = fullB k hh := ⟨_, rfl⟩
  rw [← hwv, ← hfb] at HWR
  have HWV := Lib.hid hwv
  have HFB := Lib.hid hfb
  obtain ⟨ws0, ws⟩ := wv
  unfold sv at HWR
  simp only at HWR
  have hslt := (Array.getElem?_eq_some_iff.1 hobj).1
  clear ht hbn h hI hvl hvo hql hqo hv hq hF hbr hobj hwv hfb
  go_enter Try.func26, Try.ntmps26
  go_wp2_with fail
  refine (HWR.out _ (pl1 _ _)).mono ?_
  rintro e w2 ⟨rfl, hb2⟩
  have hrow := blk_stay hb2 (heap_alloc_new W (.cells #[.int .i64 d, .slice A 8 cp] 52))
  have HROW := Lib.hid hrow
  have HB2 : Hid (Below W.heap.size W w2) := Lib.hid ((pl1 W (.cells #[.int .i64 d, .slice A 8 cp] 52)).trans (hb2.mono (by simp)))
  have kr1 := cell_of_cells (i := 1) hrow rfl
  have hlt := World.block_lt_of_cell? w2 _ kr1
  simp only [List.getElem_toArray, List.getElem_cons_zero, List.getElem_cons_succ] at kr1 hlt
  have hBs : w2.heap.size ≠ W.heap.size := by omega
  clear hb2 hrow ks
  go_wp2_with fail
  obtain ⟨U, hU⟩ : ∃ U, U = w2.alloc (.cells #[.int .i64 ws0, .int .i64 ws] 54) := ⟨_, rfl⟩
  rw [← hU]
  have hbs : U.heap[w2.heap.size]? = some (.cells #[.int .i64 ws0, .int .i64 ws] 54 (0, 0)) := by rw [hU]; exact heap_alloc_new w2 _
  have h2U : Below w2.heap.size w2 U := by rw [hU]; exact pl1 _ _
  have HU : Hid (Below W.heap.size W U) := Lib.hid (HB2.out.trans (h2U.mono HB2.out.size))
  have HRU := Lib.hid (blk_stay h2U HROW.out)
  have HBS := Lib.hid hbs
  have HOU := Lib.hid (blk_stay HU.out HOB.out)
  obtain ⟨Bw, hBw⟩ : ∃ b, b = w2.heap.size := ⟨_, rfl⟩
  obtain ⟨Br, hBr⟩ : ∃ b, b = W.heap.size := ⟨_, rfl⟩
  rw [← hBw] at HBS ⊢
  rw [← hBr] at HRU ⊢
  have HBW := Lib.hid hBw
  have HBRR := Lib.hid hBr
  clear hU hbs h2U hBw hBr kr1 hlt hBs
  go_loopw [7, 21] (fun x y wr => ∃ (j : Nat) (z : Int), x = .int .i64 z ∧ z = DenM.part m q v j ∧ y = .int .i64 j ∧ j ≤ 8 ∧ Below U.heap.size U wr) (fun _ y _ => 8 - (intOf y).toNat)
  case atStart => exact ⟨0, 0, rfl, rfl, rfl, by omega, Below.refl _ _⟩
  case round =>
    obtain ⟨j, z, rfl, hz, rfl, hj, hbw⟩ := hrel
    have HW := Lib.hid hbw
    have HWW : Hid (Below W.heap.size W wr) := Lib.hid (HU.out.trans (hbw.mono HU.out.size))
    have HR := Lib.hid (blk_stay hbw HRU.out)
    have HO := Lib.hid (blk_stay hbw HOU.out)
    have HBO := Lib.hid (blk_stay hbw HBS.out)
    by_cases hlt8 : j < 8
    · have hmi : (j : Int) < 8 := by omega
      obtain ⟨b, o, rfl, hl1, hc1⟩ := (HI.out.later HWW.out).2 j (by rw [HVL.out]; exact hlt8)
      have c0 := cell_of_cells (i := 0) HO.out rfl
      have cq := cell_of_cells HO.out (seaL_q (e := lefts m q 0) (f := .func (.func F) #[] #[]) (g := moV m) (t := t) (i := j) (q := q) (by rw [HQL.out]; exact hlt8))
      have ce := cell_of_cells HO.out (seaL_e (e := lefts m q 0) (f := .func (.func F) #[] #[]) (g := moV m) (t := t) (i := j) HQL.out (by rw [lefts_len]; exact hlt8))
      have cw := cell_of_cells (i := 1) HBO.out rfl
      have hle := lefts_get (m := m) (q := q) (i := 0) (j := j) hlt8 (Nat.zero_le _)
      have hvj := HVO.out _ (List.getElem_mem (show j < v.length by rw [HVL.out]; exact hlt8))
      have hqj := HQO.out _ (List.getElem_mem (show j < q.length by rw [HQL.out]; exact hlt8))
      have hnx := DenM.part_next (m := m) (a := q) (b := v) j (by rw [HQL.out]; exact hlt8) (by rw [HVL.out]; exact hlt8)
      have hpn := DenM.part_bd (m := m) HQ.out HV.out (j + 1) (by omega)
      have hlb := DenM.left_bd' (m := m) HQ.out hlt8
      have hsl := DenM.score_le (m := m) HQ.out HV.out hlt8
      rw [hle] at ce
      obtain ⟨x, hx⟩ : ∃ x, x = v[j]'(by rw [HVL.out]; exact hlt8) := ⟨_, rfl⟩
      obtain ⟨y, hy⟩ : ∃ y, y = q[j]'(by rw [HQL.out]; exact hlt8) := ⟨_, rfl⟩
      rw [← hx] at hc1 hvj hnx
      rw [← hy] at cq hqj hnx
      rw [← hz] at hnx
      obtain ⟨z2, hz2⟩ : ∃ z2, z2 = DenM.part m q v (j + 1) := ⟨_, rfl⟩
      rw [← hz2] at hnx hpn hsl
      obtain ⟨le, hle2⟩ : ∃ le, le = DenM.left m q j := ⟨_, rfl⟩
      rw [← hle2] at ce hlb hsl
      have hbr := fun n => HBR.out y x (wr.drewN n) hqj hvj
      obtain ⟨r, hr⟩ : ∃ r, r = DenM.brg m y x := ⟨_, rfl⟩
      rw [← hr] at hnx hbr
      have HC := Lib.hid hbr
      have HZ2 := Lib.hid hz2
      have HSL := Lib.hid hsl
      have hs : z + r = z2 := hnx.symm
      have hzb : -600000 ≤ z2 ∧ z2 ≤ 600000 := by omega
      obtain ⟨hzb1, hzb2⟩ := hzb
      obtain ⟨hlb1, hlb2⟩ := hlb
      unfold iv at cq ce
      simp only [List.getElem_toArray, List.getElem_cons_zero, List.getElem_cons_succ] at cw
      have c0' : wr.cell? ⟨s, 0, none⟩ = some (.func (.func F) #[] #[]) := c0
      clear hz hbw hx hy hz2 hle hle2 hr hbr hnx hpn hvj hqj hl1 c0
      cases fb with
      | false =>
        go_upto_region 6 with fail
        go_quiet ((first | (exact Calls.quiet_of_same (HC.out _))))
        have hb6 : Hid (Below U.heap.size U (wr.drewN nq)) := Lib.hid (HW.out.trans ((below_drewN_p _ _).mono HW.out.size))
        go_wp2_with fail
        go_quiet (fail)
        go_wp2
        go_roundw
        case rel => exact ⟨j + 1, z2, rfl, HZ2.out, by go_num, by omega, HW.out.trans ((below_drewN_p _ _).mono HW.out.size)⟩
        case measure => simp [intOf]; omega
      | true =>
        obtain ⟨sle, hsle⟩ : ∃ sle, sle = z2 + le := ⟨_, rfl⟩
        have hs2 : z2 + le = sle := hsle.symm
        have hsb : -600000 ≤ sle ∧ sle ≤ 900000 := by omega
        obtain ⟨hsb1, hsb2⟩ := hsb
        clear hsle
        by_cases hcut : sle ≤ ws
        · have hdc : decide (sle ≤ ws) = true := decide_eq_true hcut
          have HEND : Hid (∀ W', Below wr.heap.size wr W' → LookEnd w1 W0 s t c m k q off cnt (d, DenM.score m q v) W') := Lib.hid (fun W' hW' => by
            have h1 := HSL.out
            have h2 := HFB.out
            have h3 := HWV.out
            have hfu : 0 < k ∧ k ≤ hh.length := by unfold fullB at h2; simpa using h2.symm
            have hbl := TopM.bnd_len HBN.out
            unfold worstV at h3
            rw [← h2, if_pos rfl] at h3
            exact ⟨off, (H.out.below HWW.out).below hW', .inr ⟨rfl, hfu.1, by omega, _, TopM.bnd_worst HBN.out (by omega), by rw [← h3]; simp only; omega⟩⟩)
          go_upto_region 6 with fail
          go_quiet ((first | (exact Calls.quiet_of_same (HC.out _))))
          go_wp2_with fail
          go_quiet (fail)
          go_wp2
          go_ret
          exact ⟨⟨j + 1, by go_num, by omega, by omega⟩, HEND.out _ (below_drewN_p _ _)⟩
        · have hdc : decide (sle ≤ ws) = false := decide_eq_false hcut
          go_upto_region 6 with fail
          go_quiet ((first | (exact Calls.quiet_of_same (HC.out _))))
          go_wp2_with fail
          go_quiet (fail)
          go_wp2
          go_roundw
          case rel => exact ⟨j + 1, z2, rfl, HZ2.out, by go_num, by omega, HW.out.trans ((below_drewN_p _ _).mono HW.out.size)⟩
          case measure => simp [intOf]; omega
    · have hmi : ¬ (j : Int) < 8 := by omega
      obtain rfl : j = 8 := by omega
      have HF : Hid (z = DenM.score m q v) := Lib.hid (by rw [hz]; exact DenM.part_end HQL.out HVL.out)
      have k18 := cell_of_cells (i := 18) HO.out (v := .pointer (some ⟨t, 0, none⟩)) (by
        have hql := HQL.out
        match q, hql with
        | [a0, a1, a2, a3, a4, a5, a6, a7], _ => rfl)
      have kd := cell_of_cells (i := 0) HR.out rfl
      have kv := cell_of_cells (i := 1) HR.out rfl
      simp only [List.getElem_toArray, List.getElem_cons_zero, List.getElem_cons_succ] at kd kv
      clear hz hbw
      go_wp2_with fail
      go_still_tail 8, (by kernel_rfl)
      change wpList _ _ _ _ _ wr.drew
      have hW2 : Below W.heap.size W wr.drew := HWW.out.drew
      have kv2 : wr.drew.cell? ⟨Br, 1, none⟩ = some (.slice A 8 cp) := kv
      generalize wr.drew = w4 at hW2 kv2 ⊢
      have ht4 := HT.out.later hW2
      have hof := offer_any t t k tv off hh (d, z) w4 ht4 HBN.out hol
      unfold sv at hof
      simp only at hof
      have HOF := Lib.hid hof
      have HSD := Lib.hid (H.out.below hW2)
      have HT4 := Lib.hid ht4
      have hlt4 := World.block_lt_of_cell? w4 _ kv2
      clear hof ht4 hW2 kd kv k18
      go_wp2_with fail
      refine HOF.out.mono ?_
      rintro e w5 ⟨rfl, v', h', ht', hb', honly, _⟩
      have kv5 := (honly.turned.cell (p := ⟨Br, 1, none⟩) hlt4 (fun e => by
        have := (own_far H.out HT.out Br e).2.2
        have := HBRR.out
        omega)).trans kv2
      have HEND : Hid (LookEnd w1 W0 s t c m k q off cnt (d, DenM.score m q v) w5) := Lib.hid (by
        have h1 := HSD.out.offered HT4.out honly ht' hb'
        rw [HF.out] at h1
        exact ⟨_, h1, .inl rfl⟩)
      clear honly ht' hb' HOF kv2 hlt4
      go_wp2
      go_ret
      exact ⟨⟨8, rfl, by omega, by omega⟩, HEND.out⟩
end Go.Proofs.Ytjdlocmchmeipaa
