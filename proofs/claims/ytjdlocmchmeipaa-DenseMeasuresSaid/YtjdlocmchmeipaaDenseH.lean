
/- What a Count finds, where all is right. -/
import Derived.Test.YtjdlocmchmeipaaDenseG
namespace Go.Proofs.Ytjdlocmchmeipaa
open Go.RowKit

theorem rows_low {l : List (Int × List Int)} (h : DenM.rowsB l (-1) = true) {m : Bool} {q : List Int} {may : Int → Bool} {k : Nat} (hk : k < l.length) : ∀ p ∈ DenM.vis m q may (l.take k), p.1 < l[k].1 := by
  intro p hp
  unfold DenM.vis at hp
  obtain ⟨r, hr, rfl⟩ := List.mem_map.1 hp
  obtain ⟨j, hj, rfl⟩ := List.mem_iff_getElem.1 (List.mem_filter.1 hr).1
  rw [List.length_take] at hj
  have := List.pairwise_iff_getElem.1 ((DenM.rowsB_parts l (-1)).1 h).2 j k (by omega) hk (by omega)
  rw [List.getElem_take]
  exact this
theorem vis_len (m : Bool) (q : List Int) (may : Int → Bool) (l : List (Int × List Int)) : (DenM.vis m q may l).length ≤ l.length := by
  unfold DenM.vis
  rw [List.length_map]
  exact List.length_filter_le _ _
/-- the function that tells which documents may be, wherever nothing of W has turned but block c -/
def MayC (W : World) (c : Nat) (mayv : Value) (may : Int → Bool) : Prop := ∃ F B, mayv = .func (.func F) #[] B ∧ (∀ args w, (callFunc F args).run Try.prog w = .ok (.enter F args) w) ∧ ∀ W', Turned (fun b => b = c) W W' → ∀ d : Int, Calls Try.prog F (#[.int .i64 d] ++ B) W' fun e w' => e = .returned (.bool (may d)) ∧ Below W'.heap.size W' w'
/-- what a Find leaves: the best of all that may be, and the count -/
def FindEnd (w1 : World) (c : Nat) (k : Nat) (all : List (Int × Int)) (cnt : Nat) (v' : Value) (w' : World) : Prop :=
  Prd w' v' (TopM.best k all) ∧ (∃ n : Nat, w'.heap[c]? = some (.cells #[.int .i64 (n : Int)] 49 (0, 0)) ∧ cnt + all.length ≤ n ∧ n ≤ cnt + 8 * all.length) ∧ Below w1.heap.size w1 w'
theorem look_std {w1 W0 : World} {s t c : Nat} {m : Bool} {k : Nat} {q : List Int} {off all : List (Int × Int)} {cnt : Nat} {x : Int × Int} {w' : World} (h : LookEnd w1 W0 s t c m k q off cnt x w') (hs : DenM.Std k off all) (hl : ∀ p ∈ all, p.1 < x.1) : ∃ off', SD w1 W0 w' s t c m k q off' cnt ∧ DenM.Std k off' (all ++ [x]) := by
  obtain ⟨off', hsd, he⟩ := h
  refine ⟨off', hsd, ?_⟩
  rcases he with rfl | ⟨rfl, h0, hk, p, hp, hx⟩
  · exact hs.keep x
  · exact hs.pass x p hk hp hx hl

set_option maxHeartbeats 4000000 in
set_option maxRecDepth 100000 in
theorem cfind_ok (w1 W : World) (c cnt : Nat) (m : Bool) (k : Nat) (A1 A2 : Option Addr) (n1 n2 c1 c2 : Nat) (q : List Int) (l : List (Int × List Int)) (mayv : Value) (may : Int → Bool) (h1 : 1 ≤ k) (h2 : k ≤ 1000) (hI : Ivs w1 A1 n1 q) (hr : Rws w1 A2 n2 l) (hn : n2 ≤ 1000000) (hq : DenM.vec q = true) (hl : DenM.rowsB l (-1) = true) (hm : MayC W c mayv may)
    (hc : W.heap[c]? = some (.cells #[.int .i64 (cnt : Int)] 49 (0, 0))) (hc1 : w1.heap.size ≤ c) (hlow : Below w1.heap.size w1 W) (hcnt : cnt ≤ 1000000) :
    Calls Try.prog 17 #[.pointer (some ⟨c, 0, none⟩), .int .i64 (mI m), .slice A1 n1 c1, .slice A2 n2 c2, .int .i64 k, mayv] W fun e w' => ∃ v', e = .returned (.tuple #[v', .int .i64 0]) ∧ FindEnd w1 c k (DenM.vis m q may l) cnt v' w' := by
  obtain ⟨FM, BM, rfl, eM, hmay⟩ := hm
  have HMAY := Lib.hid hmay
  have HM := Lib.hid (fun w => mof_yes m w)
  obtain ⟨hql, _⟩ := (DenM.vec_iff q).1 hq
  obtain rfl : n1 = 8 := by rw [← hI.1]; exact hql
  have R1 := Lib.hid (fun w (hw : Ivs w A1 8 q) => dright_any A1 8 c1 q w hw)
  have R2 := Lib.hid (fun w (hw : Rws w A2 n2 l) => arerows_any A2 n2 c2 l w hw hn)
  rw [hq] at R1
  rw [hl] at R2
  have HNS := Lib.hid (fun w (hw : Ivs w A1 8 q) => newsearch_any m A1 c1 q k w hw hq (by omega))
  obtain ⟨x, hx⟩ : ∃ k, k = mI m := ⟨_, rfl⟩
  rw [← hx] at HM ⊢
  obtain ⟨F, hF, _⟩ := brings_any m
  obtain ⟨G, hG, _⟩ := mosts_any m
  rw [hF, hG] at HM HNS
  have hd1 : decide ((k : Int) < 1) = false := decide_eq_false (by omega)
  have hd2 : decide ((1000 : Int) < (k : Int)) = false := decide_eq_false (by omega)
  have hnn := not_nil7
  have HI := Lib.hid hI
  have HR := Lib.hid hr
  have HQ := Lib.hid hq
  have HL := Lib.hid hl
  have HC := Lib.hid hc
  have HLOW := Lib.hid hlow
  have HLEN := Lib.hid hr.1
  clear hx hF hG hI hr hq hl hc hmay hql hlow
  go_enter Try.func17, Try.ntmps17
  go_wp2_with fail
  refine (HM.out _).mono ?_
  rintro e w2 ⟨rfl, hb⟩
  have HB := Lib.hid (hb.trans ((pl1 w2 (.cells #[.func (.func F) #[] #[], .func (.func G) #[] #[]] 60)).mono hb.size))
  have k0 := cell_of_cells (i := 0) (heap_alloc_new w2 (.cells #[.func (.func F) #[] #[], .func (.func G) #[] #[]] 60)) rfl
  have k1 := cell_of_cells (i := 1) (heap_alloc_new w2 (.cells #[.func (.func F) #[] #[], .func (.func G) #[] #[]] 60)) rfl
  simp only [List.getElem_toArray, List.getElem_cons_zero, List.getElem_cons_succ] at k0 k1
  have K0 := Lib.hid k0
  have K1 := Lib.hid k1
  clear hb k0 k1
  go_wp2_with fail
  generalize w2.alloc (.cells #[.func (.func F) #[] #[], .func (.func G) #[] #[]] 60) = U at HB K0 K1 ⊢
  have HLU : Hid (Below w1.heap.size w1 U) := Lib.hid (HLOW.out.trans (HB.out.mono HLOW.out.size))
  refine (R1.out _ (HI.out.later HLU.out)).mono ?_
  rintro e w3 ⟨rfl, rfl⟩
  go_wp2_with fail
  refine (R2.out _ (HR.out.later HLU.out)).mono ?_
  rintro e w4 ⟨rfl, hb4⟩
  have k0 := (hb4.cell (p := ⟨w2.heap.size, 0, none⟩) (World.block_lt_of_cell? _ _ K0.out)).trans K0.out
  have k1 := (hb4.cell (p := ⟨w2.heap.size, 1, none⟩) (World.block_lt_of_cell? _ _ K1.out)).trans K1.out
  have HL4 : Hid (Below w1.heap.size w1 w4) := Lib.hid (HLU.out.trans (hb4.mono HLU.out.size))
  have HW4 : Hid (Below W.heap.size W w4) := Lib.hid (HB.out.trans (hb4.mono HB.out.size))
  clear hb4
  go_wp2_with fail
  refine (HNS.out _ (HI.out.later HL4.out)).mono ?_
  rintro e w5 ⟨s, t, rfl, hns⟩
  have hc5 : w5.heap[c]? = some (.cells #[.int .i64 (cnt : Int)] 49 (0, 0)) := blk_stay hns.low (blk_stay HW4.out HC.out)
  have hct : c < t := Nat.lt_of_lt_of_le (Array.getElem?_eq_some_iff.1 (blk_stay HW4.out HC.out)).1 hns.o1
  have HSD : Hid (SD w1 W w5 s t c m k q [] cnt) := Lib.hid ⟨hns.obj, ⟨_, _, hns.top, TopM.bnd_nil k⟩, hc5, hc1, hct, hns.o2, Nat.le_trans HW4.out.size hns.o1, HL4.out.trans (hns.low.mono HL4.out.size), Turned.of_below (HW4.out.trans (hns.low.mono HW4.out.size))⟩
  clear hns hc5 k0 k1
  go_wp2_with fail
  go_loopw [50] (fun y wr => ∃ (j : Nat) (off : List (Int × Int)) (cn : Nat), y = .int .i64 j ∧ j ≤ n2 ∧ SD w1 W wr s t c m k q off cn ∧ DenM.Std k off (DenM.vis m q may (l.take j)) ∧ cnt + (DenM.vis m q may (l.take j)).length ≤ cn ∧ cn ≤ cnt + 8 * (DenM.vis m q may (l.take j)).length) (fun y _ => n2 - (intOf y).toNat)
  case atStart => exact ⟨0, [], cnt, rfl, by omega, HSD.out, DenM.Std.nil_ k, Nat.le_refl _, Nat.le_refl _⟩
  case round =>
    obtain ⟨j, off, cn, rfl, hj, hsd, hstd, hcn1, hcn2⟩ := hrel
    have hvl := vis_len m q may (l.take j)
    rw [List.length_take] at hvl
    have hol := hstd.len
    have HS := Lib.hid hsd
    have HSTD := Lib.hid hstd
    by_cases hlt : j < n2
    · have hmi : (j : Int) < (n2 : Int) := by omega
      have hjl : j < l.length := by rw [HLEN.out]; exact hlt
      obtain ⟨b, o, A3, n3, c3, rfl, hbl, r0, r1, hI3⟩ := (HR.out.later hsd.low).2 j hjl
      have hrow := ((DenM.rowsB_parts l (-1)).1 HL.out).1 _ (List.getElem_mem hjl)
      obtain rfl : n3 = 8 := by rw [← hI3.1]; exact ((DenM.vec_iff _).1 hrow.2.2).1
      have hlw := rows_low HL.out (m := m) (q := q) (may := may) hjl
      have hsn := DenM.vis_snoc m q may (l.take j) l[j]
      rw [← List.take_succ_eq_append_getElem hjl] at hsn
      obtain ⟨d, hd⟩ : ∃ d, d = l[j].1 := ⟨_, rfl⟩
      obtain ⟨vv, hvv⟩ : ∃ v, v = l[j].2 := ⟨_, rfl⟩
      rw [← hd] at r0 hsn hlw
      rw [← hvv] at hI3 hrow hsn
      have HI3 := Lib.hid hI3
      have HV3 := Lib.hid hrow.2.2
      have HLW := Lib.hid hlw
      obtain ⟨mb, hmb⟩ : ∃ mb, mb = may d := ⟨_, rfl⟩
      have hcall := HMAY.out (wr.alloc (.cells #[.int .i64 d, .slice A3 8 c3] 52)) (hsd.kept.on (pl1 _ _)) d
      rw [← hmb] at hcall hsn
      have HCL := Lib.hid hcall
      have HSN := Lib.hid hsn
      have hrw := heap_alloc_new wr (.cells #[.int .i64 d, .slice A3 8 c3] 52)
      have HRW := Lib.hid hrw
      have r00 := cell_of_cells (i := 0) hrw rfl
      clear hd hvv hI3 hrow hlw hmb hcall hsn hsd hstd hrw
      go_wp2_with fail
      refine HCL.out.mono ?_
      rintro e w6 ⟨rfl, hb6⟩
      have hb6' : Below wr.heap.size wr w6 := (pl1 _ _).trans (hb6.mono (by simp))
      have HS6 := Lib.hid (HS.out.below hb6')
      have HI6 := Lib.hid (HI3.out.later hb6')
      have hrw6 := blk_stay hb6 HRW.out
      have q0 := cell_of_cells (i := 0) hrw6 rfl
      have q1 := cell_of_cells (i := 1) hrw6 rfl
      simp only [List.getElem_toArray, List.getElem_cons_zero, List.getElem_cons_succ] at q0 q1
      clear hb6 hb6' hrw6 r00 HCL
      cases mb with
      | false =>
        have HSN2 : Hid (DenM.vis m q may (l.take (j + 1)) = DenM.vis m q may (l.take j)) := Lib.hid (by rw [HSN.out]; rfl)
        go_wp2
        go_roundw
        case rel => exact ⟨j + 1, off, cn, by go_num, by omega, HS6.out, by rw [HSN2.out]; exact HSTD.out, by rw [HSN2.out]; exact hcn1, by rw [HSN2.out]; exact hcn2⟩
        case measure => simp [intOf]; omega
      | true =>
        have HSN2 : Hid (DenM.vis m q may (l.take (j + 1)) = DenM.vis m q may (l.take j) ++ [(d, DenM.score m q vv)]) := Lib.hid (by rw [HSN.out]; rfl)
        go_wp2_with fail
        have HLK := Lib.hid (fun W (hW : Below w6.heap.size w6 W) => look_any d A3 c3 vv (HS6.out.below hW) (HI6.out.later hW) HV3.out HQ.out (by omega))
        go_region_with (first
          | ((with_reducible refine (HLK.out _ (by first | exact Below.refl _ _ | exact (Below.refl _ _).drew)).mono ?_); rintro e w8 ⟨⟨nn, rfl, hn1, hn8⟩, hle⟩; obtain ⟨off', hsd8, hstd8⟩ := look_std hle HSTD.out HLW.out; have HA := Lib.hid (iaddn_any c cn nn w8 (by omega) (cell_of_cells (i := 0) hsd8.cnt rfl) (frozen_of_cells (i := 0) hsd8.cnt)); have HF := Lib.hid (And.intro (hsd8.counted (cn + nn)) hstd8); clear hle hsd8 hstd8)
          | ((with_reducible refine HA.out.mono ?_); rintro e w9 ⟨rfl, rfl⟩))
        all_goals
          go_wp2
          go_roundw
          case rel => exact ⟨j + 1, off', cn + nn, by go_num, by omega, HF.out.1, by rw [HSN2.out]; exact HF.out.2, by rw [HSN2.out]; simp; omega, by rw [HSN2.out]; simp; omega⟩
          case measure => simp [intOf]; omega
    · have hmi : ¬ (j : Int) < (n2 : Int) := by omega
      obtain rfl : j = n2 := by omega
      have htk : l.take j = l := List.take_of_length_le (by rw [HLEN.out]; exact Nat.le_refl _)
      rw [htk] at HSTD hcn1 hcn2 hvl hol
      obtain ⟨v, hh, htop, hbn⟩ := hsd.top
      have hbl := TopM.bnd_len hbn
      have k18 := cell_of_cells (i := 18) hsd.obj (v := .pointer (some ⟨t, 0, none⟩)) (by
        have hql := ((DenM.vec_iff q).1 HQ.out).1
        match q, hql with
        | [a0, a1, a2, a3, a4, a5, a6, a7], _ => rfl)
      have HLI := Lib.hid (list_any t t k v hh wr htop (by omega))
      have HBN := Lib.hid hbn
      clear htop hbn hsd hstd htk hbl
      go_wp2_with fail
      refine HLI.out.mono ?_
      rintro e w6 ⟨v', rfl, hp, hb6⟩
      have HFE : Hid (FindEnd w1 c k (DenM.vis m q may l) cnt v' w6) := Lib.hid ⟨by rw [← HSTD.out.best, ← TopM.bnd_srt HBN.out]; exact hp, ⟨cn, blk_stay hb6 HS.out.cnt, hcn1, hcn2⟩, HS.out.low.trans (hb6.mono HS.out.low.size)⟩
      clear hp hb6
      go_wp2
      go_ret2
      exact ⟨v', rfl, HFE.out⟩
end Go.Proofs.Ytjdlocmchmeipaa
