
/- A search begun. -/
import Derived.Test.YtjdlocmchmeipaaDenseD
import Derived.Test.YtjdlocmchmeipaaTopH
import Derived.Laws.CopyOwn
import Derived.Deep.RegionWith
import Derived.Deep.DeepCutAuto
namespace Go.Proofs.Ytjdlocmchmeipaa
open Go.RowKit

def iv (x : Int) : Value := .int .i64 x
/-- a search's cells: a measure's functions, the query's numbers, what the numbers behind each bring at most, its bound -/
def seaL (f g : Value) (q e : List Int) (t : Nat) : List Value := [f, g] ++ q.map iv ++ e.map iv ++ [.pointer (some ⟨t, 0, none⟩)]
/-- what is told of the numbers from number i on -/
def lefts (m : Bool) (q : List Int) (i : Nat) : List Int := (List.range 8).map fun j => if i ≤ j then DenM.left m q j else 0
theorem lefts_seven {m : Bool} {q : List Int} (h : q.length = 8) : lefts m q 7 = [0, 0, 0, 0, 0, 0, 0, 0] := by
  unfold lefts
  have := DenM.left_last (m := m) h
  simp [List.range, List.range.loop, this]
theorem seaL_size {f g : Value} {q e : List Int} {t : Nat} (hq : q.length = 8) (he : e.length = 8) : (seaL f g q e t).length = 19 := by simp [seaL, hq, he]
theorem lefts_len (m : Bool) (q : List Int) (i : Nat) : (lefts m q i).length = 8 := by simp [lefts]
theorem seaL_q {f g : Value} {q e : List Int} {t : Nat} {i : Nat} (hi : i < q.length) : (seaL f g q e t).toArray[2 + i]? = some (iv q[i]) := by
  simp only [List.getElem?_toArray]
  unfold seaL
  rw [List.append_assoc, List.append_assoc, List.getElem?_append_right (by simp), List.getElem?_append_left (by simp; omega)]
  simp [hi]
theorem seaL_e {f g : Value} {q e : List Int} {t : Nat} (hq : q.length = 8) {i : Nat} (hi : i < e.length) : (seaL f g q e t).toArray[10 + i]? = some (iv e[i]) := by
  simp only [List.getElem?_toArray]
  unfold seaL
  rw [List.append_assoc, List.getElem?_append_right (by simp; omega), List.getElem?_append_left (by simp; omega)]
  have e1 : 10 + i - ([f, g] ++ q.map iv).length = i := by simp; omega
  rw [e1]
  simp [hi]
theorem seaL_set {f g : Value} {m : Bool} {q : List Int} {t : Nat} (hq : q.length = 8) {p : Nat} (hp : p + 1 < 8) : (seaL f g q (lefts m q (p + 1)) t).toArray.setIfInBounds (10 + p) (iv (DenM.left m q p)) = (seaL f g q (lefts m q p) t).toArray := by
  match q, hq with
  | [a0, a1, a2, a3, a4, a5, a6, a7], _ =>
    match p, hp with
    | 0, _ => rfl
    | 1, _ => rfl
    | 2, _ => rfl
    | 3, _ => rfl
    | 4, _ => rfl
    | 5, _ => rfl
    | 6, _ => rfl
theorem lefts_get {m : Bool} {q : List Int} {i j : Nat} (hj : j < 8) (h : i ≤ j) : (lefts m q i)[j]'(by rw [lefts_len]; exact hj) = DenM.left m q j := by
  unfold lefts
  simp [h]
theorem below_like {B : Nat} {a w w' : World} (h : Below B a w) (h1 : w'.os = w.os) (h2 : w'.tape = w.tape) (h3 : w'.output = w.output) (h4 : w'.heap = w.heap) : Below B a w' :=
  ⟨h1.trans h.os, h2.trans h.tape, h3.trans h.output, by rw [h4]; exact h.size, fun k hk => by rw [h4]; exact h.block k hk⟩
/-- what a new search is: its block, its bound -/
structure NS (w1 W : World) (s t : Nat) (m : Bool) (k : Nat) (q : List Int) : Prop where
  obj : W.heap[s]? = some (.cells (seaL (brV m) (moV m) q (lefts m q 0) t).toArray 73 (0, 0))
  top : TopAt W t t k (.slice none 0 0) []
  o1 : w1.heap.size ≤ t
  o2 : t < s
  low : Below w1.heap.size w1 W

set_option maxHeartbeats 4000000 in
set_option maxRecDepth 100000 in
theorem newsearch_any (m : Bool) (A : Option Addr) (cp : Nat) (q : List Int) (k : Nat) (w : World) (h : Ivs w A 8 q) (hv : DenM.vec q = true) (hk : k ≤ 1000000) :
    Calls Try.prog 24 #[.agg #[brV m, moV m], .slice A 8 cp, .int .i64 k] w fun e w' => ∃ s t, e = .returned (.pointer (some ⟨s, 0, none⟩)) ∧ NS w w' s t m k q := by
  have hn := fun W => new_any k W (by omega)
  rw [Int.toNat_natCast] at hn
  have HN := Lib.hid hn
  have H := Lib.hid h
  obtain ⟨hl, ho⟩ := (DenM.vec_iff q).1 hv
  have HL := Lib.hid hl
  have HO := Lib.hid ho
  have HV := Lib.hid hv
  obtain ⟨F, hF, eF, hbr⟩ := brings_any m
  obtain ⟨G, hG, eG, hmo⟩ := mosts_any m
  have HMO := Lib.hid hmo
  have HF := Lib.hid hF
  have HG := Lib.hid hG
  rw [hF, hG]
  clear hn h hl ho hv hF hG hbr hmo
  go_enter Try.func24, Try.ntmps24
  go_wp2_with fail
  obtain ⟨U, hU⟩ : ∃ U, U = w.alloc (.cells #[.func (.func F) #[] #[], .func (.func G) #[] #[]] 60) := ⟨_, rfl⟩
  rw [← hU]
  have hbl : U.heap[w.heap.size]? = some (.cells #[.func (.func F) #[] #[], .func (.func G) #[] #[]] 60 (0, 0)) := by rw [hU]; exact heap_alloc_new w _
  have k0 := cell_of_cells (i := 0) hbl rfl
  have k1 := cell_of_cells (i := 1) hbl rfl
  have hlt := World.block_lt_of_cell? U _ k0
  have HBL := Lib.hid hbl
  have HU : Hid (Below w.heap.size w U) := Lib.hid (by rw [hU]; exact pl1 _ _)
  obtain ⟨B0, hB0⟩ : ∃ B0, B0 = w.heap.size := ⟨_, rfl⟩
  rw [← hB0] at k0 k1 hlt HBL ⊢
  have HB0 := Lib.hid hB0
  simp only [List.getElem_toArray, List.getElem_cons_zero, List.getElem_cons_succ] at k0 k1 hlt
  clear hU hbl hB0
  go_cut [7] (fun y wx => ∃ s t, y = .pointer (some ⟨s, 0, none⟩) ∧ wx.heap[s]? = some (.cells (seaL (.func (.func F) #[] #[]) (.func (.func G) #[] #[]) [0, 0, 0, 0, 0, 0, 0, 0] [0, 0, 0, 0, 0, 0, 0, 0] t).toArray 73 (0, 0)) ∧ TopAt wx t t k (.slice none 0 0) [] ∧ U.heap.size ≤ t ∧ t < s ∧ Below U.heap.size U wx)
  case first =>
    go_region_with (refine (HN.out _).mono ?_; rintro e w' ⟨rfl, htop, hb⟩; have c0 := (hb.cell (p := ⟨B0, 0, none⟩) hlt).trans k0; have c1 := (hb.cell (p := ⟨B0, 1, none⟩) hlt).trans k1)
    all_goals
      have hb' : Below U.heap.size U w' := by first | exact hb | exact (Below.refl _ _).drew.trans hb
      have ht2 : TopAt w' U.heap.size U.heap.size k (.slice none 0 0) [] := htop
      have hsz : U.heap.size < w'.heap.size := ht2.lt
      clear hb htop
      go_wp2
      go_meet
      first
        | exact ⟨_, _, rfl, heap_alloc_new w' _, ht2.later (pl1 _ _), Nat.le_refl _, hsz, hb'.trans ((pl1 _ _).mono hb'.size)⟩
        | exact ⟨_, _, rfl, heap_alloc_new w' _, ht2.later (pl1 _ _).drew, Nat.le_refl _, hsz, hb'.trans ((pl1 _ _).drew.mono hb'.size)⟩
  case rest =>
    obtain ⟨s, t, rfl, hob, htop, hut, hts, hb⟩ := hcut
    have hcopy : splice (seaL (.func (.func F) #[] #[]) (.func (.func G) #[] #[]) [0, 0, 0, 0, 0, 0, 0, 0] [0, 0, 0, 0, 0, 0, 0, 0] t) 2 (q.map iv) = seaL (.func (.func F) #[] #[]) (.func (.func G) #[] #[]) q (lefts m q 7) t := by
      rw [lefts_seven HL.out]
      have hl := HL.out
      match q, hl with
      | [a0, a1, a2, a3, a4, a5, a6, a7], _ => rfl
    have HCP := Lib.hid hcopy
    have HTOP := Lib.hid htop
    have HOB := Lib.hid hob
    have HB := Lib.hid hb
    have HI := Lib.hid (H.out.later (HU.out.trans (hb.mono HU.out.size)))
    have ks := cell_of_cells (i := 0) hob rfl
    have hts2 := World.block_lt_of_cell? _ _ ks
    have hut2 : U.heap.size ≤ s := by omega
    clear hob htop hb hcopy ks
    have C1 : Hid ((q.map iv).length = Nat.min 8 8) := Lib.hid (by rw [List.length_map, HL.out]; rfl)
    have C2 : Hid (0 < (q.map iv).length → (some (⟨s, 2, none⟩ : Addr)) = some ⟨s, 2, none⟩ ∧ ∃ ad, A = some ad ∧ ∀ j v, (q.map iv)[j]? = some v → wc.cell? (ad.add j) = some v) := Lib.hid (by
      intro _
      refine ⟨rfl, ?_⟩
      obtain ⟨b, o, rfl, _, _⟩ := HI.out.2 0 (by rw [HL.out]; decide)
      refine ⟨⟨b, o, none⟩, rfl, fun j v hv => ?_⟩
      have hj : j < q.length := by
        have := (List.getElem?_eq_some_iff.1 hv).1
        simpa using this
      obtain ⟨b', o', e, _, hc⟩ := HI.out.2 j hj
      injection e with e
      injection e with e1 e2 _
      subst e1
      subst e2
      rw [add_none, hc]
      simp [hj] at hv
      rw [← hv]
      rfl)
    have C3 : Hid (2 + (q.map iv).length ≤ (seaL (.func (.func F) #[] #[]) (.func (.func G) #[] #[]) [0, 0, 0, 0, 0, 0, 0, 0] [0, 0, 0, 0, 0, 0, 0, 0] t).length) := Lib.hid (by rw [List.length_map, HL.out, seaL_size rfl rfl]; decide)
    have C4 : Hid (∀ v ∈ q.map iv, v.oneCell' = true) := Lib.hid (by
      intro v hv
      obtain ⟨x, _, rfl⟩ := List.mem_map.1 hv
      rfl)
    go_wp2_with (refine wpList_copy_splice (o := ⟨some 19, _, _, _, _, _⟩) rfl (.tmp 17) (.tmp 18) 22 22 rfl 3 Try.underlying22 (by kernel_rfl) (some ⟨s, 2, none⟩) A 8 8 8 cp rfl rfl s 2 _ 73 HOB.out (q.map iv) C1.out C2.out C3.out C4.out s wc (Below.refl _ _) (Nat.le_refl _) ?_; intro w4 hk4 hb4)
    have ho4 := hk4.out
    rw [HCP.out] at ho4
    have HO4 := Lib.hid ho4
    have HB4 := Lib.hid hb4
    have kB : w4.cell? ⟨B0, 1, none⟩ = some (.func (.func G) #[] #[]) := by
      have h1 := (HB.out.cell (p := ⟨B0, 1, none⟩) hlt).trans k1
      exact (hb4.cell (p := ⟨B0, 1, none⟩) (by show B0 < s; omega)).trans h1
    have KB := Lib.hid kB
    have hBs : B0 < s := by omega
    clear ho4 hk4 hb4 kB C1 C2 C3 C4 k0 k1
    go_wp2_with fail
    go_loopw [8] (fun x wr => ∃ i : Nat, x = .int .i64 i ∧ i ≤ 7 ∧ wr.heap[s]? = some (.cells (seaL (.func (.func F) #[] #[]) (.func (.func G) #[] #[]) q (lefts m q i) t).toArray 73 (0, 0)) ∧ Below s w4 wr) (fun x _ => (intOf x).toNat)
    case atStart => exact ⟨7, rfl, by omega, HO4.out, Below.refl _ _⟩
    case round =>
      obtain ⟨i, rfl, hi, hob, hb⟩ := hrel
      by_cases hi0 : 0 < i
      · obtain ⟨p, rfl⟩ : ∃ p, i = p + 1 := ⟨i - 1, by omega⟩
        have hd : decide ((0 : Int) < ((p + 1 : Nat) : Int)) = true := decide_eq_true (by omega)
        have cq := cell_of_cells hob (seaL_q (e := lefts m q (p + 1)) (f := .func (.func F) #[] #[]) (g := .func (.func G) #[] #[]) (t := t) (i := p + 1) (q := q) (by rw [HL.out]; omega))
        have ce := cell_of_cells hob (seaL_e (e := lefts m q (p + 1)) (f := .func (.func F) #[] #[]) (g := .func (.func G) #[] #[]) (t := t) (i := p + 1) HL.out (by rw [lefts_len]; omega))
        have cp0 := cell_of_cells hob (seaL_e (e := lefts m q (p + 1)) (f := .func (.func F) #[] #[]) (g := .func (.func G) #[] #[]) (t := t) (i := p) HL.out (by rw [lefts_len]; omega))
        have fz := fun i => frozen_of_cells (i := i) hob
        have hS := Lib.hid (heap_setCell_row hob (10 + p) (iv (DenM.left m q p)))
        have hqo := HO.out _ (List.getElem_mem (show p + 1 < q.length by rw [HL.out]; omega))
        have hle := lefts_get (m := m) (q := q) (i := p + 1) (j := p + 1) (by omega) (Nat.le_refl _)
        have hnx := DenM.left_next (m := m) (a := q) p (by rw [HL.out]; omega)
        have hlb := DenM.left_bd' (m := m) HV.out (i := p) (by omega)
        have hlb2 := DenM.left_bd' (m := m) HV.out (i := p + 1) (by omega)
        rw [hle] at ce
        obtain ⟨x, hx⟩ : ∃ x, x = q[p + 1]'(by rw [HL.out]; omega) := ⟨_, rfl⟩
        rw [← hx] at cq hqo hnx
        obtain ⟨z0, hz0⟩ : ∃ z, z = (lefts m q (p + 1))[p]'(by rw [lefts_len]; omega) := ⟨_, rfl⟩
        rw [← hz0] at cp0
        obtain ⟨z1, hz1⟩ : ∃ z, z = DenM.left m q (p + 1) := ⟨_, rfl⟩
        rw [← hz1] at ce hnx hlb2
        obtain ⟨z2, hz2⟩ : ∃ z, z = DenM.left m q p := ⟨_, rfl⟩
        rw [← hz2] at hnx hlb hS
        have hmo := fun q => HMO.out x (wr.drewN q) hqo
        obtain ⟨r, hr⟩ : ∃ r, r = DenM.most m x := ⟨_, rfl⟩
        rw [← hr] at hnx hmo
        have HM := Lib.hid hmo
        have hs : z1 + r = z2 := hnx.symm
        obtain ⟨hlb3, hlb4⟩ := hlb
        have kG := (hb.cell (p := ⟨B0, 1, none⟩) hBs).trans KB.out
        have HBW := Lib.hid hb
        have HZ2 := Lib.hid hz2
        unfold iv at cq ce cp0
        have hp7 : (p : Int) < 7 := by omega
        have hp8 : ((p : Int) + 1) < 8 := by omega
        clear hob hqo hle hnx hlb2 hx hz0 hz1 hz2 hr hmo hb
        have HSF : Hid (∀ W : World, W.heap[s]? = (wr.setCell ⟨s, 10 + p, none⟩ (iv z2)).heap[s]? → W.heap[s]? = some (.cells (seaL (.func (.func F) #[] #[]) (.func (.func G) #[] #[]) q (lefts m q p) t).toArray 73 (0, 0))) := Lib.hid (fun W hW => by
          rw [hW, hS.out, HZ2.out, seaL_set HL.out (by omega)])
        have HBF : Hid (Below s w4 (wr.setCell ⟨s, 10 + p, none⟩ (iv z2))) := Lib.hid (HBW.out.setCell (Nat.le_refl _) _)
        clear hS
        go_wp2_with fail
        go_region_with (refine (HM.out _).mono ?_; rintro e w' ⟨rfl, rfl⟩)
        all_goals
          go_wp2
          go_roundw
          case rel => exact ⟨p, rfl, by omega, HSF.out _ rfl, below_like HBF.out rfl rfl rfl rfl⟩
          case measure => simp [intOf]
      · obtain rfl : i = 0 := by omega
        have HFIN : Hid (NS w wr s t m k q) := Lib.hid (by
          refine ⟨by rw [HF.out, HG.out]; exact hob, ⟨HTOP.out.old, ?_, PairRow.nil_ _ _⟩, ?_, hts, ?_⟩
          · exact (hb.block t hts).trans ((HB4.out.block t hts).trans HTOP.out.blk)
          · exact Nat.le_trans HU.out.size hut
          · have hsz := HU.out.size
            exact HU.out.trans ((HB.out.mono hsz).trans ((HB4.out.mono (by omega)).trans (hb.mono (by omega))))) 
        clear hi hi0 hob hb
        go_wp2
        go_ret
        exact ⟨s, t, rfl, HFIN.out⟩
end Go.Proofs.Ytjdlocmchmeipaa
