
/- Terms, a vector, tags, taken off a reader (the program's). -/
import Derived.Test.YtdjbdhfellofoaaDocI
import Derived.Test.YtdjbdhfellofoaaDocH
namespace Go.Proofs.Ytdjbdhfellofoaa.Do
open Go.RowKit Go.Proofs.Ytdjbdhfellofoaa DocM

theorem term_ty : PairTy 56 22 := ⟨by kernel_rfl, Try.underlying22⟩
theorem down128_any (n : Int) (w : World) (h : -1000000 ≤ n ∧ n ≤ 1000000) : Calls Try.prog 69 #[.int .i64 n] w fun e w' => e = .returned (.int .i64 (n - 128)) ∧ Below w.heap.size w w' := by
  have hw : IntKind.i64.wrap (n - 128) = n - 128 := by rw [IntKind.wrap_i64]; omega
  obtain ⟨m, hm⟩ : ∃ m, m = n - 128 := ⟨_, rfl⟩
  rw [← hm]
  have hw2 : IntKind.i64.wrap (n - 128) = m := by rw [hw, hm]
  clear hw hm
  go_enter Try.func69, Try.ntmps69
  go_wp2
  go_ret
  exact ⟨rfl, Below.refl _ _⟩
theorem rfixed16_any (w : World) (b : Nat) (s : List UInt8) (bad : Bool) (n : Nat) (hl : s.length ≤ 100000000) (hbad : bad = true → s = []) (h : RD w b s bad) (hn : n ≤ 65536) :
    Calls Try.prog 68 #[.pointer (some ⟨b, 0, none⟩), .int .i64 16, .int .i64 (n : Int)] w fun e w' => RowEnd w.heap.size b (fxV 16 n s bad) (fxS 16 n s bad) (fxB 16 n s bad) e w' ∧ w.grownBy w' (some b) := rfixed_in w b s bad 16 n hl hbad h (by omega) hn
theorem rfixed8_any (w : World) (b : Nat) (s : List UInt8) (bad : Bool) (hl : s.length ≤ 100000000) (hbad : bad = true → s = []) (h : RD w b s bad) :
    Calls Try.prog 68 #[.pointer (some ⟨b, 0, none⟩), .int .i64 8, .int .i64 8] w fun e w' => RowEnd w.heap.size b (fxV 8 8 s bad) (fxS 8 8 s bad) (fxB 8 8 s bad) e w' ∧ w.grownBy w' (some b) := rfixed_in w b s bad 8 8 hl hbad h (by omega) (by omega)
theorem rfixed1_any (w : World) (b : Nat) (s : List UInt8) (bad : Bool) (hl : s.length ≤ 100000000) (hbad : bad = true → s = []) (h : RD w b s bad) :
    Calls Try.prog 68 #[.pointer (some ⟨b, 0, none⟩), .int .i64 8, .int .i64 1] w fun e w' => RowEnd w.heap.size b (fxV 8 1 s bad) (fxS 8 1 s bad) (fxB 8 1 s bad) e w' ∧ w.grownBy w' (some b) := rfixed_in w b s bad 8 1 hl hbad h (by omega) (by omega)
set_option maxHeartbeats 2000000 in
set_option maxRecDepth 100000 in
theorem taketags_any (w : World) (b : Nat) (s : List UInt8) (bad : Bool) (hst : StK 100000000 s bad) (h : RD w b s bad) :
    Calls Try.prog 53 #[.pointer (some ⟨b, 0, none⟩)] w fun e w' => e = .returned (.int .i64 ((fxV 8 1 s bad).getD 0 0)) ∧ RD w' b (fxS 8 1 s bad) (fxB 8 1 s bad) ∧ w.grownBy w' (some b) := by
  have HF := Lib.hid (rfixed1_any w b s bad hst.len hst.nil_ h)
  obtain ⟨hfo, _⟩ := fx_form 8 1 s bad
  obtain ⟨l, hl⟩ : ∃ l, l = fxV 8 1 s bad := ⟨_, rfl⟩
  have hfo : l = [] ∨ l.length = 1 := by rw [hl]; exact hfo
  rw [← hl] at HF ⊢
  clear hst h hl
  rcases hfo with rfl | hfo
  · go_enter Try.func53, Try.ntmps53
    go_wp2_with fail
    refine HF.out.mono ?_
    rintro e w1 ⟨⟨A, cp, rfl, _, hI, hrd⟩, hgr⟩
    have HRD := Lib.hid hrd
    have HGR := Lib.hid hgr
    clear hrd hgr HF hI
    go_wp2
    go_ret
    exact ⟨rfl, HRD.out, HGR.out⟩
  · obtain ⟨t, rfl⟩ : ∃ t, l = [t] := List.length_eq_one_iff.1 hfo
    clear hfo
    go_enter Try.func53, Try.ntmps53
    go_wp2_with fail
    refine HF.out.mono ?_
    rintro e w1 ⟨⟨A, cp, rfl, _, hI, hrd⟩, hgr⟩
    have HRD := Lib.hid hrd
    have HGR := Lib.hid hgr
    obtain ⟨g, o, rfl, hgl, hc⟩ := hI.2 0 (by simp)
    rw [Nat.add_zero] at hc
    simp only [List.getElem_cons_zero] at hc
    clear hI hrd hgr HF
    go_wp2
    go_ret
    exact ⟨rfl, HRD.out, HGR.out⟩
set_option maxHeartbeats 2000000 in
set_option maxRecDepth 100000 in
theorem takevector_any (w : World) (b : Nat) (s : List UInt8) (bad : Bool) (hst : StK 100000000 s bad) (h : RD w b s bad) :
    Calls Try.prog 52 #[.pointer (some ⟨b, 0, none⟩)] w fun e w' => (∃ g, e = .returned (.slice (some ⟨g, 0, none⟩) (fxV 8 8 s bad).length (fxV 8 8 s bad).length) ∧ w.heap.size ≤ g ∧ Ivs w' (some ⟨g, 0, none⟩) (fxV 8 8 s bad).length ((fxV 8 8 s bad).map (· - 128))) ∧ RD w' b (fxS 8 8 s bad) (fxB 8 8 s bad) ∧ w.grownBy w' (some b) := by
  have HF := Lib.hid (rfixed8_any w b s bad hst.len hst.nil_ h)
  obtain ⟨hfo, hrg⟩ := fx_form 8 8 s bad
  obtain ⟨l, hl⟩ : ∃ l, l = fxV 8 8 s bad := ⟨_, rfl⟩
  have hfo : l.length ≤ 8 := by
    rw [hl]
    rcases hfo with e | e
    · rw [show fxV 8 8 s bad = [] from e]; simp
    · exact Nat.le_of_eq e
  have hrg : ∀ v ∈ l, 0 ≤ v ∧ v < 256 := by rw [hl]; exact hrg
  rw [← hl] at HF ⊢
  have HRG := Lib.hid hrg
  have HB := Lib.hid h.lt
  clear hst h hl hrg
  go_enter Try.func52, Try.ntmps52
  go_wp2_with fail
  refine HF.out.mono ?_
  rintro e w1 ⟨⟨A, cp, rfl, _, hI, hrd⟩, hgr⟩
  have HRD := Lib.hid hrd
  have HGR := Lib.hid hgr
  have HI : Hid (Ivs w1 A l.length l) := Lib.hid hI
  clear hrd hgr HF hI
  go_wp2_with fail
  refine (eachint_any A l.length cp l _ (fun n => n - 128) _ HI.out (by omega) (fun _ _ => rfl) (fun p hp W => down128_any p W (by have := HRG.out p hp; omega))).mono ?_
  rintro e w2 ⟨g, rfl, hg, hiv, hb⟩
  have HX : Hid (w.heap.size ≤ g ∧ Ivs w2 (some ⟨g, 0, none⟩) l.length (l.map (fun n => n - 128)) ∧ RD w2 b (fxS 8 8 s bad) (fxB 8 8 s bad) ∧ w.grownBy w2 (some b)) := Lib.hid ⟨Nat.le_trans HGR.out.size hg, hiv, HRD.out.later hb, only_below HGR.out hb⟩
  clear hg hiv hb
  go_wp2
  go_ret
  exact ⟨⟨g, rfl, HX.out.1, HX.out.2.1⟩, HX.out.2.2⟩
set_option maxHeartbeats 4000000 in
set_option maxRecDepth 100000 in
theorem taketerms_any (w : World) (b : Nat) (s : List UInt8) (bad : Bool) (hst : StK 100000000 s bad) (h : RD w b s bad) :
    Calls Try.prog 51 #[.pointer (some ⟨b, 0, none⟩)] w fun e w' => (∃ v, e = .returned v ∧ PRow 56 w' w.heap.size v ((rsV 64 s).zip (fxV 16 (rsV 64 s).length (rsS 64 s) (rsB 64 s bad)))) ∧ RD w' b (fxS 16 (rsV 64 s).length (rsS 64 s) (rsB 64 s bad)) (fxB 16 (rsV 64 s).length (rsS 64 s) (rsB 64 s bad)) ∧ w.grownBy w' (some b) := by
  have HF := Lib.hid (rrising_any w b s bad 64 hst.len hst.nil_ h)
  have hst1 := hst.ris (most := 64)
  have hl64 := rs_len (most := 64) (s := s) (by omega)
  obtain ⟨l, hl⟩ : ∃ l, l = rsV 64 s := ⟨_, rfl⟩
  obtain ⟨s1, hs1⟩ : ∃ x, x = rsS 64 s := ⟨_, rfl⟩
  obtain ⟨b1, hb1⟩ : ∃ x, x = rsB 64 s bad := ⟨_, rfl⟩
  rw [← hl, ← hs1, ← hb1] at HF
  rw [← hl, ← hs1, ← hb1]
  rw [← hs1, ← hb1] at hst1
  rw [← hl] at hl64
  obtain ⟨n, hn⟩ : ∃ n, n = l.length := ⟨_, rfl⟩
  have hn64 : n ≤ 64 := by omega
  have HF2 := Lib.hid (fun W hW => rfixed16_any W b s1 b1 n hst1.len hst1.nil_ hW (by omega))
  obtain ⟨hfo, _⟩ := fx_form 16 n s1 b1
  rw [← hn]
  obtain ⟨z, hz⟩ : ∃ z, z = fxV 16 n s1 b1 := ⟨_, rfl⟩
  have hzn : z.length ≤ n := by
    rw [hz]
    rcases hfo with e | e
    · rw [show fxV 16 n s1 b1 = [] from e]; simp
    · exact Nat.le_of_eq e
  rw [← hz] at HF2 ⊢
  have HB := Lib.hid h.lt
  have HN := Lib.hid hn
  clear hst h hl hs1 hb1 hst1 hl64 hfo hz hn
  go_enter Try.func51, Try.ntmps51
  go_wp2_with fail
  refine HF.out.mono ?_
  rintro e w1 ⟨⟨A, cp, rfl, hA, hI, hrd⟩, hgr⟩
  rw [← HN.out] at hI ⊢
  have HGR := Lib.hid hgr
  have HI : Hid (Ivs w1 A n l) := Lib.hid hI
  have HA := Lib.hid hA
  have HRD := Lib.hid hrd
  clear hgr HF hI hA hrd
  go_wp2_with fail
  refine (HF2.out _ HRD.out).mono ?_
  rintro e w2 ⟨⟨A2, cp2, rfl, hA2, hI2, hrd⟩, hgr⟩
  have HI1 : Hid (Ivs w2 A n l) := Lib.hid (HI.out.turned (Turned.of_grown (S := fun k => k = b) hgr rfl) (fun ad e => by have h1 := HA.out ad e; have h2 := HB.out; omega))
  have HI2 : Hid (Ivs w2 A2 z.length z) := Lib.hid hI2
  have HG2 : Hid (w.grownBy w2 (some b)) := Lib.hid (HGR.out.trans hgr)
  have HRD2 := Lib.hid hrd
  clear hrd hgr hI2 hA2 HF2 HI HA HRD HGR
  obtain ⟨m, hm⟩ : ∃ m, m = z.length := ⟨_, rfl⟩
  rw [← hm] at HI2 hzn ⊢
  have HM := Lib.hid hm
  clear hm
  go_wp2
  go_loopw [3, 14] (fun t x wr => ∃ k : Nat, x = .int .i64 k ∧ k ≤ m ∧ PRow 56 wr w2.heap.size t ((l.zip z).take k) ∧ Below w2.heap.size w2 wr) (fun _ x _ => m - (intOf x).toNat)
  case atStart => exact ⟨0, by go_num, Nat.zero_le _, by rw [List.take_zero]; exact PRow.nil_ _ _, Below.refl _ _⟩
  case round =>
    obtain ⟨k, rfl, hkm, hrow, hb⟩ := hrel
    by_cases hlt : k < m
    · have hmi : (k : Int) < (m : Int) := by omega
      have hni : (k : Int) < (n : Int) := by omega
      have hkz : k < z.length := by rw [← HM.out]; exact hlt
      have hkl : k < l.length := by rw [← HN.out]; omega
      obtain ⟨g1, o1, rfl, hg1, c1⟩ := HI1.out.2 k hkl
      obtain ⟨g2, o2, rfl, hg2, c2⟩ := HI2.out.2 k hkz
      have q1 := (hb.cell (p := ⟨g1, o1 + k, none⟩) hg1).trans c1
      have q2 := (hb.cell (p := ⟨g2, o2 + k, none⟩) hg2).trans c2
      have hnx : (l.zip z).take (k + 1) = (l.zip z).take k ++ [(l[k], z[k])] := by
        rw [List.take_succ_eq_append_getElem (by rw [List.length_zip]; omega), List.getElem_zip]
      obtain ⟨x, hx⟩ : ∃ x, x = l[k] := ⟨_, rfl⟩
      obtain ⟨y, hy⟩ : ∃ y, y = z[k] := ⟨_, rfl⟩
      rw [← hx] at q1 hnx
      rw [← hy] at q2 hnx
      have hrl : ((l.zip z).take k).length = k := by rw [List.length_take, List.length_zip]; omega
      have HROW := Lib.hid (hrow.later (pl1 wr (.cells #[.int .i64 x, .int .i64 y] 56)))
      have HB2 := Lib.hid (hb.trans ((pl1 wr (.cells #[.int .i64 x, .int .i64 y] 56)).mono hb.size))
      have x0 := cell_of_cells (i := 0) (heap_alloc_new wr (.cells #[.int .i64 x, .int .i64 y] 56)) rfl
      have x1 := cell_of_cells (i := 1) (heap_alloc_new wr (.cells #[.int .i64 x, .int .i64 y] 56)) rfl
      have HX0 := Lib.hid x0
      have HX1 := Lib.hid x1
      have HNX := Lib.hid hnx
      have HRL := Lib.hid hrl
      have hbs : w2.heap.size ≤ (wr.alloc (.cells #[.int .i64 x, .int .i64 y] 56)).heap.size := HB2.out.size
      have HBS := Lib.hid hbs
      clear hrow hb c1 c2 hnx hx hy hrl x0 x1 hbs hg1 hg2
      go_wp2_with (at_builtin; refine wpList_append_p term_ty rfl _ _ rfl w2.heap.size _ _ rfl HROW.out wr.heap.size _ (x, y) rfl HX0.out HX1.out HBS.out (by rw [HRL.out]; omega) ?_; intro v' w5 hown5 hgrow5)
      have HN5 : Hid (PRow 56 w5 w2.heap.size v' ((l.zip z).take (k + 1)) ∧ Below w2.heap.size w2 w5) := Lib.hid ⟨by rw [HNX.out]; exact hown5, HB2.out.grown hgrow5 HB2.out.size (fun q hq => (World.ownsRow.lt HROW.out q hq).1)⟩
      clear hown5 hgrow5
      go_wp2
      go_roundw
      case rel => exact ⟨k + 1, by go_num, by omega, HN5.out.1, HN5.out.2⟩
      case measure => simp [intOf]; omega
    · have hmi : ¬ (k : Int) < (m : Int) := by omega
      obtain rfl : k = m := by omega
      have HE : Hid ((l.zip z).take k = l.zip z) := Lib.hid (List.take_of_length_le (by rw [List.length_zip, ← HM.out]; omega))
      rw [HE.out] at hrow
      have HX : Hid (PRow 56 wr w.heap.size u3 (l.zip z) ∧ RD wr b (fxS 16 n s1 b1) (fxB 16 n s1 b1) ∧ w.grownBy wr (some b)) := Lib.hid ⟨hrow.base_mono HG2.out.size, HRD2.out.later hb, only_below HG2.out hb⟩
      clear hrow hb
      go_wp2
      go_ret
      exact ⟨⟨_, rfl, HX.out.1⟩, HX.out.2⟩
end Go.Proofs.Ytdjbdhfellofoaa.Do
