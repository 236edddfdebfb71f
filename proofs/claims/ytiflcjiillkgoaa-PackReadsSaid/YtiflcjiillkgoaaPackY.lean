/- PackBack answers true: the walk. -/
import Derived.Test.YtiflcjiillkgoaaPackX
import Derived.Test.YtiflcjiillkgoaaPackW
import Derived.Deep.DeepCutAuto
namespace Go.Proofs.Ytiflcjiillkgoaa
open Go.RowKit

/-- behind a reader's call nothing of what was there ahead of the law has turned -/
theorem below_reader {w w1 w2 : World} {b : Nat} (h : Below w.heap.size w w1) (hb : w.heap.size ≤ b) (hg : w1.grownBy w2 (some b)) : Below w.heap.size w w2 := h.grown hg h.size (fun j hj => by injection hj with hj; omega)

theorem n_some {most : Nat} {s : List UInt8} {x : Nat} {t : List UInt8} (h : PackM.num most 0 0 s = some (x, t)) : nV most s = x ∧ nS most s = t ∧ nB most s false = false := by
  unfold nV nS nB; rw [h]; exact ⟨rfl, rfl, rfl⟩
theorem n_none {most : Nat} {s : List UInt8} (h : PackM.num most 0 0 s = none) : nV most s = 0 ∧ nS most s = [] ∧ nB most s false = true := by
  unfold nV nS nB; rw [h]; exact ⟨rfl, rfl, rfl⟩
/-- the front that was read, as the law cuts it off -/
theorem front_cut {most x N : Nat} {s t : List UInt8} (h : PackM.num most 0 0 s = some (x, t)) (hN : N = s.length) : ∃ k : Nat, k ≤ N ∧ (N : Int) - (t.length : Int) = (k : Int) ∧ (ofBytes s).extract 0 k = ofBytes (PackM.vw x) := by
  have he := PackM.num_here h
  have hl : s.length = (PackM.vw x).length + t.length := by rw [he, List.length_append]
  refine ⟨(PackM.vw x).length, by omega, by omega, ?_⟩
  rw [extract_take, he, List.take_append_of_le_length (Nat.le_refl _), List.take_of_length_le (Nat.le_refl _)]

set_option maxHeartbeats 8000000 in
set_option maxRecDepth 100000 in
theorem packback_main (v m : Int) (A : Option Addr) (n cp : Nat) (l : List Int) (s : List UInt8) (w : World) (hv1 : -9223372036854775808 ≤ v) (hv2 : v ≤ 9223372036854775807) (hn : n ≤ 300) (hs : s.length ≤ 1000) (hI : Ints w A n l) (h64 : I64 l) :
    Calls Try.prog 7 #[.int .i64 v, .int .i64 m, .slice A n cp, .string (ofBytes s)] w fun e w' => e = .returned (.bool true) ∧ Below w.heap.size w w' := by
  have hd1 : decide ((300 : Int) < (n : Int)) = false := decide_eq_false (by omega)
  obtain ⟨N, hN⟩ : ∃ N, N = s.length := ⟨_, rfl⟩
  have hsz : (ofBytes s).size = N := by rw [size_ofBytes, hN]
  have hNl : N ≤ 1000 := by omega
  have hd2 : decide ((1000 : Int) < (N : Int)) = false := decide_eq_false (by omega)
  have HN := Lib.hid hN
  clear hN
  have hlen : l.length = n := hI.1
  have HLEN := Lib.hid hlen
  clear hlen
  have HI := Lib.hid hI
  clear hI
  go_enter Try.func7, Try.ntmps7
  go_wp2_with fail
  refine (awake2_any _).mono ?_
  rintro e w1 ⟨rfl, b1⟩
  go_wp2_with fail
  refine (zigzag_any v _ hv1 hv2).mono ?_
  rintro e w2 ⟨rfl, b2⟩
  have b02 : Below w.heap.size w w2 := b1.trans (b2.mono b1.size)
  clear b1 b2
  have hzl := PackM.vw_len10 _ (PackM.zz_lt v hv1 hv2)
  have hzs : (ofBytes (PackM.vw (PackM.zz v))).size ≤ 10 := by rw [size_ofBytes]; exact hzl
  have hcat := cat2 (PackM.vw (PackM.zz v)) s
  go_wp2_with fail
  refine (rnew_any _ _ (by rw [List.length_append]; omega)).mono ?_
  rintro e w3 ⟨r, rfl, hr, rd3, b3⟩
  have b03 : Below w.heap.size w w3 := b02.trans (b3.mono b02.size)
  have hrw : w.heap.size ≤ r := Nat.le_trans b02.size hr
  clear b3 b02 hr hcat
  go_wp2_with fail
  refine (back_zig _ _ v s hv1 hv2 (by omega) rd3).mono ?_
  rintro e w4 ⟨rfl, rd4, g4⟩
  have b04 := below_reader b03 hrw g4
  clear b03 rd3 g4
  go_wp2_with fail
  refine (rleft_any _ _ _ _ rd4).mono ?_
  rintro e w4' ⟨rfl, rfl⟩
  rw [← HN.out]
  go_wp2_with fail
  refine (rbad_any _ _ _ _ rd4).mono ?_
  rintro e w4' ⟨rfl, rfl⟩
  clear rd4
  go_wp2_with fail
  refine (varint_any v _ hv1 hv2).mono ?_
  rintro e w5 ⟨rfl, b5⟩
  have b05 : Below w.heap.size w w5 := b04.trans (b5.mono b04.size)
  clear b5 b04
  go_upto_if 61 with fail
  go_cut [] (fun wx => Below w.heap.size w wx)
  case first =>
    by_cases hv : v < 0
    · have hc : (varC v == 0) = false := by unfold varC; rw [if_pos hv]; rfl
      go_wp2_with fail
      go_meet
      exact b05
    · have hc : (varC v == 0) = true := by unfold varC; rw [if_neg hv]; rfl
      obtain ⟨k, rfl⟩ := Int.eq_ofNat_of_zero_le (Int.not_lt.1 hv)
      have hvB : varB (k : Int) = PackM.vw k := by unfold varB; rw [if_neg hv, Int.toNat_natCast]
      have hk10 := PackM.vw_len10 k (by omega)
      have hcat := cat2 (PackM.vw k) s
      rw [← hvB] at hcat hk10
      have hbs : (ofBytes (varB (k : Int))).size ≤ 10 := by rw [size_ofBytes]; exact hk10
      have HVB := Lib.hid hvB
      clear hvB
      go_wp2_with fail
      refine (rnew_any _ _ (by rw [List.length_append]; omega)).mono ?_
      rintro e w6 ⟨q, rfl, hq, rd6, b6⟩
      have b06 : Below w.heap.size w w6 := b05.trans (b6.mono b05.size)
      have hqw : w.heap.size ≤ q := Nat.le_trans b05.size hq
      clear b6 b05 hq hcat
      rw [HVB.out] at rd6
      go_wp2_with fail
      refine (back_var _ _ k s (by omega) (by omega) rd6).mono ?_
      rintro e w7 ⟨rfl, rd7, g7⟩
      have b07 := below_reader b06 hqw g7
      clear b06 rd6 g7
      go_wp2_with fail
      refine (rleft_any _ _ _ _ rd7).mono ?_
      rintro e w7' ⟨rfl, rfl⟩
      rw [← HN.out]
      go_wp2_with fail
      go_meet
      exact b07
  case rest =>
    clear b05 hzl hzs hrw
    have b05 : Below w.heap.size w wc := hcut
    clear hcut
    have I5 := HI.out.below b05
    go_wp2_with fail
    refine (rising_any A n cp l _ (by omega) I5 h64).mono ?_
    rintro e w8 ⟨rfl, b8⟩
    have b08 : Below w.heap.size w w8 := b05.trans (b8.mono b05.size)
    clear b8 b05 I5
    have hrl := risS_len l (by rw [HLEN.out]; omega) h64
    have hrz : (ofBytes (risS l)).size ≤ 10010 := by rw [size_ofBytes]; exact hrl
    go_upto_if 83 with fail
    go_cut [] (fun wx => Below w.heap.size w wx)
    case first =>
      by_cases hri : PackM.rises (-1) l = true
      · have hc : (risC l == 0) = true := by unfold risC; rw [if_pos hri]; rfl
        have HRI := Lib.hid hri
        clear hri
        have hcat := cat2 (risS l) s
        go_wp2_with fail
        refine (rnew_any _ _ (by rw [List.length_append]; omega)).mono ?_
        rintro e w6 ⟨q, rfl, hq, rd6, b6⟩
        have b06 : Below w.heap.size w w6 := b08.trans (b6.mono b08.size)
        have hqw : w.heap.size ≤ q := Nat.le_trans b08.size hq
        clear b6 b08 hq hcat
        go_wp2_with fail
        refine (back_ris _ _ n l s HLEN.out (by omega) h64 HRI.out (by omega) rd6).mono ?_
        rintro e w7 ⟨⟨A7, c7, rfl, I7⟩, rd7, g7⟩
        have b07 := below_reader b06 hqw g7
        clear b06 rd6 g7
        have I7' := HI.out.below b07
        go_wp2_with fail
        refine (same_any _ _ n _ _ l _ (by omega) I7 I7').mono ?_
        rintro e w8 ⟨rfl, b8⟩
        have b08 : Below w.heap.size w w8 := b07.trans (b8.mono b07.size)
        have rd8 := rd7.later b8
        clear rd7 b8 b07 I7 I7'
        go_wp2_with fail
        refine (rleft_any _ _ _ _ rd8).mono ?_
        rintro e w8' ⟨rfl, rfl⟩
        rw [← HN.out]
        go_wp2_with fail
        go_meet
        exact b08
      · have hc : (risC l == 0) = false := by unfold risC; rw [if_neg hri]; rfl
        clear hri
        go_wp2_with fail
        go_meet
        exact b08
    case rest =>
      clear b08 hrl hrz
      have b08 : Below w.heap.size w wc := hcut
      clear hcut
      have I5 := HI.out.below b08
      go_wp2_with fail
      refine (fixed_all m A n cp l _ (by omega) I5 h64).mono ?_
      rintro e w9 ⟨rfl, b9⟩
      have b09 : Below w.heap.size w w9 := b08.trans (b9.mono b08.size)
      clear b9 b08 I5
      have hrl := fixS_len m l (by rw [HLEN.out]; omega)
      have hrz : (ofBytes (fixS m l)).size ≤ 10010 := by rw [size_ofBytes]; exact hrl
      go_upto_if 109 with fail
      go_cut [] (fun wx => Below w.heap.size w wx)
      case first =>
        by_cases hri : 0 ≤ m ∧ m ≤ 32 ∧ fits m.toNat l = true
        · have hc : (fixC m l == 0) = true := by unfold fixC; rw [if_pos hri]; rfl
          have HRI := Lib.hid hri
          clear hri
          have hcat := cat2 (fixS m l) s
          go_wp2_with fail
          refine (rnew_any _ _ (by rw [List.length_append]; omega)).mono ?_
          rintro e w6 ⟨q, rfl, hq, rd6, b6⟩
          have b06 : Below w.heap.size w w6 := b09.trans (b6.mono b09.size)
          have hqw : w.heap.size ≤ q := Nat.le_trans b09.size hq
          clear b6 b09 hq hcat
          go_wp2_with fail
          refine (back_fix _ _ n m l s HLEN.out (by omega) HRI.out.1 HRI.out.2.1 HRI.out.2.2 (by omega) rd6).mono ?_
          rintro e w7 ⟨⟨A7, c7, rfl, I7⟩, rd7, g7⟩
          have b07 := below_reader b06 hqw g7
          clear b06 rd6 g7
          have I7' := HI.out.below b07
          go_wp2_with fail
          refine (same_any _ _ n _ _ l _ (by omega) I7 I7').mono ?_
          rintro e w8 ⟨rfl, b8⟩
          have b08 : Below w.heap.size w w8 := b07.trans (b8.mono b07.size)
          have rd8 := rd7.later b8
          clear rd7 b8 b07 I7 I7'
          go_wp2_with fail
          refine (rleft_any _ _ _ _ rd8).mono ?_
          rintro e w8' ⟨rfl, rfl⟩
          rw [← HN.out]
          go_wp2_with fail
          go_meet
          exact b08
        · have hc : (fixC m l == 0) = false := by unfold fixC; rw [if_neg hri]; rfl
          clear hri
          go_wp2_with fail
          go_meet
          exact b09
      case rest =>
        clear b09 hrl hrz
        have b09 : Below w.heap.size w wc := hcut
        clear hcut
        go_wp2_with fail
        refine (rnew_any _ _ (by omega)).mono ?_
        rintro e w6 ⟨q, rfl, hq, rd6, b6⟩
        have b06 : Below w.heap.size w w6 := b09.trans (b6.mono b09.size)
        have hqw : w.heap.size ≤ q := Nat.le_trans b09.size hq
        clear b6 b09 hq
        have hvm : nV PackM.MAXI s ≤ 9223372036854775807 := nV_le PackM.MAXI s
        have hvu : nV PackM.MAXU s ≤ 18446744073709551615 := nV_le PackM.MAXU s
        go_wp2_with fail
        refine (rvarint_any _ _ s false (by omega) rd6).mono ?_
        rintro e w7 ⟨rfl, rd7, g7⟩
        have b07 := below_reader b06 hqw g7
        clear b06 rd6 g7
        go_wp2_with fail
        refine (rbad_any _ _ _ _ rd7).mono ?_
        rintro e w7' ⟨rfl, rfl⟩
        go_upto_if 135 with fail
        go_cut [] (fun wx => Below w.heap.size w wx)
        case first =>
          cases hnum : PackM.num PackM.MAXI 0 0 s with
          | none =>
            obtain ⟨e1, e2, e3⟩ := n_none hnum
            rw [e3]
            clear hnum e1 e2 e3
            go_wp2_with fail
            go_meet
            exact b07
          | some y =>
            obtain ⟨x, t⟩ := y
            obtain ⟨e1, e2, e3⟩ := n_some hnum
            obtain ⟨k, hk1, hk2, hk3⟩ := front_cut hnum HN.out
            subst e1
            rw [e2, e3] at rd7
            rw [e3]
            have hxB : varB (nV PackM.MAXI s : Int) = PackM.vw (nV PackM.MAXI s) := by unfold varB; rw [if_neg (by omega), Int.toNat_natCast]
            have hxC : varC (nV PackM.MAXI s : Int) = 0 := by unfold varC; rw [if_neg (by omega)]
            have HXB := Lib.hid hxB
            have HXC := Lib.hid hxC
            clear hnum e2 e3 hxB hxC
            go_wp2_with fail
            refine (varint_any (nV PackM.MAXI s : Int) _ (by omega) (by omega)).mono ?_
            rintro e w8 ⟨rfl, b8⟩
            have b08 : Below w.heap.size w w8 := b07.trans (b8.mono b07.size)
            have rd8 := rd7.later b8
            rw [HXB.out, HXC.out]
            clear b8 b07 rd7
            go_wp2_with fail
            refine (rleft_any _ _ _ _ rd8).mono ?_
            rintro e w8' ⟨rfl, rfl⟩
            go_wp2_with fail
            go_meet
            exact b08
        case rest =>
          clear b07 rd7 hvm hqw
          have b07 : Below w.heap.size w wc := hcut
          clear hcut
          go_wp2_with fail
          refine (rnew_any _ _ (by omega)).mono ?_
          rintro e w6 ⟨z, rfl, hq, rd6, b6⟩
          have b06 : Below w.heap.size w w6 := b07.trans (b6.mono b07.size)
          have hqw : w.heap.size ≤ z := Nat.le_trans b07.size hq
          clear b6 b07 hq
          go_wp2_with fail
          refine (rzigzag_any _ _ s false (by omega) rd6).mono ?_
          rintro e w8 ⟨rfl, rd8, g8⟩
          have b08 := below_reader b06 hqw g8
          clear b06 rd6 g8
          go_wp2_with fail
          refine (rbad_any _ _ _ _ rd8).mono ?_
          rintro e w8' ⟨rfl, rfl⟩
          cases hnum : PackM.num PackM.MAXU 0 0 s with
          | none =>
            obtain ⟨e1, e2, e3⟩ := n_none hnum
            rw [e3]
            clear hnum e1 e2 e3
            go_wp2_with fail
            go_ret
            exact ⟨rfl, b08⟩
          | some y =>
            obtain ⟨x, t⟩ := y
            obtain ⟨e1, e2, e3⟩ := n_some hnum
            obtain ⟨k, hk1, hk2, hk3⟩ := front_cut hnum HN.out
            rw [e1] at hvu
            rw [e2, e3] at rd8
            rw [e1, e3]
            have hzz := PackM.zz_unzz x
            have hlo : -9223372036854775808 ≤ PackM.unzz x ∧ PackM.unzz x ≤ 9223372036854775807 := by unfold PackM.unzz; split <;> omega
            have HZZ := Lib.hid hzz
            clear hnum e1 e2 e3 hzz
            go_wp2_with fail
            refine (zigzag_any (PackM.unzz x) _ hlo.1 hlo.2).mono ?_
            rintro e w9 ⟨rfl, b9⟩
            have b09 : Below w.heap.size w w9 := b08.trans (b9.mono b08.size)
            have rd9 := rd8.later b9
            rw [HZZ.out]
            clear b9 b08 rd8
            go_wp2_with fail
            refine (rleft_any _ _ _ _ rd9).mono ?_
            rintro e w9' ⟨rfl, rfl⟩
            go_wp2_with fail
            go_ret
            exact ⟨rfl, b09⟩

set_option maxHeartbeats 4000000 in
set_option maxRecDepth 100000 in
theorem packback_long (v m : Int) (A : Option Addr) (n cp : Nat) (s : List UInt8) (w : World) (hn : ¬ (n ≤ 300 ∧ s.length ≤ 1000)) :
    Calls Try.prog 7 #[.int .i64 v, .int .i64 m, .slice A n cp, .string (ofBytes s)] w fun e w' => e = .returned (.bool true) ∧ Below w.heap.size w w' := by
  have hsz : (ofBytes s).size = s.length := size_ofBytes s
  by_cases h3 : 300 < n
  · have hd1 : decide ((300 : Int) < (n : Int)) = true := decide_eq_true (by omega)
    go_enter Try.func7, Try.ntmps7
    go_wp2_with fail
    refine (awake2_any _).mono ?_
    rintro e w1 ⟨rfl, b1⟩
    go_wp2_with fail
    go_ret
    exact ⟨rfl, b1⟩
  · have hd1 : decide ((300 : Int) < (n : Int)) = false := decide_eq_false (by omega)
    have hd2 : decide ((1000 : Int) < (s.length : Int)) = true := decide_eq_true (by omega)
    go_enter Try.func7, Try.ntmps7
    go_wp2_with fail
    refine (awake2_any _).mono ?_
    rintro e w1 ⟨rfl, b1⟩
    go_wp2_with fail
    go_ret
    exact ⟨rfl, b1⟩
end Go.Proofs.Ytiflcjiillkgoaa
