
/- The document's reader: fail, Bytes, take, TakeVarint, TakeZigzag. -/
import Derived.Test.YtdjbdhfellofoaaPackN
namespace Go.Proofs.Ytdjbdhfellofoaa
open Go.RowKit

def mR (s : List UInt8) (bad : Bool) : Value := .agg #[.string (ofBytes s), .bool bad]

set_option maxHeartbeats 400000 in
theorem mfail_any (w : World) : Calls Try.prog 55 #[] w fun e w' => e = .returned (mR [] true) ∧ Below w.heap.size w w' := by
  go_enter Try.func55, Try.ntmps55
  go_wp2
  exact bodyPost_ret (v := mR [] true) (by simp [results, Try.results55, go_sem, mR, ofBytes]) rfl ⟨rfl, (Below.refl _ _).alloc (Nat.le_refl _) _⟩

theorem set2_0 {w1 : World} {R : Nat} {v0 v1 : Value} (h0 : w1.cell? ⟨R, 0, none⟩ = some v0) (x y : Value) (_h1 : w1.cell? ⟨R, 1, none⟩ = some v1) : ((w1.setCell ⟨R, 0, none⟩ x).setCell ⟨R, 1, none⟩ y).cell? ⟨R, 0, none⟩ = some x := by
  rw [World.cell?_setCell_other _ _ _ _ (fun e => by injection e with e1 e2; omega), World.cell?_setCell_same _ _ _ h0]
theorem set2_1 {w1 : World} {R : Nat} {v1 : Value} (h1 : w1.cell? ⟨R, 1, none⟩ = some v1) (x y : Value) : ((w1.setCell ⟨R, 0, none⟩ x).setCell ⟨R, 1, none⟩ y).cell? ⟨R, 1, none⟩ = some y := by
  have : (w1.setCell ⟨R, 0, none⟩ x).cell? ⟨R, 1, none⟩ = some v1 := by rw [World.cell?_setCell_other _ _ _ _ (fun e => by injection e with e1 e2; omega), h1]
  rw [World.cell?_setCell_same _ _ _ this]

theorem below_set2 {n R : Nat} {w w1 : World} (h : Below n w w1) (hR : n ≤ R) (x y : Value) : Below n w ((w1.setCell ⟨R, 0, none⟩ x).setCell ⟨R, 1, none⟩ y) := (h.setCell (by exact hR) _).setCell (by exact hR) _

theorem pow9 (k : Nat) (h : k ≤ 9) : 128 ^ k ≤ 9223372036854775808 := by
  calc 128 ^ k ≤ 128 ^ 9 := Nat.pow_le_pow_right (by decide) h
    _ = 9223372036854775808 := by decide

set_option maxHeartbeats 1600000 in
set_option maxRecDepth 100000 in
theorem mtake_any (w : World) (s : List UInt8) (bad : Bool) (hl : s.length ≤ 100000000) (hbad : bad = true → s = []) :
    Calls Try.prog 54 #[mR s bad] w fun e w' => e = .returned (.tuple #[mR (nS PackM.MAXU s) (nB PackM.MAXU s bad), .int .u64 (nV PackM.MAXU s : Nat)]) ∧ Below w.heap.size w w' := by
  have fails : PackM.num PackM.MAXU 0 0 s = none → nS PackM.MAXU s = [] ∧ nB PackM.MAXU s bad = true ∧ nV PackM.MAXU s = 0 := fun h => by
    unfold nS nB nV; rw [h]; exact ⟨rfl, rfl, rfl⟩
  have HFAIL := Lib.hid fails
  clear fails
  obtain ⟨wA, hwA⟩ : ∃ wA, wA = (w.alloc (.cells #[.string (ofBytes s), .bool bad] 69)).alloc (.cells #[.string ⟨#[]⟩, .bool false] 69) := ⟨_, rfl⟩
  obtain ⟨A, hA⟩ : ∃ A, A = w.heap.size := ⟨_, rfl⟩
  obtain ⟨R, hR⟩ : ∃ R, R = w.heap.size + 1 := ⟨_, rfl⟩
  have a0 : wA.cell? ⟨A, 0, none⟩ = some (.string (ofBytes s)) := by rw [hwA, hA]; go_simp
  have r0 : wA.cell? ⟨R, 0, none⟩ = some (.string ⟨#[]⟩) := by rw [hwA, hR]; go_simp
  have r1 : wA.cell? ⟨R, 1, none⟩ = some (.bool false) := by rw [hwA, hR]; go_simp
  have f0 : wA.frozen? ⟨R, 0, none⟩ = false := by rw [hwA, hR]; go_simp
  have f1 : wA.frozen? ⟨R, 1, none⟩ = false := by rw [hwA, hR]; go_simp
  have hAs : R < wA.heap.size := by rw [hwA, hR]; simp
  have hRw : w.heap.size ≤ R := by omega
  have hBA : Below w.heap.size w wA := by rw [hwA]; exact ((Below.refl _ _).alloc (Nat.le_refl _) _).alloc (by simp) _
  cases bad with
  | true =>
    have hs0 := hbad rfl
    subst hs0
    have HX := Lib.hid (HFAIL.out rfl)
    unfold mR
    go_enter Try.func54, Try.ntmps54
    go_wp2_with fail
    rw [← hwA, ← hR, ← hA]
    clear hwA hR hA
    refine (mfail_any _).mono ?_
    rintro e w1 ⟨rfl, hb⟩
    have r0' := (hb.cell (p := ⟨R, 0, none⟩) hAs).trans r0
    have r1' := (hb.cell (p := ⟨R, 1, none⟩) hAs).trans r1
    have f0' := (hb.frozen (p := ⟨R, 0, none⟩) hAs).trans f0
    have f1' := (hb.frozen (p := ⟨R, 1, none⟩) hAs).trans f1
    unfold mR
    go_wp2
    have g0 := set2_0 r0' (.string (ofBytes [])) (.bool true) r1'
    have g1 := set2_1 r1' (.string (ofBytes [])) (.bool true)
    have gB := below_set2 (hBA.trans (hb.mono (by omega))) hRw (.string (ofBytes [])) (.bool true)
    generalize (w1.setCell ⟨R, 0, none⟩ (.string (ofBytes []))).setCell ⟨R, 1, none⟩ (.bool true) = w2 at g0 g1 gB ⊢
    rw [HX.out.1, HX.out.2.1, HX.out.2.2]
    exact bodyPost_ret (v := .tuple #[.agg #[.string (ofBytes []), .bool true], .int .u64 0]) (by simp [results, Try.results54, go_sem, g0, g1]) rfl ⟨rfl, gB⟩
  | false =>
    have hs : (ofBytes s).size = s.length := size_ofBytes s
    obtain ⟨N, hN⟩ : ∃ N, N = s.length := ⟨_, rfl⟩
    rw [← hN] at hs hl
    have HN := Lib.hid hN
    clear hN
    unfold mR
    go_enter Try.func54, Try.ntmps54
    go_wp2
    rw [← hwA, ← hR, ← hA]
    clear hwA hR hA
    go_loop [4, 5, 6] (fun x y i => ∃ (k v U : Nat), k ≤ N ∧ k ≤ 10 ∧ i = .int .i64 k ∧ x = .int .u64 v ∧ y = .int .u64 U ∧ (k ≤ 9 → U = 128 ^ k) ∧ (k ≤ 9 → v < 128 ^ k) ∧ PackM.num PackM.MAXU 0 0 s = PackM.num PackM.MAXU k v (s.drop k)) (fun _ _ i => N - (intOf i).toNat)
    case atStart => exact ⟨0, 0, 1, by omega, by omega, rfl, rfl, rfl, fun _ => rfl, fun _ => by decide, by rw [List.drop_zero]⟩
    case round =>
      obtain ⟨k, v, U, hk, hk10, rfl, rfl, rfl, hU, hv, heq⟩ := hrel
      have HE := Lib.hid heq
      have HU := Lib.hid hU
      have HVL := Lib.hid hv
      clear heq hU hv
      have hM : PackM.MAXU = 18446744073709551615 := rfl
      have HM := Lib.hid hM
      clear hM
      by_cases hlt : k < N
      · have hd : decide ((k : Int) < (N : Int)) = true := decide_eq_true (by omega)
        by_cases hlt2 : k < 10
        · have hd2 : decide ((k : Int) < 10) = true := decide_eq_true (by omega)
          have hkl : k < s.length := by rw [← HN.out]; exact hlt
          have hdr := List.drop_eq_getElem_cons hkl
          obtain ⟨c, hc⟩ : ∃ c : UInt8, c = s[k] := ⟨_, rfl⟩
          have hkz : k < (ofBytes s).size := by rw [hs]; exact hlt
          obtain ⟨x, hx⟩ : ∃ x : Nat, x = c.toNat := ⟨_, rfl⟩
          have hx256 : x < 256 := by rw [hx]; exact c.toNat_lt
          have hbx : (ofBytes s)[k].toNat = x := by rw [hx, hc]; rfl
          rw [← hc] at hdr
          clear hc
          have HX2 := Lib.hid hx
          have HDR := Lib.hid hdr
          clear hx hdr
          have hU9 := HU.out (by omega)
          have hv9 := HVL.out (by omega)
          have hp9 := pow9 k (by omega)
          rw [← hU9] at hp9 hv9
          have hpw : 128 ^ (k + 1) = U * 128 := by rw [Nat.pow_succ, hU9]
          have HPW := Lib.hid hpw
          have HU9 := Lib.hid hU9
          clear hU9 hpw
          by_cases hlast : k = 9 ∧ 1 < x
          · have hnone : PackM.num PackM.MAXU 0 0 s = none := by
              rw [HE.out, HDR.out]
              obtain ⟨h9, hx1⟩ := hlast
              by_cases hov : PackM.MAXU < v + c.toNat % 128 * 128 ^ k
              · exact PackM.num_over hov
              · by_cases hmore : 128 ≤ c.toNat
                · rw [PackM.num_more hov hmore]
                  exact PackM.num_far (by rw [HM.out]; decide) _ _ _ (by omega)
                · exfalso
                  apply hov
                  rw [HM.out, ← HU9.out]
                  rw [h9] at HU9
                  have h1 := HU9.out
                  have h2 : (128 : Nat) ^ 9 = 9223372036854775808 := by decide
                  rw [h2] at h1
                  have h3 := HX2.out
                  rw [Nat.mod_eq_of_lt (by omega), ← h3, h1]
                  omega
            have HX := Lib.hid (HFAIL.out hnone)
            obtain ⟨rfl, hx1⟩ := hlast
            have hd3 : decide (1 < x) = true := decide_eq_true hx1
            clear hnone
            go_wp2_with fail
            refine (mfail_any _).mono ?_
            rintro e w1 ⟨rfl, hb⟩
            have r0' := (hb.cell (p := ⟨R, 0, none⟩) hAs).trans r0
            have r1' := (hb.cell (p := ⟨R, 1, none⟩) hAs).trans r1
            have f0' := (hb.frozen (p := ⟨R, 0, none⟩) hAs).trans f0
            have f1' := (hb.frozen (p := ⟨R, 1, none⟩) hAs).trans f1
            unfold mR
            go_wp2
            have g0 := set2_0 r0' (.string (ofBytes [])) (.bool true) r1'
            have g1 := set2_1 r1' (.string (ofBytes [])) (.bool true)
            have gB := below_set2 (hBA.trans (hb.mono (by omega))) hRw (.string (ofBytes [])) (.bool true)
            generalize (w1.setCell ⟨R, 0, none⟩ (.string (ofBytes []))).setCell ⟨R, 1, none⟩ (.bool true) = w2 at g0 g1 gB ⊢
            rw [HX.out.1, HX.out.2.1, HX.out.2.2]
            exact bodyPost_ret (v := .tuple #[.agg #[.string (ofBytes []), .bool true], .int .u64 0]) (by simp [results, Try.results54, go_sem, g0, g1]) rfl ⟨rfl, gB⟩
          · have hgl : x % 128 < 128 := by omega
            obtain ⟨y, hy⟩ : ∃ y, y = x % 128 * U := ⟨_, rfl⟩
            have hyI : (x : Int) % 128 * (U : Int) = (y : Int) := by rw [hy]; simp
            have hyl : y ≤ 127 * U := by rw [hy]; exact Nat.mul_le_mul_right _ (by omega)
            have hsum : v + y ≤ 18446744073709551615 := by
              by_cases h9 : k = 9
              · have hx1 : x ≤ 1 := by omega
                have : y ≤ 1 * U := by rw [hy]; exact Nat.mul_le_mul_right _ (by omega)
                omega
              · have h8 : 128 ^ (k + 1) ≤ 9223372036854775808 := pow9 (k + 1) (by omega)
                rw [HPW.out] at h8
                omega
            have hval : v + c.toNat % 128 * 128 ^ k = v + y := by rw [← HX2.out, ← HU9.out, ← hy]
            have hno : ¬ PackM.MAXU < v + c.toNat % 128 * 128 ^ k := by rw [hval, HM.out]; omega
            have HV := Lib.hid hval
            have HNO := Lib.hid hno
            have HY := Lib.hid hy
            clear hval hno hy
            by_cases hmore : 128 ≤ x
            · have hk9 : ¬ k = 9 := fun h => hlast ⟨h, by omega⟩
              have hk9b : ((k : Int) == 9) = false := beq_eq_false_iff_ne.2 (by omega)
              have hd3 : decide (x < 128) = false := decide_eq_false (by omega)
              have h8 : U * 128 ≤ 9223372036854775808 := by rw [← HPW.out]; exact pow9 (k + 1) (by omega)
              have hnext : PackM.num PackM.MAXU 0 0 s = PackM.num PackM.MAXU (k + 1) (v + y) (s.drop (k + 1)) := by
                rw [HE.out, HDR.out, PackM.num_more HNO.out (by rw [← HX2.out]; exact hmore), HV.out]
              have hvn : v + y < U * 128 := by omega
              have HNX := Lib.hid hnext
              clear hnext
              go_wp2
              go_round
              case rel => exact ⟨k + 1, v + y, U * 128, by omega, by omega, by go_num, by go_num, by go_num, fun _ => HPW.out.symm, fun _ => by rw [HPW.out]; exact hvn, HNX.out⟩
              case measure => simp [intOf]; omega
            · have hd3 : decide (x < 128) = true := decide_eq_true (by omega)
              by_cases hzero : x = 0 ∧ 0 < k
              · have hnone : PackM.num PackM.MAXU 0 0 s = none := by
                  rw [HE.out, HDR.out]
                  exact PackM.num_null HNO.out (by rw [← HX2.out]; exact hzero.1) hzero.2
                have HX := Lib.hid (HFAIL.out hnone)
                obtain ⟨hz1, hz2⟩ := hzero
                subst hz1
                have hk0 : decide (0 < k) = true := decide_eq_true hz2
                have hx1 : decide ((1 : Int) < 0) = false := rfl
                clear hnone
                by_cases hk9 : k = 9
                · subst hk9
                  go_wp2_with fail
                  refine (mfail_any _).mono ?_
                  rintro e w1 ⟨rfl, hb⟩
                  have r0' := (hb.cell (p := ⟨R, 0, none⟩) hAs).trans r0
                  have r1' := (hb.cell (p := ⟨R, 1, none⟩) hAs).trans r1
                  have f0' := (hb.frozen (p := ⟨R, 0, none⟩) hAs).trans f0
                  have f1' := (hb.frozen (p := ⟨R, 1, none⟩) hAs).trans f1
                  unfold mR
                  go_wp2
                  have g0 := set2_0 r0' (.string (ofBytes [])) (.bool true) r1'
                  have g1 := set2_1 r1' (.string (ofBytes [])) (.bool true)
                  have gB := below_set2 (hBA.trans (hb.mono (by omega))) hRw (.string (ofBytes [])) (.bool true)
                  generalize (w1.setCell ⟨R, 0, none⟩ (.string (ofBytes []))).setCell ⟨R, 1, none⟩ (.bool true) = w2 at g0 g1 gB ⊢
                  rw [HX.out.1, HX.out.2.1, HX.out.2.2]
                  exact bodyPost_ret (v := .tuple #[.agg #[.string (ofBytes []), .bool true], .int .u64 0]) (by simp [results, Try.results54, go_sem, g0, g1]) rfl ⟨rfl, gB⟩
                · have hk9b : ((k : Int) == 9) = false := beq_eq_false_iff_ne.2 (by omega)
                  go_wp2_with fail
                  refine (mfail_any _).mono ?_
                  rintro e w1 ⟨rfl, hb⟩
                  have r0' := (hb.cell (p := ⟨R, 0, none⟩) hAs).trans r0
                  have r1' := (hb.cell (p := ⟨R, 1, none⟩) hAs).trans r1
                  have f0' := (hb.frozen (p := ⟨R, 0, none⟩) hAs).trans f0
                  have f1' := (hb.frozen (p := ⟨R, 1, none⟩) hAs).trans f1
                  unfold mR
                  go_wp2
                  have g0 := set2_0 r0' (.string (ofBytes [])) (.bool true) r1'
                  have g1 := set2_1 r1' (.string (ofBytes [])) (.bool true)
                  have gB := below_set2 (hBA.trans (hb.mono (by omega))) hRw (.string (ofBytes [])) (.bool true)
                  generalize (w1.setCell ⟨R, 0, none⟩ (.string (ofBytes []))).setCell ⟨R, 1, none⟩ (.bool true) = w2 at g0 g1 gB ⊢
                  rw [HX.out.1, HX.out.2.1, HX.out.2.2]
                  exact bodyPost_ret (v := .tuple #[.agg #[.string (ofBytes []), .bool true], .int .u64 0]) (by simp [results, Try.results54, go_sem, g0, g1]) rfl ⟨rfl, gB⟩
              · have hsome : PackM.num PackM.MAXU 0 0 s = some (v + y, s.drop (k + 1)) := by
                  rw [HE.out, HDR.out, PackM.num_end HNO.out (by rw [← HX2.out]; exact hmore) (by rw [← HX2.out]; exact hzero), HV.out]
                have HSOME := Lib.hid hsome
                have hex := extract_drop s (k + 1) N HN.out
                have HZ := Lib.hid hzero
                clear hsome hzero
                by_cases hk9 : k = 9
                · have hx1 : x ≤ 1 := by omega
                  have hx0 : ¬ x = 0 := by have := HZ.out; omega
                  have hx0b : ((x : Int) == 0) = false := beq_eq_false_iff_ne.2 (by omega)
                  have hk9b : ((k : Int) == 9) = true := beq_iff_eq.2 (by omega)
                  have hx1b : decide (1 < x) = false := decide_eq_false (by omega)
                  clear hk9 hx0
                  go_wp2
                  have g0 := set2_0 r0 (.string (ofBytes (s.drop (k + 1)))) (.bool false) r1
                  have g1 := set2_1 r1 (.string (ofBytes (s.drop (k + 1)))) (.bool false)
                  have gB := below_set2 hBA hRw (.string (ofBytes (s.drop (k + 1)))) (.bool false)
                  generalize (wA.setCell ⟨R, 0, none⟩ (.string (ofBytes (s.drop (k + 1))))).setCell ⟨R, 1, none⟩ (.bool false) = w2 at g0 g1 gB ⊢
                  have hx3 : nS PackM.MAXU s = s.drop (k + 1) ∧ nB PackM.MAXU s false = false ∧ nV PackM.MAXU s = v + y := by unfold nS nB nV; rw [HSOME.out]; exact ⟨rfl, rfl, rfl⟩
                  rw [hx3.1, hx3.2.1, hx3.2.2]
                  exact bodyPost_ret (v := .tuple #[.agg #[.string (ofBytes (s.drop (k + 1))), .bool false], .int .u64 ((v : Int) + (y : Int))]) (by simp [results, Try.results54, go_sem, g0, g1]) rfl ⟨by simp, gB⟩
                · have hk9b : ((k : Int) == 9) = false := beq_eq_false_iff_ne.2 (by omega)
                  by_cases hx0 : x = 0
                  · have hx0b : ((x : Int) == 0) = true := beq_iff_eq.2 (by omega)
                    have hk0 : ¬ 0 < k := by have := HZ.out; omega
                    have hk1 : decide (0 < k) = false := decide_eq_false hk0
                    clear hx0
                    go_wp2
                    have g0 := set2_0 r0 (.string (ofBytes (s.drop (k + 1)))) (.bool false) r1
                    have g1 := set2_1 r1 (.string (ofBytes (s.drop (k + 1)))) (.bool false)
                    have gB := below_set2 hBA hRw (.string (ofBytes (s.drop (k + 1)))) (.bool false)
                    generalize (wA.setCell ⟨R, 0, none⟩ (.string (ofBytes (s.drop (k + 1))))).setCell ⟨R, 1, none⟩ (.bool false) = w2 at g0 g1 gB ⊢
                    have hx3 : nS PackM.MAXU s = s.drop (k + 1) ∧ nB PackM.MAXU s false = false ∧ nV PackM.MAXU s = v + y := by unfold nS nB nV; rw [HSOME.out]; exact ⟨rfl, rfl, rfl⟩
                    rw [hx3.1, hx3.2.1, hx3.2.2]
                    exact bodyPost_ret (v := .tuple #[.agg #[.string (ofBytes (s.drop (k + 1))), .bool false], .int .u64 ((v : Int) + (y : Int))]) (by simp [results, Try.results54, go_sem, g0, g1]) rfl ⟨by simp, gB⟩
                  · have hx0b : ((x : Int) == 0) = false := beq_eq_false_iff_ne.2 (by omega)
                    clear hx0
                    go_wp2
                    have g0 := set2_0 r0 (.string (ofBytes (s.drop (k + 1)))) (.bool false) r1
                    have g1 := set2_1 r1 (.string (ofBytes (s.drop (k + 1)))) (.bool false)
                    have gB := below_set2 hBA hRw (.string (ofBytes (s.drop (k + 1)))) (.bool false)
                    generalize (wA.setCell ⟨R, 0, none⟩ (.string (ofBytes (s.drop (k + 1))))).setCell ⟨R, 1, none⟩ (.bool false) = w2 at g0 g1 gB ⊢
                    have hx3 : nS PackM.MAXU s = s.drop (k + 1) ∧ nB PackM.MAXU s false = false ∧ nV PackM.MAXU s = v + y := by unfold nS nB nV; rw [HSOME.out]; exact ⟨rfl, rfl, rfl⟩
                    rw [hx3.1, hx3.2.1, hx3.2.2]
                    exact bodyPost_ret (v := .tuple #[.agg #[.string (ofBytes (s.drop (k + 1))), .bool false], .int .u64 ((v : Int) + (y : Int))]) (by simp [results, Try.results54, go_sem, g0, g1]) rfl ⟨by simp, gB⟩
        · have hd2 : decide ((k : Int) < 10) = false := decide_eq_false (by omega)
          have hnone : PackM.num PackM.MAXU 0 0 s = none := by rw [HE.out]; exact PackM.num_far (by rw [HM.out]; decide) _ _ _ (by omega)
          have HX := Lib.hid (HFAIL.out hnone)
          clear hnone
          go_wp2_with fail
          refine (mfail_any _).mono ?_
          rintro e w1 ⟨rfl, hb⟩
          have r0' := (hb.cell (p := ⟨R, 0, none⟩) hAs).trans r0
          have r1' := (hb.cell (p := ⟨R, 1, none⟩) hAs).trans r1
          have f0' := (hb.frozen (p := ⟨R, 0, none⟩) hAs).trans f0
          have f1' := (hb.frozen (p := ⟨R, 1, none⟩) hAs).trans f1
          unfold mR
          go_wp2
          have g0 := set2_0 r0' (.string (ofBytes [])) (.bool true) r1'
          have g1 := set2_1 r1' (.string (ofBytes [])) (.bool true)
          have gB := below_set2 (hBA.trans (hb.mono (by omega))) hRw (.string (ofBytes [])) (.bool true)
          generalize (w1.setCell ⟨R, 0, none⟩ (.string (ofBytes []))).setCell ⟨R, 1, none⟩ (.bool true) = w2 at g0 g1 gB ⊢
          rw [HX.out.1, HX.out.2.1, HX.out.2.2]
          exact bodyPost_ret (v := .tuple #[.agg #[.string (ofBytes []), .bool true], .int .u64 0]) (by simp [results, Try.results54, go_sem, g0, g1]) rfl ⟨rfl, gB⟩
      · have hd : decide ((k : Int) < (N : Int)) = false := decide_eq_false (by omega)
        have hnone : PackM.num PackM.MAXU 0 0 s = none := by rw [HE.out, List.drop_of_length_le (by rw [← HN.out]; omega)]; rfl
        have HX := Lib.hid (HFAIL.out hnone)
        clear hnone
        go_wp2_with fail
        refine (mfail_any _).mono ?_
        rintro e w1 ⟨rfl, hb⟩
        have r0' := (hb.cell (p := ⟨R, 0, none⟩) hAs).trans r0
        have r1' := (hb.cell (p := ⟨R, 1, none⟩) hAs).trans r1
        have f0' := (hb.frozen (p := ⟨R, 0, none⟩) hAs).trans f0
        have f1' := (hb.frozen (p := ⟨R, 1, none⟩) hAs).trans f1
        unfold mR
        go_wp2
        have g0 := set2_0 r0' (.string (ofBytes [])) (.bool true) r1'
        have g1 := set2_1 r1' (.string (ofBytes [])) (.bool true)
        have gB := below_set2 (hBA.trans (hb.mono (by omega))) hRw (.string (ofBytes [])) (.bool true)
        generalize (w1.setCell ⟨R, 0, none⟩ (.string (ofBytes []))).setCell ⟨R, 1, none⟩ (.bool true) = w2 at g0 g1 gB ⊢
        rw [HX.out.1, HX.out.2.1, HX.out.2.2]
        exact bodyPost_ret (v := .tuple #[.agg #[.string (ofBytes []), .bool true], .int .u64 0]) (by simp [results, Try.results54, go_sem, g0, g1]) rfl ⟨rfl, gB⟩
end Go.Proofs.Ytdjbdhfellofoaa
