/- TopkOrder. -/
import Derived.Test.YthanlbjoiomfcaaTopN
namespace Go.Proofs.Ythanlbjoiomfcaa
open Go.RowKit

theorem best_rev (k : Nat) (l : List (Int × Int)) : TopM.best k l.reverse = TopM.best k l := by
  unfold TopM.best
  rw [TopM.srt_congr (List.reverse_perm l)]
theorem best_take {k m : Nat} (l : List (Int × Int)) (h : k ≤ m) : (TopM.best m l).take (min k l.length) = TopM.best k l := by
  unfold TopM.best
  rw [List.take_take]
  have hl := TopM.srt_len l
  by_cases hk : k ≤ l.length
  · rw [Nat.min_eq_left hk, Nat.min_eq_left h]
  · rw [Nat.min_eq_right (show l.length ≤ k by omega), Nat.min_eq_left (show l.length ≤ m by omega), List.take_of_length_le (by omega), List.take_of_length_le (by omega)]
theorem rev_more (l : List (Int × Int)) (j : Nat) (h : j < l.length) : (l.drop j).reverse = (l.drop (j + 1)).reverse ++ [l[j]] := by
  rw [List.drop_eq_getElem_cons h, List.reverse_cons]
/-- how many of l are better than z -/
def cnt (z : Int × Int) (l : List (Int × Int)) : Nat := l.countP fun x => TopM.bet x z
theorem cnt_more (z : Int × Int) (l : List (Int × Int)) (i : Nat) (h : i < l.length) : cnt z (l.take (i + 1)) = cnt z (l.take i) + if TopM.bet l[i] z = true then 1 else 0 := by
  unfold cnt
  rw [take_more l i h, List.countP_append, List.countP_singleton]
theorem cnt_small {k : Nat} {l A : List (Int × Int)} {z : Int × Int} (h : TopM.best k l = A ++ [z]) : cnt z l ≤ A.length := by
  have hp : cnt z l = cnt z (TopM.srt l) := (TopM.srt_perm l).symm.countP_eq _
  have hs := TopM.srt_srt l
  have e : TopM.srt l = A ++ z :: (TopM.srt l).drop k := by
    have := List.take_append_drop k (TopM.srt l)
    unfold TopM.best at h
    rw [h, List.append_assoc] at this
    exact this.symm
  rw [hp]
  obtain ⟨B, hB⟩ : ∃ B, B = (TopM.srt l).drop k := ⟨_, rfl⟩
  rw [← hB] at e
  rw [e] at hs ⊢
  obtain ⟨_, p2, _⟩ := TopM.srt_parts hs
  unfold cnt
  rw [List.countP_append]
  have hz : (z :: B).countP (fun x => TopM.bet x z) = 0 := by
    rw [List.countP_eq_zero]
    intro x hx
    rcases List.mem_cons.1 hx with rfl | hx
    · rw [TopM.irr]; decide
    · rw [(List.pairwise_cons.1 p2).1 x hx]; decide
  rw [hz]
  exact List.countP_le_length

set_option maxHeartbeats 8000000 in
set_option maxRecDepth 100000 in
theorem topkorder_main (K : Nat) (m : Int) (A : Option Addr) (n cp : Nat) (l : List (Int × Int)) (w : World) (hm : m ≤ 9223372036854775807) (hkm : (K : Int) ≤ m) (hn : n ≤ 200) (hln : l.length = n) (hP : Prd w (.slice A n cp) l) :
    Calls Try.prog 12 #[.int .i64 K, .int .i64 m, .slice A n cp] w fun e w' => e = .returned (.bool true) ∧ Below w.heap.size w w' := by
  have hd200 : decide ((200 : Int) < (n : Int)) = false := decide_eq_false (by omega)
  have hdk0 : decide ((K : Int) < 0) = false := decide_eq_false (by omega)
  have hdkm : decide (m < (K : Int)) = false := decide_eq_false (by omega)
  have HLN := Lib.hid hln
  have HP := Lib.hid hP
  clear hln hP
  go_enter Try.func12, Try.ntmps12
  go_wp2_with fail
  refine (awake4_any _).mono ?_
  rintro e w1 ⟨rfl, b1⟩
  go_wp2
  go_loopw [7, 8] (fun v x wr => ∃ j : Nat, x = .int .i64 ((j : Int) - 1) ∧ j ≤ n ∧ PairRow wr w.heap.size v (l.drop j).reverse ∧ Below w.heap.size w wr) (fun _ x _ => (intOf x + 1).toNat)
  case atStart => exact ⟨n, rfl, Nat.le_refl _, by rw [List.drop_of_length_le (by rw [HLN.out]; exact Nat.le_refl _)]; exact PairRow.nil_ _ _, b1⟩
  case round =>
    clear b1
    obtain ⟨j, rfl, hj, row, bw⟩ := hrel
    have hwr := bw.size
    by_cases h0 : j = 0
    · subst h0
      have hd : decide ((0 : Int) ≤ ((0 : Nat) : Int) - 1) = false := by decide
      rw [List.drop_zero] at row
      have hk63 : (K : Int) ≤ 9223372036854775807 := by omega
      have hb1 := best_any (K : Int) _ l wr hk63 (HP.out.later bw) (by rw [HLN.out]; omega)
      rw [Int.toNat_natCast] at hb1
      have HB1 := Lib.hid hb1
      have hrow := row.prd
      have HROW := Lib.hid hrow
      have hsl := row.form
      clear hb1 hrow row
      go_wp2_with fail
      refine HB1.out.mono ?_
      rintro e w2 ⟨va, rfl, pa, c2⟩
      have b2 := bw.trans (c2.mono hwr)
      have hb2 := best_any (K : Int) _ l.reverse w2 hk63 (HROW.out.later c2) (by rw [List.length_reverse, HLN.out]; omega)
      rw [Int.toNat_natCast, best_rev] at hb2
      have HB2 := Lib.hid hb2
      clear hb2 bw c2 HB1 HROW
      go_wp2_with fail
      refine HB2.out.mono ?_
      rintro e w3 ⟨vb, rfl, pb, c3⟩
      have b3 := b2.trans (c3.mono b2.size)
      have pa3 := pa.later c3
      have hb3 := best_any m _ l w3 hm (HP.out.later b3) (by rw [HLN.out]; omega)
      have HB3 := Lib.hid hb3
      clear hb3 b2 c3 HB2 pa
      go_wp2_with fail
      refine HB3.out.mono ?_
      rintro e w4 ⟨vc, rfl, pc, c4⟩
      have b4 := b3.trans (c4.mono b3.size)
      have pa4 := pa3.later c4
      have pb4 := pb.later c4
      clear b3 c4 HB3 pa3 pb
      obtain ⟨M, hM⟩ : ∃ M, M = m.toNat := ⟨_, rfl⟩
      rw [← hM] at pc
      have hKM : K ≤ M := by omega
      have hbt := best_take l hKM
      have hbl := TopM.best_len K l
      have hcl := TopM.best_len M l
      have hcs := TopM.best_srt M l
      rw [HLN.out] at hbt hbl hcl
      have hcz := fun z A (hA : TopM.best K l = A ++ [z]) => cnt_small hA
      obtain ⟨a, ha⟩ : ∃ a, a = TopM.best K l := ⟨_, rfl⟩
      obtain ⟨c, hc⟩ : ∃ c, c = TopM.best M l := ⟨_, rfl⟩
      rw [← ha] at pa4 pb4 hbt hbl hcz
      rw [← hc] at pc hbt hcl hcs
      obtain ⟨A1, co1, rfl, hco1⟩ := pa4.form
      obtain ⟨A3, co3, rfl, hco3⟩ := pc.form
      have hS1 := same_any _ vb a a w4 pa4 pb4 (by rw [hbl]; omega) (by rw [hbl]; omega)
      rw [decide_eq_true rfl] at hS1
      obtain ⟨la, hla⟩ : ∃ la, la = a.length := ⟨_, rfl⟩
      obtain ⟨lc, hlc⟩ : ∃ lc, lc = c.length := ⟨_, rfl⟩
      rw [← hla] at pa4 hbl hco1 hS1 ⊢
      rw [← hlc] at pc hcl hco3 ⊢
      have hS2 := fun q => same_any _ _ a a (w4.drewN q) (pa4.later (bdrewN (Below.refl _ _) q)) (show Prd (w4.drewN q) (.slice A3 la co3) a from by
        have := (pc.take la (by omega)).later (bdrewN (Below.refl _ _) q)
        rw [← hbl] at hbt
        rwa [hbt] at this) (by omega) (by omega)
      rw [decide_eq_true rfl] at hS2
      have HS1 := Lib.hid hS1
      have HS2 := Lib.hid hS2
      have PA := Lib.hid pa4
      have PC := Lib.hid pc
      have HBL := Lib.hid hbl
      have HCZ := Lib.hid hcz
      have HCS := Lib.hid hcs
      have HLA := Lib.hid hla
      have HLC := Lib.hid hlc
      have hlac : la ≤ lc := by omega
      have hlc200 : lc ≤ 200 := by omega
      have hla200 : la ≤ 200 := by omega
      have hd2 : decide ((lc : Int) < (la : Int)) = false := decide_eq_false (by omega)
      have hd3 : decide (lc < la) = false := decide_eq_false (by omega)
      have hla0 : (0 : Int) ≤ (la : Int) := by omega
      have hlac3 : (la : Int) ≤ (co3 : Int) := by omega
      have hmin : min (K : Int) (n : Int) = (la : Int) := by rw [hbl]; omega
      clear hS1 hS2 pa4 pb4 pc hbl hcl hcs hcz hla hlc hbt hM hKM ha hc
      go_wp2_with fail
      refine HS1.out.mono ?_
      rintro e w5 ⟨rfl, q, rfl⟩
      go_wp2_with fail
      refine (HS2.out q).mono ?_
      rintro e w6 ⟨rfl, q2, rfl⟩
      have b6 := bdrewN (bdrewN b4 q) q2
      have d6 : ∀ v l, Prd w4 v l → Prd ((w4.drewN q).drewN q2) v l := fun v l h => (h.later (bdrewN (Below.refl _ _) q)).later (bdrewN (Below.refl _ _) q2)
      have pa6 := d6 _ _ PA.out
      have pc6 := d6 _ _ PC.out
      have PA6 := Lib.hid pa6
      have PC6 := Lib.hid pc6
      clear b4 d6 pa6 pc6 PA PC HS1 HS2 hmin
      generalize (w4.drewN q).drewN q2 = w6 at b6 PA6 PC6 ⊢
      go_wp2
      go_loopw [12] (fun x wr => ∃ i : Nat, x = .int .i64 i ∧ i ≤ lc ∧ Below w6.heap.size w6 wr) (fun x _ => lc - (intOf x).toNat)
      case atStart => exact ⟨0, by go_num, Nat.zero_le _, Below.refl _ _⟩
      case round =>
        obtain ⟨i, rfl, hi, bx⟩ := hrel
        have hw1 : IntKind.i64.wrap ((i : Int) + 1) = (i : Int) + 1 := IntWalk.i64_in _ (by omega)
        by_cases hlt : i + 1 < lc
        · have hd4 : decide ((i : Int) + 1 < (lc : Int)) = true := decide_eq_true (by omega)
          have pcx := PC6.out.later bx
          obtain ⟨g, go, rfl, hgl, c0, c1⟩ := pcx.at_ i (by rw [← HLC.out]; omega)
          obtain ⟨g', go', e', _, e0, e1⟩ := pcx.at_ (i + 1) (by rw [← HLC.out]; omega)
          injection e' with e'
          injection e' with e2 e3
          subst e2; subst e3
          have hnb : TopM.bet (c[i + 1]'(by rw [← HLC.out]; omega)) (c[i]'(by rw [← HLC.out]; omega)) = false := List.pairwise_iff_getElem.1 HCS.out i (i + 1) _ _ (by omega)
          obtain ⟨⟨x1, x2⟩, hx⟩ : ∃ x, x = c[i]'(by rw [← HLC.out]; omega) := ⟨_, rfl⟩
          obtain ⟨⟨y1, y2⟩, hy⟩ : ∃ y, y = c[i + 1]'(by rw [← HLC.out]; omega) := ⟨_, rfl⟩
          rw [← hx] at c0 c1 hnb
          rw [← hy] at e0 e1 hnb
          have hbet := fun W => better_any (y1, y2) (x1, x2) W
          rw [hnb] at hbet
          unfold sv at hbet
          have HBT := Lib.hid hbet
          have hi0 : (0 : Int) ≤ (i : Int) := by omega
          have hil : (i : Int) < (lc : Int) := by omega
          have hj0 : (0 : Int) ≤ (i : Int) + 1 := by omega
          have hjl : (i : Int) + 1 < (lc : Int) := by omega
          have hjn : ((i : Int) + 1).toNat = i + 1 := by omega
          clear hbet hnb hx hy pcx
          have hgx : g < wr.heap.size := hgl
          go_wp2
          go_region_held3 (fun w' => w'.cell? ⟨g, go + i * 2, none⟩ = some (.int .i64 x1) ∧ w'.cell? ⟨g, go + i * 2 + 1, none⟩ = some (.int .i64 x2) ∧ w'.cell? ⟨g, go + (i + 1) * 2, none⟩ = some (.int .i64 y1) ∧ w'.cell? ⟨g, go + (i + 1) * 2 + 1, none⟩ = some (.int .i64 y2))
            (first
              | exact ⟨keep2c c0 hgx, keep2c c1 hgx, keep2c e0 hgx, keep2c e1 hgx⟩
              | go_keep)
            ((first | ((with_reducible refine (HBT.out _).mono ?_); rintro e w7 ⟨rfl, o1, o2, rfl⟩)))
          have bz : Below w6.heap.size w6 ((wr.alloc o1).alloc o2).drew := ((bx.alloc bx.size o1).alloc (Nat.le_trans bx.size (by simp)) o2).drew
          generalize ((wr.alloc o1).alloc o2).drew = w7 at bz ⊢
          have hjc : i + 1 ≤ lc := by omega
          go_wp2
          exact ⟨⟨i + 1, by go_num, hjc, bz⟩, by simp [intOf]; omega⟩
        · have hd4 : decide ((i : Int) + 1 < (lc : Int)) = false := decide_eq_false (by omega)
          have b7 := b6.trans (bx.mono b6.size)
          have PA7 := Lib.hid (PA6.out.later bx)
          clear b6 bx PA6 PC6 hw1
          go_wp2
          go_loopw [13, 14] (fun y x wr => ∃ (i : Nat) (q : Nat), x = .int .i64 i ∧ y = .int .i64 q ∧ i ≤ n ∧ (la = 0 → q = 0) ∧ (∀ z A', a = A' ++ [z] → q = cnt z (l.take i)) ∧ Below w.heap.size w wr ∧ Prd wr (.slice A1 la co1) a) (fun _ x _ => n - (intOf x).toNat)
          case atStart => exact ⟨0, 0, by go_num, by go_num, Nat.zero_le _, fun _ => rfl, fun z A' _ => rfl, b7, PA7.out⟩
          case round =>
            clear b7 PA7
            obtain ⟨i2, qn, rfl, rfl, hi2, hq0, hqz, bw7, pa7⟩ := hrel
            by_cases hlt2 : i2 < n
            · have hd5 : decide ((i2 : Int) < (n : Int)) = true := decide_eq_true (by omega)
              by_cases hl0 : 0 < la
              · have hd6 : decide ((0 : Int) < (la : Int)) = true := decide_eq_true (by omega)
                have hil2 : i2 < l.length := by rw [HLN.out]; exact hlt2
                obtain ⟨ab, ao, rfl, habl, k0, k1⟩ := (HP.out.later bw7).at_ i2 hil2
                obtain ⟨j, hjE⟩ : ∃ j, j = la - 1 := ⟨_, rfl⟩
                have hja : j < a.length := by rw [← HLA.out]; omega
                obtain ⟨g2, go2, rfl, hgl2, c0, c1⟩ := pa7.at_ j hja
                have haz : a = a.take j ++ [a[j]] := by
                  rw [← take_more a j hja, List.take_of_length_le (by rw [← HLA.out]; omega)]
                obtain ⟨⟨p1, p2⟩, hp⟩ : ∃ p, p = l[i2] := ⟨_, rfl⟩
                obtain ⟨⟨z1, z2⟩, hz⟩ : ∃ z, z = a[j] := ⟨_, rfl⟩
                rw [← hz] at haz c0 c1
                rw [← hp] at k0 k1
                have hq1 := hqz _ _ haz
                have hcm := cnt_more (z1, z2) l i2 hil2
                rw [← hp, ← hq1] at hcm
                have hbet := fun W => better_any (p1, p2) (z1, z2) W
                obtain ⟨r, hr⟩ : ∃ r, r = TopM.bet (p1, p2) (z1, z2) := ⟨_, rfl⟩
                rw [← hr] at hbet hcm
                unfold sv at hbet
                have HBT := Lib.hid hbet
                have HCM := Lib.hid hcm
                have HAZ := Lib.hid haz
                have PA7 := Lib.hid pa7
                have hi20 : (0 : Int) ≤ (i2 : Int) := by omega
                have hi2n : (i2 : Int) < (n : Int) := by omega
                have hwr2 : IntKind.i64.wrap ((la : Int) - 1) = (j : Int) := (IntWalk.i64_in _ (by omega)).trans (by omega)
                have hj0 : (0 : Int) ≤ (j : Int) := by omega
                have hjl : (j : Int) < (la : Int) := by omega
                have hq200 : qn ≤ 1000 := by rw [hq1]; unfold cnt; have := List.countP_le_length (p := fun x => TopM.bet x (z1, z2)) (l := l.take i2); rw [List.length_take] at this; omega
                have hnext : ∀ q' : Nat, q' = qn + (if r = true then 1 else 0) → ∀ z A', a = A' ++ [z] → q' = cnt z (l.take (i2 + 1)) := fun q' hq' z A' hA => by
                  have hee := HAZ.out.symm.trans hA
                  have hlast := (List.append_inj' hee rfl).2
                  injection hlast with hlast
                  rw [← hlast, HCM.out, hq']
                have HNX := Lib.hid hnext
                clear hbet hcm hq1 hqz haz hp hz hr hnext pa7 hjE hq0
                have hbn : ∀ o1 o2, Below w.heap.size w ((wr.alloc o1).alloc o2).drew := fun o1 o2 => ((bw7.alloc bw7.size o1).alloc (Nat.le_trans bw7.size (by simp)) o2).drew
                have hpn : ∀ o1 o2, Prd ((wr.alloc o1).alloc o2).drew (.slice (some ⟨g2, go2, none⟩) la co1) a := fun o1 o2 => PA7.out.later (((Below.refl _ wr).alloc (Nat.le_refl _) o1 |>.alloc (by simp) o2).drew)
                go_wp2
                cases r with
                | true =>
                  go_region_held3 (fun w' => w'.cell? ⟨ab, ao + i2 * 2, none⟩ = some (.int .i64 p1) ∧ w'.cell? ⟨ab, ao + i2 * 2 + 1, none⟩ = some (.int .i64 p2) ∧ w'.cell? ⟨g2, go2 + j * 2, none⟩ = some (.int .i64 z1) ∧ w'.cell? ⟨g2, go2 + j * 2 + 1, none⟩ = some (.int .i64 z2))
                    (first
                      | exact ⟨keep2c k0 habl, keep2c k1 habl, keep2c c0 hgl2, keep2c c1 hgl2⟩
                      | go_keep)
                    ((first | ((with_reducible refine (HBT.out _).mono ?_); rintro e w8 ⟨rfl, o1, o2, rfl⟩)))
                  have bz := hbn o1 o2
                  have pz := hpn o1 o2
                  generalize ((wr.alloc o1).alloc o2).drew = w8 at bz pz ⊢
                  go_wp2
                  exact ⟨⟨i2 + 1, qn + 1, by go_num, by go_num, by omega, by omega, HNX.out _ rfl, bz, pz⟩, by simp [intOf]; omega⟩
                | false =>
                  go_region_held3 (fun w' => w'.cell? ⟨ab, ao + i2 * 2, none⟩ = some (.int .i64 p1) ∧ w'.cell? ⟨ab, ao + i2 * 2 + 1, none⟩ = some (.int .i64 p2) ∧ w'.cell? ⟨g2, go2 + j * 2, none⟩ = some (.int .i64 z1) ∧ w'.cell? ⟨g2, go2 + j * 2 + 1, none⟩ = some (.int .i64 z2))
                    (first
                      | exact ⟨keep2c k0 habl, keep2c k1 habl, keep2c c0 hgl2, keep2c c1 hgl2⟩
                      | go_keep)
                    ((first | ((with_reducible refine (HBT.out _).mono ?_); rintro e w8 ⟨rfl, o1, o2, rfl⟩)))
                  have bz := hbn o1 o2
                  have pz := hpn o1 o2
                  generalize ((wr.alloc o1).alloc o2).drew = w8 at bz pz ⊢
                  go_wp2
                  exact ⟨⟨i2 + 1, qn, by go_num, rfl, by omega, by omega, HNX.out _ (by simp), bz, pz⟩, by simp [intOf]; omega⟩
              · have hd6 : decide ((0 : Int) < (la : Int)) = false := decide_eq_false (by omega)
                have hq : qn = 0 := hq0 (by omega)
                have hd7 : Hid (la = 0) := Lib.hid (by omega)
                subst hq
                have hdl : decide ((0 : Int) < max 1 (la : Int)) = true := decide_eq_true (by omega)
                go_wp2
                go_ret
                exact ⟨rfl, bw7⟩
            · have hd5 : decide ((i2 : Int) < (n : Int)) = false := decide_eq_false (by omega)
              have hin : i2 = n := by omega
              have htk : l.take i2 = l := List.take_of_length_le (by rw [HLN.out]; omega)
              rw [htk] at hqz
              have hfin : qn < max 1 la := by
                by_cases hl0 : 0 < la
                · have hne : a ≠ [] := fun e => by have := HLA.out; rw [e] at this; simp at this; omega
                  have hA := (List.dropLast_concat_getLast hne).symm
                  have h1 := hqz _ _ hA
                  have h2 := HCZ.out _ _ hA
                  rw [List.length_dropLast, ← HLA.out] at h2
                  omega
                · have := hq0 (by omega)
                  omega
              have hdl : decide ((qn : Int) < max 1 (la : Int)) = true := decide_eq_true (by omega)
              clear hqz hq0 htk hin hfin
              go_wp2
              go_ret
              exact ⟨rfl, bw7⟩
    · obtain ⟨i, rfl⟩ : ∃ i, j = i + 1 := ⟨j - 1, by omega⟩
      have hil : i < l.length := by rw [HLN.out]; omega
      have e1 : ((i + 1 : Nat) : Int) - 1 = (i : Int) := by omega
      rw [e1]
      clear e1
      obtain ⟨ab, ao, rfl, habl, k0, k1⟩ := HP.out.at_ i hil
      have a0 := keepB bw k0 habl
      have a1 := keepB bw k1 habl
      obtain ⟨p, hp⟩ : ∃ p, p = l[i] := ⟨_, rfl⟩
      rw [← hp] at a0 a1
      have hrv : Hid ((l.drop i).reverse = (l.drop (i + 1)).reverse ++ [p]) := Lib.hid (by rw [hp]; exact rev_more l i hil)
      have hrl : (l.drop (i + 1)).reverse.length ≤ 1000000000 := by rw [List.length_reverse, List.length_drop, HLN.out]; omega
      have HRL := Lib.hid hrl
      have hi0 : (0 : Int) ≤ (i : Int) := by omega
      have hin : (i : Int) < (n : Int) := by omega
      have hd : decide ((0 : Int) ≤ (i : Int)) = true := decide_eq_true hi0
      have hown := fun b hb => (World.ownsRow.lt row b hb).1
      clear k0 k1 hp hrl h0
      go_wp2_with (at_builtin; refine wpList_append_pair rfl _ _ rfl w.heap.size _ _ rfl (row.alloc _) wr.heap.size _ p rfl (by go_simp) (by go_simp) (by simp; omega) HRL.out ?_; intro v' w2 row2 hg2)
      have b2 : Below w.heap.size w w2 := (bw.alloc hwr _).grown hg2 (Nat.le_trans hwr (by simp)) (fun b hb => hown b hb)
      rw [← hrv.out] at row2
      clear hown hg2 row bw
      go_wp2
      exact ⟨⟨i, rfl, by omega, row2, b2⟩, by simp [intOf]⟩

set_option maxHeartbeats 1000000 in
set_option maxRecDepth 100000 in
theorem topkorder_out (k m : Int) (A : Option Addr) (n cp : Nat) (w : World) (hn : ¬ (n ≤ 200 ∧ 0 ≤ k ∧ k ≤ m)) :
    Calls Try.prog 12 #[.int .i64 k, .int .i64 m, .slice A n cp] w fun e w' => e = .returned (.bool true) ∧ Below w.heap.size w w' := by
  by_cases h1 : n ≤ 200
  · have hd200 : decide ((200 : Int) < (n : Int)) = false := decide_eq_false (by omega)
    by_cases h2 : k < 0
    · have hd2 : decide (k < 0) = true := decide_eq_true h2
      go_enter Try.func12, Try.ntmps12
      go_wp2_with fail
      refine (awake4_any _).mono ?_
      rintro e w1 ⟨rfl, b1⟩
      go_wp2
      go_ret
      exact ⟨rfl, b1⟩
    · have hd2 : decide (k < 0) = false := decide_eq_false h2
      have hd3 : decide (m < k) = true := decide_eq_true (by omega)
      go_enter Try.func12, Try.ntmps12
      go_wp2_with fail
      refine (awake4_any _).mono ?_
      rintro e w1 ⟨rfl, b1⟩
      go_wp2
      go_ret
      exact ⟨rfl, b1⟩
  · have hd200 : decide ((200 : Int) < (n : Int)) = true := decide_eq_true (by omega)
    go_enter Try.func12, Try.ntmps12
    go_wp2_with fail
    refine (awake4_any _).mono ?_
    rintro e w1 ⟨rfl, b1⟩
    go_wp2
    go_ret
    exact ⟨rfl, b1⟩
end Go.Proofs.Ythanlbjoiomfcaa
