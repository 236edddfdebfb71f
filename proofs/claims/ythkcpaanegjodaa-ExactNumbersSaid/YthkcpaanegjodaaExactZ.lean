
/- The document's division of rows of bits. -/
import Derived.Test.YthkcpaanegjodaaExactY
import Derived.Laws.MakeOwn
namespace Go.Proofs.Ythkcpaanegjodaa
open Go.RowKit

theorem Rd.far {w : World} {v : Value} {l : List Bool} (h : Rd w v l) {g : Nat} (hg : v.ownBlock ≠ some g) (i : Nat) (u : Value) : Rd (w.setCell ⟨g, i, none⟩ u) v l := by
  obtain ⟨A, cp, rfl, hc, hn, hs⟩ := h
  refine ⟨A, cp, rfl, hc, hn, fun b o s hA => ?_⟩
  obtain ⟨h1, h2, h3⟩ := hs b o s hA
  have hne : g ≠ b := fun e => hg (by rw [hA, e]; rfl)
  refine ⟨h1, by simpa [World.setCell] using h2, fun k hk => ?_⟩
  rw [World.cell?_setCell_other w _ _ _ (fun e => hne (by injection e))]
  exact h3 k hk
theorem val_set (l : List Bool) (j : Nat) (hj : j < l.length) (h : l[j] = false) : ExactM.val (l.set j true) = ExactM.val l + 2 ^ j := by
  induction l generalizing j with
  | nil => simp at hj
  | cons b t ih =>
    cases j with
    | zero =>
      simp only [List.getElem_cons_zero] at h
      subst h
      simp [ExactM.val]
      omega
    | succ j =>
      have := ih j (by simpa using hj) (by simpa using h)
      rw [List.set_cons_succ, ExactM.val, ExactM.val, this, Nat.pow_succ]
      omega
theorem BoolRow.set_ {w : World} {base g n cap : Nat} {l : List Bool} (h : BoolRow w base (.slice (some ⟨g, 0, none⟩) n cap) l) (i : Nat) (x : Bool) : BoolRow (w.setCell ⟨g, i, none⟩ (.bool x)) base (.slice (some ⟨g, 0, none⟩) n cap) (l.set i x) := by
  refine ⟨by simp, .inr ?_⟩
  rcases h.2 with ⟨e, _⟩ | ⟨g', cap', cur, e, hbg, hgg, h1, h2, h3, h4⟩
  · cases e
  · injection e with e1 e2 e3
    injection e1 with e1
    injection e1 with e1
    subst e1; subst e2; subst e3
    refine ⟨g, cap, cur.setIfInBounds i (.bool x), by simp, hbg, heap_setCell_row hgg i _, by simpa using h1, h2, by simpa using h3, ?_⟩
    rw [Array.toList_setIfInBounds, List.take_set]
    simp only [List.length_set]
    rw [h4, List.map_set]
theorem BoolRow.at2 {w : World} {base g n cap : Nat} {l : List Bool} (h : BoolRow w base (.slice (some ⟨g, 0, none⟩) n cap) l) (j : Nat) (hj : j < l.length) : w.cell? ⟨g, j, none⟩ = some (.bool l[j]) ∧ w.frozen? ⟨g, j, none⟩ = false := by
  rcases h.2 with ⟨e, _⟩ | ⟨g', cap', cur, e, hbg, hgg, h1, h2, h3, h4⟩
  · cases e
  · injection e with e1 e2 e3
    injection e1 with e1
    injection e1 with e1
    subst e1
    refine ⟨?_, by unfold World.frozen?; simp only [hgg]; simp⟩
    have := World.ownsRow.cells h (g := g) rfl j (.bool l[j]) (by simp [hj])
    rw [add_none, Nat.zero_add] at this
    exact this
theorem made_bools (w : World) (L : Nat) (hL : L ≤ 1000000) : ∃ M, (Instr.makeSlice 27 (.int .i64 (L : Int)) (.int .i64 (L : Int))).run Try.prog w = .ok (.slice (some ⟨w.heap.size, 0, none⟩) L L) (w.alloc (.cells M 4)) ∧ BoolRow (w.alloc (.cells M 4)) w.heap.size (.slice (some ⟨w.heap.size, 0, none⟩) L L) (List.replicate L false) := by
  obtain ⟨i0, hi, hz0, hz1, hz2⟩ := info_parts bool_info
  have h := run_make (P := Try.prog) w 27 4 i0 (.bool false) Try.underlying27 hi hz0 .i64 .i64 (L : Int) (L : Int) (by omega) (by omega) (by rw [hz2]; omega) (by omega)
  rw [hz1, Int.toNat_natCast, Nat.mul_one] at h
  obtain ⟨M, hM⟩ : ∃ M, M = madeCells (Value.bool false).cells L := ⟨_, rfl⟩
  rw [← hM] at h
  refine ⟨M, h, ?_⟩
  have hMr : M = Array.replicate L (Value.bool false) := by
    rw [hM, show (Value.bool false).cells = #[Value.bool false] from rfl]
    apply Array.toList_inj.1
    rw [toList_madeCells_one]
    simp
  refine ⟨by simp, .inr ⟨w.heap.size, L, M, by simp, Nat.le_refl _, heap_alloc_new w _, by simp, by simp [maxLen]; omega, by rw [hMr]; simp, by rw [hMr]; simp⟩⟩

/-- a division's answer: the quotient and what is left, as rows -/
def RetRd2 (q r : List Bool) (w : World) (e : Ending) (w' : World) : Prop := ∃ v1 v2, e = .returned (.tuple #[v1, v2]) ∧ Rd w' v1 q ∧ Rd w' v2 r ∧ Below w.heap.size w w'
theorem len_mod (z y n : Nat) (hy : 0 < y) (hn : y < 2 ^ n) : (ExactM.ofN (z % y)).length ≤ n := ExactM.len_ofN _ _ (Nat.lt_trans (Nat.mod_lt _ hy) hn)

set_option maxHeartbeats 4000000 in
set_option maxRecDepth 100000 in
theorem rover_any (va vb : Value) (a b : List Bool) (w : World) (ha : a.length ≤ 200) (hb : b.length ≤ 200) (hbt : ExactM.Tr b) (hy : 0 < ExactM.val b) (hA : Rd w va a) (hB : Rd w vb b) :
    Calls Try.prog 81 #[va, vb] w (RetRd2 (ExactM.ofN (ExactM.val a / ExactM.val b)) (ExactM.ofN (ExactM.val a % ExactM.val b)) w) := by
  obtain ⟨A, ca, ea⟩ := hA.len
  obtain ⟨n, hn⟩ : ∃ m, m = a.length := ⟨_, rfl⟩
  rw [← hn] at ea ha
  obtain ⟨y, hye⟩ : ∃ y, y = ExactM.val b := ⟨_, rfl⟩
  have hyb := ExactM.val_lt b
  rw [← hye] at hy hyb ⊢
  have HYE := Lib.hid hye
  have HN := Lib.hid hn
  have HYB := Lib.hid hyb
  subst ea
  clear hn hye hyb
  obtain ⟨M, hM, hrow⟩ := made_bools w n (by omega)
  go_enter Try.func81, Try.ntmps81
  go_wp2
  have hb0 : Below w.heap.size w (w.alloc (.cells M 4)) := bl1 w _
  obtain ⟨g, hg⟩ : ∃ g, g = w.heap.size := ⟨_, rfl⟩
  have HG := Lib.hid hg
  rw [← hg] at hrow ⊢
  clear hM hg
  generalize w.alloc (.cells M 4) = w1 at hrow hb0 ⊢
  go_loopw [7, 8] (fun x i wr => ∃ (k : Nat) (ql : List Bool), i = .int .i64 ((k : Int) - 1) ∧ k ≤ n ∧ Rd wr x (ExactM.ofN (ExactM.val (a.drop k) % y)) ∧ BoolRow wr g (.slice (some ⟨g, 0, none⟩) n n) ql ∧ ql.length = n ∧ (∀ j, j < k → ∀ h : j < ql.length, ql[j] = false) ∧ ExactM.val ql = 2 ^ k * (ExactM.val (a.drop k) / y) ∧ Below w.heap.size w wr) (fun _ i _ => (intOf i + 1).toNat)
  case atStart =>
    refine ⟨n, List.replicate n false, rfl, Nat.le_refl _, ?_, hrow, by simp, fun j h1 h2 => by simp, ?_, hb0⟩
    · rw [List.drop_of_length_le (by rw [← HN.out]; exact Nat.le_refl _)]
      rw [ExactM.val, Nat.zero_mod, ExactM.ofN_zero]
      exact (BoolRow.nil_ w1 0).rd
    · rw [List.drop_of_length_le (by rw [← HN.out]; exact Nat.le_refl _), ExactM.val, Nat.zero_div, Nat.mul_zero]
      exact ExactM.val_zeros (fun x hx => (List.mem_replicate.1 hx).2)
  case round =>
    clear hrow hb0
    obtain ⟨k, ql, rfl, hk, hR, hq, hql, hz, hv, hbw⟩ := hrel
    have hsz := hbw.size
    have HV := Lib.hid hv
    have HZ := Lib.hid hz
    have HQL := Lib.hid hql
    clear hv hz hql
    by_cases h0 : k = 0
    · subst h0
      have hq2 : ExactM.val ql = ExactM.val a / y := by have := HV.out; rwa [Nat.pow_zero, Nat.one_mul, List.drop_zero] at this
      rw [List.drop_zero] at hR
      have ht := trim_any _ ql wr (by rw [HQL.out]; omega) hq.rd
      rw [hq2] at ht
      have HT := Lib.hid ht
      have HR := Lib.hid hR
      clear ht hR hq hq2
      have hd : decide ((0 : Int) ≤ ((0 : Nat) : Int) - 1) = false := by decide
      go_wp2_with fail
      refine HT.out.mono ?_
      rintro e w' ⟨⟨v1, rfl, r1, _⟩, rfl⟩
      have R1 := Lib.hid r1
      clear r1
      go_wp2
      go_ret2
      exact ⟨_, _, rfl, R1.out, HR.out, hbw⟩
    · obtain ⟨j, rfl⟩ : ∃ j, k = j + 1 := ⟨k - 1, by omega⟩
      have ja : j < a.length := by rw [← HN.out]; omega
      obtain ⟨s1, s2⟩ := ExactM.over_step a y j hy ja
      obtain ⟨P, hP⟩ : ∃ P, P = ExactM.val (a.drop (j + 1)) % y := ⟨_, rfl⟩
      rw [← hP] at s1 s2 hR
      have hpl : (ExactM.ofN P).length ≤ 200 := by rw [hP]; exact Nat.le_trans (len_mod _ y b.length hy HYB.out) hb
      obtain ⟨x, hx⟩ : ∃ x, x = a[j] := ⟨_, rfl⟩
      rw [← hx] at s1 s2
      obtain ⟨ab, ao, rfl, c0⟩ := hA.at_ ja hbw
      rw [← hx] at c0
      have hsh := ExactM.shift_is x P
      have S1 := Lib.hid s1
      have S2 := Lib.hid s2
      have HSH := Lib.hid hsh
      have hjn : j < n := by omega
      have hj0 : (0 : Int) ≤ (j : Int) := by omega
      have hjn' : (j : Int) < (n : Int) := by omega
      have e1 : ((j + 1 : Nat) : Int) - 1 = (j : Int) := by omega
      have hdj : decide ((0 : Int) ≤ (j : Int)) = true := decide_eq_true hj0
      rw [e1]
      clear s1 s2 hsh hP hx h0 e1
      go_wp2_with (at_builtin; refine wpList_append_row rfl _ _ rfl wr.heap.size wr.heap.size x rfl (heap_alloc_new wr _) (Nat.le_refl _) _ (ExactM.ofN P) rfl (hR.below (bl1 _ _)) (by omega) ?_; intro v' w1' hown' hb1)
      have hb2 : Below wr.heap.size wr w1' := (bl1 wr _).trans (hb1.mono (by simp))
      have hbw1 : Below w.heap.size w w1' := hbw.trans (hb2.mono hsz)
      have hq1 := hq.later hb2
      obtain ⟨t, ht⟩ : ∃ t, t = 2 * P + x.toNat := ⟨_, rfl⟩
      have hte : ExactM.val (x :: ExactM.ofN P) = t := by rw [HSH.out, ht]; omega
      have hT := trim_any v' (x :: ExactM.ofN P) w1' (by simp; omega) hown'.rd
      rw [hte] at hT
      have htl : (ExactM.ofN t).length ≤ 201 := by
        apply ExactM.len_ofN
        rw [← hte]
        have := ExactM.val_lt (x :: ExactM.ofN P)
        exact Nat.lt_of_lt_of_le this (Nat.pow_le_pow_right (by decide) (by simp; omega))
      have S1b : Hid (t < y → ExactM.val (a.drop j) % y = t ∧ ExactM.val (a.drop j) / y = 2 * (ExactM.val (a.drop (j + 1)) / y)) := Lib.hid (by rw [ht]; exact S1.out)
      have S2b : Hid (¬ t < y → ExactM.val (a.drop j) % y = t - y ∧ ExactM.val (a.drop j) / y = 2 * (ExactM.val (a.drop (j + 1)) / y) + 1) := Lib.hid (by rw [ht]; exact S2.out)
      clear hb1 hb2 hown' hR hbw hq hte ht S1 S2 HSH
      refine hT.mono ?_
      clear hT
      rintro e w2 ⟨⟨v2, rfl, r2, _⟩, rfl⟩
      have hL := rless_any v2 vb (ExactM.ofN t) b w1' (by omega) (by omega) (ExactM.ofN_tr t) hbt r2 (hB.below hbw1)
      rw [ExactM.val_ofN, ← HYE.out] at hL
      have R2 := Lib.hid r2
      have HL := Lib.hid hL
      clear r2 hL
      have hsz1 := hbw1.size
      by_cases hty : t < y
      · obtain ⟨m1, m2⟩ := S1b.out hty
        have hdt : decide (t < y) = true := decide_eq_true hty
        rw [hdt] at HL
        have M1 := Lib.hid m1
        have M2 := Lib.hid m2
        clear m1 m2 hdt
        go_wp2_with fail
        refine HL.out.mono ?_
        rintro e w3 ⟨rfl, hb3⟩
        have hq3 := hq1.later hb3
        have r3 := R2.out.below hb3
        have hbw3 := hbw1.trans (hb3.mono hsz1)
        clear hq1 hbw1 hb3
        go_wp2
        refine ⟨⟨j, ql, rfl, by omega, by rw [M1.out]; exact r3, hq3, HQL.out, fun i hi h => HZ.out i (by omega) h, ?_, hbw3⟩, by simp [intOf]⟩
        rw [HV.out, M2.out, Nat.pow_succ, Nat.mul_assoc]
      · obtain ⟨m1, m2⟩ := S2b.out hty
        have hdt : decide (t < y) = false := decide_eq_false hty
        rw [hdt] at HL
        have M1 := Lib.hid m1
        have M2 := Lib.hid m2
        clear m1 m2 hdt
        go_wp2_with fail
        refine HL.out.mono ?_
        rintro e w3 ⟨rfl, hb3⟩
        have hq3 := hq1.later hb3
        have r3 := R2.out.below hb3
        have hbw3 := hbw1.trans (hb3.mono hsz1)
        have hg3 : g < w3.heap.size := (World.ownsRow.lt hq3 g rfl).2
        have hMn := rminus_any v2 vb (ExactM.ofN t) b w3 (by omega) hbt (by rw [ExactM.val_ofN, ← HYE.out]; omega) r3 (hB.below hbw3)
        rw [ExactM.val_ofN, ← HYE.out] at hMn
        have HMN := Lib.hid hMn
        clear hq1 hbw1 hb3 r3 hMn
        go_wp2_with fail
        refine HMN.out.mono ?_
        rintro e w4 ⟨v4, rfl, r4, hb4, hfr⟩
        have hq4 := hq3.later hb4
        have hbw4 := hbw3.trans (hb4.mono hbw3.size)
        obtain ⟨c4, f4⟩ := hq4.at2 j (by rw [HQL.out]; exact hjn)
        have hqs := hq4.set_ j true
        have hgw : w.heap.size ≤ g := Nat.le_of_eq HG.out.symm
        have hbs : Below w.heap.size w (w4.setCell ⟨g, j, none⟩ (.bool true)) := hbw4.setCell hgw _
        have rs : Rd (w4.setCell ⟨g, j, none⟩ (.bool true)) v4 (ExactM.ofN (t - y)) := r4.far (fun e => by have := hfr g e; omega) _ _
        have R4 := Lib.hid rs
        have HQS := Lib.hid hqs
        clear hq3 hbw3 hb4 r4 hq4 hqs rs
        go_wp2
        refine ⟨⟨j, ql.set j true, rfl, by omega, by rw [M1.out]; exact R4.out, HQS.out, by rw [List.length_set]; exact HQL.out, fun i hi h => ?_, ?_, hbs⟩, by simp [intOf]⟩
        · rw [List.length_set] at h
          rw [List.getElem_set_ne (by omega)]
          exact HZ.out i (by omega) h
        · rw [val_set ql j (by rw [HQL.out]; exact hjn) (HZ.out j (by omega) _), HV.out, M2.out, Nat.pow_succ, Nat.mul_add, Nat.mul_one, Nat.mul_assoc]
end Go.Proofs.Ythkcpaanegjodaa
