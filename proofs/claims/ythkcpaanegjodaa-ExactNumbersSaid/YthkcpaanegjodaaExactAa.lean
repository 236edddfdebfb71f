
/- The document's numbers: a row of bits and a sign. Of, Mul. -/
import Derived.Test.YthkcpaanegjodaaExactZ
namespace Go.Proofs.Ythkcpaanegjodaa
open Go.RowKit

/-- V is the number z -/
def Bg (w : World) (V : Value) (z : Int) : Prop := ∃ v, V = .agg #[v, .bool (decide (z < 0))] ∧ Rd w v (ExactM.ofN z.natAbs)
theorem Bg.below {w w' : World} {V : Value} {z : Int} (h : Bg w V z) (hb : Below w.heap.size w w') : Bg w' V z := by
  obtain ⟨v, e, hr⟩ := h
  exact ⟨v, e, hr.below hb⟩
def RetBg (z : Int) (w : World) (e : Ending) (w' : World) : Prop := ∃ V, e = .returned V ∧ Bg w' V z ∧ Below w.heap.size w w'

set_option maxHeartbeats 1000000 in
set_option maxRecDepth 100000 in
theorem rof_any (z : Int) (w : World) (h : I64n z) : Calls Try.prog 12 #[.int .i64 z] w (RetBg z w) := by
  obtain ⟨h1, h2⟩ := h
  by_cases hz : 0 ≤ z
  · obtain ⟨m, rfl⟩ : ∃ m : Nat, z = (m : Int) := ⟨z.natAbs, by omega⟩
    have hd : decide ((0 : Int) ≤ (m : Int)) = true := decide_eq_true hz
    have hw := fun W => word_any3 m W (by omega)
    have HW := Lib.hid hw
    have hs : Hid (decide ((m : Int) < 0) = false) := Lib.hid (decide_eq_false (by omega))
    have hna : Hid ((m : Int).natAbs = m) := Lib.hid (Int.natAbs_natCast m)
    clear hw
    go_enter Try.func12, Try.ntmps12
    go_wp2_with fail
    refine (HW.out _).mono ?_
    rintro e w2 ⟨v, rfl, hr, hb, hfr⟩
    obtain ⟨Av, cv, rfl⟩ := hr.len
    obtain ⟨nl, hnl⟩ : ∃ nl, nl = (ExactM.ofN m).length := ⟨_, rfl⟩
    rw [← hnl] at hr hfr ⊢
    clear hnl
    have X1 : w.heap.size < (w.alloc (.cells #[.slice none 0 0, .bool false] 29)).heap.size := by simp
    have k0 : w2.cell? ⟨w.heap.size, 0, none⟩ = some (.slice none 0 0) := (hb.cell (p := ⟨w.heap.size, 0, none⟩) X1).trans (by go_simp)
    have k1 : w2.cell? ⟨w.heap.size, 1, none⟩ = some (.bool false) := (hb.cell (p := ⟨w.heap.size, 1, none⟩) X1).trans (by go_simp)
    have f0 : w2.frozen? ⟨w.heap.size, 0, none⟩ = false := (hb.frozen (p := ⟨w.heap.size, 0, none⟩) X1).trans (by go_simp)
    have f1 : w2.frozen? ⟨w.heap.size, 1, none⟩ = false := (hb.frozen (p := ⟨w.heap.size, 1, none⟩) X1).trans (by go_simp)
    have bz := (bl1 w (.cells #[.slice none 0 0, .bool false] 29)).trans (hb.mono (Nat.le_of_lt X1))
    have HR := Lib.hid hr
    have HFR := Lib.hid hfr
    clear hb hr hfr
    go_wp2
    refine bodyPost_ret (v := .agg #[.slice Av nl cv, .bool false]) (by simp [results, Try.results12, go_sem, k0, k1]) rfl ⟨_, rfl, ⟨_, by rw [hs.out], ?_⟩, (bz.setCell (Nat.le_refl _) _).setCell (Nat.le_refl _) _⟩
    have hne : (Value.slice Av nl cv).ownBlock ≠ some w.heap.size := fun e => by have := HFR.out _ e; omega
    rw [hna.out]
    exact (HR.out.far hne _ _).far hne _ _
  · obtain ⟨m, hm⟩ : ∃ m : Nat, -(z + 1) = (m : Int) := ⟨z.natAbs - 1, by omega⟩
    have hm1 : (m : Int) ≤ 9223372036854775807 := by omega
    have hz1 : z ≤ -1 := by omega
    have hd : decide ((0 : Int) ≤ z) = false := decide_eq_false hz
    have hw := fun W => word_any3 (m + 1) W (by omega)
    have HW := Lib.hid hw
    have hs : Hid (decide (z < 0) = true) := Lib.hid (decide_eq_true (by omega))
    have hna : Hid (z.natAbs = m + 1) := Lib.hid (by omega)
    clear hw
    go_enter Try.func12, Try.ntmps12
    go_wp2_with fail

    refine (HW.out _).mono ?_
    rintro e w2 ⟨v, rfl, hr, hb, hfr⟩
    obtain ⟨Av, cv, rfl⟩ := hr.len
    obtain ⟨nl, hnl⟩ : ∃ nl, nl = (ExactM.ofN (m + 1)).length := ⟨_, rfl⟩
    rw [← hnl] at hr hfr ⊢
    clear hnl
    have X1 : w.heap.size < (w.alloc (.cells #[.slice none 0 0, .bool false] 29)).heap.size := by simp
    have k0 : w2.cell? ⟨w.heap.size, 0, none⟩ = some (.slice none 0 0) := (hb.cell (p := ⟨w.heap.size, 0, none⟩) X1).trans (by go_simp)
    have k1 : w2.cell? ⟨w.heap.size, 1, none⟩ = some (.bool false) := (hb.cell (p := ⟨w.heap.size, 1, none⟩) X1).trans (by go_simp)
    have f0 : w2.frozen? ⟨w.heap.size, 0, none⟩ = false := (hb.frozen (p := ⟨w.heap.size, 0, none⟩) X1).trans (by go_simp)
    have f1 : w2.frozen? ⟨w.heap.size, 1, none⟩ = false := (hb.frozen (p := ⟨w.heap.size, 1, none⟩) X1).trans (by go_simp)
    have bz := (bl1 w (.cells #[.slice none 0 0, .bool false] 29)).trans (hb.mono (Nat.le_of_lt X1))
    have HR := Lib.hid hr
    have HFR := Lib.hid hfr
    clear hb hr hfr
    go_wp2
    refine bodyPost_ret (v := .agg #[.slice Av nl cv, .bool true]) (by simp [results, Try.results12, go_sem, k0, k1]) rfl ⟨_, rfl, ⟨_, by rw [hs.out], ?_⟩, (bz.setCell (Nat.le_refl _) _).setCell (Nat.le_refl _) _⟩
    have hne : (Value.slice Av nl cv).ownBlock ≠ some w.heap.size := fun e => by have := HFR.out _ e; omega
    rw [hna.out]
    exact (HR.out.far hne _ _).far hne _ _

theorem big_len {z : Int} (h : z.natAbs < 2 ^ 200) : (ExactM.ofN z.natAbs).length ≤ 200 := ExactM.len_ofN _ _ h
theorem big_sign (a b : Int) : decide (a * b < 0) = ((decide (a < 0) != decide (b < 0)) && decide (0 < (a * b).natAbs)) := by
  rw [Bool.eq_iff_iff]
  rcases Int.lt_trichotomy a 0 with ha | ha | ha <;> rcases Int.lt_trichotomy b 0 with hb | hb | hb
  · have := Int.mul_pos_of_neg_of_neg ha hb; simp [ha, hb]; omega
  · subst hb; simp
  · have := Int.mul_neg_of_neg_of_pos ha hb; have hb' : ¬ b < 0 := by omega
    simp [ha, hb', this]; omega
  · subst ha; simp
  · subst ha; simp
  · subst ha; simp
  · have := Int.mul_neg_of_pos_of_neg ha hb; have ha' : ¬ a < 0 := by omega
    simp [hb, ha', this]; omega
  · subst hb; simp
  · have := Int.mul_pos ha hb; have ha' : ¬ a < 0 := by omega
    have hb' : ¬ b < 0 := by omega
    simp [ha', hb']; omega

theorem ofN_len0 (n : Nat) : decide (0 < (ExactM.ofN n).length) = decide (0 < n) := by
  by_cases h : n = 0
  · subst h; rw [ExactM.ofN_zero]; rfl
  · rw [ExactM.ofN_pos h]
    have : 0 < n := by omega
    simp [this]
set_option maxHeartbeats 2000000 in
set_option maxRecDepth 100000 in
theorem rmul_any (A B : Value) (a b : Int) (w : World) (ha : (ExactM.ofN a.natAbs).length ≤ 200) (hb : (ExactM.ofN b.natAbs).length ≤ 200) (hA : Bg w A a) (hB : Bg w B b) :
    Calls Try.prog 14 #[A, B] w (RetBg (a * b) w) := by
  obtain ⟨va, rfl, ra⟩ := hA
  obtain ⟨vb, rfl, rb⟩ := hB
  obtain ⟨Aa, ca, rfl⟩ := ra.len
  obtain ⟨Ab, cb, rfl⟩ := rb.len
  have ht := fun W hW => rtimes_any _ _ _ _ W ha hb (ra.below hW) (rb.below hW)
  rw [ExactM.val_ofN, ExactM.val_ofN, ← Int.natAbs_mul] at ht
  have hsg := big_sign a b
  obtain ⟨la, hla⟩ : ∃ n, n = (ExactM.ofN a.natAbs).length := ⟨_, rfl⟩
  obtain ⟨lb, hlb⟩ : ∃ n, n = (ExactM.ofN b.natAbs).length := ⟨_, rfl⟩
  rw [← hla] at ht ⊢
  rw [← hlb] at ht ⊢
  have HT := Lib.hid ht
  obtain ⟨sa, hsa⟩ : ∃ s, s = decide (a < 0) := ⟨_, rfl⟩
  obtain ⟨sb, hsb⟩ : ∃ s, s = decide (b < 0) := ⟨_, rfl⟩
  rw [← hsa, ← hsb] at hsg
  rw [← hsa, ← hsb]
  have HSG := Lib.hid hsg
  clear ht hsg hsa hsb ra rb hla hlb ha hb
  go_enter Try.func14, Try.ntmps14
  go_wp2_with fail
  have bX := bl3 w (.cells #[.slice Aa la ca, .bool sa] 29) (.cells #[.slice Ab lb cb, .bool sb] 29) (.cells #[.slice none 0 0, .bool false] 29)
  have x1 : (((w.alloc (.cells #[.slice Aa la ca, .bool sa] 29)).alloc (.cells #[.slice Ab lb cb, .bool sb] 29)).alloc (.cells #[.slice none 0 0, .bool false] 29)).cell? ⟨w.heap.size, 1, none⟩ = some (.bool sa) := by go_simp
  have x2 : (((w.alloc (.cells #[.slice Aa la ca, .bool sa] 29)).alloc (.cells #[.slice Ab lb cb, .bool sb] 29)).alloc (.cells #[.slice none 0 0, .bool false] 29)).cell? ⟨w.heap.size + 1, 1, none⟩ = some (.bool sb) := by go_simp
  have x3 : (((w.alloc (.cells #[.slice Aa la ca, .bool sa] 29)).alloc (.cells #[.slice Ab lb cb, .bool sb] 29)).alloc (.cells #[.slice none 0 0, .bool false] 29)).cell? ⟨w.heap.size + 1 + 1, 0, none⟩ = some (.slice none 0 0) := by go_simp
  have x4 : (((w.alloc (.cells #[.slice Aa la ca, .bool sa] 29)).alloc (.cells #[.slice Ab lb cb, .bool sb] 29)).alloc (.cells #[.slice none 0 0, .bool false] 29)).cell? ⟨w.heap.size + 1 + 1, 1, none⟩ = some (.bool false) := by go_simp
  have x5 : ∀ i, (((w.alloc (.cells #[.slice Aa la ca, .bool sa] 29)).alloc (.cells #[.slice Ab lb cb, .bool sb] 29)).alloc (.cells #[.slice none 0 0, .bool false] 29)).frozen? ⟨w.heap.size + 1 + 1, i, none⟩ = false := fun i => by go_simp
  have xs : (((w.alloc (.cells #[.slice Aa la ca, .bool sa] 29)).alloc (.cells #[.slice Ab lb cb, .bool sb] 29)).alloc (.cells #[.slice none 0 0, .bool false] 29)).heap.size = w.heap.size + 3 := by simp
  generalize ((w.alloc (.cells #[.slice Aa la ca, .bool sa] 29)).alloc (.cells #[.slice Ab lb cb, .bool sb] 29)).alloc (.cells #[.slice none 0 0, .bool false] 29) = X at bX x1 x2 x3 x4 x5 xs ⊢
  refine (HT.out _ bX).mono ?_
  rintro e w4 ⟨v, rfl, hr, hb, hfr⟩
  obtain ⟨Av, cv, rfl⟩ := hr.len
  have hlp := ofN_len0 (a * b).natAbs
  obtain ⟨lp, hlpE⟩ : ∃ lp, lp = (ExactM.ofN (a * b).natAbs).length := ⟨_, rfl⟩
  rw [← hlpE] at hr hfr hlp ⊢
  have k1 := (hb.cell (p := ⟨w.heap.size, 1, none⟩) (by simp; omega)).trans x1
  have k2 := (hb.cell (p := ⟨w.heap.size + 1, 1, none⟩) (by simp; omega)).trans x2
  have k3 := (hb.cell (p := ⟨w.heap.size + 1 + 1, 0, none⟩) (by simp; omega)).trans x3
  have k4 := (hb.cell (p := ⟨w.heap.size + 1 + 1, 1, none⟩) (by simp; omega)).trans x4
  have f3 := (hb.frozen (p := ⟨w.heap.size + 1 + 1, 0, none⟩) (by simp; omega)).trans (x5 0)
  have f4 := (hb.frozen (p := ⟨w.heap.size + 1 + 1, 1, none⟩) (by simp; omega)).trans (x5 1)
  have bz := bX.trans (hb.mono bX.size)
  have hne : (Value.slice Av lp cv).ownBlock ≠ some (w.heap.size + 1 + 1) := fun e => by have := hfr _ e; omega
  obtain ⟨g, hg⟩ : ∃ g, decide (0 < lp) = g := ⟨_, rfl⟩
  have hg2 : decide ((0 : Int) < (lp : Int)) = g := by rw [← hg, Bool.eq_iff_iff]; simp
  rw [hg] at hlp
  have HLP := Lib.hid hlp
  have HR := Lib.hid hr
  have HNE := Lib.hid hne
  clear hlp hlpE hr hb hfr x1 x2 x3 x4 x5 xs bX HT hne
  have hdone : ∀ s, s = (sa != sb && g) → Bg ((w4.setCell ⟨w.heap.size + 1 + 1, 0, none⟩ (.slice Av lp cv)).setCell ⟨w.heap.size + 1 + 1, 1, none⟩ (.bool s)) (.agg #[.slice Av lp cv, .bool s]) (a * b) ∧ Below w.heap.size w ((w4.setCell ⟨w.heap.size + 1 + 1, 0, none⟩ (.slice Av lp cv)).setCell ⟨w.heap.size + 1 + 1, 1, none⟩ (.bool s)) := fun s hs =>
    ⟨⟨_, by rw [HSG.out, hs, HLP.out], (HR.out.far HNE.out _ _).far HNE.out _ _⟩, (bz.setCell (by simp; omega) _).setCell (by simp; omega) _⟩
  have HD := Lib.hid hdone
  clear hdone
  cases sa <;> cases sb
  all_goals
    go_wp2
    refine bodyPost_ret (v := .agg #[.slice Av lp cv, _]) (by simp [results, Try.results14, go_sem, k3, k4]) rfl ⟨_, rfl, HD.out _ (by simp)⟩
end Go.Proofs.Ythkcpaanegjodaa
