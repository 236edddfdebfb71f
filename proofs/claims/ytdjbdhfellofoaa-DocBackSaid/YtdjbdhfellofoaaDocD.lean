
/- Do terms rise? slices.IsSortedFunc over terms by their numbers. -/
import Derived.Test.YtdjbdhfellofoaaDocC
import Derived.Deep.RegionHeld3
namespace Go.Proofs.Ytdjbdhfellofoaa.Do
open Go.RowKit Go.Proofs.Ytdjbdhfellofoaa DocM

def cmpZ (a b : Int) : Int := if a < b then -1 else if b < a then 1 else 0
theorem isnan_any (a : Int) (w : World) : Calls Try.prog 71 #[.int .i64 a] w fun e w' => e = .returned (.bool false) ∧ w' = w := by
  have hd : (a != a) = false := by simp
  go_enter Try.func71, Try.ntmps71
  go_wp2
  go_ret
  exact ⟨rfl, rfl⟩
set_option maxRecDepth 100000 in
theorem compare_any (a b : Int) (w : World) : Calls Try.prog 64 #[.int .i64 a, .int .i64 b] w fun e w' => e = .returned (.int .i64 (cmpZ a b)) ∧ w' = w := by
  unfold cmpZ
  by_cases h1 : a < b
  · rw [if_pos h1]
    have hd := decide_eq_true h1
    clear h1
    go_enter Try.func64, Try.ntmps64
    go_wp2_with fail
    refine (isnan_any _ _).mono ?_
    rintro e w' ⟨rfl, rfl⟩
    go_wp2_with fail
    refine (isnan_any _ _).mono ?_
    rintro e w' ⟨rfl, rfl⟩
    go_wp2
    go_ret
    exact ⟨rfl, rfl⟩
  · rw [if_neg h1]
    have hd : decide (a < b) = false := decide_eq_false h1
    by_cases h2 : b < a
    · rw [if_pos h2]
      have hd2 := decide_eq_true h2
      clear h1 h2
      go_enter Try.func64, Try.ntmps64
      go_wp2_with fail
      refine (isnan_any _ _).mono ?_
      rintro e w' ⟨rfl, rfl⟩
      go_wp2_with fail
      refine (isnan_any _ _).mono ?_
      rintro e w' ⟨rfl, rfl⟩
      go_wp2
      go_ret
      exact ⟨rfl, rfl⟩
    · rw [if_neg h2]
      have hd2 : decide (b < a) = false := decide_eq_false h2
      clear h1 h2
      go_enter Try.func64, Try.ntmps64
      go_wp2_with fail
      refine (isnan_any _ _).mono ?_
      rintro e w' ⟨rfl, rfl⟩
      go_wp2_with fail
      refine (isnan_any _ _).mono ?_
      rintro e w' ⟨rfl, rfl⟩
      go_wp2
      go_ret
      exact ⟨rfl, rfl⟩
set_option maxRecDepth 100000 in
theorem bynumber_any (p q : Int × Int) (w : World) : Calls Try.prog 63 #[sv p, sv q] w fun e w' => e = .returned (.int .i64 (cmpZ p.1 q.1)) ∧ ∃ o1 o2, w' = (w.alloc o1).alloc o2 := by
  obtain ⟨p1, p2⟩ := p
  obtain ⟨q1, q2⟩ := q
  unfold sv
  go_enter Try.func63, Try.ntmps63
  go_wp2_with fail
  refine (compare_any _ _ _).mono ?_
  rintro e w' ⟨rfl, rfl⟩
  go_wp2
  go_ret
  exact ⟨rfl, _, _, rfl⟩
theorem sorted_of {l : List Int} (h : ∀ j (hj : j + 1 < l.length), l[j] ≤ l[j + 1]) : sorted l = true := by
  unfold sorted
  refine decide_eq_true (List.pairwise_iff_getElem.2 ?_)
  intro i j hi hj hij
  induction j with
  | zero => omega
  | succ j ih =>
    rcases Nat.lt_or_ge i j with e | e
    · have h1 := ih (by omega) e
      have h2 := h j hj
      omega
    · obtain rfl : i = j := by omega
      exact h i hj
theorem sorted_not {l : List Int} {j : Nat} (hj : j + 1 < l.length) (h : l[j + 1] < l[j]) : sorted l = false := by
  unfold sorted
  refine decide_eq_false (fun hp => ?_)
  have := List.pairwise_iff_getElem.1 hp j (j + 1) (by omega) hj (by omega)
  omega
theorem kept2 {w : World} {o1 o2 : Obj} {b i : Nat} {u : Value} (hc : w.cell? ⟨b, i, none⟩ = some u) (h : b < w.heap.size) : ((w.alloc o1).alloc o2).drew.cell? ⟨b, i, none⟩ = some u := ((((Below.refl w.heap.size w).alloc (Nat.le_refl _) o1).alloc (by simp) o2).drew.cell (p := ⟨b, i, none⟩) h).trans hc
set_option maxHeartbeats 4000000 in
set_option maxRecDepth 100000 in
theorem issorted_any (A : Option Addr) (n cp : Nat) (l : List (Int × Int)) (w : World) (h : Pairs w A n l) (hn : n ≤ 1000000000) :
    Calls Try.prog 62 #[.slice A n cp, .func (.func 63) #[] #[]] w fun e w' => e = .returned (.bool (sorted (tms l))) ∧ Below w.heap.size w w' := by
  have H := Lib.hid h
  have HL := Lib.hid h.1
  clear h
  go_enter Try.func62, Try.ntmps62
  go_wp2
  go_loopw [5] (fun x wr => ∃ k : Int, x = .int .i64 k ∧ -1 ≤ k ∧ k < (n : Int) ∧ Below w.heap.size w wr ∧ ∀ j (hj : j + 1 < (tms l).length), k ≤ (j : Int) → (tms l)[j] ≤ (tms l)[j + 1]) (fun x _ => (intOf x + 1).toNat)
  case atStart => exact ⟨(n : Int) - 1, by go_num, by omega, by omega, Below.refl _ _, fun j hj hk => by rw [tms_len, HL.out] at hj; omega⟩
  case round =>
    obtain ⟨k0, rfl, hk1, hk2, hb, hs⟩ := hrel
    by_cases hp : 0 < k0
    · obtain ⟨k, m, rfl, hm⟩ : ∃ k m : Nat, k0 = (m : Int) ∧ m = k + 1 := ⟨(k0 - 1).toNat, k0.toNat, by omega, by omega⟩
      have hml : m < l.length := by rw [HL.out]; omega
      have hkl : k < l.length := by omega
      obtain ⟨b, o, rfl, hbl, q0, q1⟩ := H.out.2 m hml
      obtain ⟨b', o', e, _, r0, r1⟩ := H.out.2 k hkl
      injection e with e
      injection e with e1 e2 _
      subst e1; subst e2
      have hsn : l[m].1 < l[k].1 → sorted (tms l) = false := fun hx => sorted_not (l := tms l) (j := k) (by rw [tms_len]; omega) (by unfold tms; subst hm; simpa using hx)
      have hsy : ¬ l[m].1 < l[k].1 → ∀ j (hj : j + 1 < (tms l).length), (k : Int) ≤ (j : Int) → (tms l)[j] ≤ (tms l)[j + 1] := fun hx j hj hkj => by
        rcases Nat.lt_or_ge k j with e | e
        · exact hs j hj (by omega)
        · obtain rfl : j = k := by omega
          subst hm
          have e1 : (tms l)[j] = l[j].1 := by simp [tms]
          have e2 : (tms l)[j + 1] = l[j + 1].1 := by simp [tms]
          rw [e1, e2]
          omega
      obtain ⟨⟨x1, x2⟩, hx⟩ : ∃ x, x = l[m] := ⟨_, rfl⟩
      obtain ⟨⟨y1, y2⟩, hy⟩ : ∃ y, y = l[k] := ⟨_, rfl⟩
      rw [← hx] at q0 q1
      rw [← hx, ← hy] at hsn hsy
      rw [← hy] at r0 r1
      simp only at q0 q1 r0 r1 hsn hsy
      have c0 := (hb.cell (p := ⟨b, o + m * 2, none⟩) hbl).trans q0
      have c1 := (hb.cell (p := ⟨b, o + m * 2 + 1, none⟩) hbl).trans q1
      have d0 := (hb.cell (p := ⟨b, o + k * 2, none⟩) hbl).trans r0
      have d1 := (hb.cell (p := ⟨b, o + k * 2 + 1, none⟩) hbl).trans r1
      have hbr : b < wr.heap.size := Nat.lt_of_lt_of_le hbl hb.size
      have hmn : (m : Int) < (n : Int) := by omega
      have hkn : (k : Int) < (n : Int) := by omega
      have hp0 : (0 : Int) < (m : Int) := hp
      have hwm : IntKind.i64.wrap ((m : Int) - 1) = (k : Int) := by rw [IntKind.wrap_i64]; omega
      have HBN := Lib.hid (fun o1 o2 => (hb.trans (((pl1 wr o1).trans ((pl1 (wr.alloc o1) o2).mono (by simp))).mono hb.size)).drew)
      have HSN := Lib.hid hsn
      have HSY := Lib.hid hsy
      have HM := Lib.hid hm
      clear hb hs hsn hsy hx hy q0 q1 r0 r1 hm hk1 hk2 hp
      have HC := Lib.hid (fun W => bynumber_any (x1, x2) (y1, y2) W)
      have hc := HC.out
      unfold sv at hc
      simp only at hc
      obtain ⟨z, hz⟩ : ∃ z, z = cmpZ x1 y1 := ⟨_, rfl⟩
      rw [← hz] at hc
      have HC2 := Lib.hid hc
      have HZ : Hid (decide (z < 0) = decide (x1 < y1)) := Lib.hid (by
        rw [hz]; unfold cmpZ
        by_cases h1 : x1 < y1
        · rw [if_pos h1, decide_eq_true h1]; rfl
        · rw [if_neg h1, decide_eq_false h1]
          split <;> rfl)
      clear hc HC hz
      by_cases hlt : x1 < y1
      · have hd : decide (z < 0) = true := by rw [HZ.out, decide_eq_true hlt]
        have HF := Lib.hid (HSN.out hlt)
        clear hlt
        go_wp2
        go_region_held3 (fun w' => w'.cell? ⟨b, o + m * 2, none⟩ = some (.int .i64 x1) ∧ w'.cell? ⟨b, o + m * 2 + 1, none⟩ = some (.int .i64 x2) ∧ w'.cell? ⟨b, o + k * 2, none⟩ = some (.int .i64 y1) ∧ w'.cell? ⟨b, o + k * 2 + 1, none⟩ = some (.int .i64 y2))
          (first
            | exact ⟨kept2 c0 hbr, kept2 c1 hbr, kept2 d0 hbr, kept2 d1 hbr⟩
            | go_keep)
          ((first | ((with_reducible refine (HC2.out _).mono ?_); rintro e w5 ⟨rfl, o1, o2, rfl⟩)))
        have bz := HBN.out o1 o2
        generalize ((wr.alloc o1).alloc o2).drew = w5 at bz ⊢
        go_wp2
        go_ret
        exact ⟨by rw [HF.out]; rfl, bz⟩
      · have hd : decide (z < 0) = false := by rw [HZ.out, decide_eq_false hlt]
        have HG := Lib.hid (HSY.out hlt)
        clear hlt
        go_wp2
        go_region_held3 (fun w' => w'.cell? ⟨b, o + m * 2, none⟩ = some (.int .i64 x1) ∧ w'.cell? ⟨b, o + m * 2 + 1, none⟩ = some (.int .i64 x2) ∧ w'.cell? ⟨b, o + k * 2, none⟩ = some (.int .i64 y1) ∧ w'.cell? ⟨b, o + k * 2 + 1, none⟩ = some (.int .i64 y2))
          (first
            | exact ⟨kept2 c0 hbr, kept2 c1 hbr, kept2 d0 hbr, kept2 d1 hbr⟩
            | go_keep)
          ((first | ((with_reducible refine (HC2.out _).mono ?_); rintro e w5 ⟨rfl, o1, o2, rfl⟩)))
        have bz := HBN.out o1 o2
        generalize ((wr.alloc o1).alloc o2).drew = w5 at bz ⊢
        go_wp2
        go_roundw
        case rel => exact ⟨(k : Int), by go_num, by omega, by omega, bz, HG.out⟩
        case measure => have := HM.out; simp [intOf]; omega
    · have hd : decide (0 < k0) = false := decide_eq_false hp
      have HF : Hid (sorted (tms l) = true) := Lib.hid (sorted_of fun j hj => hs j hj (by omega))
      have HB := Lib.hid hb
      clear hs hb
      go_wp2
      go_ret
      exact ⟨by rw [HF.out]; rfl, HB.out⟩
end Go.Proofs.Ytdjbdhfellofoaa.Do
