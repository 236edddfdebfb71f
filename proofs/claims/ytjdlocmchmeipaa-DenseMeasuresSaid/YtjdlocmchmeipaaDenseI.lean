
/- The law's helpers: few, but, of; Find and Numbers. -/
import Derived.Test.YtjdlocmchmeipaaDenseH
namespace Go.Proofs.Ytjdlocmchmeipaa
open Go.RowKit

/-! ### Find, whatever it is asked -/
theorem MayIs.mayc {w1 W : World} {c : Nat} {mayv : Value} {may : Int → Bool} (h : MayIs w1 mayv may) (hb : Below w1.heap.size w1 W) (hc : w1.heap.size ≤ c) : MayC W c mayv may := by
  obtain ⟨F, B, e, eg, hm⟩ := h
  exact ⟨F, B, e, eg, fun W' hT d => hm W' (hT.below hb (fun k hk => by omega)) d⟩
def fE (x : Int) (q : List Int) (l : List (Int × List Int)) (k : Int) : Int := if mOf x = none ∨ k < 1 ∨ 1000 < k then 1 else if (DenM.vec q && DenM.rowsB l (-1)) = true then 0 else 2
def fA (x : Int) (q : List Int) (l : List (Int × List Int)) (k : Int) (may : Int → Bool) : List (Int × Int) := if fE x q l k = 0 then DenM.vis ((mOf x).getD false) q may l else []
theorem prd_nil (w : World) : Prd w (.slice none 0 0) [] := ⟨none, 0, rfl, Nat.le_refl _, fun _ => rfl, rfl, fun k hk => by simp at hk⟩
theorem cfind_any (w1 W : World) (c cnt : Nat) (x k : Int) (A1 A2 : Option Addr) (n1 n2 c1 c2 : Nat) (q : List Int) (l : List (Int × List Int)) (mayv : Value) (may : Int → Bool) (hI : Ivs w1 A1 n1 q) (hr : Rws w1 A2 n2 l) (hn : n2 ≤ 1000000) (hm : MayC W c mayv may)
    (hc : W.heap[c]? = some (.cells #[.int .i64 (cnt : Int)] 49 (0, 0))) (hc1 : w1.heap.size ≤ c) (hlow : Below w1.heap.size w1 W) (hcnt : cnt ≤ 1000000) :
    Calls Try.prog 17 #[.pointer (some ⟨c, 0, none⟩), .int .i64 x, .slice A1 n1 c1, .slice A2 n2 c2, .int .i64 k, mayv] W fun e w' => ∃ v', e = .returned (.tuple #[v', .int .i64 (fE x q l k)]) ∧ FindEnd w1 c k.toNat (fA x q l k may) cnt v' w' := by
  have hempty : ∀ w', Below W.heap.size W w' → FindEnd w1 c k.toNat [] cnt (.slice none 0 0) w' := fun w' hb => ⟨by rw [TopM.best_nil]; exact prd_nil w', ⟨cnt, blk_stay hb hc, by simp, by simp⟩, hlow.trans (hb.mono hlow.size)⟩
  unfold fA
  by_cases h1 : mOf x = none
  · have e1 : fE x q l k = 1 := by unfold fE; rw [if_pos (.inl h1)]
    rw [e1, if_neg (by decide)]
    exact (cfind_range1 c x k _ _ _ W h1).mono (fun e w' ⟨he, hb⟩ => ⟨_, he, hempty w' hb⟩)
  · obtain ⟨m, hm2⟩ : ∃ m, mOf x = some m := by
      cases h : mOf x with
      | none => exact absurd h h1
      | some m => exact ⟨m, rfl⟩
    have hx := mOf_some hm2
    by_cases h2 : k < 1 ∨ 1000 < k
    · have e1 : fE x q l k = 1 := by unfold fE; rw [if_pos (.inr h2)]
      rw [e1, if_neg (by decide), hx]
      exact (cfind_range2 c m k _ _ _ W h2).mono (fun e w' ⟨he, hb⟩ => ⟨_, he, hempty w' hb⟩)
    · obtain ⟨kn, rfl⟩ : ∃ kn : Nat, k = kn := ⟨k.toNat, by omega⟩
      rw [Int.toNat_natCast] at hempty ⊢
      have hne : ¬ (mOf x = none ∨ (kn : Int) < 1 ∨ 1000 < (kn : Int)) := by
        rintro (h | h)
        · exact h1 h
        · exact h2 h
      by_cases h3 : (DenM.vec q && DenM.rowsB l (-1)) = true
      · have e1 : fE x q l kn = 0 := by unfold fE; rw [if_neg hne, if_pos h3]
        rw [e1, if_pos rfl, hm2, hx]
        rw [Bool.and_eq_true] at h3
        exact cfind_ok w1 W c cnt m kn A1 A2 n1 n2 c1 c2 q l mayv may (by omega) (by omega) hI hr hn h3.1 h3.2 hm hc hc1 hlow hcnt
      · have e1 : fE x q l kn = 2 := by unfold fE; rw [if_neg hne, if_neg h3]
        rw [e1, if_neg (by decide), hx]
        exact (cfind_form c m kn A1 A2 n1 n2 c1 c2 q l mayv W (by omega) (by omega) (hI.later hlow) (hr.later hlow) hn (by simpa using h3)).mono (fun e w' ⟨he, hb⟩ => ⟨_, he, hempty w' hb⟩)
set_option maxHeartbeats 1000000 in
set_option maxRecDepth 100000 in
theorem dfind_any (W : World) (x k : Int) (A1 A2 : Option Addr) (n1 n2 c1 c2 : Nat) (q : List Int) (l : List (Int × List Int)) (mayv : Value) (may : Int → Bool) (hI : Ivs W A1 n1 q) (hr : Rws W A2 n2 l) (hn : n2 ≤ 1000000) (hm : MayIs W mayv may) :
    Calls Try.prog 10 #[.int .i64 x, .slice A1 n1 c1, .slice A2 n2 c2, .int .i64 k, mayv] W fun e w' => ∃ v', e = .returned (.tuple #[v', .int .i64 (fE x q l k)]) ∧ Prd w' v' (TopM.best k.toNat (fA x q l k may)) ∧ Below W.heap.size W w' := by
  have HC := Lib.hid (cfind_any W (W.alloc (.cells #[.int .i64 0] 49)) W.heap.size 0 x k A1 A2 n1 n2 c1 c2 q l mayv may hI hr hn (MayIs.mayc hm (pl1 _ _) (Nat.le_refl _)) (heap_alloc_new W _) (Nat.le_refl _) (pl1 _ _) (by omega))
  clear hI hr hm
  go_enter Try.func10, Try.ntmps10
  go_wp2_with fail
  refine HC.out.mono ?_
  rintro e w2 ⟨v', rfl, hf⟩
  have HF := Lib.hid hf
  clear hf
  go_wp2
  go_ret2
  exact ⟨v', rfl, HF.out.1, HF.out.2.2⟩
set_option maxHeartbeats 400000 in
theorem iload_any (b : Nat) (n : Int) (w : World) (h : w.cell? ⟨b, 0, none⟩ = some (.int .i64 n)) :
    Calls Try.prog 28 #[.pointer (some ⟨b, 0, none⟩)] w fun e w' => e = .returned (.int .i64 n) ∧ w = w' := by
  have hl := run_call_load (P := Try.prog) Try.func39 (by kernel_rfl) (by kernel_rfl) (by kernel_rfl) .i64 (by kernel_rfl) h
  go_enter Try.func28, Try.ntmps28
  go_wp2
  go_ret
  exact ⟨rfl, rfl⟩
set_option maxHeartbeats 400000 in
theorem numbers_any (c : Nat) (n : Int) (w : World) (h : w.cell? ⟨c, 0, none⟩ = some (.int .i64 n)) :
    Calls Try.prog 18 #[.pointer (some ⟨c, 0, none⟩)] w fun e w' => e = .returned (.int .i64 n) ∧ w' = w := by
  have HL := Lib.hid (iload_any c n w h)
  clear h
  go_enter Try.func18, Try.ntmps18
  go_wp2_with fail
  refine HL.out.mono ?_
  rintro e w2 ⟨rfl, rfl⟩
  go_wp2
  go_ret
  exact ⟨rfl, rfl⟩
/-! ### but: all documents but some -/
def butB (l : List Int) (d : Int) : Bool := l.all fun x => !(x == d)
set_option maxHeartbeats 1000000 in
set_option maxRecDepth 100000 in
theorem butfun_any (B : Nat) (A : Option Addr) (n cp : Nat) (l : List Int) (d : Int) (w : World) (h : Ivs w A n l) (hB : w.cell? ⟨B, 0, none⟩ = some (.slice A n cp)) (hn : n ≤ 1000000) :
    Calls Try.prog 21 #[.int .i64 d, .pointer (some ⟨B, 0, none⟩)] w fun e w' => e = .returned (.bool (butB l d)) ∧ w = w' := by
  have H := Lib.hid h
  have HL := Lib.hid h.1
  clear h
  go_enter Try.func21, Try.ntmps21
  go_wp2
  go_loop [4] (fun x => ∃ k : Nat, x = .int .i64 k ∧ k ≤ n ∧ (l.take k).all (fun x => !(x == d)) = true) (fun x => n - (intOf x).toNat)
  case atStart => exact ⟨0, rfl, by omega, rfl⟩
  case round =>
    obtain ⟨k, rfl, hk, hall⟩ := hrel
    have HA := Lib.hid hall
    clear hall
    by_cases hlt : k < n
    · have hmi : (k : Int) < (n : Int) := by omega
      have hkl : k < l.length := by rw [HL.out]; exact hlt
      obtain ⟨b, o, rfl, hbl, hc⟩ := H.out.2 k hkl
      obtain ⟨x, hx⟩ : ∃ x, x = l[k] := ⟨_, rfl⟩
      rw [← hx] at hc
      have HX := Lib.hid hx
      clear hx
      by_cases h1 : x = d
      · have hd : (x == d) = true := by simpa using h1
        have hd2 : decide (x = d) = true := decide_eq_true h1
        have HF : Hid (butB l d = false) := Lib.hid (List.all_eq_false.2 ⟨_, List.getElem_mem hkl, by rw [← HX.out, hd]; simp⟩)
        clear h1
        go_wp2
        go_ret
        exact ⟨by rw [HF.out]; rfl, rfl⟩
      · have hd : (x == d) = false := by simpa using h1
        have hd2 : decide (x = d) = false := decide_eq_false h1
        have HN : Hid ((l.take (k + 1)).all (fun x => !(x == d)) = true) := Lib.hid (by
          rw [List.take_succ_eq_append_getElem hkl, List.all_append, HA.out, ← HX.out]
          simp [hd])
        go_wp2
        go_round
        case rel => exact ⟨k + 1, by go_num, by omega, HN.out⟩
        case measure => simp [intOf]; omega
    · have hmi : ¬ (k : Int) < (n : Int) := by omega
      obtain rfl : k = n := by omega
      have HF : Hid (butB l d = true) := Lib.hid (by
        have := HA.out
        rw [List.take_of_length_le (by rw [HL.out]; exact Nat.le_refl _)] at this
        exact this)
      go_wp2
      go_ret
      exact ⟨by rw [HF.out]; rfl, rfl⟩
set_option maxHeartbeats 1000000 in
set_option maxRecDepth 100000 in
theorem but_any (A : Option Addr) (n cp : Nat) (l : List Int) (w : World) (h : Ivs w A n l) (hn : n ≤ 1000000) :
    Calls Try.prog 11 #[.slice A n cp] w fun e w' => ∃ v, e = .returned v ∧ MayIs w' v (butB l) ∧ Below w.heap.size w w' := by
  have H := Lib.hid h
  clear h
  have hbl := heap_alloc_new w (.cells #[.slice A n cp] 22)
  have hM : MayIs (w.alloc (.cells #[.slice A n cp] 22)) (.func (.func 21) #[] #[.pointer (some ⟨w.heap.size, 0, none⟩)]) (butB l) := by
    refine ⟨_, _, rfl, enters_of Try.func21 (by kernel_rfl) rfl, fun W hW d => ?_⟩
    have hb := cell_of_cells (i := 0) (blk_stay hW hbl) rfl
    exact (butfun_any w.heap.size A n cp l d W ((H.out.later (pl1 w _)).later hW) hb hn).mono (fun e w' ⟨he, hw⟩ => ⟨he, by rw [hw]; exact Below.refl _ _⟩)
  have HM := Lib.hid hM
  clear hM hbl
  go_enter Try.func11, Try.ntmps11
  go_wp2
  go_ret
  exact ⟨_, rfl, HM.out, pl1 _ _⟩
/-! ### few -/
def fewB (l : List (Int × List Int)) : Bool := decide (l.length ≤ 100) && l.all fun r => decide (r.2.length ≤ 20)
theorem few_not {l : List (Int × List Int)} {k : Nat} (h : k < l.length) (hk : 100 ≤ k ∨ 20 < l[k].2.length) : fewB l = false := by
  unfold fewB
  rcases hk with e | e
  · rw [decide_eq_false (by omega)]; rfl
  · rw [show (l.all fun r => decide (r.2.length ≤ 20)) = false from List.all_eq_false.2 ⟨_, List.getElem_mem h, by simpa using e⟩]
    simp
set_option maxHeartbeats 1000000 in
set_option maxRecDepth 100000 in
theorem few_any (A : Option Addr) (n cp : Nat) (l : List (Int × List Int)) (w : World) (h : Rws w A n l) :
    Calls Try.prog 7 #[.slice A n cp] w fun e w' => e = .returned (.bool (fewB l)) ∧ w = w' := by
  have H := Lib.hid h
  have HL := Lib.hid h.1
  clear h
  go_enter Try.func7, Try.ntmps7
  go_wp2
  go_loop [3] (fun x => ∃ k : Nat, x = .int .i64 k ∧ k ≤ n ∧ k ≤ 100 ∧ (l.take k).all (fun r => decide (r.2.length ≤ 20)) = true) (fun x => 101 - (intOf x).toNat)
  case atStart => exact ⟨0, rfl, by omega, by omega, rfl⟩
  case round =>
    obtain ⟨k, rfl, hk, hk100, hall⟩ := hrel
    have HA := Lib.hid hall
    clear hall
    by_cases hlt : k < n
    · have hmi : (k : Int) < (n : Int) := by omega
      have hkl : k < l.length := by rw [HL.out]; exact hlt
      obtain ⟨b, o, A2, n2, c2, rfl, hbl, hc0, hc1, hI⟩ := H.out.2 k hkl
      have HI := Lib.hid hI.1
      clear hI hc0
      by_cases h1 : 100 ≤ k
      · have hd : decide ((100 : Int) ≤ (k : Int)) = true := decide_eq_true (by omega)
        have HF : Hid (fewB l = false) := Lib.hid (few_not hkl (.inl h1))
        go_wp2
        go_ret
        exact ⟨by rw [HF.out]; rfl, rfl⟩
      · have hd : decide ((100 : Int) ≤ (k : Int)) = false := decide_eq_false (by omega)
        by_cases h2 : 20 < n2
        · have hd2 : decide ((20 : Int) < (n2 : Int)) = true := decide_eq_true (by omega)
          have HF : Hid (fewB l = false) := Lib.hid (few_not hkl (.inr (by rw [HI.out]; exact h2)))
          go_wp2
          go_ret
          exact ⟨by rw [HF.out]; rfl, rfl⟩
        · have hd2 : decide ((20 : Int) < (n2 : Int)) = false := decide_eq_false (by omega)
          have HN : Hid ((l.take (k + 1)).all (fun r => decide (r.2.length ≤ 20)) = true) := Lib.hid (by
            rw [List.take_succ_eq_append_getElem hkl, List.all_append, HA.out]
            simp [HI.out]
            omega)
          go_wp2
          go_round
          case rel => exact ⟨k + 1, by go_num, by omega, by omega, HN.out⟩
          case measure => simp [intOf]; omega
    · have hmi : ¬ (k : Int) < (n : Int) := by omega
      obtain rfl : k = n := by omega
      have HF : Hid (fewB l = true) := Lib.hid (by
        have := HA.out
        rw [List.take_of_length_le (by rw [HL.out]; exact Nat.le_refl _)] at this
        unfold fewB
        rw [this, decide_eq_true (by rw [HL.out]; exact hk100)]
        rfl)
      go_wp2
      go_ret
      exact ⟨by rw [HF.out]; rfl, rfl⟩
end Go.Proofs.Ytjdlocmchmeipaa
