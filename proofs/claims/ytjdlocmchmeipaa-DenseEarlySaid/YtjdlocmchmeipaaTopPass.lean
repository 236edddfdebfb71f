
/- The best of what was offered hangs on the best so far; what comes later and is no better is passed over. -/
import Derived.Test.YtjdlocmchmeipaaTopMath
namespace Go.Proofs.Ytjdlocmchmeipaa

/-! ### the best of what was offered hangs on the best so far -/
theorem best_best (k : Nat) (l : List (Int × Int)) : TopM.best k (TopM.best k l) = TopM.best k l := by
  have h := TopM.srt_is (TopM.best_srt k l) (List.Perm.refl _)
  conv => lhs; unfold TopM.best
  rw [show TopM.srt ((TopM.srt l).take k) = TopM.best k l from h]
  unfold TopM.best
  rw [List.take_take, Nat.min_self]
theorem best_snoc (k : Nat) (l : List (Int × Int)) (x : Int × Int) : TopM.best k (l ++ [x]) = TopM.best k (TopM.best k l ++ [x]) := by
  rcases Nat.eq_zero_or_pos k with rfl | hk
  · rw [TopM.best_zero, TopM.best_zero]
  · rcases Nat.lt_or_ge l.length k with h | h
    · have e : TopM.best k l = TopM.srt l := TopM.best_all (by omega)
      rw [e]
      unfold TopM.best
      rw [TopM.srt_congr ((TopM.srt_perm l).append_right [x])]
    · have hl : (TopM.best k l).length = k := by rw [TopM.best_len]; omega
      have hne : TopM.best k l ≠ [] := fun e => by rw [e] at hl; simp at hl; omega
      obtain ⟨A, w, hA⟩ : ∃ A w, TopM.best k l = A ++ [w] := ⟨_, _, (List.dropLast_concat_getLast hne).symm⟩
      have hb2 : TopM.best k (TopM.best k l) = A ++ [w] := by rw [best_best, hA]
      cases hx : TopM.bet x w with
      | false =>
        rw [TopM.best_keep h (by rw [hA]; simp) hx, TopM.best_keep (l := TopM.best k l) (by omega) (by rw [hb2]; simp) hx, best_best]
      | true =>
        have p1 := TopM.best_turn h hA hx
        have p2 := TopM.best_turn (l := TopM.best k l) (by omega) hb2 hx
        exact TopM.srt_eq (TopM.best_srt _ _) (TopM.best_srt _ _) (p1.trans p2.symm)
theorem best_cong {k : Nat} {l l' : List (Int × Int)} (h : TopM.best k l = TopM.best k l') (x : Int × Int) : TopM.best k (l ++ [x]) = TopM.best k (l' ++ [x]) := by
  rw [best_snoc, h, ← best_snoc]
/-- one that comes later, and scores no more than the last that is kept, is passed over -/
theorem best_pass {k : Nat} {l : List (Int × Int)} {x : Int × Int} (hk : k ≤ l.length) (hl : ∀ p ∈ l, p.1 < x.1) (hw : ∀ w, (TopM.best k l).getLast? = some w → x.2 ≤ w.2) : TopM.best k (l ++ [x]) = TopM.best k l := by
  rcases Nat.eq_zero_or_pos k with rfl | hk0
  · rw [TopM.best_zero, TopM.best_zero]
  · have hlen : (TopM.best k l).length = k := by rw [TopM.best_len]; omega
    cases hw2 : (TopM.best k l).getLast? with
    | none =>
      have := List.getLast?_eq_none_iff.1 hw2
      rw [this] at hlen; simp at hlen; omega
    | some w =>
      refine TopM.best_keep hk hw2 ?_
      have h1 := hw w hw2
      have hm : w ∈ l := by
        have : w ∈ TopM.best k l := List.mem_of_getLast? hw2
        unfold TopM.best at this
        exact (TopM.srt_perm l).mem_iff.1 (List.mem_of_mem_take this)
      have h2 := hl w hm
      rw [TopM.bet_not]
      omega
end Go.Proofs.Ytjdlocmchmeipaa
