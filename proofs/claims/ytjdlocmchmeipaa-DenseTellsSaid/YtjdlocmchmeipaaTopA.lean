
/- Documents with scores: as values, in rows; which is better. -/
import Derived.Test.YtjdlocmchmeipaaBaseW
import Derived.Test.YtjdlocmchmeipaaPairs
import Derived.Test.YtjdlocmchmeipaaTopMath
import Derived.Laws.AppendOwnNone
import Derived.Laws.OwnMore
namespace Go.Proofs.Ytjdlocmchmeipaa
open Go.RowKit

/-- one's own row of documents with scores -/
def PairRow (w : World) (base : Nat) (v : Value) (l : List (Int × Int)) : Prop := w.ownsRow base 54 2 v l.length (l.flatMap enc2)
theorem pair_info : (Try.prog.info? 54).map (fun i => (i.zero, i.size, i.bytes)) = some (some (sv (0, 0)), 2, 16) := by kernel_rfl

theorem PairRow.nil_ (w : World) (base : Nat) : PairRow w base (.slice none 0 0) [] := World.ownsRow_nil _ _ _ _
theorem PairRow.kept {w w' : World} {base : Nat} {v : Value} {l : List (Int × Int)} (h : PairRow w base v l) (hk : ∀ g, v.ownBlock = some g → w'.heap[g]? = w.heap[g]?) : PairRow w' base v l := by
  refine ⟨h.1, ?_⟩
  rcases h.2 with hn | ⟨g, cap, cur, rfl, hbg, hgg, rest⟩
  · exact .inl hn
  · exact .inr ⟨g, cap, cur, rfl, hbg, (hk g rfl).trans hgg, rest⟩
theorem PairRow.later {w w' : World} {base : Nat} {v : Value} {l : List (Int × Int)} (h : PairRow w base v l) (hb : Below w.heap.size w w') : PairRow w' base v l :=
  h.kept fun g hg => hb.block g (World.ownsRow.lt h g hg).2
theorem PairRow.cells {w : World} {base : Nat} {v : Value} {l : List (Int × Int)} (h : PairRow w base v l) (hne : 0 < l.length) :
    ∃ g cap, v = .slice (some ⟨g, 0, none⟩) l.length cap ∧ base ≤ g ∧ g < w.heap.size ∧ l.length ≤ cap ∧ (∀ j, w.frozen? ⟨g, j, none⟩ = false) ∧ ∀ k (hk : k < l.length), w.cell? ⟨g, k * 2, none⟩ = some (.int .i64 l[k].1) ∧ w.cell? ⟨g, k * 2 + 1, none⟩ = some (.int .i64 l[k].2) := by
  have h0 := h
  rcases h.2 with ⟨rfl, hn⟩ | ⟨g, cap, cur, rfl, hbg, hgg, hnc, rest⟩
  · omega
  · refine ⟨g, cap, rfl, hbg, (Array.getElem?_eq_some_iff.1 hgg).1, by omega, fun j => by unfold World.frozen?; simp only [hgg]; simp, fun k hk => ?_⟩
    obtain ⟨f0, f1⟩ := flat_get l k hk
    have c0 := World.ownsRow.cells h0 (g := g) rfl _ _ f0
    have c1 := World.ownsRow.cells h0 (g := g) rfl _ _ f1
    rw [add_none, Nat.zero_add] at c0 c1
    exact ⟨c0, c1⟩
theorem PairRow.form {w : World} {base : Nat} {v : Value} {l : List (Int × Int)} (h : PairRow w base v l) : ∃ A cap, v = .slice A l.length cap ∧ l.length ≤ cap ∧ (A = none → cap = 0) := by
  rcases h.2 with ⟨rfl, hn⟩ | ⟨g, cap, cur, rfl, hbg, hgg, hnc, rest⟩
  · rw [hn]; exact ⟨none, 0, rfl, Nat.le_refl _, fun _ => rfl⟩
  · exact ⟨_, cap, rfl, by omega, fun e => by cases e⟩
theorem PairRow.pairs {w : World} {base : Nat} {v : Value} {l : List (Int × Int)} (h : PairRow w base v l) : ∃ A cap, v = .slice A l.length cap ∧ Pairs w A l.length l := by
  by_cases hl : 0 < l.length
  · obtain ⟨g, cap, rfl, _, hg, _, _, hc⟩ := h.cells hl
    refine ⟨_, cap, rfl, rfl, fun k hk => ⟨g, 0, rfl, hg, ?_⟩⟩
    rw [Nat.zero_add]
    exact hc k hk
  · obtain ⟨A, cap, rfl, _, _⟩ := h.form
    exact ⟨A, cap, rfl, rfl, fun k hk => by omega⟩
/-- one of one's own row, turned -/
theorem PairRow.set_ {w : World} {base g n cap : Nat} {l : List (Int × Int)} (h : PairRow w base (.slice (some ⟨g, 0, none⟩) n cap) l) (i : Nat) (p : Int × Int) (hi : i < l.length) :
    PairRow ((w.setCell ⟨g, i * 2, none⟩ (.int .i64 p.1)).setCell ⟨g, i * 2 + 1, none⟩ (.int .i64 p.2)) base (.slice (some ⟨g, 0, none⟩) n cap) (l.set i p) := by
  refine ⟨by rw [flat_len, List.length_set], .inr ?_⟩
  rcases h.2 with ⟨e, _⟩ | ⟨g', cap', cur, e, hbg, hgg, h1, h2, h3, h4⟩
  · cases e
  · injection e with e1 e2 e3
    injection e1 with e1
    injection e1 with e1
    subst e1; subst e2; subst e3
    refine ⟨g, cap, (cur.setIfInBounds (i * 2) (.int .i64 p.1)).setIfInBounds (i * 2 + 1) (.int .i64 p.2), by simp, hbg, heap_setCell_row (heap_setCell_row hgg _ _) _ _, by simpa using h1, h2, by simpa using h3, ?_⟩
    rw [Array.toList_setIfInBounds, Array.toList_setIfInBounds, List.take_set, List.take_set]
    simp only [List.length_set]
    rw [h4, flat_set l i p hi]

/-- append of one onto one's own row -/
theorem wpList_append_pair {w : World} {ops : Array Oper} {rest : List Oper} {o : Oper} {a : Act} {Q : Exit → Act → World → Prop} (hgd : o.guard = none) (s x : Operand)
    (ho : o.op = .call { callee := .builtin .append, args := #[s, x], argTypes := #[31, 31] })
    (base : Nat) (v : Value) (l : List (Int × Int)) (hs : a.eval s = v) (hown : PairRow w base v l)
    (g c : Nat) (p : Int × Int) (hx : a.eval x = .slice (some ⟨g, 0, none⟩) 1 c) (hc0 : w.cell? ⟨g, 0, none⟩ = some (.int .i64 p.1)) (hc1 : w.cell? ⟨g, 1, none⟩ = some (.int .i64 p.2)) (hbase : base ≤ w.heap.size) (hn : l.length ≤ 1000000000)
    (h : ∀ v' w', PairRow w' base v' (l ++ [p]) → w.grownBy w' v.ownBlock → wpList Try.prog ops Q rest (a.put o.dst v') w') : wpList Try.prog ops Q (o :: rest) a w := by
  obtain ⟨i0, hi, hz0, hz1, hz2⟩ := info_parts pair_info
  refine wpList_append_own w hgd s x 31 ho base 54 i0 _ 2 16 Try.underlying31 hi hz0 hz1 hz2 rfl (by omega) _ _ _ hs hown ⟨g, 0, none⟩ 1 c (enc2 p) hx rfl (fun j u hu => ?_) (fun u hu => ?_) (by simp [maxLen]; omega) (by omega) hbase ?_
  · match j, hu with
    | 0, hu => simp [enc2] at hu; subst hu; rw [add_none]; exact hc0
    | 1, hu => simp [enc2] at hu; subst hu; rw [add_none]; exact hc1
  · simp [enc2] at hu; rcases hu with rfl | rfl <;> rfl
  · intro v' w' hown' hg' hiff
    refine h v' w' ?_ hg'
    unfold PairRow
    rw [List.length_append, List.flatMap_append]
    simpa using hown'

/-- which is better: the program's -/
theorem better_any (a b : Int × Int) (w : World) :
    Calls Try.prog 32 #[sv a, sv b] w fun e w' => e = .returned (.bool (TopM.bet a b)) ∧ ∃ o1 o2, w' = (w.alloc o1).alloc o2 := by
  obtain ⟨a1, a2⟩ := a
  obtain ⟨b1, b2⟩ := b
  unfold sv
  by_cases h : a2 = b2
  · subst h
    have hb : TopM.bet (a1, a2) (b1, a2) = decide (a1 < b1) := by unfold TopM.bet; rw [if_pos rfl]
    rw [hb]
    obtain ⟨r, hr⟩ : ∃ r, r = decide (a1 < b1) := ⟨_, rfl⟩
    rw [← hr]
    have hr' := hr.symm
    clear hb hr
    go_enter Try.func32, Try.ntmps32
    go_wp2
    go_ret
    exact ⟨rfl, _, _, rfl⟩
  · have hb : TopM.bet (a1, a2) (b1, b2) = decide (b2 < a2) := by unfold TopM.bet; rw [if_neg h]
    rw [hb]
    have hd : (a2 != b2) = true := by simpa using h
    obtain ⟨r, hr⟩ : ∃ r, r = decide (b2 < a2) := ⟨_, rfl⟩
    rw [← hr]
    have hr' := hr.symm
    clear hb hr h
    go_enter Try.func32, Try.ntmps32
    go_wp2
    go_ret
    exact ⟨rfl, _, _, rfl⟩
end Go.Proofs.Ytjdlocmchmeipaa
