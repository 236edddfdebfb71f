/- 'append([]string{}, l...)': the new slice reads as l does; nothing that was there has turned. -/
import Derived.Test.YtjcfegjjdpembaaCrcL
import Derived.Laws.AppendOwnNone
namespace Go.Proofs.Ytjcfegjjdpembaa
open Go.RowKit

theorem str_info : (Try.prog.info? 9).map (fun i => (i.zero, i.size, i.bytes)) = some (some (.string ⟨#[]⟩), 1, 16) := by kernel_rfl
theorem add_none (b o j : Nat) : (⟨b, o, none⟩ : Addr).add j = ⟨b, o + j, none⟩ := by unfold Addr.add; split <;> simp_all

theorem wpList_append_strs {w : World} {ops : Array Oper} {rest : List Oper} {o : Oper} {a : Act} {Q : Exit → Act → World → Prop} (hgd : o.guard = none) (s x : Operand)
    (ho : o.op = .call { callee := .builtin .append, args := #[s, x], argTypes := #[22, 22] })
    (g base : Nat) (hs : a.eval s = .slice (some ⟨g, 0, none⟩) 0 0) (hg : w.heap[g]? = some (.cells #[] 9 (0, 0))) (hbase : base ≤ g)
    (A : Option Addr) (n cp : Nat) (l : List ByteArray) (hx : a.eval x = .slice A n cp) (hS : Strs w A n l) (hA : A = none → cp = 0) (hn : n ≤ 1000000)
    (h : ∀ A' c' w', Strs w' A' n l → Below base w w' → wpList Try.prog ops Q rest (a.put o.dst (.slice A' n c')) w') : wpList Try.prog ops Q (o :: rest) a w := by
  obtain ⟨i0, hi, hz0, hz1, hz2⟩ := info_parts str_info
  have hgl : g < w.heap.size := (Array.getElem?_eq_some_iff.1 hg).1
  have hown : w.ownsRow base 9 1 (.slice (some ⟨g, 0, none⟩) 0 0) 0 [] := ⟨rfl, .inr ⟨g, 0, #[], rfl, hbase, hg, Nat.le_refl _, by simp [maxLen], rfl, rfl⟩⟩
  rcases A with _ | ad
  · have hn0 : n = 0 := by
      rcases Nat.eq_zero_or_pos n with e | e
      · exact e
      · obtain ⟨b, o, e', _⟩ := hS.2 0 (by rw [hS.1]; exact e)
        cases e'
    subst hn0
    have hcp := hA rfl
    subst hcp
    have hl0 : l = [] := List.eq_nil_of_length_eq_zero hS.1
    subst hl0
    exact wpList_append_own_none hgd s x 22 ho base 9 i0 1 Try.underlying22 hi _ 0 [] hs hown hx (h _ _ w ⟨rfl, fun k hk => by simp at hk⟩ (Below.refl _ _))
  · refine wpList_append_own w hgd s x 22 ho base 9 i0 _ 1 16 Try.underlying22 hi hz0 hz1 hz2 rfl (by omega) _ 0 [] hs hown ad n cp (l.map Value.string) hx (by simp [hS.1]) (fun j u hu => ?_) (fun u hu => ?_) (by simp [maxLen]; omega) (by omega) (by omega) ?_
    · have hj : j < l.length := by
        have := (List.getElem?_eq_some_iff.1 hu).1
        simpa using this
      obtain ⟨b, o, e, _, hc⟩ := hS.2 j hj
      injection e with e
      subst e
      rw [add_none, hc]
      simpa [hj] using hu
    · simp only [List.mem_map] at hu
      obtain ⟨t, _, rfl⟩ := hu
      rfl
    · intro v' w' hown' hg' _
      have hb : Below base w w' := (Below.refl _ _).grown hg' (by omega) (fun k hk => by simp [Value.ownBlock] at hk; omega)
      rw [Nat.zero_add, List.nil_append] at hown'
      rcases hown'.2 with ⟨rfl, rfl⟩ | ⟨g', cap, cur, rfl, _, hh, _⟩
      · have hl0 : l = [] := List.eq_nil_of_length_eq_zero hS.1
        subst hl0
        exact h none 0 w' ⟨rfl, fun k hk => by simp at hk⟩ hb
      · refine h (some ⟨g', 0, none⟩) cap w' ⟨hS.1, fun k hk => ⟨g', 0, rfl, (Array.getElem?_eq_some_iff.1 hh).1, ?_⟩⟩ hb
        have := hown'.cells (g := g') rfl k (.string l[k]) (by simp [hk])
        rw [add_none] at this
        exact this
end Go.Proofs.Ytjcfegjjdpembaa
