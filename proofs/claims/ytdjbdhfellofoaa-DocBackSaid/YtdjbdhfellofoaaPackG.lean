
/- A packed row, written by the document; what is out of its range. -/
import Derived.Test.YtdjbdhfellofoaaPackF
namespace Go.Proofs.Ytdjbdhfellofoaa
open Go.RowKit

theorem fixed_range (w : Int) (A : Option Addr) (n cp : Nat) (l : List Int) (W : World) (hw : ¬ (0 ≤ w ∧ w ≤ 32)) :
    Calls Try.prog 47 #[.int .i64 w, .slice A n cp] W fun e W' => e = .returned (.tuple #[.string (ofBytes (fixS w l)), .int .i64 (fixC w l)]) ∧ Below W.heap.size W W' := by
  have hs : fixS w l = [] := by unfold fixS; rw [if_neg (fun h => hw ⟨h.1, h.2.1⟩)]
  have hc : fixC w l = 1 := by unfold fixC; rw [if_neg (fun h => hw ⟨h.1, h.2.1⟩)]
  have HS := Lib.hid hs
  have HC := Lib.hid hc
  clear hs hc
  by_cases h0 : w < 0
  · have hd1 : decide (w < 0) = true := decide_eq_true h0
    go_enter Try.func47, Try.ntmps47
    go_wp2
    go_ret2
    exact ⟨by rw [HS.out, HC.out]; rfl, Below.refl _ _⟩
  · have hd1 : decide (w < 0) = false := decide_eq_false h0
    have hd2 : decide ((32 : Int) < w) = true := decide_eq_true (by omega)
    go_enter Try.func47, Try.ntmps47
    go_wp2
    go_ret2
    exact ⟨by rw [HS.out, HC.out]; rfl, Below.refl _ _⟩
theorem reffixed_range (w : Int) (A : Option Addr) (n cp : Nat) (l : List Int) (W : World) (hw : ¬ (0 ≤ w ∧ w ≤ 32)) :
    Calls Try.prog 26 #[.int .i64 w, .slice A n cp] W fun e W' => e = .returned (.tuple #[.string (ofBytes (fixS w l)), .int .i64 (fixC w l)]) ∧ Below W.heap.size W W' := by
  have hs : fixS w l = [] := by unfold fixS; rw [if_neg (fun h => hw ⟨h.1, h.2.1⟩)]
  have hc : fixC w l = 1 := by unfold fixC; rw [if_neg (fun h => hw ⟨h.1, h.2.1⟩)]
  have HS := Lib.hid hs
  have HC := Lib.hid hc
  clear hs hc
  by_cases h0 : w < 0
  · have hd1 : decide (w < 0) = true := decide_eq_true h0
    go_enter Try.func26, Try.ntmps26
    go_wp2
    go_ret2
    exact ⟨by rw [HS.out, HC.out]; rfl, Below.refl _ _⟩
  · have hd1 : decide (w < 0) = false := decide_eq_false h0
    have hd2 : decide ((32 : Int) < w) = true := decide_eq_true (by omega)
    go_enter Try.func26, Try.ntmps26
    go_wp2
    go_ret2
    exact ⟨by rw [HS.out, HC.out]; rfl, Below.refl _ _⟩

/-- one's own row of numbers -/
def IntRow (w : World) (base : Nat) (v : Value) (l : List Int) : Prop := w.ownsRow base 3 1 v l.length (l.map (Value.int .i64))
theorem IntRow.nil_ (w : World) (base : Nat) : IntRow w base (.slice none 0 0) [] := World.ownsRow_nil _ _ _ _
theorem IntRow.later {w w' : World} {base : Nat} {v : Value} {l : List Int} (h : IntRow w base v l) (hb : Below w.heap.size w w') : IntRow w' base v l := by
  refine ⟨h.1, ?_⟩
  rcases h.2 with hn | ⟨g, cap, cur, rfl, hbg, hgg, rest⟩
  · exact .inl hn
  · exact .inr ⟨g, cap, cur, rfl, hbg, (hb.block g (World.ownsRow.lt h g rfl).2).trans hgg, rest⟩
theorem IntRow.ints {w : World} {base : Nat} {v : Value} {l : List Int} (h : IntRow w base v l) : ∃ A cp, v = .slice A l.length cp ∧ Ints w A l.length l := by
  rcases h.2 with ⟨rfl, hn⟩ | ⟨g, cap, cur, rfl, hbg, hgg, rest⟩
  · have hl0 : l = [] := List.eq_nil_of_length_eq_zero hn
    subst hl0
    exact ⟨none, 0, rfl, rfl, fun k hk => by simp at hk⟩
  · refine ⟨some ⟨g, 0, none⟩, cap, rfl, rfl, fun k hk => ⟨g, 0, rfl, (Array.getElem?_eq_some_iff.1 hgg).1, ?_⟩⟩
    have := World.ownsRow.cells h (g := g) rfl k (.int .i64 l[k]) (by simp [hk])
    rw [add_none] at this
    exact this

/-- append of one number onto one's own row -/
theorem wpList_append_int {w : World} {ops : Array Oper} {rest : List Oper} {o : Oper} {a : Act} {Q : Exit → Act → World → Prop} (hgd : o.guard = none) (s x : Operand)
    (ho : o.op = .call { callee := .builtin .append, args := #[s, x], argTypes := #[23, 23] })
    (base : Nat) (v : Value) (l : List Int) (hs : a.eval s = v) (hown : IntRow w base v l)
    (g c : Nat) (b : Int) (hx : a.eval x = .slice (some ⟨g, 0, none⟩) 1 c) (hc : w.cell? ⟨g, 0, none⟩ = some (.int .i64 b)) (hbase : base ≤ w.heap.size) (hn : l.length ≤ 1000000000)
    (h : ∀ v' w', IntRow w' base v' (l ++ [b]) → Below base w w' → wpList Try.prog ops Q rest (a.put o.dst v') w') : wpList Try.prog ops Q (o :: rest) a w := by
  obtain ⟨i0, hi, hz0, hz1, hz2⟩ := info_parts int_info
  refine wpList_append_own w hgd s x 23 ho base 3 i0 _ 1 8 Try.underlying23 hi hz0 hz1 hz2 rfl (by omega) _ _ _ hs hown ⟨g, 0, none⟩ 1 c [.int .i64 b] hx rfl (fun j u hu => ?_) (fun u hu => ?_) (by simp [maxLen]; omega) (by omega) hbase ?_
  · match j, hu with
    | 0, hu => simp at hu; subst hu; rw [add_none]; exact hc
  · simp at hu; subst hu; rfl
  · intro v' w' hown' hg' hiff
    have hb : Below base w w' := (Below.refl _ _).grown hg' hbase (fun k hk => (World.ownsRow.lt hown k hk).1)
    refine h v' w' ?_ hb
    unfold IntRow
    rw [List.length_append, List.map_append]
    exact hown'

/-- a byte of one's own row, turned -/
theorem ByteRow.set_ {w : World} {base g n cap : Nat} {l : List UInt8} (h : ByteRow w base (.slice (some ⟨g, 0, none⟩) n cap) l) (i : Nat) (x : UInt8) : ByteRow (w.setCell ⟨g, i, none⟩ (byteV x)) base (.slice (some ⟨g, 0, none⟩) n cap) (l.set i x) := by
  refine ⟨by simp, .inr ?_⟩
  rcases h.2 with ⟨e, _⟩ | ⟨g', cap', cur, e, hbg, hgg, h1, h2, h3, h4⟩
  · cases e
  · injection e with e1 e2 e3
    injection e1 with e1
    injection e1 with e1
    subst e1; subst e2; subst e3
    refine ⟨g, cap, cur.setIfInBounds i (byteV x), by simp, hbg, heap_setCell_row hgg i _, by simpa using h1, h2, by simpa using h3, ?_⟩
    rw [Array.toList_setIfInBounds, List.take_set]
    simp only [List.length_set]
    rw [h4, List.map_set]
theorem ByteRow.slice {w : World} {base : Nat} {v : Value} {l : List UInt8} (h : ByteRow w base v l) (hne : 0 < l.length) : ∃ g cap, v = .slice (some ⟨g, 0, none⟩) l.length cap ∧ base ≤ g ∧ ∀ j (hj : j < l.length), w.cell? ⟨g, j, none⟩ = some (.int .u8 (l[j].toNat : Int)) ∧ w.frozen? ⟨g, j, none⟩ = false := by
  rcases h.2 with ⟨rfl, hn⟩ | ⟨g, cap, cur, rfl, hbg, hgg, rest⟩
  · omega
  · refine ⟨g, cap, rfl, hbg, fun j hj => ⟨?_, by unfold World.frozen?; simp only [hgg]; simp⟩⟩
    have := World.ownsRow.cells h (g := g) rfl j (byteV l[j]) (by simp [hj])
    rw [add_none, Nat.zero_add] at this
    exact this
end Go.Proofs.Ytdjbdhfellofoaa
