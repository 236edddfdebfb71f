/- Own texts, merged (13 of 42). -/
import Derived.Test.YtddnnhfffmhpmaaGreatDoorSm2
import Derived.Test.YtddnnhfffmhpmaaGreatDoorSm6
import Derived.Laws.AppendOwnNone
import Derived.Laws.OwnMore
import Derived.Laws.AppendOwn

/- Slices of ints: read, and one's own row. -/
namespace Go.Proofs.YtddnnhfffmhpmaaGreatDoor
open Go.RowKit

def iv (x : Int) : Value := .int .i64 x
/-- a slice that reads as ints -/
def Ivs (w : World) (A : Option Addr) (n : Nat) (l : List Int) : Prop :=
  l.length = n ∧ ∀ k (h : k < l.length), ∃ b o, A = some ⟨b, o, none⟩ ∧ b < w.heap.size ∧ w.cell? ⟨b, o + k, none⟩ = some (.int .i64 l[k])
theorem Ivs.later {w w' : World} {A : Option Addr} {n : Nat} {l : List Int} (h : Ivs w A n l) (hb : Below w.heap.size w w') : Ivs w' A n l :=
  ⟨h.1, fun k hk => by
    obtain ⟨b, o, e, hl, h0⟩ := h.2 k hk
    exact ⟨b, o, e, Nat.lt_of_lt_of_le hl hb.size, (hb.cell (p := ⟨b, o + k, none⟩) hl).trans h0⟩⟩
theorem Ivs.turned {S : Nat → Prop} {w w' : World} {A : Option Addr} {n : Nat} {l : List Int} (h : Ivs w A n l) (hT : Turned S w w') (hS : ∀ ad, A = some ad → ¬ S ad.block) : Ivs w' A n l :=
  ⟨h.1, fun k hk => by
    obtain ⟨b, o, e, hl, h0⟩ := h.2 k hk
    exact ⟨b, o, e, Nat.lt_of_lt_of_le hl hT.size, (hT.cell (p := ⟨b, o + k, none⟩) hl (hS ⟨b, o, none⟩ e)).trans h0⟩⟩
theorem ivs_nil (w : World) (A : Option Addr) : Ivs w A 0 [] := ⟨rfl, fun k hk => by simp at hk⟩

/-- one's own row of ints -/
def IvRow (w : World) (base : Nat) (v : Value) (l : List Int) : Prop := w.ownsRow base 3 1 v l.length (l.map iv)
theorem IvRow.nil_ (w : World) (base : Nat) : IvRow w base (.slice none 0 0) [] := World.ownsRow_nil _ _ _ _
theorem IvRow.kept {w w' : World} {base : Nat} {v : Value} {l : List Int} (h : IvRow w base v l) (hk : ∀ g, v.ownBlock = some g → w'.heap[g]? = w.heap[g]?) : IvRow w' base v l := by
  refine ⟨h.1, ?_⟩
  rcases h.2 with hn | ⟨g, cap, cur, rfl, hbg, hgg, rest⟩
  · exact .inl hn
  · exact .inr ⟨g, cap, cur, rfl, hbg, (hk g rfl).trans hgg, rest⟩
theorem IvRow.later {w w' : World} {base : Nat} {v : Value} {l : List Int} (h : IvRow w base v l) (hb : Below w.heap.size w w') : IvRow w' base v l :=
  h.kept fun g hg => hb.block g (World.ownsRow.lt h g hg).2
theorem IvRow.alloc {w : World} {base : Nat} {v : Value} {l : List Int} (h : IvRow w base v l) (o : Obj) : IvRow (w.alloc o) base v l := h.later ((Below.refl _ _).alloc (Nat.le_refl _) _)
theorem IvRow.wider {w : World} {base B : Nat} {v : Value} {l : List Int} (h : IvRow w B v l) (hB : base ≤ B) : IvRow w base v l := by
  refine ⟨h.1, ?_⟩
  rcases h.2 with hn | ⟨g, cap, cur, e, hbg, rest⟩
  · exact .inl hn
  · exact .inr ⟨g, cap, cur, e, Nat.le_trans hB hbg, rest⟩
theorem IvRow.form2 {w : World} {base : Nat} {v : Value} {l : List Int} (h : IvRow w base v l) : (v = .slice none 0 0 ∧ l = []) ∨ ∃ g cap, v = .slice (some ⟨g, 0, none⟩) l.length cap ∧ l.length ≤ cap ∧ base ≤ g ∧ g < w.heap.size ∧ Ivs w (some ⟨g, 0, none⟩) l.length l := by
  have h0 := h
  rcases h.2 with ⟨rfl, hn⟩ | ⟨g, cap, cur, rfl, hbg, hgg, hnc, rest⟩
  · exact .inl ⟨rfl, List.eq_nil_of_length_eq_zero hn⟩
  · refine .inr ⟨g, cap, rfl, by omega, hbg, (Array.getElem?_eq_some_iff.1 hgg).1, rfl, fun k hk => ⟨g, 0, rfl, (Array.getElem?_eq_some_iff.1 hgg).1, ?_⟩⟩
    have := World.ownsRow.cells h0 (g := g) rfl k (iv l[k]) (by simp [hk])
    rw [add_none] at this
    exact this
theorem IvRow.ivs {w : World} {base : Nat} {v : Value} {l : List Int} (h : IvRow w base v l) : ∃ A cp, v = .slice A l.length cp ∧ l.length ≤ cp ∧ (A = none → cp = 0) ∧ Ivs w A l.length l := by
  rcases h.form2 with ⟨rfl, rfl⟩ | ⟨g, cap, rfl, hc, _, _, hI⟩
  · exact ⟨none, 0, rfl, Nat.le_refl _, (fun _ => rfl), ivs_nil _ _⟩
  · exact ⟨_, cap, rfl, hc, (fun e => by cases e), hI⟩
set_option maxRecDepth 100000 in
/-- append of what is read onto one's own row -/
theorem wp_append_ivs {w : World} {o : Oper} {a : Act} {K : Act → World → Prop} {Q : Exit → Act → World → Prop} (s x : Operand)
    (ho : o.op = .call { callee := .builtin .append, args := #[s, x], argTypes := #[31, 31] })
    (base : Nat) (v0 : Value) (l0 : List Int) (hs : a.eval s = v0) (hown : IvRow w base v0 l0) (hbase : base ≤ w.heap.size)
    (A : Option Addr) (n cp : Nat) (l : List Int) (hx : a.eval x = .slice A n cp) (hS : Ivs w A n l) (hA : A = none → cp = 0) (hn : l0.length + n ≤ 1000000000)
    (h : ∀ v' w', IvRow w' base v' (l0 ++ l) → w.grownBy w' v0.ownBlock → K (a.put o.dst v') w') : o.wp Tryz.prog a w K Q := by
  obtain ⟨i0, hi, hz0, hz1, hz2⟩ := info_parts int_info
  rcases A with _ | ad
  · have hn0 : n = 0 := by
      rcases Nat.eq_zero_or_pos n with e | e
      · exact e
      · obtain ⟨b, o, e', _⟩ := hS.2 0 (by rw [hS.1]; exact e)
        cases e'
    subst hn0
    have hcp := hA rfl
    subst hcp
    have hl0 : l = [] := List.eq_nil_of_length_eq_zero hS.1
    subst hl0
    have hrun := run_append_owned_none (P := Tryz.prog) (w := w) base 31 o.type 3 i0 1 Tryz.underlying31 hi v0 l0.length (l0.map iv) hown
    have hfin := h v0 w (by rw [List.append_nil]; exact hown) (World.grownBy.refl w _)
    unfold Oper.wp
    simp [execOp, ho, resolve, invoke, builtin, hs, hx, hrun, Result.andThen]
    exact hfin
  · refine wp_append_own w s x 31 ho base 3 i0 _ 1 8 Tryz.underlying31 hi hz0 hz1 hz2 rfl (by omega) v0 l0.length (l0.map iv) hs hown ad n cp (l.map iv) hx (by rw [List.length_map, hS.1]; omega) (fun j u hu => ?_) (fun u hu => ?_) (by simp [maxLen]; omega) (by omega) hbase ?_
    · have hj : j < l.length := by
        have := (List.getElem?_eq_some_iff.1 hu).1
        rwa [List.length_map] at this
      obtain ⟨b, o, e, _, h0⟩ := hS.2 j hj
      injection e with e
      subst e
      rw [add_none]
      rw [List.getElem?_map, List.getElem?_eq_getElem hj] at hu
      simp only [Option.map_some, Option.some.injEq] at hu
      rw [← hu]
      exact h0
    · simp only [List.mem_map] at hu
      obtain ⟨t, _, rfl⟩ := hu
      rfl
    · intro v' w' hown' hg' _
      refine h v' w' ?_ hg'
      unfold IvRow
      rw [List.length_append, List.map_append, hS.1]
      exact hown'
theorem wpList_append_ivs {w : World} {ops : Array Oper} {rest : List Oper} {o : Oper} {a : Act} {Q : Exit → Act → World → Prop} (hgd : o.guard = none) (s x : Operand)
    (ho : o.op = .call { callee := .builtin .append, args := #[s, x], argTypes := #[31, 31] })
    (base : Nat) (v0 : Value) (l0 : List Int) (hs : a.eval s = v0) (hown : IvRow w base v0 l0) (hbase : base ≤ w.heap.size)
    (A : Option Addr) (n cp : Nat) (l : List Int) (hx : a.eval x = .slice A n cp) (hS : Ivs w A n l) (hA : A = none → cp = 0) (hn : l0.length + n ≤ 1000000000)
    (h : ∀ v' w', IvRow w' base v' (l0 ++ l) → w.grownBy w' v0.ownBlock → wpList Tryz.prog ops Q rest (a.put o.dst v') w') : wpList Tryz.prog ops Q (o :: rest) a w :=
  wpList_plain hgd fun _ hK => wp_append_ivs s x ho base v0 l0 hs hown hbase A n cp l hx hS hA hn fun v' w' h2 h3 => hK _ _ (h v' w' h2 h3)
/-- append of what is read onto a row that is newer than U, as a step -/
theorem step_ivsB {U w : World} {ops : Array Oper} {o : Oper} {a : Act} {K : Act → World → Prop} {Q : Exit → Act → World → Prop} {E : Prop} (hU : Below U.heap.size U w) (hgd : o.guard = none) (s x : Operand)
    (ho : o.op = .call { callee := .builtin .append, args := #[s, x], argTypes := #[31, 31] })
    (v0 : Value) (l0 : List Int) (hs : a.eval s = v0) (hown : IvRow w U.heap.size v0 l0)
    (A : Option Addr) (n cp : Nat) (l : List Int) (hx : a.eval x = .slice A n cp) (hS : Ivs w A n l) (hA : A = none → cp = 0) (hn : l0.length + n ≤ 1000000000)
    (h : ∀ v' w', IvRow w' U.heap.size v' (l0 ++ l) → Below U.heap.size U w' → w.heap.size ≤ w'.heap.size → (∀ g, g < w.heap.size → some g ≠ v0.ownBlock → w'.heap[g]? = w.heap[g]?) → K (a.put o.dst v') w') :
    if Region.wanted o (yielded ops a.tmps) = true then Oper.wp Tryz.prog o a w K Q else E := by
  have hw : Region.wanted o (yielded ops a.tmps) = true := by simp [Region.wanted, hgd]
  rw [if_pos hw]
  exact wp_append_ivs s x ho U.heap.size v0 l0 hs hown hU.size A n cp l hx hS hA hn fun v' w' h1 h2 => h v' w' h1 (hU.grown h2 hU.size fun k hk => (World.ownsRow.lt hown k hk).1) h2.size h2.block
theorem ivs_new1 (w : World) (x : Int) : Ivs (w.alloc (.cells #[.int .i64 x] 3)) (some ⟨w.heap.size, 0, none⟩) 1 [x] := by
  refine ⟨rfl, fun k hk => ⟨w.heap.size, 0, rfl, by simp, ?_⟩⟩
  have e : k = 0 := by simpa using hk
  subst e
  go_simp
theorem ivs_kept {w w' : World} {g o n : Nat} {l : List Int} (h : Ivs w (some ⟨g, o, none⟩) n l) (hk : w'.heap[g]? = w.heap[g]?) (hs : w.heap.size ≤ w'.heap.size) : Ivs w' (some ⟨g, o, none⟩) n l :=
  ⟨h.1, fun k hk' => by
    obtain ⟨b, o', e, hb, c0⟩ := h.2 k hk'
    injection e with e
    injection e with e1 e2 e3
    subst e1; subst e2
    exact ⟨g, o, rfl, by omega, (World.cell?_of_block (a := ⟨g, _, none⟩) hk).trans c0⟩⟩
end Go.Proofs.YtddnnhfffmhpmaaGreatDoor

/- Rows of one's own, of whatever elements: an element more; what stands in them. -/
namespace Go.Proofs.YtddnnhfffmhpmaaGreatDoor
open Go.RowKit

structure RowTy (e T : TypeId) (z : Value) (size bytes : Nat) : Prop where
  info : (Tryz.prog.info? e).map (fun i => (i.zero, i.size, i.bytes)) = some (some z, size, bytes)
  sl : Tryz.prog.underlying T = some (.slice e)
  zs : z.cells.size = size
  pos : 0 < size
  few : bytes ≤ 1000
theorem wpList_append_one {w : World} {ops : Array Oper} {rest : List Oper} {o : Oper} {a : Act} {Q : Exit → Act → World → Prop} {e T : TypeId} {z : Value} {size bytes : Nat} (ty : RowTy e T z size bytes) (hgd : o.guard = none) (s x : Operand)
    (ho : o.op = .call { callee := .builtin .append, args := #[s, x], argTypes := #[T, T] })
    (base : Nat) (v : Value) (n : Nat) (xs : List Value) (hs : a.eval s = v) (hown : w.ownsRow base e size v n xs)
    (g c : Nat) (news : List Value) (hx : a.eval x = .slice (some ⟨g, 0, none⟩) 1 c) (hl : news.length = size) (hc : ∀ j u, news[j]? = some u → w.cell? ⟨g, j, none⟩ = some u) (h1 : ∀ u ∈ news, u.oneCell' = true) (hbase : base ≤ w.heap.size) (hn : n ≤ 1000000000)
    (h : ∀ v' w', w'.ownsRow base e size v' (n + 1) (xs ++ news) → w.grownBy w' v.ownBlock → (v' = .slice none 0 0 ↔ v = .slice none 0 0 ∧ 1 = 0) → wpList Tryz.prog ops Q rest (a.put o.dst v') w') : wpList Tryz.prog ops Q (o :: rest) a w := by
  obtain ⟨i0, hi, hz0, hz1, hz2⟩ := info_parts ty.info
  refine wpList_append_own w hgd s x T ho base e i0 _ size bytes ty.sl hi hz0 hz1 hz2 ty.zs ty.pos _ _ _ hs hown ⟨g, 0, none⟩ 1 c news hx (by omega) (fun j u hu => ?_) h1 (by simp [maxLen]; omega) ?_ hbase h
  · rw [add_none, Nat.zero_add]
    exact hc j u hu
  · have := ty.few
    calc (n + 1) * bytes ≤ 1000000001 * 1000 := Nat.mul_le_mul (by omega) this
      _ ≤ 140737488355328 := by decide
section
variable {e : TypeId} {size base n : Nat} {w w' : World} {v : Value} {xs : List Value}
theorem row_kept (h : w.ownsRow base e size v n xs) (hk : ∀ g, v.ownBlock = some g → w'.heap[g]? = w.heap[g]?) : w'.ownsRow base e size v n xs := by
  refine ⟨h.1, ?_⟩
  rcases h.2 with hn | ⟨g, cap, cur, rfl, hbg, hgg, rest⟩
  · exact .inl hn
  · exact .inr ⟨g, cap, cur, rfl, hbg, (hk g rfl).trans hgg, rest⟩
theorem row_later (h : w.ownsRow base e size v n xs) (hb : Below w.heap.size w w') : w'.ownsRow base e size v n xs := row_kept h fun g hg => hb.block g (World.ownsRow.lt h g hg).2
theorem row_turned {S : Nat → Prop} (h : w.ownsRow base e size v n xs) (hT : Turned S w w') (hS : ∀ g, v.ownBlock = some g → ¬ S g) : w'.ownsRow base e size v n xs := row_kept h fun g hg => hT.block g (World.ownsRow.lt h g hg).2 (hS g hg)
theorem row_form (h : w.ownsRow base e size v n xs) : (v = .slice none 0 0 ∧ n = 0) ∨ ∃ g cap, v = .slice (some ⟨g, 0, none⟩) n cap ∧ n ≤ cap ∧ base ≤ g ∧ g < w.heap.size ∧ ∀ j u, xs[j]? = some u → w.cell? ⟨g, j, none⟩ = some u := by
  have h0 := h
  rcases h.2 with ⟨rfl, hn⟩ | ⟨g, cap, cur, rfl, hbg, hgg, hnc, rest⟩
  · exact .inl ⟨rfl, hn⟩
  · refine .inr ⟨g, cap, rfl, by omega, hbg, (Array.getElem?_eq_some_iff.1 hgg).1, fun j u hu => ?_⟩
    have := World.ownsRow.cells h0 (g := g) rfl j u hu
    rw [add_none, Nat.zero_add] at this
    exact this
theorem row_blk (h : w.ownsRow base e size v n xs) {k : Nat} (hk : v.ownBlock = some k) : ∃ cur, w.heap[k]? = some (.cells cur e (0, 0)) := by
  rcases h.2 with ⟨rfl, _⟩ | ⟨g, cap, cur, rfl, _, hgg, _⟩
  · cases hk
  · have : g = k := by simpa [Value.ownBlock] using hk
    rw [← this]
    exact ⟨cur, hgg⟩
theorem rows_apart {e' : TypeId} {size' base' n' : Nat} {v' : Value} {xs' : List Value} (h : w.ownsRow base e size v n xs) (h' : w.ownsRow base' e' size' v' n' xs') (hne : e ≠ e') {k : Nat} (hk : v.ownBlock = some k) : v'.ownBlock ≠ some k := fun hk' => by
  obtain ⟨c1, h1⟩ := row_blk h hk
  obtain ⟨c2, h2⟩ := row_blk h' hk'
  rw [h1] at h2
  injection h2 with h2
  injection h2 with _ h2
  exact hne h2
theorem row_off (h : w.ownsRow base e size v n xs) {r : Option Nat} (hg : w.grownBy w' r) (hr : ∀ k, v.ownBlock = some k → r ≠ some k) : w'.ownsRow base e size v n xs := row_kept h fun k hk => hg.block k (World.ownsRow.lt h k hk).2 (fun e => hr k hk e.symm)
theorem row_shape (h : w.ownsRow base e size v n xs) : ∃ A cap, v = .slice A n cap := by
  rcases row_form h with ⟨rfl, hn⟩ | ⟨g, cap, rfl, _⟩
  · exact ⟨none, 0, by rw [hn]⟩
  · exact ⟨_, _, rfl⟩
end
end Go.Proofs.YtddnnhfffmhpmaaGreatDoor
