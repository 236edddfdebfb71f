
/- The document's products of rows of bits. -/
import Derived.Test.YthkcpaanegjodaaExactW
namespace Go.Proofs.Ythkcpaanegjodaa
open Go.RowKit

/-- append of a row that is read onto a new row of one bit -/
theorem wpList_append_row {w : World} {ops : Array Oper} {rest : List Oper} {o : Oper} {a : Act} {Q : Exit → Act → World → Prop} (hgd : o.guard = none) (s x : Operand)
    (ho : o.op = .call { callee := .builtin .append, args := #[s, x], argTypes := #[27, 27] })
    (g base : Nat) (b : Bool) (hs : a.eval s = .slice (some ⟨g, 0, none⟩) 1 1) (hg : w.heap[g]? = some (.cells #[.bool b] 4 (0, 0))) (hbase : base ≤ g)
    (v : Value) (l : List Bool) (hx : a.eval x = v) (hR : Rd w v l) (hn : l.length ≤ 1000000)
    (h : ∀ v' w', BoolRow w' base v' (b :: l) → Below base w w' → wpList Try.prog ops Q rest (a.put o.dst v') w') : wpList Try.prog ops Q (o :: rest) a w := by
  obtain ⟨i0, hi, hz0, hz1, hz2⟩ := info_parts bool_info
  have hgl : g < w.heap.size := (Array.getElem?_eq_some_iff.1 hg).1
  have hown : w.ownsRow base 4 1 (.slice (some ⟨g, 0, none⟩) 1 1) 1 [.bool b] := ⟨rfl, .inr ⟨g, 1, #[.bool b], rfl, hbase, hg, Nat.le_refl _, by simp [maxLen], rfl, rfl⟩⟩
  obtain ⟨A, cp, rfl, hcp, hnil, hA⟩ := hR
  rcases A with _ | ad
  · have hc0 := hnil rfl
    have hl0 : l = [] := List.eq_nil_of_length_eq_zero (by omega)
    subst hc0
    subst hl0
    exact wpList_append_own_none hgd s x 27 ho base 4 i0 1 Try.underlying27 hi _ 1 [.bool b] hs hown hx (h _ w hown (Below.refl _ _))
  · obtain ⟨ab, ao, at'⟩ := ad
    obtain ⟨e1, e2, e3⟩ := hA ab ao at' rfl
    subst e1
    refine wpList_append_own w hgd s x 27 ho base 4 i0 _ 1 1 Try.underlying27 hi hz0 hz1 hz2 rfl (by omega) _ 1 [.bool b] hs hown ⟨ab, ao, none⟩ l.length cp (l.map Value.bool) hx (by simp) (fun j u hu => ?_) (fun u hu => ?_) (by simp [maxLen]; omega) (by omega) (by omega) ?_
    · have hj : j < l.length := by
        have := (List.getElem?_eq_some_iff.1 hu).1
        simpa using this
      rw [add_none, e3 j hj]
      simpa [hj] using hu
    · simp only [List.mem_map] at hu
      obtain ⟨t, _, rfl⟩ := hu
      rfl
    · intro v' w' hown' hg' _
      have hb : Below base w w' := (Below.refl _ _).grown hg' (by omega) (fun k hk => (World.ownsRow.lt hown k hk).1)
      refine h v' w' ?_ hb
      unfold BoolRow
      rw [List.length_cons, Nat.add_comm, List.map_cons]
      exact hown'
theorem len_double (P : Nat) : (ExactM.ofN (2 * P)).length ≤ (ExactM.ofN P).length + 1 := by
  apply ExactM.len_ofN
  have h1 := ExactM.val_lt (ExactM.ofN P)
  rw [ExactM.val_ofN] at h1
  rw [Nat.pow_succ]
  omega
theorem len_prod (a b : List Bool) (k : Nat) : (ExactM.ofN (ExactM.val a * ExactM.val (b.drop k))).length ≤ a.length + b.length := by
  apply ExactM.len_ofN
  have h1 := ExactM.val_lt a
  have h2 := ExactM.val_lt (b.drop k)
  have h3 : 2 ^ (b.drop k).length ≤ 2 ^ b.length := Nat.pow_le_pow_right (by decide) (by simp)
  rw [Nat.pow_add]
  exact Nat.mul_lt_mul_of_lt_of_le h1 (by omega) (Nat.two_pow_pos _)

set_option maxHeartbeats 2000000 in
set_option maxRecDepth 100000 in
theorem rtimes_any (va vb : Value) (a b : List Bool) (w : World) (ha : a.length ≤ 200) (hb : b.length ≤ 200) (hA : Rd w va a) (hB : Rd w vb b) :
    Calls Try.prog 54 #[va, vb] w (RetRd (ExactM.ofN (ExactM.val a * ExactM.val b)) w) := by
  obtain ⟨A, ca, ea⟩ := hA.len
  obtain ⟨B, cb, eb⟩ := hB.len
  obtain ⟨n, hn⟩ : ∃ m, m = b.length := ⟨_, rfl⟩
  rw [← hn] at eb hb
  have HN := Lib.hid hn
  subst eb
  clear ea hn A ca
  go_enter Try.func54, Try.ntmps54
  go_wp2
  go_loopw [5, 6] (fun y i wr => ∃ k : Nat, i = .int .i64 ((k : Int) - 1) ∧ k ≤ n ∧ Rd wr y (ExactM.ofN (ExactM.val a * ExactM.val (b.drop k))) ∧ Below w.heap.size w wr ∧ ∀ b, y.ownBlock = some b → w.heap.size ≤ b) (fun _ i _ => (intOf i + 1).toNat)
  case atStart => exact ⟨n, rfl, Nat.le_refl _, by rw [List.drop_of_length_le (by rw [← HN.out]; exact Nat.le_refl _)]; rw [ExactM.val, Nat.mul_zero, ExactM.ofN_zero]; exact (BoolRow.nil_ w 0).rd, Below.refl _ _, fun b hb => by cases hb⟩
  case round =>
    obtain ⟨k, rfl, hk, hR, hbw, hfr⟩ := hrel
    have HFR := Lib.hid hfr
    clear hfr
    have hsz := hbw.size
    by_cases h0 : k = 0
    · subst h0
      rw [List.drop_zero] at hR
      have HR := Lib.hid hR
      clear hR
      go_wp2
      go_ret
      exact ⟨_, rfl, HR.out, hbw, HFR.out⟩
    · obtain ⟨j, rfl⟩ : ∃ j, k = j + 1 := ⟨k - 1, by omega⟩
      have jb : j < b.length := by rw [← HN.out]; omega
      have hst := ExactM.times_step (ExactM.val a) b j jb
      have hpl := len_prod a b (j + 1)
      have hpl2 := len_prod a b j
      obtain ⟨P, hP⟩ : ∃ P, P = ExactM.val a * ExactM.val (b.drop (j + 1)) := ⟨_, rfl⟩
      obtain ⟨P2, hP2⟩ : ∃ P, P = ExactM.val a * ExactM.val (b.drop j) := ⟨_, rfl⟩
      rw [← hP] at hst hpl hR
      rw [← hP2] at hst hpl2
      rw [← HN.out] at hpl hpl2
      have HP2 := Lib.hid hP2
      have HST := Lib.hid hst
      have hsh := ExactM.shift_is false P
      simp only [Bool.toNat_false, Nat.zero_add] at hsh
      have HSH := Lib.hid hsh
      obtain ⟨b2, o2, rfl, _⟩ := hB.at_ jb hbw
      have hcell := fun w' (hx : Below w.heap.size w w') => hB.at_ jb hx
      obtain ⟨y, hy⟩ : ∃ x, x = b[j] := ⟨_, rfl⟩
      have HY := Lib.hid hy
      have hjn : j < n := by omega
      rw [show ((j + 1 : Nat) : Int) - 1 = (j : Int) by omega]
      clear hst hsh hP hP2 hy h0
      go_wp2_with (at_builtin; refine wpList_append_row rfl _ _ rfl wr.heap.size w.heap.size false rfl (heap_alloc_new wr _) hsz _ (ExactM.ofN P) rfl (hR.below (bl1 _ _)) (by omega) ?_; intro v' w1 hown' hb1)
      have hbw1 : Below w.heap.size w w1 := (hbw.alloc (by omega) _).trans hb1
      have hT := trim_any v' (false :: ExactM.ofN P) w1 (by simp; omega) hown'.rd
      rw [HSH.out] at hT
      refine hT.mono ?_
      rintro e w' ⟨⟨v2, rfl, hR2, hob⟩, rfl⟩
      have hfr2 := fun b hb => (World.ownsRow.lt hown' b (hob.symm.trans hb)).1
      have HFR2 := Lib.hid hfr2
      clear hfr2 hob
      obtain ⟨b3, o3, e3, c3⟩ := hcell w1 hbw1
      injection e3 with e3
      injection e3 with e4 e5
      subst e4; subst e5
      rw [← HY.out] at c3
      have hS := HST.out
      rw [← HY.out] at hS
      have HR2 := Lib.hid hR2
      have HA := Lib.hid (hA.below hbw1)
      clear hT hR2 hcell hown' hb1 hR
      cases y with
      | false =>
        simp at hS
        have HS := Lib.hid hS
        clear hS
        go_wp2
        go_roundw
        case rel => exact ⟨j, rfl, by omega, by rw [← HP2.out, HS.out]; exact HR2.out, hbw1, HFR2.out⟩
        case measure => simp [intOf]
      | true =>
        simp at hS
        have HS := Lib.hid hS
        clear hS
        have hpp := rplus_any v2 va (ExactM.ofN (2 * P)) a w1 (by have := len_double P; omega) (by omega) HR2.out HA.out
        rw [ExactM.val_ofN, ← HS.out] at hpp
        go_wp2_with fail
        refine hpp.mono ?_
        rintro e w2 ⟨v3, rfl, hR3, hb3, hfr3⟩
        have HFR3 : Hid (∀ b, v3.ownBlock = some b → w.heap.size ≤ b) := Lib.hid (fun b hb => Nat.le_trans hbw1.size (hfr3 b hb))
        clear hfr3
        have HR3 := Lib.hid hR3
        have hbw2 := hbw1.trans (hb3.mono hbw1.size)
        clear hR3 hpp hb3
        go_wp2
        go_roundw
        case rel => exact ⟨j, rfl, by omega, by rw [← HP2.out]; exact HR3.out, hbw2, HFR3.out⟩
        case measure => simp [intOf]
end Go.Proofs.Ythkcpaanegjodaa
