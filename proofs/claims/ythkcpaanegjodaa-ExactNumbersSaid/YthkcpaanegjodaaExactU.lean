
/- The document's rows of bits: how they are read and written; bit, trim, word. -/
import Derived.Test.YthkcpaanegjodaaExactA
import Derived.Test.YthkcpaanegjodaaExactOps
import Derived.Laws.AppendOwnNone
import Derived.Laws.OwnMore
namespace Go.Proofs.Ythkcpaanegjodaa
open Go.RowKit

/-- the slice v reads as the bits l -/
def Rd (w : World) (v : Value) (l : List Bool) : Prop :=
  ∃ A cp, v = .slice A l.length cp ∧ l.length ≤ cp ∧ (A = none → cp = 0) ∧ ∀ b o s, A = some ⟨b, o, s⟩ → s = none ∧ b < w.heap.size ∧ ∀ k (h : k < l.length), w.cell? ⟨b, o + k, none⟩ = some (.bool l[k])
theorem Rd.below {w w' : World} {v : Value} {l : List Bool} (h : Rd w v l) (hb : Below w.heap.size w w') : Rd w' v l := by
  obtain ⟨A, cp, e, hc, hn, hs⟩ := h
  refine ⟨A, cp, e, hc, hn, fun b o s hA => ?_⟩
  obtain ⟨h1, h2, h3⟩ := hs b o s hA
  exact ⟨h1, Nat.lt_of_lt_of_le h2 hb.size, fun k hk => (hb.cell (p := ⟨b, o + k, none⟩) h2).trans (h3 k hk)⟩
/-- one's own row of bits -/
def BoolRow (w : World) (base : Nat) (v : Value) (l : List Bool) : Prop := w.ownsRow base 4 1 v l.length (l.map Value.bool)
theorem BoolRow.nil_ (w : World) (base : Nat) : BoolRow w base (.slice none 0 0) [] := World.ownsRow_nil _ _ _ _
theorem BoolRow.later {w w' : World} {base : Nat} {v : Value} {l : List Bool} (h : BoolRow w base v l) (hb : Below w.heap.size w w') : BoolRow w' base v l := by
  refine ⟨h.1, ?_⟩
  rcases h.2 with hn | ⟨g, cap, cur, rfl, hbg, hgg, rest⟩
  · exact .inl hn
  · exact .inr ⟨g, cap, cur, rfl, hbg, (hb.block g (World.ownsRow.lt h g rfl).2).trans hgg, rest⟩
theorem bool_info : (Try.prog.info? 4).map (fun i => (i.zero, i.size, i.bytes)) = some (some (.bool false), 1, 1) := by kernel_rfl
theorem BoolRow.rd {w : World} {base : Nat} {v : Value} {l : List Bool} (h : BoolRow w base v l) : Rd w v l := by
  rcases h.2 with ⟨rfl, hn⟩ | ⟨g, cap, cur, rfl, hbg, hgg, h1, h2, h3, h4⟩
  · have hl0 : l = [] := List.eq_nil_of_length_eq_zero hn
    subst hl0
    exact ⟨none, 0, rfl, Nat.le_refl _, fun _ => rfl, fun b o s hA => by cases hA⟩
  · refine ⟨some ⟨g, 0, none⟩, cap, rfl, by omega, (fun e => by cases e), fun b o s hA => ?_⟩
    injection hA with hA
    injection hA with e1 e2 e3
    subst e1; subst e2; subst e3
    refine ⟨rfl, (Array.getElem?_eq_some_iff.1 hgg).1, fun k hk => ?_⟩
    have := World.ownsRow.cells h (g := g) rfl k (.bool l[k]) (by simp [hk])
    rw [add_none] at this
    exact this
/-- append of one bit onto one's own row -/
theorem wpList_append_bool {w : World} {ops : Array Oper} {rest : List Oper} {o : Oper} {a : Act} {Q : Exit → Act → World → Prop} (hgd : o.guard = none) (s x : Operand)
    (ho : o.op = .call { callee := .builtin .append, args := #[s, x], argTypes := #[27, 27] })
    (base : Nat) (v : Value) (l : List Bool) (hs : a.eval s = v) (hown : BoolRow w base v l)
    (g c : Nat) (b : Bool) (hx : a.eval x = .slice (some ⟨g, 0, none⟩) 1 c) (hc : w.cell? ⟨g, 0, none⟩ = some (.bool b)) (hbase : base ≤ w.heap.size) (hn : l.length ≤ 1000000000)
    (h : ∀ v' w', BoolRow w' base v' (l ++ [b]) → Below base w w' → wpList Try.prog ops Q rest (a.put o.dst v') w') : wpList Try.prog ops Q (o :: rest) a w := by
  obtain ⟨i0, hi, hz0, hz1, hz2⟩ := info_parts bool_info
  refine wpList_append_own w hgd s x 27 ho base 4 i0 _ 1 1 Try.underlying27 hi hz0 hz1 hz2 rfl (by omega) _ _ _ hs hown ⟨g, 0, none⟩ 1 c [.bool b] hx rfl (fun j u hu => ?_) (fun u hu => ?_) (by simp [maxLen]; omega) (by omega) hbase ?_
  · match j, hu with
    | 0, hu => simp at hu; subst hu; rw [add_none]; exact hc
  · simp at hu; subst hu; rfl
  · intro v' w' hown' hg' hiff
    have hb : Below base w w' := (Below.refl _ _).grown hg' hbase (fun k hk => (World.ownsRow.lt hown k hk).1)
    refine h v' w' ?_ hb
    unfold BoolRow
    rw [List.length_append, List.map_append]
    exact hown'

set_option maxHeartbeats 400000 in
set_option maxRecDepth 100000 in
theorem bit_any (v : Value) (l : List Bool) (i : Nat) (w : World) (h : Rd w v l) :
    Calls Try.prog 79 #[v, .int .i64 i] w fun e w' => e = .returned (.int .i64 (ExactM.bitN l i : Int)) ∧ w = w' := by
  obtain ⟨A, cp, rfl, hcp, hnil, hs⟩ := h
  by_cases hlt : i < l.length
  · have hb : ExactM.bitN l i = (l[i]).toNat := by unfold ExactM.bitN; rw [List.getD_eq_getElem?_getD, List.getElem?_eq_getElem hlt]; rfl
    rw [hb]
    have hA : ∃ b o, A = some ⟨b, o, none⟩ := by
      cases A with
      | none => have := hnil rfl; omega
      | some a => obtain ⟨b, o, s⟩ := a; have := (hs b o s rfl).1; subst this; exact ⟨b, o, rfl⟩
    obtain ⟨b, o, rfl⟩ := hA
    have c0 := (hs b o none rfl).2.2 i hlt
    obtain ⟨x, hx⟩ : ∃ x, x = l[i] := ⟨_, rfl⟩
    obtain ⟨n, hn⟩ : ∃ n, n = l.length := ⟨_, rfl⟩
    rw [← hx] at c0 ⊢
    rw [← hn] at hcp
    have hlt' : i < n := by omega
    have hd : decide ((i : Int) < (n : Int)) = true := decide_eq_true (by omega)
    rw [← hn]
    clear hs hb hx hn hnil hlt
    cases x with
    | true =>
      go_enter Try.func79, Try.ntmps79
      go_wp2
      go_ret
      exact ⟨rfl, rfl⟩
    | false =>
      go_enter Try.func79, Try.ntmps79
      go_wp2
      go_ret
      exact ⟨rfl, rfl⟩
  · have hb : ExactM.bitN l i = 0 := by unfold ExactM.bitN; rw [List.getD_eq_getElem?_getD, List.getElem?_eq_none (by omega)]; rfl
    rw [hb]
    obtain ⟨n, hn⟩ : ∃ n, n = l.length := ⟨_, rfl⟩
    rw [← hn]
    have hd : decide ((i : Int) < (n : Int)) = false := decide_eq_false (by omega)
    have hd2 : decide (i < n) = false := decide_eq_false (by omega)
    clear hs hb hn hnil hlt hcp
    go_enter Try.func79, Try.ntmps79
    go_wp2
    go_ret
    exact ⟨rfl, rfl⟩

theorem Rd.len {w : World} {v : Value} {l : List Bool} (h : Rd w v l) : ∃ A cp, v = .slice A l.length cp := by
  obtain ⟨A, cp, e, _⟩ := h
  exact ⟨A, cp, e⟩
/-- the beginning of what was read -/
theorem Rd.take {w : World} {A : Option Addr} {n cp : Nat} {l : List Bool} (h : Rd w (.slice A n cp) l) (k : Nat) (hk : k ≤ l.length) : Rd w (.slice A k cp) (l.take k) := by
  obtain ⟨A', cp', e, hc, hn, hs⟩ := h
  injection e with e1 e2 e3
  subst e1; subst e3
  refine ⟨A, cp, by rw [List.length_take, Nat.min_eq_left hk], by rw [List.length_take]; omega, hn, fun b o s hA => ?_⟩
  obtain ⟨h1, h2, h3⟩ := hs b o s hA
  refine ⟨h1, h2, fun j hj => ?_⟩
  rw [List.length_take] at hj
  rw [h3 j (by omega), List.getElem_take]
set_option maxHeartbeats 400000 in
set_option maxRecDepth 100000 in
theorem trim_any (v : Value) (l : List Bool) (w : World) (hl : l.length ≤ 1000000) (h : Rd w v l) :
    Calls Try.prog 80 #[v] w fun e w' => (∃ v', e = .returned v' ∧ Rd w v' (ExactM.ofN (ExactM.val l)) ∧ v'.ownBlock = v.ownBlock) ∧ w = w' := by
  have hR := h
  obtain ⟨A, cp, rfl, hcp, hnil, hs⟩ := h
  obtain ⟨n, hn⟩ : ∃ n, n = l.length := ⟨_, rfl⟩
  rw [← hn] at hl hcp hR ⊢
  have HN := Lib.hid hn
  clear hn
  go_enter Try.func80, Try.ntmps80
  go_wp2
  go_loop [3] (fun x => ∃ k : Nat, x = .int .i64 k ∧ k ≤ n ∧ ∀ i, k ≤ i → i < l.length → l.getD i false = false) (fun x => (intOf x).toNat)
  case atStart => exact ⟨n, rfl, Nat.le_refl _, fun i h1 h2 => by rw [← HN.out] at h2; omega⟩
  case round =>
    obtain ⟨k, rfl, hk, hz⟩ := hrel
    have HZ := Lib.hid hz
    clear hz
    by_cases h0 : k = 0
    · subst h0
      have ht := ExactM.trim_is l 0 (by omega) HZ.out (fun m hm => by omega)
      have hT := hR.take 0 (by omega)
      rw [ht] at hT
      have HT := Lib.hid hT
      clear hT ht hR hs
      have hd : decide ((0 : Int) < ((0 : Nat) : Int)) = false := by simp
      go_wp2
      go_ret
      exact ⟨⟨_, rfl, HT.out, by cases A <;> rfl⟩, rfl⟩
    · obtain ⟨m, rfl⟩ : ∃ m, k = m + 1 := ⟨k - 1, by omega⟩
      have hml : m < l.length := by rw [← HN.out]; omega
      have hA : ∃ b o, A = some ⟨b, o, none⟩ := by
        cases A with
        | none => have := hnil rfl; omega
        | some a => obtain ⟨b, o, s⟩ := a; have := (hs b o s rfl).1; subst this; exact ⟨b, o, rfl⟩
      obtain ⟨b, o, rfl⟩ := hA
      have c0 := (hs b o none rfl).2.2 m hml
      have hg : l.getD m false = l[m] := by rw [List.getD_eq_getElem?_getD, List.getElem?_eq_getElem hml]; rfl
      obtain ⟨x, hx⟩ : ∃ x, x = l[m] := ⟨_, rfl⟩
      rw [← hx] at c0 hg
      have HG := Lib.hid hg
      have hd : decide ((0 : Int) < ((m + 1 : Nat) : Int)) = true := by simp
      have hmn : m < n := by omega
      cases x with
      | true =>
        have ht := ExactM.trim_is l (m + 1) (by omega) HZ.out (fun j hj => by have : j = m := by omega
                                                                              subst this; exact HG.out)
        have hT := hR.take (m + 1) (by omega)
        rw [ht] at hT
        have HT := Lib.hid hT
        clear hT ht hR hs hg hx hml hnil h0
        go_wp2
        go_ret
        exact ⟨⟨_, rfl, HT.out, rfl⟩, rfl⟩
      | false =>
        have HZ2 : Hid (∀ i, m ≤ i → i < l.length → l.getD i false = false) := Lib.hid (fun i h1 h2 => by
          by_cases e : i = m
          · rw [e]; exact HG.out
          · exact HZ.out i (by omega) h2)
        clear hR hs hg hx hml hnil h0
        go_wp2
        go_round
        case rel => exact ⟨m, by go_num, by omega, HZ2.out⟩
        case measure => simp [intOf]
/-- a call's answer: a row that reads as l; nothing that was there has turned -/
def RetRd (l : List Bool) (w : World) (e : Ending) (w' : World) : Prop := ∃ v', e = .returned v' ∧ Rd w' v' l ∧ Below w.heap.size w w' ∧ ∀ b, v'.ownBlock = some b → w.heap.size ≤ b
set_option maxHeartbeats 400000 in
set_option maxRecDepth 100000 in
theorem word_any3 (u : Nat) (w : World) (hu : u < 18446744073709551616) : Calls Try.prog 50 #[.int .u64 u] w (RetRd (ExactM.ofN u) w) := by
  have h64 := ExactM.len_ofN u 64 hu
  go_enter Try.func50, Try.ntmps50
  go_wp2
  go_loopw [0, 3] (fun x y wr => ∃ (k : Nat) (acc : List Bool), x = .int .u64 k ∧ k < 18446744073709551616 ∧ acc ++ ExactM.ofN k = ExactM.ofN u ∧ BoolRow wr w.heap.size y acc ∧ Below w.heap.size w wr) (fun x _ _ => (intOf x).toNat)
  case atStart => exact ⟨u, [], rfl, hu, rfl, BoolRow.nil_ _ _, Below.refl _ _⟩
  case round =>
    clear hu
    obtain ⟨k, acc, rfl, hk, heq, hown, hb⟩ := hrel
    have hlen : acc.length + (ExactM.ofN k).length ≤ 64 := by rw [← List.length_append, heq]; exact h64
    have HE := Lib.hid heq
    have hsz := hb.size
    clear heq h64
    by_cases h0 : k = 0
    · subst h0
      have hd : decide ((0 : Int) < ((0 : Nat) : Int)) = false := by simp
      have HR := Lib.hid hown.rd
      have hfr := fun b hb => (World.ownsRow.lt hown b hb).1
      have HFR := Lib.hid hfr
      clear hown hfr
      go_wp2
      go_ret
      refine ⟨_, rfl, ?_, hb, HFR.out⟩
      rw [← HE.out, ExactM.ofN_zero, List.append_nil]
      exact HR.out
    · have hd : decide ((0 : Int) < (k : Int)) = true := by simp; omega
      obtain ⟨x, hx⟩ : ∃ x, x = (k % 2 == 1) := ⟨_, rfl⟩
      have hxe : ((k : Int) % 2 == 1) = x := by rw [hx, Bool.eq_iff_iff]; simp; omega
      have ho := ExactM.ofN_pos h0
      rw [← hx] at ho
      have HO := Lib.hid ho
      have hal : acc.length ≤ 100000 := by omega
      clear hx ho hlen
      go_wp2_with (at_builtin; refine wpList_append_bool rfl _ _ rfl w.heap.size _ acc rfl (World.ownsRow.alloc hown _) wr.heap.size _ x rfl (by simp) (by simp; omega) (by omega) ?_; intro v' w1 hown' hb1)
      go_wp2
      refine ⟨⟨k / 2, acc ++ [x], by go_num, by omega, ?_, hown', (hb.alloc (by omega) _).trans hb1⟩, by simp [intOf]; omega⟩
      rw [← HE.out, HO.out, List.append_assoc]
      rfl
end Go.Proofs.Ythkcpaanegjodaa
