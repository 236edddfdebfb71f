
/- Offer: whatever is offered, whatever is kept. A new bound. -/
import Derived.Test.YtjdlocmchmeipaaTopG
namespace Go.Proofs.Ytjdlocmchmeipaa
open Go.RowKit

/-- is p kept, where h is kept of k? -/
def keptB (k : Nat) (h : List (Int × Int)) (p : Int × Int) : Bool := decide (h.length < k) || (decide (0 < k) && TopM.bet p (TopM.at_ h 0))
/-- a bound of k that was offered all of l stands at t -/
def OffAt (w : World) (base t k : Nat) (v : Value) (l : List (Int × Int)) : Prop := ∃ h, TopAt w base t k v h ∧ TopM.Bnd k l h
theorem offer_any (base t k : Nat) (v : Value) (l h : List (Int × Int)) (p : Int × Int) (w : World) (hx : TopAt w base t k v h) (hb : TopM.Bnd k l h) (hl : l.length ≤ 1000000) :
    Calls Try.prog 35 #[.pointer (some ⟨t, 0, none⟩), sv p] w fun e w' => e = .returned (.bool (keptB k h p)) ∧ ∃ v' h', TopAt w' base t k v' h' ∧ TopM.Bnd k (l ++ [p]) h' ∧ Only (own2 t v) w w' ∧ ∀ b, v'.ownBlock = some b → v.ownBlock = some b ∨ w.heap.size ≤ b := by
  have hlen := TopM.bnd_len hb
  by_cases h1 : h.length < k
  · have hk : keptB k h p = true := by unfold keptB; simp [h1]
    rw [hk]
    refine (offer_room base t k v h p w hx hb.1 (by omega) h1).mono ?_
    rintro e w' ⟨rfl, v', h', x', hh', hp', o', hv'⟩
    exact ⟨rfl, v', h', x', TopM.bnd_room hb h1 hh' hp', o', hv'⟩
  · by_cases h0 : k = 0
    · subst h0
      have hk : keptB 0 h p = false := by unfold keptB; simp
      rw [hk]
      refine (offer_none base t v h p w hx).mono ?_
      rintro e w' ⟨rfl, b'⟩
      exact ⟨rfl, v, h, hx.later b', TopM.bnd_keep hb (by omega) (.inl rfl), Only.of_below _ b', fun b hb => .inl hb⟩
    · cases hbt : TopM.bet p (TopM.at_ h 0) with
      | false =>
        have hk : keptB k h p = false := by unfold keptB; simp [h1, hbt]
        rw [hk]
        refine (offer_no base t k v h p w hx (by omega) (by omega) hbt).mono ?_
        rintro e w' ⟨rfl, b'⟩
        exact ⟨rfl, v, h, hx.later b', TopM.bnd_keep hb (by omega) (.inr hbt), Only.of_below _ b', fun b hb => .inl hb⟩
      | true =>
        have hk : keptB k h p = true := by unfold keptB; simp [hbt]; omega
        rw [hk]
        refine (offer_yes base t k v h p w hx (by omega) (by omega) hb.1 (by omega) hbt).mono ?_
        rintro e w' ⟨rfl, h', x', hh', hp', o'⟩
        exact ⟨rfl, v, h', x', TopM.bnd_turn hb (by omega) (by omega) hbt hh' hp', o', fun b hb => .inl hb⟩

theorem run_equalIn_func_nil {P : Program} (w : World) (d : Nat) (t : TypeId) {ps rs : Array TypeId} {vr : Bool} (f : Fn) (a c : Array Value) (h : P.underlying t = some (.func ps rs vr)) : (Op.equalIn (d + 1) t (.func f a c) .nilFunc).run P w = .ok false w := by
  simp [Op.equalIn, run_underlying h]
theorem run_equal_func_nil {P : Program} (w : World) (t : TypeId) {ps rs : Array TypeId} {vr : Bool} (f : Fn) (a c : Array Value) (h : P.underlying t = some (.func ps rs vr)) : (Op.equal t (.func f a c) .nilFunc).run P w = .ok false w := run_equalIn_func_nil w 9999 t f a c h
theorem run_eql_func_nil {P : Program} (w : World) (t : TypeId) {ps rs : Array TypeId} {vr : Bool} (f : Fn) (a c : Array Value) (h : P.underlying t = some (.func ps rs vr)) : (binOp .eql t (.func f a c) .nilFunc).run P w = .ok (.bool false) w := by
  simp only [binOp]
  simp [run_equal_func_nil w t f a c h]
theorem not_nil (w : World) : (binOp .eql 78 (.func (.func 32) #[] #[]) .nilFunc).run Try.prog w = .ok (.bool false) w := run_eql_func_nil w _ _ _ _ Try.underlying78
set_option maxHeartbeats 1000000 in
set_option maxRecDepth 100000 in
theorem new_any (k : Int) (w : World) (hk : k ≤ 9223372036854775807) :
    Calls Try.prog 31 #[.int .i64 k, .func (.func 32) #[] #[]] w fun e w' => e = .returned (.pointer (some ⟨w.heap.size, 0, none⟩)) ∧ TopAt w' w.heap.size w.heap.size k.toNat (.slice none 0 0) [] ∧ Below w.heap.size w w' := by
  have hq := not_nil
  by_cases h0 : k < 0
  · have hd : decide (k < 0) = true := decide_eq_true h0
    have e0 : k.toNat = 0 := by omega
    rw [e0]
    clear e0
    go_enter Try.func31, Try.ntmps31
    go_wp2
    go_ret
    exact ⟨rfl, ⟨Nat.le_refl _, heap_alloc_new w _, PairRow.nil_ _ _⟩, (Below.refl _ w).alloc (Nat.le_refl _) _⟩
  · obtain ⟨m, rfl⟩ : ∃ m : Nat, k = (m : Int) := ⟨k.toNat, by omega⟩
    have hd : decide ((m : Int) < 0) = false := decide_eq_false h0
    rw [Int.toNat_natCast]
    go_enter Try.func31, Try.ntmps31
    go_wp2
    go_ret
    exact ⟨rfl, ⟨Nat.le_refl _, heap_alloc_new w _, PairRow.nil_ _ _⟩, (Below.refl _ w).alloc (Nat.le_refl _) _⟩
end Go.Proofs.Ytjdlocmchmeipaa
