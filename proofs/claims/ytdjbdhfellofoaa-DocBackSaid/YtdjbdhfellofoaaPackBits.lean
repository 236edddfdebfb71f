
/- Rows of numbers of w bits each, packed, as plain lists: what is written, what is read, there and back. Nothing of the program. -/
import Derived.Test.YtdjbdhfellofoaaPackMath
namespace PackM

/-- the bits of a number, the lowest first -/
def bitsN (w v : Nat) : List Nat := (List.range w).map fun i => v / 2 ^ i % 2
def allBits (w : Nat) (ns : List Nat) : List Nat := (ns.map (bitsN w)).flatten
/-- byte j of a row of bits -/
def byt (B : List Nat) (j : Nat) : Nat :=
  B.getD (8 * j) 0 + 2 * B.getD (8 * j + 1) 0 + 4 * B.getD (8 * j + 2) 0 + 8 * B.getD (8 * j + 3) 0 + 16 * B.getD (8 * j + 4) 0 + 32 * B.getD (8 * j + 5) 0 + 64 * B.getD (8 * j + 6) 0 + 128 * B.getD (8 * j + 7) 0
def packed (B : List Nat) (L : Nat) : List UInt8 := (List.range L).map fun j => UInt8.ofNat (byt B j)
theorem packed_length (B : List Nat) (L : Nat) : (packed B L).length = L := by simp [packed]

def Bits (B : List Nat) : Prop := ∀ x ∈ B, x ≤ 1
theorem Bits.getD {B : List Nat} (h : Bits B) (q : Nat) : B.getD q 0 ≤ 1 := by
  rw [List.getD_eq_getElem?_getD]
  by_cases hq : q < B.length
  · rw [List.getElem?_eq_getElem hq]; exact h _ (List.getElem_mem hq)
  · rw [List.getElem?_eq_none (by omega)]; simp
theorem bitsN_ok (w v : Nat) : Bits (bitsN w v) := by
  intro x hx
  simp only [bitsN, List.mem_map] at hx
  obtain ⟨i, _, rfl⟩ := hx
  omega
theorem allBits_ok (w : Nat) (ns : List Nat) : Bits (allBits w ns) := by
  intro x hx
  simp only [allBits, List.mem_flatten, List.mem_map] at hx
  obtain ⟨l, ⟨v, _, rfl⟩, hx⟩ := hx
  exact bitsN_ok w v x hx
theorem allBits_length (w : Nat) (ns : List Nat) : (allBits w ns).length = ns.length * w := by
  induction ns with
  | nil => simp [allBits]
  | cons v t ih =>
    have : allBits w (v :: t) = bitsN w v ++ allBits w t := by simp [allBits]
    rw [this, List.length_append, ih, List.length_cons, Nat.succ_mul, Nat.add_comm]
    simp [bitsN]
theorem allBits_cons (w v : Nat) (t : List Nat) : allBits w (v :: t) = bitsN w v ++ allBits w t := by simp [allBits]
theorem allBits_snoc (w v : Nat) (t : List Nat) : allBits w (t ++ [v]) = allBits w t ++ bitsN w v := by simp [allBits]
theorem bitsN_succ (w v : Nat) : bitsN (w + 1) v = bitsN w v ++ [v / 2 ^ w % 2] := by simp [bitsN, List.range_succ]
theorem bitsN_length (w v : Nat) : (bitsN w v).length = w := by simp [bitsN]
theorem bitsN_getD (w v i : Nat) (h : i < w) : (bitsN w v).getD i 0 = v / 2 ^ i % 2 := by
  rw [List.getD_eq_getElem?_getD]; simp [bitsN, h]
theorem allBits_getD (w : Nat) : ∀ (ns : List Nat) (k i : Nat) (_ : k < ns.length) (_ : i < w), (allBits w ns).getD (k * w + i) 0 = ns[k] / 2 ^ i % 2
  | v :: t, 0, i, hk, hi => by
    rw [allBits_cons, List.getD_eq_getElem?_getD, List.getElem?_append_left (by rw [bitsN_length]; omega), ← List.getD_eq_getElem?_getD, Nat.zero_mul, Nat.zero_add, bitsN_getD w v i hi]
    rfl
  | v :: t, k + 1, i, hk, hi => by
    have e : (k + 1) * w + i = w + (k * w + i) := by rw [Nat.succ_mul]; omega
    rw [allBits_cons, List.getD_eq_getElem?_getD, List.getElem?_append_right (by rw [bitsN_length, e]; omega), ← List.getD_eq_getElem?_getD, bitsN_length, e, Nat.add_sub_cancel_left, allBits_getD w t k i (by simpa using hk) hi]
    rfl

theorem getD_snoc (B : List Nat) (x q : Nat) : (B ++ [x]).getD q 0 = B.getD q 0 + if q = B.length then x else 0 := by
  rw [List.getD_eq_getElem?_getD, List.getD_eq_getElem?_getD]
  by_cases h : q < B.length
  · rw [List.getElem?_append_left h, if_neg (by omega), Nat.add_zero]
  · rw [List.getElem?_append_right (by omega), List.getElem?_eq_none (l := B) (by omega)]
    by_cases h2 : q = B.length
    · subst h2; simp
    · rw [if_neg h2, List.getElem?_eq_none (by simp; omega)]
      rfl
theorem getD_past (B : List Nat) (q : Nat) (h : B.length ≤ q) : B.getD q 0 = 0 := by
  rw [List.getD_eq_getElem?_getD, List.getElem?_eq_none h]; rfl

theorem pow_le7 {m : Nat} (h : m < 8) : m = 0 ∨ m = 1 ∨ m = 2 ∨ m = 3 ∨ m = 4 ∨ m = 5 ∨ m = 6 ∨ m = 7 := by omega

theorem byt_snoc (B : List Nat) (x j : Nat) : byt (B ++ [x]) j = byt B j + if j = B.length / 8 then x * 2 ^ (B.length % 8) else 0 := by
  unfold byt
  simp only [getD_snoc]
  by_cases hj : j = B.length / 8
  · rw [if_pos hj]
    have h8 : B.length = 8 * j + B.length % 8 := by omega
    generalize B.length % 8 = m at h8
    have hm : m < 8 := by omega
    rw [h8]
    rcases pow_le7 hm with rfl | rfl | rfl | rfl | rfl | rfl | rfl | rfl <;> simp <;> omega
  · rw [if_neg hj]
    rw [if_neg (by omega), if_neg (by omega), if_neg (by omega), if_neg (by omega), if_neg (by omega), if_neg (by omega), if_neg (by omega), if_neg (by omega)]
    omega
theorem byt_past (B : List Nat) (j : Nat) (h : B.length ≤ 8 * j) : byt B j = 0 := by
  unfold byt
  rw [getD_past _ _ (by omega), getD_past _ _ (by omega), getD_past _ _ (by omega), getD_past _ _ (by omega), getD_past _ _ (by omega), getD_past _ _ (by omega), getD_past _ _ (by omega), getD_past _ _ (by omega)]
theorem byt_lt {B : List Nat} (h : Bits B) (j : Nat) : byt B j < 256 := by
  have h0 := h.getD (8 * j)
  have h1 := h.getD (8 * j + 1)
  have h2 := h.getD (8 * j + 2)
  have h3 := h.getD (8 * j + 3)
  have h4 := h.getD (8 * j + 4)
  have h5 := h.getD (8 * j + 5)
  have h6 := h.getD (8 * j + 6)
  have h7 := h.getD (8 * j + 7)
  unfold byt; omega
theorem byt_open {B : List Nat} (h : Bits B) : byt B (B.length / 8) < 2 ^ (B.length % 8) := by
  obtain ⟨j, hj⟩ : ∃ j, j = B.length / 8 := ⟨_, rfl⟩
  have h0 := h.getD (8 * j)
  have h1 := h.getD (8 * j + 1)
  have h2 := h.getD (8 * j + 2)
  have h3 := h.getD (8 * j + 3)
  have h4 := h.getD (8 * j + 4)
  have h5 := h.getD (8 * j + 5)
  have h6 := h.getD (8 * j + 6)
  have p := fun q hq => getD_past B q hq
  rw [← hj]
  have h8 : B.length = 8 * j + B.length % 8 := by omega
  generalize B.length % 8 = m at h8
  have hm : m < 8 := by omega
  unfold byt
  rcases pow_le7 hm with rfl | rfl | rfl | rfl | rfl | rfl | rfl | rfl
  · rw [p (8 * j) (by omega), p (8 * j + 1) (by omega), p (8 * j + 2) (by omega), p (8 * j + 3) (by omega), p (8 * j + 4) (by omega), p (8 * j + 5) (by omega), p (8 * j + 6) (by omega), p (8 * j + 7) (by omega)]; decide
  · rw [p (8 * j + 1) (by omega), p (8 * j + 2) (by omega), p (8 * j + 3) (by omega), p (8 * j + 4) (by omega), p (8 * j + 5) (by omega), p (8 * j + 6) (by omega), p (8 * j + 7) (by omega)]; omega
  · rw [p (8 * j + 2) (by omega), p (8 * j + 3) (by omega), p (8 * j + 4) (by omega), p (8 * j + 5) (by omega), p (8 * j + 6) (by omega), p (8 * j + 7) (by omega)]; omega
  · rw [p (8 * j + 3) (by omega), p (8 * j + 4) (by omega), p (8 * j + 5) (by omega), p (8 * j + 6) (by omega), p (8 * j + 7) (by omega)]; omega
  · rw [p (8 * j + 4) (by omega), p (8 * j + 5) (by omega), p (8 * j + 6) (by omega), p (8 * j + 7) (by omega)]; omega
  · rw [p (8 * j + 5) (by omega), p (8 * j + 6) (by omega), p (8 * j + 7) (by omega)]; omega
  · rw [p (8 * j + 6) (by omega), p (8 * j + 7) (by omega)]; omega
  · rw [p (8 * j + 7) (by omega)]; omega

/-- a bit more: by 'or' and by '+' -/
theorem byt_or {B : List Nat} (h : Bits B) (x : Nat) : byt B (B.length / 8) ||| x * 2 ^ (B.length % 8) = byt B (B.length / 8) + x * 2 ^ (B.length % 8) := by
  have := Nat.shiftLeft_add_eq_or_of_lt (byt_open h) x
  rw [Nat.shiftLeft_eq] at this
  rw [Nat.or_comm, Nat.add_comm, this]
theorem packed_snoc {B : List Nat} (x L : Nat) : packed (B ++ [x]) L = (packed B L).set (B.length / 8) (UInt8.ofNat (byt B (B.length / 8) + x * 2 ^ (B.length % 8))) := by
  apply List.ext_getElem
  · simp [packed]
  · intro j h1 h2
    have hj : j < L := by simpa [packed] using h1
    rw [List.getElem_set]
    simp only [packed, List.getElem_map, List.getElem_range, byt_snoc]
    by_cases e : B.length / 8 = j
    · rw [if_pos e, if_pos e.symm, e]
    · rw [if_neg e, if_neg (fun h => e h.symm), Nat.add_zero]
theorem packed_zero (L : Nat) : packed [] L = List.replicate L 0 := by
  apply List.ext_getElem
  · simp [packed]
  · intro j h1 h2
    simp only [packed, List.getElem_map, List.getElem_range, List.getElem_replicate]
    rw [byt_past [] j (by simp)]
    rfl
theorem packed_grow {B : List Nat} (h : B.length % 8 = 0) : packed B (B.length / 8 + 1) = packed B (B.length / 8) ++ [0] := by
  unfold packed
  rw [List.range_succ, List.map_append, List.map_singleton, byt_past B (B.length / 8) (by omega)]
  rfl

/-- reading -/
def bitAt (s : List UInt8) (p : Nat) : Nat := (s.getD (p / 8) 0).toNat / 2 ^ (p % 8) % 2
def bv (s : List UInt8) : Nat → Nat → Nat
  | _, 0 => 0
  | p, w + 1 => bitAt s p + 2 * bv s (p + 1) w
theorem bitAt_le (s : List UInt8) (p : Nat) : bitAt s p ≤ 1 := by unfold bitAt; omega
theorem bv_back (s : List UInt8) : ∀ (w p : Nat), bv s p (w + 1) = bv s p w + bitAt s (p + w) * 2 ^ w
  | 0, p => by simp [bv]
  | w + 1, p => by
    rw [bv, bv_back s w (p + 1), bv]
    have e : p + 1 + w = p + (w + 1) := by omega
    rw [e, Nat.mul_add, Nat.pow_succ, Nat.mul_comm (2 ^ w) 2, Nat.mul_left_comm 2, Nat.add_assoc]
theorem bv_lt (s : List UInt8) : ∀ (w p : Nat), bv s p w < 2 ^ w
  | 0, p => by simp [bv]
  | w + 1, p => by
    have := bv_lt s w (p + 1)
    have h2 := bitAt_le s p
    rw [bv, Nat.pow_succ]; omega
theorem bv_of (s : List UInt8) : ∀ (w p v : Nat), v < 2 ^ w → (∀ i, i < w → bitAt s (p + i) = v / 2 ^ i % 2) → bv s p w = v
  | 0, p, v, hv, _ => by simp at hv; simp [bv, hv]
  | w + 1, p, v, hv, h => by
    have h0 := h 0 (by omega)
    simp at h0
    have := bv_of s w (p + 1) (v / 2) (by rw [Nat.pow_succ] at hv; omega) (fun i hi => by
      have := h (i + 1) (by omega)
      rw [show p + (i + 1) = p + 1 + i from by omega, Nat.pow_succ, Nat.mul_comm, ← Nat.div_div_eq_div_mul] at this
      exact this)
    rw [bv, this, h0]; omega
theorem bv_zero (s : List UInt8) : ∀ (w p : Nat), bv s p w = 0 ↔ ∀ i, i < w → bitAt s (p + i) = 0
  | 0, p => by simp [bv]
  | w + 1, p => by
    rw [bv]
    have ih := bv_zero s w (p + 1)
    constructor
    · intro h i hi
      rcases Nat.eq_zero_or_pos i with e | e
      · subst e; rw [Nat.add_zero]; omega
      · have := ih.1 (by omega) (i - 1) (by omega)
        rw [show p + 1 + (i - 1) = p + i from by omega] at this
        exact this
    · intro h
      have h0 := h 0 (by omega)
      rw [Nat.add_zero] at h0
      have := ih.2 (fun i hi => by have := h (i + 1) (by omega); rw [show p + (i + 1) = p + 1 + i from by omega] at this; exact this)
      omega
theorem bitAt_packed {B : List Nat} (h : Bits B) (L p : Nat) (hp : p < 8 * L) : bitAt (packed B L) p = B.getD p 0 := by
  unfold bitAt
  have hj : p / 8 < L := by omega
  have e : (packed B L).getD (p / 8) 0 = UInt8.ofNat (byt B (p / 8)) := by
    rw [List.getD_eq_getElem?_getD]; simp [packed, hj]
  rw [e, toNat_of _ (byt_lt h _)]
  obtain ⟨j, hjE⟩ : ∃ j, j = p / 8 := ⟨_, rfl⟩
  rw [← hjE]
  have h0 := h.getD (8 * j)
  have h1 := h.getD (8 * j + 1)
  have h2 := h.getD (8 * j + 2)
  have h3 := h.getD (8 * j + 3)
  have h4 := h.getD (8 * j + 4)
  have h5 := h.getD (8 * j + 5)
  have h6 := h.getD (8 * j + 6)
  have h7 := h.getD (8 * j + 7)
  have h8 : p = 8 * j + p % 8 := by omega
  generalize p % 8 = m at h8
  have hm : m < 8 := by omega
  subst h8
  unfold byt
  rcases pow_le7 hm with rfl | rfl | rfl | rfl | rfl | rfl | rfl | rfl <;> simp only [Nat.reducePow, Nat.add_zero] <;> omega

/-- n numbers of w bits each, out of their bytes -/
def nums (b : List UInt8) (w n : Nat) : List Nat := (List.range n).map fun k => bv b (k * w) w
/-- Fixed, in its range: the numbers, and what is behind -/
def rFix (w n : Nat) (s : List UInt8) : Option (List Nat × List UInt8) :=
  if s.length < (w * n + 7) / 8 then none
  else if bv (s.take ((w * n + 7) / 8)) (w * n) ((w * n + 7) / 8 * 8 - w * n) = 0 then some (nums (s.take ((w * n + 7) / 8)) w n, s.drop ((w * n + 7) / 8)) else none
def fixB (w : Nat) (ns : List Nat) : List UInt8 := packed (allBits w ns) ((w * ns.length + 7) / 8)

theorem rFix_there (w : Nat) (ns : List Nat) (s : List UInt8) (h : ∀ v ∈ ns, v < 2 ^ w) : rFix w ns.length (fixB w ns ++ s) = some (ns, s) := by
  obtain ⟨L, hL⟩ : ∃ L, L = (w * ns.length + 7) / 8 := ⟨_, rfl⟩
  have hlen : (fixB w ns).length = L := by rw [fixB, packed_length, hL]
  unfold rFix
  rw [← hL]
  rw [if_neg (by rw [List.length_append, hlen]; omega), List.take_append_of_le_length (by omega), List.take_of_length_le (by omega), List.drop_append_of_le_length (by omega), List.drop_of_length_le (by omega), List.nil_append]
  have hB := allBits_ok w ns
  have hlb := allBits_length w ns
  rw [Nat.mul_comm] at hlb
  have hfill : bv (fixB w ns) (w * ns.length) (L * 8 - w * ns.length) = 0 := by
    rw [bv_zero]
    intro i hi
    rw [fixB, bitAt_packed hB _ _ (by rw [← hL]; omega), getD_past _ _ (by omega)]
  rw [if_pos hfill]
  congr 2
  apply List.ext_getElem
  · simp [nums]
  · intro k h1 h2
    simp only [nums, List.getElem_map, List.getElem_range]
    apply bv_of
    · exact h _ (List.getElem_mem h2)
    · intro i hi
      have hlt : k * w + i < w * ns.length := by
        have : k * w + w ≤ ns.length * w := by rw [← Nat.succ_mul]; exact Nat.mul_le_mul_right _ h2
        rw [Nat.mul_comm w]; omega
      rw [fixB, bitAt_packed hB _ _ (by rw [← hL]; omega), allBits_getD w ns k i h2 hi]
end PackM
