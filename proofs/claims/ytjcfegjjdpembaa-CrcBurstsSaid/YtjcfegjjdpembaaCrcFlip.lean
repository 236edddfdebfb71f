/- Bits that are turned one by one: plain mathematics, no condition. -/
import Derived.Test.YtjcfegjjdpembaaCrcMath
namespace CrcM

theorem err_succ (at_ turn i p : Nat) : err at_ turn (i + 1) p = (err at_ turn i p ^^ (decide (p = at_ + i) && turn.testBit i)) := by
  unfold err
  by_cases e : p = at_ + i
  · subst e
    have a : at_ + i - at_ = i := by omega
    simp [a]
  · by_cases l : p < at_ + i
    · have l' : p < at_ + (i + 1) := by omega
      simp [e, l, l']
    · have l' : ¬ p < at_ + (i + 1) := by omega
      simp [e, l, l']

theorem flip_no {at_ turn i : Nat} {t l : List UInt8} (h : Flipped at_ turn i t l) (hb : turn.testBit i = false) : Flipped at_ turn (i + 1) t l := by
  refine ⟨h.1, fun j k hj hk => ?_⟩
  rw [h.2 j k hj hk, err_succ, hb, Bool.and_false, Bool.xor_false]

def turnAt (l : List UInt8) (q : Nat) : UInt8 := l.getD (q / 8) 0 ^^^ UInt8.ofNat (2 ^ (q % 8))

theorem turnAt_bit (l : List UInt8) (q k : Nat) : (turnAt l q).toNat.testBit k = ((l.getD (q / 8) 0).toNat.testBit k ^^ decide (q % 8 = k)) := by
  unfold turnAt
  have hp : 2 ^ (q % 8) < 256 := by
    calc 2 ^ (q % 8) < 2 ^ 8 := Nat.pow_lt_pow_right (by decide) (by omega)
      _ = 256 := by decide
  rw [UInt8.toNat_xor, Nat.testBit_xor, UInt8.toNat_ofNat', Nat.mod_eq_of_lt (by exact hp), Nat.testBit_two_pow]

theorem flip_yes {at_ turn i : Nat} {t l : List UInt8} (h : Flipped at_ turn i t l) (hb : turn.testBit i = true) :
    Flipped at_ turn (i + 1) t (l.set ((at_ + i) / 8) (turnAt l (at_ + i))) := by
  refine ⟨by rw [List.length_set, h.1], fun j k hj hk => ?_⟩
  rw [err_succ, hb, Bool.and_true, ← Bool.xor_assoc, ← h.2 j k hj hk]
  have hjl : j < l.length := by rw [h.1]; exact hj
  by_cases e : (at_ + i) / 8 = j
  · have e1 : (l.set ((at_ + i) / 8) (turnAt l (at_ + i))).getD j 0 = turnAt l (at_ + i) := by
      subst e
      simp [hjl]
    rw [e1, turnAt_bit l _ k, e]
    congr 1
    rw [decide_eq_decide]
    omega
  · have e1 : (l.set ((at_ + i) / 8) (turnAt l (at_ + i))).getD j 0 = l.getD j 0 := by
      simp [e]
    have e2 : decide (8 * j + k = at_ + i) = false := decide_eq_false (by omega)
    rw [e1, e2, Bool.xor_false]

theorem mod_step (turn i : Nat) : turn % 2 ^ (i + 1) = turn % 2 ^ i + 2 ^ i * (turn / 2 ^ i % 2) := by
  rw [Nat.pow_succ, Nat.mod_mul]

theorem bit_of (turn i : Nat) : turn.testBit i = decide (turn / 2 ^ i % 2 = 1) := Nat.testBit_eq_decide_div_mod_eq

def flag (turn k : Nat) : Bool := decide (turn % 2 ^ k ≠ 0)
theorem flag_zero (turn : Nat) : flag turn 0 = false := by simp [flag, Nat.mod_one]
theorem turned_no (turn i : Nat) (h : turn / 2 ^ i % 2 = 0) : flag turn (i + 1) = flag turn i := by
  unfold flag
  rw [mod_step, h, Nat.mul_zero, Nat.add_zero]
theorem turned_yes (turn i : Nat) (h : turn / 2 ^ i % 2 = 1) : flag turn (i + 1) = true := by
  unfold flag
  rw [mod_step, h, Nat.mul_one]
  have := Nat.two_pow_pos i
  simp
theorem sealed_length (l : List UInt8) : (sealed l).length = l.length + 4 := by simp [sealed, le4]
end CrcM
