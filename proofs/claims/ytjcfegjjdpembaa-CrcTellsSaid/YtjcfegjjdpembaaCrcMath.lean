/- The plain mathematics of the sums: no condition. What the walks compute is brought to these functions. -/
namespace CrcM

def poly : Nat := 3988292384
def mv (c : Nat) : Nat := if c % 2 = 1 then c / 2 ^^^ poly else c / 2
def mvn : Nat → Nat → Nat
  | 0, c => c
  | n + 1, c => mv (mvn n c)

theorem mv_bit (c i : Nat) : (mv c).testBit i = (c.testBit (i + 1) ^^ (c.testBit 0 && poly.testBit i)) := by
  unfold mv
  split
  · rename_i h
    simp [Nat.testBit_xor, Nat.testBit_add_one, Nat.testBit_zero, h]
  · rename_i h
    simp [Nat.testBit_add_one, Nat.testBit_zero, h]

theorem mv_xor (a b : Nat) : mv (a ^^^ b) = mv a ^^^ mv b := by
  apply Nat.eq_of_testBit_eq
  intro i
  rw [Nat.testBit_xor, mv_bit, mv_bit, mv_bit, Nat.testBit_xor, Nat.testBit_xor]
  cases a.testBit (i + 1) <;> cases b.testBit (i + 1) <;> cases a.testBit 0 <;> cases b.testBit 0 <;> cases poly.testBit i <;> rfl

theorem mvn_xor (n a b : Nat) : mvn n (a ^^^ b) = mvn n a ^^^ mvn n b := by
  induction n with
  | zero => rfl
  | succ n ih => simp only [mvn, ih, mv_xor]

theorem mv_zero : mv 0 = 0 := rfl
theorem mvn_zero (n : Nat) : mvn n 0 = 0 := by
  induction n with
  | zero => rfl
  | succ n ih => simp only [mvn, ih, mv_zero]

theorem mvn_add (m n c : Nat) : mvn (m + n) c = mvn n (mvn m c) := by
  induction n with
  | zero => rfl
  | succ n ih => show mv (mvn (m + n) c) = _; rw [ih]; rfl

theorem mv_lt {c : Nat} (h : c < 4294967296) : mv c < 4294967296 := by
  unfold mv
  split
  · exact Nat.xor_lt_two_pow (n := 32) (by omega) (by decide)
  · omega

theorem mvn_lt (n : Nat) {c : Nat} (h : c < 4294967296) : mvn n c < 4294967296 := by
  induction n with
  | zero => exact h
  | succ n ih => exact mv_lt ih

theorem mv_ne {c : Nat} (h : c < 4294967296) (h0 : c ≠ 0) : mv c ≠ 0 := by
  unfold mv
  split
  · intro e
    have e2 : c / 2 = poly := by
      have : c / 2 ^^^ poly ^^^ poly = 0 ^^^ poly := by rw [e]
      rw [Nat.xor_assoc, Nat.xor_self, Nat.xor_zero, Nat.zero_xor] at this
      exact this
    unfold poly at e2
    omega
  · omega

theorem mvn_ne (n : Nat) {c : Nat} (h : c < 4294967296) (h0 : c ≠ 0) : mvn n c ≠ 0 := by
  induction n with
  | zero => exact h0
  | succ n ih => exact mv_ne (mvn_lt n h) ih

theorem mv_two (k : Nat) : mv (2 * k) = k := by unfold mv; rw [if_neg (by omega)]; omega
theorem mvn_pow (n k : Nat) : mvn n (2 ^ n * k) = k := by
  induction n generalizing k with
  | zero => simp [mvn]
  | succ n ih =>
    have : 2 ^ (n + 1) * k = 2 ^ n * (2 * k) := by rw [Nat.pow_succ, Nat.mul_assoc]
    rw [this]
    show mv (mvn n (2 ^ n * (2 * k))) = k
    rw [ih, mv_two]

theorem split_xor (c n : Nat) : c = c % 2 ^ n ^^^ 2 ^ n * (c / 2 ^ n) := by
  apply Nat.eq_of_testBit_eq
  intro i
  rw [Nat.testBit_xor, Nat.testBit_mod_two_pow, Nat.testBit_two_pow_mul, Nat.testBit_div_two_pow]
  by_cases h : i < n
  · have : ¬ n ≤ i := by omega
    simp [h, this]
  · have h2 : n ≤ i := by omega
    have : n + (i - n) = i := by omega
    simp [h, h2]

/-- the half byte's table -/
theorem mvn_half (c : Nat) : mvn 4 c = mvn 4 (c % 16) ^^^ c / 16 := by
  have h := split_xor c 4
  calc mvn 4 c = mvn 4 (c % 2 ^ 4 ^^^ 2 ^ 4 * (c / 2 ^ 4)) := by rw [← h]
    _ = _ := by rw [mvn_xor, mvn_pow]

def up (c b : Nat) : Nat := mvn 8 (c ^^^ b)
def run (c : Nat) (l : List UInt8) : Nat := l.foldl (fun c b => up c b.toNat) c
def sum (l : List UInt8) : Nat := 4294967295 - run 4294967295 l

theorem up_lt {c b : Nat} (h : c < 4294967296) (hb : b < 256) : up c b < 4294967296 :=
  mvn_lt 8 (Nat.xor_lt_two_pow (n := 32) h (by omega))
theorem run_lt (l : List UInt8) {c : Nat} (h : c < 4294967296) : run c l < 4294967296 := by
  induction l generalizing c with
  | nil => exact h
  | cons b l ih => exact ih (up_lt h (by have := b.toNat_lt; omega))
theorem run_append (c : Nat) (l m : List UInt8) : run c (l ++ m) = run (run c l) m := by simp [run, List.foldl_append]
theorem run_snoc (c : Nat) (l : List UInt8) (b : UInt8) : run c (l ++ [b]) = up (run c l) b.toNat := by rw [run_append]; rfl
theorem sum_lt (l : List UInt8) : sum l < 4294967296 := by unfold sum; omega

def le4 (n : Nat) : List UInt8 := [UInt8.ofNat n, UInt8.ofNat (n / 256), UInt8.ofNat (n / 65536), UInt8.ofNat (n / 16777216)]
def sealed (l : List UInt8) : List UInt8 := l ++ le4 (sum l)

/-! bits -/
def rb (f : Nat → Bool) (c : Nat) : Nat → Nat
  | 0 => c
  | n + 1 => mv (rb f c n ^^^ (f n).toNat)

theorem rb_congr {f g : Nat → Bool} (c n : Nat) (h : ∀ i, i < n → f i = g i) : rb f c n = rb g c n := by
  induction n with
  | zero => rfl
  | succ n ih =>
    simp only [rb]
    rw [ih (fun i hi => h i (by omega)), h n (by omega)]

theorem toNat_xor (a b : Bool) : (a ^^ b).toNat = a.toNat ^^^ b.toNat := by cases a <;> cases b <;> rfl

theorem rb_xor (f g : Nat → Bool) (c d n : Nat) : rb (fun i => f i ^^ g i) (c ^^^ d) n = rb f c n ^^^ rb g d n := by
  induction n with
  | zero => rfl
  | succ n ih =>
    simp only [rb]
    rw [ih, toNat_xor, ← mv_xor]
    congr 1
    rw [Nat.xor_assoc, Nat.xor_assoc]
    congr 1
    rw [← Nat.xor_assoc, ← Nat.xor_assoc, Nat.xor_comm (rb g d n)]

theorem mod_succ (b k : Nat) : b % 2 ^ (k + 1) = b % 2 ^ k ^^^ 2 ^ k * (b.testBit k).toNat := by
  apply Nat.eq_of_testBit_eq
  intro i
  rw [Nat.testBit_xor, Nat.testBit_mod_two_pow, Nat.testBit_mod_two_pow, Nat.testBit_two_pow_mul]
  by_cases h : i < k
  · have h1 : i < k + 1 := by omega
    have h2 : ¬ k ≤ i := by omega
    simp [h, h1, h2]
  · by_cases h3 : i = k
    · subst h3
      simp
      cases b.testBit i <;> simp
    · have h1 : ¬ i < k + 1 := by omega
      have h2 : ¬ i < k := by omega
      have h4 : k ≤ i := by omega
      simp [h1, h2, h4]
      exact Nat.testBit_lt_two_pow (Nat.lt_of_lt_of_le (Nat.lt_succ_of_le (Bool.toNat_le _)) (by
        calc 1 + 1 = 2 ^ 1 := rfl
          _ ≤ 2 ^ (i - k) := Nat.pow_le_pow_right (by decide) (by omega)))

theorem rb_word (f : Nat → Bool) (c n b k : Nat) (h : ∀ i, i < k → f (n + i) = b.testBit i) : rb f c (n + k) = mvn k (rb f c n ^^^ b % 2 ^ k) := by
  induction k with
  | zero => simp [mvn, Nat.mod_one]
  | succ k ih =>
    show mv (rb f c (n + k) ^^^ (f (n + k)).toNat) = mv (mvn k _)
    rw [ih (fun i hi => h i (by omega)), h k (by omega), mod_succ, ← Nat.xor_assoc, mvn_xor, mvn_xor, mvn_xor, mvn_pow]

theorem rb_zeros (f : Nat → Bool) (c n k : Nat) (h : ∀ i, i < k → f (n + i) = false) : rb f c (n + k) = mvn k (rb f c n) := by
  have := rb_word f c n 0 k (fun i hi => by rw [h i hi]; simp)
  simpa using this

def bitOf (l : List UInt8) (p : Nat) : Bool := (l.getD (p / 8) 0).toNat.testBit (p % 8)

theorem run_bits (l : List UInt8) (c : Nat) : run c l = rb (bitOf l) c (8 * l.length) := by
  suffices H : ∀ n, n ≤ l.length → run c (l.take n) = rb (bitOf l) c (8 * n) by
    have := H l.length (Nat.le_refl _)
    rwa [List.take_length] at this
  intro n hn
  induction n with
  | zero => rfl
  | succ n ih =>
    have hlt : n < l.length := by omega
    rw [List.take_succ_eq_append_getElem hlt, run_snoc, ih (by omega)]
    have hb := (l[n]).toNat_lt
    have := rb_word (bitOf l) c (8 * n) (l[n]).toNat 8 (fun i hi => by
      unfold bitOf
      have e1 : (8 * n + i) / 8 = n := by omega
      have e2 : (8 * n + i) % 8 = i := by omega
      rw [e1, e2]
      simp [hlt])
    rw [Nat.mod_eq_of_lt (by omega)] at this
    unfold up
    rw [← this]
    rfl

/-- bits p with at ≤ p < at + i are turned by 'turn' -/
def err (at_ turn i p : Nat) : Bool := decide (at_ ≤ p) && decide (p < at_ + i) && turn.testBit (p - at_)

theorem rb_err_ne (at_ turn i n : Nat) (hi : i ≤ 32) (hn : at_ + i ≤ n) (h : turn % 2 ^ i ≠ 0) : rb (err at_ turn i) 0 n ≠ 0 := by
  have h0 : rb (err at_ turn i) 0 (0 + at_) = mvn at_ (rb (err at_ turn i) 0 0) := rb_zeros _ 0 0 at_ (fun j hj => by
    have : decide (at_ ≤ 0 + j) = false := decide_eq_false (by omega)
    unfold err
    rw [this]
    rfl)
  have e0 : rb (err at_ turn i) 0 at_ = 0 := by
    rw [Nat.zero_add] at h0; rw [h0]; exact mvn_zero at_
  have h1 := rb_word (err at_ turn i) 0 at_ turn i (fun j hj => by
    have a : at_ + j - at_ = j := by omega
    have b : at_ + j < at_ + i := by omega
    simp [err, a, b])
  rw [e0, Nat.zero_xor] at h1
  have hlt : turn % 2 ^ i < 4294967296 := Nat.lt_of_lt_of_le (Nat.mod_lt _ (Nat.two_pow_pos i)) (by
    calc 2 ^ i ≤ 2 ^ 32 := Nat.pow_le_pow_right (by decide) hi
      _ = 4294967296 := by decide)
  obtain ⟨k, rfl⟩ : ∃ k, n = at_ + i + k := ⟨n - (at_ + i), by omega⟩
  rw [rb_zeros (err at_ turn i) 0 (at_ + i) k (fun j hj => by
    have : decide (at_ + i + j < at_ + i) = false := decide_eq_false (by omega)
    unfold err
    rw [this, Bool.and_false, Bool.false_and])]
  rw [h1]
  exact mvn_ne _ (mvn_lt _ hlt) (mvn_ne _ hlt h)

theorem xor_ones {c : Nat} (h : c < 4294967296) : 4294967295 - c = c ^^^ 4294967295 := by
  have e := Nat.testBit_two_pow_sub_succ (n := 32) (x := c) h
  apply Nat.eq_of_testBit_eq
  intro i
  have h1 : 4294967295 - c = 2 ^ 32 - (c + 1) := by omega
  have h2 : (4294967295 : Nat) = 2 ^ 32 - 1 := by decide
  rw [h1, e, Nat.testBit_xor, h2, Nat.testBit_two_pow_sub_one]
  by_cases hi : i < 32
  · simp [hi]
  · have : c.testBit i = false := Nat.testBit_lt_two_pow (Nat.lt_of_lt_of_le h (by
      calc 4294967296 = 2 ^ 32 := by decide
        _ ≤ 2 ^ i := Nat.pow_le_pow_right (by decide) (by omega)))
    simp [hi, this]

theorem le4_run (c n : Nat) (hn : n < 4294967296) : run c (le4 n) = mvn 32 (c ^^^ n) := by
  rw [run_bits]
  have := rb_word (bitOf (le4 n)) c 0 n 32 (fun i hi => by
    rw [Nat.zero_add]
    have hcase : i / 8 = 0 ∨ i / 8 = 1 ∨ i / 8 = 2 ∨ i / 8 = 3 := by omega
    unfold bitOf le4
    have key : ∀ (k : Nat), i / 8 = k → (UInt8.ofNat (n / 2 ^ (8 * k))).toNat.testBit (i % 8) = n.testBit i := fun k hk => by
      rw [UInt8.toNat_ofNat']
      rw [Nat.testBit_mod_two_pow, Nat.testBit_div_two_pow]
      have e : 8 * k + i % 8 = i := by omega
      have : i % 8 < 8 := by omega
      simp [this]
      rw [← e]; congr 1; omega
    rcases hcase with h | h | h | h
    · have := key 0 h; rw [h]; simpa using this
    · have := key 1 h; rw [h]; simpa using this
    · have := key 2 h; rw [h]; simpa using this
    · have := key 3 h; rw [h]; simpa using this)
  have e : 8 * (le4 n).length = 0 + 32 := by rfl
  rw [e, this, Nat.mod_eq_of_lt (by exact hn)]
  rfl

/-- what is sealed has one and the same register behind it -/
theorem run_sealed (l : List UInt8) : run 4294967295 (sealed l) = mvn 32 4294967295 := by
  unfold sealed
  rw [run_append, le4_run _ _ (sum_lt l)]
  unfold sum
  have h := run_lt l (c := 4294967295) (by decide)
  rw [xor_ones h, ← Nat.xor_assoc, Nat.xor_self, Nat.zero_xor]

def Flipped (at_ turn i : Nat) (t t' : List UInt8) : Prop :=
  t'.length = t.length ∧ ∀ j k, j < t.length → k < 8 → (t'.getD j 0).toNat.testBit k = ((t.getD j 0).toNat.testBit k ^^ err at_ turn i (8 * j + k))

theorem flipped_bits {at_ turn i : Nat} {t t' : List UInt8} (h : Flipped at_ turn i t t') (p : Nat) (hp : p < 8 * t.length) : bitOf t' p = (bitOf t p ^^ err at_ turn i p) := by
  unfold bitOf
  rw [h.2 (p / 8) (p % 8) (by omega) (by omega)]
  congr 2
  omega

/-- a burst is seen: what the turned bytes' register is, is another than of what is sealed -/
theorem burst (l t' : List UInt8) (at_ turn i : Nat) (hi : i ≤ 32) (hn : at_ + i ≤ 8 * (sealed l).length) (hf : Flipped at_ turn i (sealed l) t') (h : turn % 2 ^ i ≠ 0) (m : List UInt8) : t' ≠ sealed m := by
  intro e
  have r1 := run_sealed l
  have r2 := run_sealed m
  rw [← e] at r2
  rw [run_bits, hf.1] at r2
  rw [rb_congr _ _ (fun p hp => flipped_bits hf p hp)] at r2
  have := rb_xor (bitOf (sealed l)) (err at_ turn i) 4294967295 0 (8 * (sealed l).length)
  rw [Nat.xor_zero] at this
  rw [this, ← run_bits, r1] at r2
  have z : rb (err at_ turn i) 0 (8 * (sealed l).length) = 0 := by
    have q : mvn 32 4294967295 ^^^ (mvn 32 4294967295 ^^^ rb (err at_ turn i) 0 (8 * (sealed l).length)) = mvn 32 4294967295 ^^^ mvn 32 4294967295 := by rw [r2]
    rwa [← Nat.xor_assoc, Nat.xor_self, Nat.zero_xor] at q
  exact rb_err_ne at_ turn i _ hi hn h z

theorem flipped_none {at_ turn i : Nat} {t t' : List UInt8} (hf : Flipped at_ turn i t t') (h : turn % 2 ^ i = 0) : t' = t := by
  apply List.ext_getElem hf.1
  intro j h1 h2
  have hb : ∀ k, k < 8 → (t'[j]).toNat.testBit k = (t[j]).toNat.testBit k := fun k hk => by
    have := hf.2 j k h2 hk
    simp only [List.getD_eq_getElem?_getD, h1, h2, List.getElem?_eq_getElem, Option.getD_some] at this
    rw [this]
    have z : err at_ turn i (8 * j + k) = false := by
      unfold err
      by_cases a : at_ ≤ 8 * j + k
      · by_cases b : 8 * j + k < at_ + i
        · have := Nat.testBit_mod_two_pow turn i (8 * j + k - at_)
          rw [h] at this
          have c : 8 * j + k - at_ < i := by omega
          simp [c] at this
          simp [this]
        · simp [b]
      · simp [a]
    simp [z]
  apply UInt8.toNat_inj.1
  apply Nat.eq_of_testBit_eq
  intro k
  by_cases hk : k < 8
  · exact hb k hk
  · have a := (t'[j]).toNat_lt
    have b := (t[j]).toNat_lt
    have c : 256 ≤ 2 ^ k := by
      calc 256 = 2 ^ 8 := by decide
        _ ≤ 2 ^ k := Nat.pow_le_pow_right (by decide) (by omega)
    rw [Nat.testBit_lt_two_pow (by omega), Nat.testBit_lt_two_pow (by omega)]

theorem flipped_zero (at_ turn : Nat) (t : List UInt8) : Flipped at_ turn 0 t t := by
  refine ⟨rfl, fun j k _ _ => ?_⟩
  have : err at_ turn 0 (8 * j + k) = false := by
    unfold err
    by_cases a : at_ ≤ 8 * j + k
    · have b : decide (8 * j + k < at_ + 0) = false := decide_eq_false (by omega)
      rw [b, Bool.and_false, Bool.false_and]
    · simp [a]
  simp [this]
end CrcM
