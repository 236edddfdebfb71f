
/- The program's reader: Varint, Zigzag, Bytes. -/
import Derived.Test.YtdjbdhfellofoaaPackI
namespace Go.Proofs.Ytdjbdhfellofoaa
open Go.RowKit

theorem nV_le (most : Nat) (s : List UInt8) : nV most s ≤ most := by
  unfold nV
  cases h : PackM.num most 0 0 s with
  | none => simp
  | some x => exact (PackM.num_ge s 0 0 x.1 x.2 h).2
theorem nS_len (most : Nat) (s : List UInt8) : (nS most s).length ≤ s.length := by
  unfold nS
  cases h : PackM.num most 0 0 s with
  | none => simp
  | some x => have := PackM.num_short (v := x.1) (t := x.2) h; simp only; omega

set_option maxHeartbeats 400000 in
theorem rvarint_any (w : World) (b : Nat) (s : List UInt8) (bad : Bool) (hl : s.length ≤ 100000000) (h : RD w b s bad) :
    Calls Try.prog 50 #[.pointer (some ⟨b, 0, none⟩)] w fun e w' => e = .returned (.int .i64 (nV PackM.MAXI s : Nat)) ∧ RD w' b (nS PackM.MAXI s) (nB PackM.MAXI s bad) ∧ w.grownBy w' (some b) := by
  have hv := nV_le PackM.MAXI s
  have hm : PackM.MAXI = 9223372036854775807 := rfl
  rw [hm] at hv
  have HM := Lib.hid hm
  clear hm
  go_enter Try.func50, Try.ntmps50
  go_wp2_with fail
  refine (number_any w b s bad PackM.MAXI (by rw [HM.out]; decide) hl h).mono ?_
  rintro e w' ⟨rfl, hr, hg⟩
  obtain ⟨x, hx⟩ : ∃ x, x = nV PackM.MAXI s := ⟨_, rfl⟩
  have hv2 : x ≤ 9223372036854775807 := by rw [hx]; exact hv
  rw [← hx]
  have HX := Lib.hid hx
  clear hx hv
  go_wp2
  go_ret
  exact ⟨by rw [← HX.out]; rfl, hr, hg⟩

theorem and1u64 (u : Nat) (h : u < 18446744073709551616) : bits .and .u64 (u : Int) 1 = ((u % 2 : Nat) : Int) := by
  have := u64_and_nat u 1 h (by decide)
  rw [Nat.and_one_is_mod] at this
  exact this

theorem not_i64 (y : Nat) (h : y < 9223372036854775808) : bits .xor .i64 (-1) (y : Int) = -(y : Int) - 1 := by
  have h1 : (BitVec.ofInt 64 (-1)).toNat = 18446744073709551615 := by decide
  show IntKind.i64.wrap ((BitVec.ofInt 64 (-1) ^^^ BitVec.ofInt 64 (y : Int)).toNat : Int) = _
  rw [BitVec.toNat_xor, ofInt_u64 y (by omega), h1, ← xor_ones64 (by omega), IntKind.wrap_i64]
  omega

def byV (n : Int) (s : List UInt8) : List UInt8 := if 0 ≤ n ∧ n ≤ (s.length : Int) then s.take n.toNat else []
def byS (n : Int) (s : List UInt8) : List UInt8 := if 0 ≤ n ∧ n ≤ (s.length : Int) then s.drop n.toNat else []
def byB (n : Int) (s : List UInt8) (bad : Bool) : Bool := if 0 ≤ n ∧ n ≤ (s.length : Int) then bad else true
theorem extract_take (s : List UInt8) (k : Nat) : (ofBytes s).extract 0 k = ofBytes (s.take k) := by
  apply ByteArray.ext
  apply Array.ext'
  rw [ByteArray.data_extract, Array.toList_extract, ofBytes_list, ofBytes_list]
  simp [List.extract]

set_option maxHeartbeats 800000 in
theorem rbytes_any (w : World) (b : Nat) (s : List UInt8) (bad : Bool) (n : Int) (_hl : s.length ≤ 1000000000) (h : RD w b s bad) :
    Calls Try.prog 75 #[.pointer (some ⟨b, 0, none⟩), .int .i64 n] w fun e w' => e = .returned (.string (ofBytes (byV n s))) ∧ RD w' b (byS n s) (byB n s bad) ∧ w.grownBy w' (some b) := by
  have c0 := h.c0
  have f0 := h.free 0
  have hs : (ofBytes s).size = s.length := size_ofBytes s
  obtain ⟨N, hN⟩ : ∃ N, N = s.length := ⟨_, rfl⟩
  rw [← hN] at hs _hl
  have HN := Lib.hid hN
  clear hN
  unfold byV byS byB
  rw [← HN.out]
  by_cases h0 : n < 0
  · rw [if_neg (by omega), if_neg (by omega), if_neg (by omega)]
    have hd : decide (n < 0) = true := decide_eq_true h0
    go_enter Try.func75, Try.ntmps75
    go_wp2_with fail
    refine (rfail_any _ _ _ _ h).mono ?_
    rintro e w' ⟨rfl, hr, hg⟩
    go_wp2
    go_ret
    exact ⟨rfl, hr, hg⟩
  · have hd : decide (n < 0) = false := decide_eq_false h0
    obtain ⟨m, rfl⟩ := Int.eq_ofNat_of_zero_le (Int.not_lt.1 h0)
    by_cases h1 : m ≤ N
    · rw [if_pos ⟨by omega, by omega⟩, if_pos ⟨by omega, by omega⟩, if_pos ⟨by omega, by omega⟩, Int.toNat_natCast]
      have hd1 : decide (N < m) = false := decide_eq_false (by omega)
      have e1 := extract_take s m
      have e2 := extract_drop s m N HN.out
      go_enter Try.func75, Try.ntmps75
      go_wp2
      go_ret
      exact ⟨rfl, h.set0 _, only_set (World.grownBy.refl w _) _ _⟩
    · rw [if_neg (by omega), if_neg (by omega), if_neg (by omega)]
      have hd1 : decide (N < m) = true := decide_eq_true (by omega)
      go_enter Try.func75, Try.ntmps75
      go_wp2_with fail
      refine (rfail_any _ _ _ _ h).mono ?_
      rintro e w' ⟨rfl, hr, hg⟩
      go_wp2
      go_ret
      exact ⟨rfl, hr, hg⟩
end Go.Proofs.Ytdjbdhfellofoaa
