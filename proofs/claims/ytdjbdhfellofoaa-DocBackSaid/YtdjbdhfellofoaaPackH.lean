
/- A packed row, written by the document: the walk. -/
import Derived.Test.YtdjbdhfellofoaaPackG
namespace Go.Proofs.Ytdjbdhfellofoaa
open Go.RowKit

def toI (l : List Nat) : List Int := l.map Int.ofNat
theorem toI_length (l : List Nat) : (toI l).length = l.length := by simp [toI]
theorem toI_snoc (l : List Nat) (x : Nat) : toI (l ++ [x]) = toI l ++ [(x : Int)] := by simp [toI]

/-- the byte behind one bit more, by '+' -/
theorem add_bit (B : List Nat) (hB : PackM.Bits B) (bt : Nat) (hbt : bt ≤ 1) : PackM.byt B (B.length / 8) + bt * 2 ^ (B.length % 8) < 256 ∧ bt * 2 ^ (B.length % 8) < 256 := by
  have hB2 : PackM.Bits (B ++ [bt]) := by
    intro x hx
    rcases List.mem_append.1 hx with h | h
    · exact hB x h
    · simp at h; omega
  have h2 := PackM.byt_lt hB2 (B.length / 8)
  rw [PackM.byt_snoc, if_pos rfl] at h2
  omega

theorem take_bits {B : List Nat} (h : PackM.Bits B) (q : Nat) : PackM.Bits (B.take q) := fun x hx => h x (List.mem_of_mem_take hx)

set_option maxHeartbeats 1600000 in
set_option maxRecDepth 100000 in
theorem reffixed_any (A : Option Addr) (n cp w : Nat) (l : List Int) (W : World) (hw : w ≤ 32) (hn : n ≤ 1000000) (hI : Ints W A n l) (h64 : I64 l) :
    Calls Try.prog 26 #[.int .i64 (w : Int), .slice A n cp] W fun e W' => e = .returned (.tuple #[.string (ofBytes (fixS w l)), .int .i64 (fixC w l)]) ∧ Below W.heap.size W W' := by
  have hlen := Lib.hid hI.1
  have hd1 : decide ((w : Int) < 0) = false := decide_eq_false (by omega)
  have hd2 : decide ((32 : Int) < (w : Int)) = false := decide_eq_false (by omega)
  go_enter Try.func26, Try.ntmps26
  go_wp2
  go_loopw [6, 7] (fun bits i wr => ∃ (k : Nat), k ≤ n ∧ i = .int .i64 k ∧ fits w (l.take k) = true ∧ IntRow wr W.heap.size bits (toI (PackM.allBits w ((l.take k).map Int.toNat))) ∧ Below W.heap.size W wr) (fun _ i _ => n - (intOf i).toNat)
  case atStart => exact ⟨0, by omega, rfl, rfl, IntRow.nil_ _ _, Below.refl _ _⟩
  case round =>
    obtain ⟨k, hk, rfl, hfit, hrow, hb⟩ := hrel
    have HF := Lib.hid hfit
    clear hfit
    have hsz := hb.size
    obtain ⟨B, hB⟩ : ∃ B, B = PackM.allBits w ((l.take k).map Int.toNat) := ⟨_, rfl⟩
    have hBl : B.length = k * w := by rw [hB, PackM.allBits_length, List.length_map, List.length_take, hlen.out]; congr 1; omega
    have hBok : PackM.Bits B := by rw [hB]; exact PackM.allBits_ok _ _
    have hBm : B.length ≤ 32000000 := by
      rw [hBl]
      calc k * w ≤ k * 32 := Nat.mul_le_mul_left _ hw
        _ ≤ 32000000 := by omega
    rw [← hB] at hrow
    have HBE := Lib.hid hB
    clear hB hBl
    by_cases hlt : k < n
    · have hkl : k < l.length := by rw [hlen.out]; exact hlt
      obtain ⟨b, o, rfl, hbl, _⟩ := hI.2 k hkl
      have c1 := hI.at_ hkl rfl hb
      have h6 := h64 l[k] (List.getElem_mem hkl)
      have htk := List.take_succ_eq_append_getElem hkl
      obtain ⟨x, hx⟩ : ∃ x, x = l[k] := ⟨_, rfl⟩
      rw [← hx] at c1 h6 htk
      have HT := Lib.hid htk
      have HX := Lib.hid hx
      clear hx htk
      have hd : decide ((k : Int) < (n : Int)) = true := decide_eq_true (by omega)
      have bad : ¬ (0 ≤ x ∧ x < 2 ^ w) → fixS w l = [] ∧ fixC w l = 1 := by
        intro hv
        have hf : fits w l = false := by
          unfold fits
          rw [List.all_eq_false]
          exact ⟨x, by rw [HX.out]; exact List.getElem_mem hkl, by simpa using hv⟩
        constructor
        · unfold fixS
          rw [if_neg (fun h => by have := h.2.2; rw [Int.toNat_natCast, hf] at this; cases this)]
        · unfold fixC
          rw [if_neg (fun h => by have := h.2.2; rw [Int.toNat_natCast, hf] at this; cases this)]
      have HBAD := Lib.hid bad
      clear bad
      by_cases hneg : x < 0
      · have hd3 : decide (x < 0) = true := decide_eq_true hneg
        go_wp2
        go_ret2
        have hbad := HBAD.out (by omega)
        exact ⟨by rw [hbad.1, hbad.2]; rfl, hb⟩
      · have hd3 : decide (x < 0) = false := decide_eq_false hneg
        obtain ⟨v, rfl⟩ := Int.eq_ofNat_of_zero_le (Int.not_lt.1 hneg)
        have hvl : v < 9223372036854775808 := by omega
        go_wp2
        go_loopw [6, 8, 9] (fun bits x i wr2 => ∃ (j y : Nat), j ≤ w ∧ i = .int .i64 j ∧ y = v / 2 ^ j ∧ y < 9223372036854775808 ∧ x = .int .i64 y ∧ IntRow wr2 W.heap.size bits (toI (B ++ PackM.bitsN j v)) ∧ Below W.heap.size W wr2) (fun _ _ i _ => w - (intOf i).toNat)
        case atStart => exact ⟨0, v, by omega, rfl, by simp, hvl, rfl, by simpa [PackM.bitsN] using hrow, hb⟩
        case round =>
          clear hrow hb hsz
          obtain ⟨j, y, hj, rfl, hy, hyl, rfl, hrow, hb⟩ := hrel
          have hsz := hb.size
          by_cases hjw : j < w
          · have hdj : decide ((j : Int) < (w : Int)) = true := decide_eq_true (by omega)
            have hll : (toI (B ++ PackM.bitsN j v)).length ≤ 1000000000 := by rw [toI_length, List.length_append, PackM.bitsN_length]; omega
            have hnew : toI (B ++ PackM.bitsN (j + 1) v) = toI (B ++ PackM.bitsN j v) ++ [((y % 2 : Nat) : Int)] := by rw [PackM.bitsN_succ, ← List.append_assoc, toI_snoc, hy]
            have HNEW := Lib.hid hnew
            have hy2 : y / 2 = v / 2 ^ (j + 1) := by rw [hy, Nat.div_div_eq_div_mul, ← Nat.pow_succ]
            have HY2 := Lib.hid hy2
            clear hnew hy2 hy
            go_wp2_with (at_builtin; refine wpList_append_int rfl _ _ rfl W.heap.size _ (toI (B ++ PackM.bitsN j v)) rfl (World.ownsRow.alloc hrow _) wr.heap.size _ ((y : Int) % 2) rfl (by simp) (by simp; omega) hll ?_; intro v' w1 hown' hb1)
            go_wp2
            go_roundw
            case rel => exact ⟨j + 1, y / 2, by omega, by go_num, HY2.out, by omega, by go_num, by rw [HNEW.out]; exact hown', (hb.alloc hsz _).trans hb1⟩
            case measure => simp [intOf]; omega
          · have hdj : decide ((j : Int) < (w : Int)) = false := decide_eq_false (by omega)
            have hjE : j = w := by omega
            subst hjE
            by_cases hv : v < 2 ^ j
            · have hy0 : y = 0 := by rw [hy]; exact Nat.div_eq_of_lt hv
              subst hy0
              have hft : fits j (l.take (k + 1)) = true := by
                have := HF.out
                unfold fits at this ⊢
                rw [HT.out, List.all_append, this]
                have h2 : ((v : Int) < 2 ^ j) := by exact_mod_cast hv
                simpa using h2
              have hall : B ++ PackM.bitsN j v = PackM.allBits j ((l.take (k + 1)).map Int.toNat) := by
                rw [HT.out, List.map_append, List.map_singleton, PackM.allBits_snoc, ← HBE.out, Int.toNat_natCast]
              have HA := Lib.hid hall
              have HFT := Lib.hid hft
              clear hall hft hy hv
              go_wp2
              go_roundw
              case rel => exact ⟨k + 1, by omega, by go_num, HFT.out, by rw [← HA.out]; exact hrow, hb⟩
              case measure => simp [intOf]; omega
            · have hy0 : y ≠ 0 := by
                rw [hy]
                intro e
                rcases Nat.div_eq_zero_iff.1 e with h | h
                · have := Nat.two_pow_pos j; omega
                · exact hv h
              have hyb : (((y : Nat) : Int) != 0) = true := by simpa using hy0
              have hbad := HBAD.out (fun h => hv (by exact_mod_cast h.2))
              have HB2 := Lib.hid hbad
              clear hbad hy hv hy0
              go_wp2
              go_ret2
              exact ⟨by rw [HB2.out.1, HB2.out.2]; rfl, hb⟩
    · have hd : decide ((k : Int) < (n : Int)) = false := decide_eq_false (by omega)
      have hke : l.take k = l := List.take_of_length_le (by rw [hlen.out]; omega)
      have hf : fits w l = true := by have := HF.out; rwa [hke] at this
      have hBE : B = PackM.allBits w (l.map Int.toNat) := by rw [HBE.out, hke]
      have hs : fixS w l = PackM.packed B ((B.length + 7) / 8) := by
        unfold fixS
        rw [if_pos ⟨by omega, by omega, hf⟩, PackM.fixB, Int.toNat_natCast, ← hBE, hBE, PackM.allBits_length, Nat.mul_comm]
      have hc : fixC w l = 0 := by unfold fixC; rw [if_pos ⟨by omega, by omega, hf⟩]
      have HS := Lib.hid hs
      have HC := Lib.hid hc
      clear hs hc hf hke hBE HF HBE
      obtain ⟨A6, c6, rfl, hI6⟩ := hrow.ints
      rw [toI_length] at hI6 ⊢
      obtain ⟨N, hN⟩ : ∃ N, N = B.length := ⟨_, rfl⟩
      rw [← hN] at hI6 hBm ⊢
      have HN := Lib.hid hN
      clear hrow hN
      go_wp2
      go_loopw [10, 11] (fun bv i wr3 => ∃ (q : Nat), q ≤ N ∧ i = .int .i64 q ∧ ByteRow wr3 wr.heap.size bv (PackM.packed (B.take q) ((q + 7) / 8)) ∧ Below wr.heap.size wr wr3) (fun _ i _ => N - (intOf i).toNat)
      case atStart => exact ⟨0, by omega, rfl, ByteRow.nil_ _ _, Below.refl _ _⟩
      case round =>
        obtain ⟨q, hq, rfl, hrow, hb3⟩ := hrel
        have hsz3 := hb3.size
        by_cases hlt3 : q < N
        · have hdq : decide ((q : Int) < (N : Int)) = true := decide_eq_true (by omega)
          have hqB : q < B.length := by rw [← HN.out]; exact hlt3
          have hqT : q < (toI B).length := by rw [toI_length]; exact hqB
          obtain ⟨b6, o6, rfl, hb6, _⟩ := hI6.2 q hqT
          obtain ⟨bt, hbt⟩ : ∃ bt : Nat, bt = B[q] := ⟨_, rfl⟩
          have hbt1 : bt ≤ 1 := by rw [hbt]; exact hBok _ (List.getElem_mem hqB)
          have hbI : (toI B)[q] = (bt : Int) := by rw [hbt]; simp [toI]
          have HBI := Lib.hid hbI
          have htk := List.take_succ_eq_append_getElem hqB
          rw [← hbt] at htk
          have HTK := Lib.hid htk
          have htq : (B.take q).length = q := by rw [List.length_take]; omega
          clear hbI hbt htk
          by_cases hq8 : q % 8 = 0
          · have hgr := PackM.packed_grow (B := B.take q) (by rw [htq]; exact hq8)
            rw [htq] at hgr
            rw [show (q + 7) / 8 = q / 8 from by omega] at hrow
            have hq8b : ((q : Int) % 8 == 0) = true := beq_iff_eq.2 (by omega)
            have hlen8 : (PackM.packed (B.take q) (q / 8)).length ≤ 1000000000 := by rw [PackM.packed_length]; omega
            go_wp2_with (at_builtin; refine wpList_append_byte rfl _ _ rfl _ _ (PackM.packed (B.take q) (q / 8)) rfl (World.ownsRow.alloc hrow _) _ _ 0 rfl (by simp [byteV]) (by simp; omega) hlen8 ?_; intro v' w1 hown' hb1 hne)
            clear hq8b
            rw [← hgr] at hown'
            clear hgr
            obtain ⟨g8, cap8, rfl, hg8, hcells⟩ := hown'.slice (by rw [PackM.packed_length]; omega)
            have hrow' := hown'
            clear hown'
            have hb4 := (hb3.alloc hsz3 _).trans hb1
            have c6 := hI6.at_ hqT rfl hb4
            rw [HBI.out] at c6
            clear hb3 hrow hb1 hlen8
            obtain ⟨cc, cf⟩ := hcells (q / 8) (by rw [PackM.packed_length]; omega)
            obtain ⟨old, hold⟩ : ∃ old : Nat, old = ((PackM.packed (B.take q) (q / 8 + 1))[q / 8]'(by rw [PackM.packed_length]; omega)).toNat := ⟨_, rfl⟩
            rw [← hold] at cc
            have holdE : old = PackM.byt (B.take q) (q / 8) := by
              rw [hold]
              simp only [PackM.packed, List.getElem_map, List.getElem_range]
              rw [PackM.toNat_of _ (PackM.byt_lt (take_bits hBok q) _)]
            have hsum := add_bit (B.take q) (take_bits hBok q) bt hbt1
            rw [htq, ← holdE] at hsum
            have hset := hrow'.set_ (q / 8) (UInt8.ofNat (PackM.byt (B.take q) (q / 8) + bt * 2 ^ (q % 8)))
            have hnew : (PackM.packed (B.take q) (q / 8 + 1)).set (q / 8) (UInt8.ofNat (PackM.byt (B.take q) (q / 8) + bt * 2 ^ (q % 8))) = PackM.packed (B.take (q + 1)) ((q + 1 + 7) / 8) := by
              rw [HTK.out, show (q + 1 + 7) / 8 = q / 8 + 1 from by omega, PackM.packed_snoc, htq]
            rw [hnew, ← holdE] at hset
            obtain ⟨e8, he8⟩ : ∃ e8, e8 = q / 8 := ⟨_, rfl⟩
            obtain ⟨m8, hm8⟩ : ∃ m8, m8 = q % 8 := ⟨_, rfl⟩
            have hq1 : (q : Int) / 8 = (e8 : Int) := by omega
            have hq2 : (q : Int) % 8 = (m8 : Int) := by omega
            rw [← he8] at hset cc cf
            rw [← hm8] at hset hsum
            obtain ⟨sh, hsh⟩ : ∃ sh : Nat, sh = bt * 2 ^ m8 := ⟨_, rfl⟩
            rw [← hsh] at hset hsum
            have hshI : (bt : Int) * 2 ^ m8 = (sh : Int) := by rw [hsh]; simp
            have hm8l : m8 < 8 := by omega
            have hnv : byteV (UInt8.ofNat (old + sh)) = .int .u8 ((old : Int) + (sh : Int)) := by unfold byteV; rw [PackM.toNat_of _ hsum.1]; simp
            rw [hnv] at hset
            have hs1 := hsum.1
            have hs2 := hsum.2
            rw [PackM.packed_length] at hset ⊢
            rw [← he8]
            have HSET := Lib.hid hset
            clear hset hnew hnv hsum hold holdE hsh he8 hm8 hcells hrow'
            go_wp2
            go_region
            all_goals go_wp2
            all_goals exact ⟨⟨q + 1, by omega, by go_num, HSET.out, (hb4.setCell hg8 _).drew⟩, by simp [intOf]; omega⟩
          · have hq8b : ((q : Int) % 8 == 0) = false := beq_eq_false_iff_ne.2 (by omega)
            rw [show (q + 7) / 8 = q / 8 + 1 from by omega] at hrow
            obtain ⟨g8, cap8, rfl, hg8, hcells⟩ := hrow.slice (by rw [PackM.packed_length]; omega)
            have hrow' := hrow
            have hb4 := hb3
            have c6 := hI6.at_ hqT rfl hb4
            rw [HBI.out] at c6
            clear hb3 hrow
            obtain ⟨cc, cf⟩ := hcells (q / 8) (by rw [PackM.packed_length]; omega)
            obtain ⟨old, hold⟩ : ∃ old : Nat, old = ((PackM.packed (B.take q) (q / 8 + 1))[q / 8]'(by rw [PackM.packed_length]; omega)).toNat := ⟨_, rfl⟩
            rw [← hold] at cc
            have holdE : old = PackM.byt (B.take q) (q / 8) := by
              rw [hold]
              simp only [PackM.packed, List.getElem_map, List.getElem_range]
              rw [PackM.toNat_of _ (PackM.byt_lt (take_bits hBok q) _)]
            have hsum := add_bit (B.take q) (take_bits hBok q) bt hbt1
            rw [htq, ← holdE] at hsum
            have hset := hrow'.set_ (q / 8) (UInt8.ofNat (PackM.byt (B.take q) (q / 8) + bt * 2 ^ (q % 8)))
            have hnew : (PackM.packed (B.take q) (q / 8 + 1)).set (q / 8) (UInt8.ofNat (PackM.byt (B.take q) (q / 8) + bt * 2 ^ (q % 8))) = PackM.packed (B.take (q + 1)) ((q + 1 + 7) / 8) := by
              rw [HTK.out, show (q + 1 + 7) / 8 = q / 8 + 1 from by omega, PackM.packed_snoc, htq]
            rw [hnew, ← holdE] at hset
            obtain ⟨e8, he8⟩ : ∃ e8, e8 = q / 8 := ⟨_, rfl⟩
            obtain ⟨m8, hm8⟩ : ∃ m8, m8 = q % 8 := ⟨_, rfl⟩
            have hq1 : (q : Int) / 8 = (e8 : Int) := by omega
            have hq2 : (q : Int) % 8 = (m8 : Int) := by omega
            rw [← he8] at hset cc cf
            rw [← hm8] at hset hsum
            obtain ⟨sh, hsh⟩ : ∃ sh : Nat, sh = bt * 2 ^ m8 := ⟨_, rfl⟩
            rw [← hsh] at hset hsum
            have hshI : (bt : Int) * 2 ^ m8 = (sh : Int) := by rw [hsh]; simp
            have hm8l : m8 < 8 := by omega
            have hnv : byteV (UInt8.ofNat (old + sh)) = .int .u8 ((old : Int) + (sh : Int)) := by unfold byteV; rw [PackM.toNat_of _ hsum.1]; simp
            rw [hnv] at hset
            have hs1 := hsum.1
            have hs2 := hsum.2
            rw [PackM.packed_length] at hset ⊢
            rw [← he8]
            have HSET := Lib.hid hset
            clear hset hnew hnv hsum hold holdE hsh he8 hm8 hcells hrow'
            go_wp2
            go_region
            all_goals go_wp2
            all_goals exact ⟨⟨q + 1, by omega, by go_num, HSET.out, (hb4.setCell hg8 _).drew⟩, by simp [intOf]; omega⟩
        · have hdq : decide ((q : Int) < (N : Int)) = false := decide_eq_false (by omega)
          have hqe : q = B.length := by rw [← HN.out]; omega
          have hcv := hrow.conv
          have hall : PackM.packed (B.take q) ((q + 7) / 8) = PackM.packed B ((B.length + 7) / 8) := by rw [hqe, List.take_of_length_le (Nat.le_refl _)]
          rw [hall] at hcv
          clear hall hrow hqe
          go_wp2
          go_ret2
          exact ⟨by rw [HS.out, HC.out]; rfl, hb.trans (hb3.mono hsz)⟩
end Go.Proofs.Ytdjbdhfellofoaa
