
/- A packed row, written by the program. -/
import Derived.Test.YtdjbdhfellofoaaPackE
import Derived.RegionTactic
import Derived.Laws.OwnMore
namespace Go.Proofs.Ytdjbdhfellofoaa
open Go.RowKit

set_option maxHeartbeats 800000 in
theorem packedSize_any (w n p : Nat) (W : World) (hp : p = w * n) (hpl : p ≤ 1000000000) :
    Calls Try.prog 65 #[.int .i64 w, .int .i64 n] W fun e W' => e = .returned (.int .i64 ((p + 7) / 8 : Nat)) ∧ W = W' := by
  have hpI : (w : Int) * (n : Int) = (p : Int) := by rw [hp]; simp
  clear hp
  go_enter Try.func65, Try.ntmps65
  go_wp2
  go_ret
  exact ⟨ret_int (by omega), rfl⟩

theorem i64_and_nat (a b : Nat) (ha : a < 9223372036854775808) (hb : b < 9223372036854775808) : bits .and .i64 (a : Int) (b : Int) = ((a &&& b : Nat) : Int) := by
  have hx : a &&& b < 2 ^ 63 := Nat.and_lt_two_pow _ (by omega)
  show IntKind.i64.wrap ((BitVec.ofInt 64 (a : Int) &&& BitVec.ofInt 64 (b : Int)).toNat : Int) = _
  rw [BitVec.toNat_and, ofInt_u64 a (by omega), ofInt_u64 b (by omega), IntWalk.i64_in _ (by omega)]
theorem i64_or_nat (a b : Nat) (ha : a < 9223372036854775808) (hb : b < 9223372036854775808) : bits .or .i64 (a : Int) (b : Int) = ((a ||| b : Nat) : Int) := by
  have hx : a ||| b < 2 ^ 63 := Nat.or_lt_two_pow (by omega) (by omega)
  show IntKind.i64.wrap ((BitVec.ofInt 64 (a : Int) ||| BitVec.ofInt 64 (b : Int)).toNat : Int) = _
  rw [BitVec.toNat_or, ofInt_u64 a (by omega), ofInt_u64 b (by omega), IntWalk.i64_in _ (by omega)]
theorem i64_and1 (a : Nat) (ha : a < 9223372036854775808) : bits .and .i64 (a : Int) 1 = ((a % 2 : Nat) : Int) := by
  have := i64_and_nat a 1 ha (by decide)
  rw [Nat.and_one_is_mod] at this
  exact this

/-- the byte behind one bit more, as the walk spells it -/
theorem or_bit (B : List Nat) (hB : PackM.Bits B) (L e8 m8 old bt : Nat) (he : e8 = B.length / 8) (hm : m8 = B.length % 8) (hL : e8 < L) (hold : old = ((PackM.packed B L)[e8]'(by rw [PackM.packed_length]; exact hL)).toNat) (hbt : bt ≤ 1) :
    bits .or .u8 (old : Int) ((bt : Int) * 2 ^ m8 % 256) = ((UInt8.ofNat (PackM.byt B (B.length / 8) + bt * 2 ^ (B.length % 8))).toNat : Int) := by
  have ho : old = PackM.byt B (B.length / 8) := by
    rw [hold]
    simp only [PackM.packed, List.getElem_map, List.getElem_range]
    rw [PackM.toNat_of _ (PackM.byt_lt hB _), he]
  have hlt := PackM.byt_lt hB (B.length / 8)
  have hB2 : PackM.Bits (B ++ [bt]) := by
    intro x hx
    rcases List.mem_append.1 hx with h | h
    · exact hB x h
    · simp at h; omega
  have h2 := PackM.byt_lt hB2 (B.length / 8)
  rw [PackM.byt_snoc, if_pos rfl] at h2
  rw [PackM.toNat_of _ h2, ← PackM.byt_or hB]
  have hs : bt * 2 ^ (B.length % 8) < 256 := by omega
  rw [ho, hm]
  have e : ((bt : Int) * 2 ^ (B.length % 8) % 256) = ((bt * 2 ^ (B.length % 8) : Nat) : Int) := by
    have h3 : ((bt * 2 ^ (B.length % 8) : Nat) : Int) = (bt : Int) * 2 ^ (B.length % 8) := by simp
    rw [← h3]
    omega
  rw [e, u8_or_nat _ _ hlt hs]

def fits (w : Nat) (l : List Int) : Bool := l.all fun v => decide (0 ≤ v ∧ v < 2 ^ w)
def fixS (w : Int) (l : List Int) : List UInt8 := if 0 ≤ w ∧ w ≤ 32 ∧ fits w.toNat l = true then PackM.fixB w.toNat (l.map Int.toNat) else []
def fixC (w : Int) (l : List Int) : Int := if 0 ≤ w ∧ w ≤ 32 ∧ fits w.toNat l = true then 0 else 1

theorem made_at (z : Value) (n j : Nat) (h : j < n) : (madeCells #[z] n)[j]? = some z := by
  have : (madeCells #[z] n).toList[j]? = some z := by rw [toList_madeCells_one]; simp [h]
  simpa using this
theorem made_bytes (w : World) (L : Nat) (hL : L ≤ 1000000000) : ∃ M, (Instr.makeSlice 62 (.int .i64 (L : Int)) (.int .i64 (L : Int))).run Try.prog w = .ok (.slice (some ⟨w.heap.size, 0, none⟩) L L) (w.alloc (.cells M 5)) ∧ BytesAt (w.alloc (.cells M 5)) w.heap.size (List.replicate L 0) := by
  obtain ⟨i0, hi, hz0, hz1, hz2⟩ := info_parts byte_info
  have h := run_make (P := Try.prog) w 62 5 i0 (.int .u8 0) Try.underlying62 hi hz0 .i64 .i64 (L : Int) (L : Int) (by omega) (by omega) (by rw [hz2]; omega) (by omega)
  rw [hz1, Int.toNat_natCast, Nat.mul_one] at h
  obtain ⟨M, hM⟩ : ∃ M, M = madeCells (Value.int .u8 0).cells L := ⟨_, rfl⟩
  rw [← hM] at h
  refine ⟨M, h, ?_⟩
  intro j hj
  rw [List.length_replicate] at hj
  have hrow := heap_alloc_new w (.cells M 5)
  refine ⟨?_, by unfold World.frozen?; simp only [hrow]; simp⟩
  rw [cell_of_row _ _ _ _ _ _ hrow, hM]
  rw [show (Value.int .u8 0).cells = #[Value.int .u8 0] from rfl, made_at _ _ _ hj]
  simp

set_option maxHeartbeats 1600000 in
set_option maxRecDepth 100000 in
theorem fixed_any (A : Option Addr) (n cp w : Nat) (l : List Int) (W : World) (hw : w ≤ 32) (hn : n ≤ 1000000) (hI : Ints W A n l) (h64 : I64 l) :
    Calls Try.prog 47 #[.int .i64 (w : Int), .slice A n cp] W fun e W' => e = .returned (.tuple #[.string (ofBytes (fixS w l)), .int .i64 (fixC w l)]) ∧ Below W.heap.size W W' := by
  have hlen := Lib.hid hI.1
  obtain ⟨p, hp⟩ : ∃ p, p = w * n := ⟨_, rfl⟩
  have hpl : p ≤ 32000000 := by
    rw [hp]
    calc w * n ≤ 32 * n := Nat.mul_le_mul_right _ hw
      _ ≤ 32000000 := by omega
  have HP := Lib.hid hp
  clear hp
  obtain ⟨L, hL⟩ : ∃ L, L = (p + 7) / 8 := ⟨_, rfl⟩
  have hLl : L ≤ 5000000 := by omega
  have HL := Lib.hid hL
  clear hL
  obtain ⟨M, hmk, hz⟩ := made_bytes W L (by omega)
  rw [← PackM.packed_zero] at hz
  have HZ := Lib.hid hz
  clear hz
  have hd1 : decide ((w : Int) < 0) = false := decide_eq_false (by omega)
  have hd2 : decide ((32 : Int) < (w : Int)) = false := decide_eq_false (by omega)
  go_enter Try.func47, Try.ntmps47
  go_wp2_with fail
  refine (packedSize_any w n p _ HP.out (by omega)).mono ?_
  rintro e W0 ⟨rfl, rfl⟩
  rw [← HL.out]
  go_wp2
  clear hmk
  have hg := Nat.le_refl W.heap.size
  obtain ⟨g, hgE⟩ : ∃ g, g = W.heap.size := ⟨_, rfl⟩
  go_loopw [7, 24] (fun at_ i wr => ∃ (k q : Nat), k ≤ n ∧ i = .int .i64 k ∧ q = k * w ∧ at_ = .int .i64 q ∧ fits w (l.take k) = true ∧ BytesAt wr W.heap.size (PackM.packed (PackM.allBits w ((l.take k).map Int.toNat)) L) ∧ Below W.heap.size W wr) (fun _ i _ => n - (intOf i).toNat)
  case atStart => exact ⟨0, 0, by omega, rfl, by omega, rfl, rfl, HZ.out, (Below.refl _ _).alloc (Nat.le_refl _) _⟩
  case round =>
    obtain ⟨k, q, hk, rfl, hq, rfl, hfit, hbytes, hb⟩ := hrel
    have HF := Lib.hid hfit
    have HB := Lib.hid hbytes
    clear hfit hbytes
    have hsz := hb.size
    by_cases hlt : k < n
    · have hkl : k < l.length := by rw [hlen.out]; exact hlt
      obtain ⟨b, o, rfl, hbl, _⟩ := hI.2 k hkl
      have c1 := hI.at_ hkl rfl hb
      have h6 := h64 l[k] (List.getElem_mem hkl)
      have htk := List.take_succ_eq_append_getElem hkl
      obtain ⟨x, hx⟩ : ∃ x, x = l[k] := ⟨_, rfl⟩
      rw [← hx] at c1 h6 htk
      have HT := Lib.hid htk
      have HX := Lib.hid hx
      clear hx htk
      have hd : decide ((k : Int) < (n : Int)) = true := decide_eq_true (by omega)
      by_cases hv : 0 ≤ x ∧ x < 2 ^ w
      · have hx0 : x / 2 ^ w = 0 := Int.ediv_eq_zero_of_lt hv.1 hv.2
        obtain ⟨v, rfl⟩ := Int.eq_ofNat_of_zero_le hv.1
        have hft : fits w (l.take (k + 1)) = true := by
          have := HF.out
          unfold fits at this ⊢
          rw [HT.out, List.all_append, this]
          simpa using hv
        have HFT := Lib.hid hft
        have HV := Lib.hid hv
        clear hft hv
        go_wp2
        clear hx0
        obtain ⟨B, hB⟩ : ∃ B, B = PackM.allBits w ((l.take k).map Int.toNat) := ⟨_, rfl⟩
        have hBl : B.length = q := by rw [hB, PackM.allBits_length, List.length_map, List.length_take, hq]; congr 1; omega
        have hBok : PackM.Bits B := by rw [hB]; exact PackM.allBits_ok _ _
        have hqp : q + w ≤ p := by
          have h1 : (k + 1) * w ≤ n * w := Nat.mul_le_mul_right _ hlt
          rw [Nat.succ_mul] at h1
          rw [HP.out, Nat.mul_comm w n, hq]; exact h1
        have HQ := Lib.hid hq
        have HBL := Lib.hid hBl
        rw [← hB] at HB
        have HBE := Lib.hid hB
        clear hq hBl hB
        go_loopw [7, 33] (fun at_ i wr2 => ∃ (j r : Nat), j ≤ w ∧ i = .int .i64 j ∧ r = q + j ∧ at_ = .int .i64 r ∧ BytesAt wr2 W.heap.size (PackM.packed (B ++ PackM.bitsN j v) L) ∧ Below W.heap.size W wr2) (fun _ i _ => w - (intOf i).toNat)
        case atStart => exact ⟨0, q, by omega, rfl, by omega, rfl, by simpa [PackM.bitsN] using HB.out, hb⟩
        case round =>
          clear hb
          obtain ⟨j, r, hj, rfl, hr, rfl, hby, hb2⟩ := hrel
          by_cases hjw : j < w
          · have hdj : decide ((j : Int) < (w : Int)) = true := decide_eq_true (by omega)
            have hB'l : (B ++ PackM.bitsN j v).length = r := by rw [List.length_append, HBL.out, PackM.bitsN_length, hr]
            obtain ⟨e8, he8⟩ : ∃ e8, e8 = r / 8 := ⟨_, rfl⟩
            obtain ⟨m8, hm8⟩ : ∃ m8, m8 = r % 8 := ⟨_, rfl⟩
            have he8L : e8 < L := by have := HL.out; omega
            obtain ⟨cc, cf⟩ := hby e8 (by rw [PackM.packed_length]; exact he8L)
            have hq1 : (r : Int) / 8 = (e8 : Int) := by omega
            have hq2 : (r : Int) % 8 = (m8 : Int) := by omega
            have hm8l : m8 < 8 := by omega
            obtain ⟨old, hold⟩ : ∃ old : Nat, old = ((PackM.packed (B ++ PackM.bitsN j v) L)[e8]'(by rw [PackM.packed_length]; exact he8L)).toNat := ⟨_, rfl⟩
            rw [← hold] at cc
            obtain ⟨y, hy⟩ : ∃ y : Nat, y = v / 2 ^ j := ⟨_, rfl⟩
            have hyI : (v : Int) / 2 ^ j = (y : Int) := by rw [hy]; simp
            have hyl : y < 9223372036854775808 := by rw [hy]; exact Nat.lt_of_le_of_lt (Nat.div_le_self _ _) (by omega)
            have hand := i64_and1 y hyl
            obtain ⟨bt, hbt⟩ : ∃ bt : Nat, bt = y % 2 := ⟨_, rfl⟩
            have hbt1 : bt ≤ 1 := by omega
            rw [← hbt] at hand
            have hor := or_bit (B ++ PackM.bitsN j v) (by intro z hz; rcases List.mem_append.1 hz with h | h; exact hBok z h; exact PackM.bitsN_ok _ _ z h) L e8 m8 old bt (by rw [hB'l, he8]) (by rw [hB'l, hm8]) he8L hold hbt1
            have hnew : PackM.packed (B ++ PackM.bitsN (j + 1) v) L = (PackM.packed (B ++ PackM.bitsN j v) L).set e8 (UInt8.ofNat (PackM.byt (B ++ PackM.bitsN j v) ((B ++ PackM.bitsN j v).length / 8) + bt * 2 ^ ((B ++ PackM.bitsN j v).length % 8))) := by
              rw [PackM.bitsN_succ, ← List.append_assoc, PackM.packed_snoc, hbt, hy, hB'l, he8]
            have hset := hby.set_ e8 (UInt8.ofNat (PackM.byt (B ++ PackM.bitsN j v) ((B ++ PackM.bitsN j v).length / 8) + bt * 2 ^ ((B ++ PackM.bitsN j v).length % 8)))
            rw [← hor, ← hnew] at hset
            have HSET := Lib.hid hset
            have HR := Lib.hid hr
            clear hset hor hnew hby hold hy hr he8 hm8 hB'l hbt
            go_wp2
            go_region
            all_goals go_wp2
            all_goals exact ⟨⟨j + 1, r + 1, by omega, by go_num, by rw [HR.out]; rfl, by go_num, HSET.out, (hb2.setCell (Nat.le_refl _) _).drew⟩, by simp [intOf]; omega⟩
          · have hdj : decide ((j : Int) < (w : Int)) = false := decide_eq_false (by omega)
            have hjE : j = w := by omega
            subst hjE
            have hall : B ++ PackM.bitsN j v = PackM.allBits j ((l.take (k + 1)).map Int.toNat) := by
              rw [HT.out, List.map_append, List.map_singleton, PackM.allBits_snoc, ← HBE.out, Int.toNat_natCast]
            have HA := Lib.hid hall
            have HBY := Lib.hid hby
            clear hall hby
            go_wp2
            go_roundw
            case rel => exact ⟨k + 1, r, by omega, by go_num, by rw [hr, HQ.out, Nat.succ_mul], rfl, HFT.out, by rw [← HA.out]; exact HBY.out, hb2⟩
            case measure => simp [intOf]; omega
      · obtain ⟨y, hy⟩ : ∃ y : Int, y = x / 2 ^ w := ⟨_, rfl⟩
        have hy0 : y ≠ 0 := by
          intro e
          apply hv
          rw [e] at hy
          have hpos : (0 : Int) < 2 ^ w := Int.pow_pos (by decide)
          have h1 := Int.emod_add_mul_ediv x (2 ^ w)
          rw [← hy, Int.mul_zero, Int.add_zero] at h1
          rw [← h1]
          exact ⟨Int.emod_nonneg _ (by omega), Int.emod_lt_of_pos _ hpos⟩
        have hyb : (y != 0) = true := by simpa using hy0
        have hf : fits w l = false := by
          unfold fits
          rw [List.all_eq_false]
          exact ⟨x, by rw [HX.out]; exact List.getElem_mem hkl, by simpa using hv⟩
        have hs : fixS w l = [] := by
          unfold fixS
          rw [if_neg (fun h => by have := h.2.2; rw [Int.toNat_natCast, hf] at this; cases this)]
        have hc : fixC w l = 1 := by
          unfold fixC
          rw [if_neg (fun h => by have := h.2.2; rw [Int.toNat_natCast, hf] at this; cases this)]
        have hyE := hy.symm
        have HS := Lib.hid hs
        have HC := Lib.hid hc
        clear hs hc hf hv hy
        go_wp2
        go_ret2
        exact ⟨by rw [HS.out, HC.out]; rfl, hb⟩
    · have hd : decide ((k : Int) < (n : Int)) = false := decide_eq_false (by omega)
      have hke : l.take k = l := List.take_of_length_le (by rw [hlen.out]; omega)
      have hf : fits w l = true := by have := HF.out; rwa [hke] at this
      have hs : fixS w l = PackM.packed (PackM.allBits w (l.map Int.toNat)) L := by
        unfold fixS
        rw [if_pos ⟨by omega, by omega, hf⟩, PackM.fixB, List.length_map, hlen.out, Int.toNat_natCast, ← HP.out, ← HL.out]
      have hc : fixC w l = 0 := by unfold fixC; rw [if_pos ⟨by omega, by omega, hf⟩]
      have hcv := conv_string wr W.heap.size L _ HB.out
      rw [hke, PackM.packed_length] at hcv
      have HS := Lib.hid hs
      have HC := Lib.hid hc
      clear hs hc hf hke
      go_wp2
      go_ret2
      exact ⟨by rw [HS.out, HC.out]; rfl, hb⟩
end Go.Proofs.Ytdjbdhfellofoaa
