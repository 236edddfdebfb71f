/- Own texts, merged (4 of 42). -/
import Derived.Test.YtddnnhfffmhpmaaGreatDoorSm3
import Derived.Deep.QuietTactic
import Derived.BigQuiet
import Derived.Deep.RegionWith
import Derived.RegionTactic
import Derived.Laws.OwnMore

/- Rows of numbers that are the same; a rising row, written by the program. -/
namespace Go.Proofs.YtddnnhfffmhpmaaGreatDoor
open Go.RowKit

/-- the slice value '.slice A n c' reads as the numbers l -/
def Ints (w : World) (A : Option Addr) (n : Nat) (l : List Int) : Prop :=
  l.length = n ∧ ∀ k (h : k < l.length), ∃ b o, A = some ⟨b, o, none⟩ ∧ b < w.heap.size ∧ w.cell? ⟨b, o + k, none⟩ = some (.int .i64 l[k])
theorem Ints.at_ {w w' : World} {A : Option Addr} {n : Nat} {l : List Int} (h : Ints w A n l) {k : Nat} (hk : k < l.length) {b o : Nat} (hA : A = some ⟨b, o, none⟩) (hb : Below w.heap.size w w') : w'.cell? ⟨b, o + k, none⟩ = some (.int .i64 l[k]) := by
  obtain ⟨b', o', e, hlt, hc⟩ := h.2 k hk
  rw [hA] at e
  injection e with e
  injection e with e1 e2
  subst e1; subst e2
  exact (hb.cell (p := ⟨b, o + k, none⟩) hlt).trans hc

set_option maxHeartbeats 1600000 in
set_option maxRecDepth 100000 in
theorem same_any (A B : Option Addr) (n ca cb : Nat) (l : List Int) (w : World) (hn : n ≤ 100000000) (hA : Ints w A n l) (hB : Ints w B n l) :
    Calls Tryz.prog 61 #[.slice A n ca, .slice B n cb] w fun e w' => e = .returned (.bool true) ∧ Below w.heap.size w w' := by
  have hlen := Lib.hid hA.1
  go_enter Tryz.func61, Tryz.ntmps61
  go_wp2
  go_loopw [5] (fun i wr => ∃ k : Nat, k ≤ n ∧ i = .int .i64 k ∧ Below w.heap.size w wr) (fun i _ => n - (intOf i).toNat)
  case atStart => exact ⟨0, by omega, rfl, Below.refl _ _⟩
  case round =>
    obtain ⟨k, hk, rfl, hb⟩ := hrel
    by_cases hlt : k < n
    · have hkl : k < l.length := by rw [hlen.out]; exact hlt
      obtain ⟨b1, o1, rfl, hb1, _⟩ := hA.2 k hkl
      obtain ⟨b2, o2, rfl, hb2, _⟩ := hB.2 k hkl
      have c1 := hA.at_ hkl rfl hb
      have c2 := hB.at_ hkl rfl hb
      obtain ⟨x, hx⟩ : ∃ x, x = l[k] := ⟨_, rfl⟩
      rw [← hx] at c1 c2
      have hd : decide ((k : Int) < (n : Int)) = true := decide_eq_true (by omega)
      clear hx hA hB
      go_wp2
      go_quiet (fail)
      go_wp2
      go_roundw
      case rel => exact ⟨k + 1, by omega, by go_num, hb.trans ⟨rfl, rfl, rfl, Nat.le_refl _, fun _ _ => rfl⟩⟩
      case measure => simp [intOf]; omega
    · have hd : decide ((k : Int) < (n : Int)) = false := decide_eq_false (by omega)
      go_wp2
      go_ret
      exact ⟨rfl, hb⟩

def risS (l : List Int) : List UInt8 := if PackM.rises (-1) l = true then PackM.risB l else []
def risC (l : List Int) : Int := if PackM.rises (-1) l = true then 0 else 1
/-- each number is an int -/
def I64 (l : List Int) : Prop := ∀ v ∈ l, -9223372036854775808 ≤ v ∧ v ≤ 9223372036854775807

set_option maxHeartbeats 1600000 in
set_option maxRecDepth 100000 in
theorem rising_any (A : Option Addr) (n cp : Nat) (l : List Int) (w : World) (hn : n ≤ 1000000) (hI : Ints w A n l) (h64 : I64 l) :
    Calls Tryz.prog 98 #[.slice A n cp] w fun e w' => e = .returned (.tuple #[.string (ofBytes (risS l)), .int .i64 (risC l)]) ∧ Below w.heap.size w w' := by
  have hlen := Lib.hid hI.1
  have hn64 : n < 18446744073709551616 := by omega
  go_enter Tryz.func98, Tryz.ntmps98
  go_wp2_with fail
  refine (appendVarint_any w.heap.size [] _ n _ hn64 (by simp) (Nat.le_refl _) (ByteRow.nil_ _ _)).mono ?_
  rintro e w1 ⟨v1, rfl, hown, hb1, _⟩
  rw [List.nil_append] at hown
  have h10 := PackM.vw_len10 n hn64
  have hst : PackM.vw n ++ PackM.diffs (-1) (l.drop 0) = PackM.risB l := by rw [List.drop_zero, PackM.risB, hlen.out]
  have HST := Lib.hid hst
  clear hst
  go_wp2
  go_loopw [4, 5, 14] (fun v last i wr => ∃ (k : Nat) (acc : List UInt8) (la : Int), k ≤ n ∧ i = .int .i64 k ∧ last = .int .i64 la ∧ -1 ≤ la ∧ la ≤ 9223372036854775807 ∧ acc.length ≤ 10 + 10 * k ∧ ByteRow wr w.heap.size v acc ∧ PackM.rises (-1) l = PackM.rises la (l.drop k) ∧ acc ++ PackM.diffs la (l.drop k) = PackM.risB l ∧ Below w.heap.size w wr) (fun _ _ i _ => n - (intOf i).toNat)
  case atStart => exact ⟨0, PackM.vw n, -1, by omega, rfl, rfl, by omega, by omega, by omega, hown, by rw [List.drop_zero], HST.out, hb1⟩
  case round =>
    clear hown hb1
    obtain ⟨k, acc, la, hk, rfl, rfl, hla1, hla2, hacc, hown, hris, heq, hb⟩ := hrel
    have HR := Lib.hid hris
    have HE := Lib.hid heq
    clear hris heq
    have hsz := hb.size
    by_cases hlt : k < n
    · have hkl : k < l.length := by rw [hlen.out]; exact hlt
      obtain ⟨b, o, rfl, hbl, _⟩ := hI.2 k hkl
      have c1 := hI.at_ hkl rfl hb
      have h6 := h64 l[k] (List.getElem_mem hkl)
      have hdr := List.drop_eq_getElem_cons hkl
      obtain ⟨x, hx⟩ : ∃ x, x = l[k] := ⟨_, rfl⟩
      rw [← hx] at c1 h6 hdr
      have HD := Lib.hid hdr
      clear hx hdr
      have hd : decide ((k : Int) < (n : Int)) = true := decide_eq_true (by omega)
      by_cases hv : x ≤ la
      · have hd2 : decide (x ≤ la) = true := decide_eq_true hv
        have hf : PackM.rises (-1) l = false := by rw [HR.out, HD.out]; simp only [PackM.rises, Bool.and_eq_false_iff]; left; exact decide_eq_false (by omega)
        have hs : risS l = [] := by unfold risS; rw [hf]; rfl
        have hc : risC l = 1 := by unfold risC; rw [hf]; rfl
        have HS := Lib.hid hs
        have HC := Lib.hid hc
        clear hs hc hf
        go_wp2
        go_ret2
        exact ⟨by rw [HS.out, HC.out]; rfl, hb⟩
      · have hd2 : decide (x ≤ la) = false := decide_eq_false hv
        obtain ⟨d, hdE⟩ : ∃ d : Nat, d = (x - 1 - la).toNat := ⟨_, rfl⟩
        have hdI : x - 1 - la = (d : Int) := by omega
        have hd64 : d < 18446744073709551616 := by omega
        have HDE := Lib.hid hdE
        clear hdE
        go_wp2_with fail
        refine (appendVarint_any w.heap.size acc _ d _ hd64 (by omega) hsz hown).mono ?_
        rintro e w2 ⟨v2, rfl, hown2, hb2, _⟩
        clear hdI
        have h10 := PackM.vw_len10 d hd64
        go_wp2
        go_roundw
        case rel =>
          refine ⟨k + 1, acc ++ PackM.vw d, x, by omega, by go_num, rfl, by omega, by omega, by simp; omega, hown2, ?_, ?_, hb.trans hb2⟩
          · rw [HR.out, HD.out]
            simp only [PackM.rises]
            rw [decide_eq_true (by omega), Bool.true_and]
          · rw [← HE.out, HD.out, List.append_assoc, HDE.out]
            rfl
        case measure => simp [intOf]; omega
    · have hd : decide ((k : Int) < (n : Int)) = false := decide_eq_false (by omega)
      have hke : l.drop k = [] := List.drop_of_length_le (by rw [hlen.out]; omega)
      have hf : PackM.rises (-1) l = true := by rw [HR.out, hke]; rfl
      have hs : risS l = acc := by unfold risS; rw [hf, if_pos rfl, ← HE.out, hke]; simp [PackM.diffs]
      have hc : risC l = 0 := by unfold risC; rw [hf]; rfl
      have HS := Lib.hid hs
      have HC := Lib.hid hc
      clear hs hc hf hke
      have hcv := hown.conv
      clear hown
      go_wp2
      go_ret2
      exact ⟨by rw [HS.out, HC.out]; rfl, hb⟩
end Go.Proofs.YtddnnhfffmhpmaaGreatDoor

/- A rising row, written by the document. -/
namespace Go.Proofs.YtddnnhfffmhpmaaGreatDoor
open Go.RowKit

theorem below_drewN {w : World} (k : Nat) : Below w.heap.size w (w.drewN k) := ⟨rfl, rfl, rfl, Nat.le_refl _, fun _ _ => rfl⟩

end Go.Proofs.YtddnnhfffmhpmaaGreatDoor

/- A packed row, written by the program. -/
namespace Go.Proofs.YtddnnhfffmhpmaaGreatDoor
open Go.RowKit

set_option maxHeartbeats 800000 in
theorem packedSize_any (w n p : Nat) (W : World) (hp : p = w * n) (hpl : p ≤ 1000000000) :
    Calls Tryz.prog 167 #[.int .i64 w, .int .i64 n] W fun e W' => e = .returned (.int .i64 ((p + 7) / 8 : Nat)) ∧ W = W' := by
  have hpI : (w : Int) * (n : Int) = (p : Int) := by rw [hp]; simp
  clear hp
  go_enter Tryz.func167, Tryz.ntmps167
  go_wp2
  go_ret
  exact ⟨ret_int (by omega), rfl⟩

theorem i64_and_nat (a b : Nat) (ha : a < 9223372036854775808) (hb : b < 9223372036854775808) : bits .and .i64 (a : Int) (b : Int) = ((a &&& b : Nat) : Int) := by
  have hx : a &&& b < 2 ^ 63 := Nat.and_lt_two_pow _ (by omega)
  show IntKind.i64.wrap ((BitVec.ofInt 64 (a : Int) &&& BitVec.ofInt 64 (b : Int)).toNat : Int) = _
  rw [BitVec.toNat_and, ofInt_u64 a (by omega), ofInt_u64 b (by omega), IntWalk.i64_in _ (by omega)]
theorem i64_or_nat (a b : Nat) (ha : a < 9223372036854775808) (hb : b < 9223372036854775808) : bits .or .i64 (a : Int) (b : Int) = ((a ||| b : Nat) : Int) := by
  have hx : a ||| b < 2 ^ 63 := Nat.or_lt_two_pow (by omega) (by omega)
  show IntKind.i64.wrap ((BitVec.ofInt 64 (a : Int) ||| BitVec.ofInt 64 (b : Int)).toNat : Int) = _
  rw [BitVec.toNat_or, ofInt_u64 a (by omega), ofInt_u64 b (by omega), IntWalk.i64_in _ (by omega)]
theorem i64_and1 (a : Nat) (ha : a < 9223372036854775808) : bits .and .i64 (a : Int) 1 = ((a % 2 : Nat) : Int) := by
  have := i64_and_nat a 1 ha (by decide)
  rw [Nat.and_one_is_mod] at this
  exact this

/-- the byte behind one bit more, as the walk spells it -/
theorem or_bit (B : List Nat) (hB : PackM.Bits B) (L e8 m8 old bt : Nat) (he : e8 = B.length / 8) (hm : m8 = B.length % 8) (hL : e8 < L) (hold : old = ((PackM.packed B L)[e8]'(by rw [PackM.packed_length]; exact hL)).toNat) (hbt : bt ≤ 1) :
    bits .or .u8 (old : Int) ((bt : Int) * 2 ^ m8 % 256) = ((UInt8.ofNat (PackM.byt B (B.length / 8) + bt * 2 ^ (B.length % 8))).toNat : Int) := by
  have ho : old = PackM.byt B (B.length / 8) := by
    rw [hold]
    simp only [PackM.packed, List.getElem_map, List.getElem_range]
    rw [PackM.toNat_of _ (PackM.byt_lt hB _), he]
  have hlt := PackM.byt_lt hB (B.length / 8)
  have hB2 : PackM.Bits (B ++ [bt]) := by
    intro x hx
    rcases List.mem_append.1 hx with h | h
    · exact hB x h
    · simp at h; omega
  have h2 := PackM.byt_lt hB2 (B.length / 8)
  rw [PackM.byt_snoc, if_pos rfl] at h2
  rw [PackM.toNat_of _ h2, ← PackM.byt_or hB]
  have hs : bt * 2 ^ (B.length % 8) < 256 := by omega
  rw [ho, hm]
  have e : ((bt : Int) * 2 ^ (B.length % 8) % 256) = ((bt * 2 ^ (B.length % 8) : Nat) : Int) := by
    have h3 : ((bt * 2 ^ (B.length % 8) : Nat) : Int) = (bt : Int) * 2 ^ (B.length % 8) := by simp
    rw [← h3]
    omega
  rw [e, u8_or_nat _ _ hlt hs]

def fits (w : Nat) (l : List Int) : Bool := l.all fun v => decide (0 ≤ v ∧ v < 2 ^ w)
def fixS (w : Int) (l : List Int) : List UInt8 := if 0 ≤ w ∧ w ≤ 32 ∧ fits w.toNat l = true then PackM.fixB w.toNat (l.map Int.toNat) else []
def fixC (w : Int) (l : List Int) : Int := if 0 ≤ w ∧ w ≤ 32 ∧ fits w.toNat l = true then 0 else 1

theorem made_at (z : Value) (n j : Nat) (h : j < n) : (madeCells #[z] n)[j]? = some z := by
  have : (madeCells #[z] n).toList[j]? = some z := by rw [toList_madeCells_one]; simp [h]
  simpa using this
theorem made_bytes (w : World) (L : Nat) (hL : L ≤ 1000000000) : ∃ M, (Instr.makeSlice 70 (.int .i64 (L : Int)) (.int .i64 (L : Int))).run Tryz.prog w = .ok (.slice (some ⟨w.heap.size, 0, none⟩) L L) (w.alloc (.cells M 5)) ∧ BytesAt (w.alloc (.cells M 5)) w.heap.size (List.replicate L 0) := by
  obtain ⟨i0, hi, hz0, hz1, hz2⟩ := info_parts byte_info
  have h := run_make (P := Tryz.prog) w 70 5 i0 (.int .u8 0) Tryz.underlying70 hi hz0 .i64 .i64 (L : Int) (L : Int) (by omega) (by omega) (by rw [hz2]; omega) (by omega)
  rw [hz1, Int.toNat_natCast, Nat.mul_one] at h
  obtain ⟨M, hM⟩ : ∃ M, M = madeCells (Value.int .u8 0).cells L := ⟨_, rfl⟩
  rw [← hM] at h
  refine ⟨M, h, ?_⟩
  intro j hj
  rw [List.length_replicate] at hj
  have hrow := heap_alloc_new w (.cells M 5)
  refine ⟨?_, by unfold World.frozen?; simp only [hrow]; simp⟩
  rw [cell_of_row _ _ _ _ _ _ hrow, hM]
  rw [show (Value.int .u8 0).cells = #[Value.int .u8 0] from rfl, made_at _ _ _ hj]
  simp

set_option maxHeartbeats 1600000 in
set_option maxRecDepth 100000 in
theorem fixed_any (A : Option Addr) (n cp w : Nat) (l : List Int) (W : World) (hw : w ≤ 32) (hn : n ≤ 1000000) (hI : Ints W A n l) (h64 : I64 l) :
    Calls Tryz.prog 116 #[.int .i64 (w : Int), .slice A n cp] W fun e W' => e = .returned (.tuple #[.string (ofBytes (fixS w l)), .int .i64 (fixC w l)]) ∧ Below W.heap.size W W' := by
  have hlen := Lib.hid hI.1
  obtain ⟨p, hp⟩ : ∃ p, p = w * n := ⟨_, rfl⟩
  have hpl : p ≤ 32000000 := by
    rw [hp]
    calc w * n ≤ 32 * n := Nat.mul_le_mul_right _ hw
      _ ≤ 32000000 := by omega
  have HP := Lib.hid hp
  clear hp
  obtain ⟨L, hL⟩ : ∃ L, L = (p + 7) / 8 := ⟨_, rfl⟩
  have hLl : L ≤ 5000000 := by omega
  have HL := Lib.hid hL
  clear hL
  obtain ⟨M, hmk, hz⟩ := made_bytes W L (by omega)
  rw [← PackM.packed_zero] at hz
  have HZ := Lib.hid hz
  clear hz
  have hd1 : decide ((w : Int) < 0) = false := decide_eq_false (by omega)
  have hd2 : decide ((32 : Int) < (w : Int)) = false := decide_eq_false (by omega)
  go_enter Tryz.func116, Tryz.ntmps116
  go_wp2_with fail
  refine (packedSize_any w n p _ HP.out (by omega)).mono ?_
  rintro e W0 ⟨rfl, rfl⟩
  rw [← HL.out]
  go_wp2
  clear hmk
  have hg := Nat.le_refl W.heap.size
  obtain ⟨g, hgE⟩ : ∃ g, g = W.heap.size := ⟨_, rfl⟩
  go_loopw [7, 24] (fun at_ i wr => ∃ (k q : Nat), k ≤ n ∧ i = .int .i64 k ∧ q = k * w ∧ at_ = .int .i64 q ∧ fits w (l.take k) = true ∧ BytesAt wr W.heap.size (PackM.packed (PackM.allBits w ((l.take k).map Int.toNat)) L) ∧ Below W.heap.size W wr) (fun _ i _ => n - (intOf i).toNat)
  case atStart => exact ⟨0, 0, by omega, rfl, by omega, rfl, rfl, HZ.out, (Below.refl _ _).alloc (Nat.le_refl _) _⟩
  case round =>
    obtain ⟨k, q, hk, rfl, hq, rfl, hfit, hbytes, hb⟩ := hrel
    have HF := Lib.hid hfit
    have HB := Lib.hid hbytes
    clear hfit hbytes
    have hsz := hb.size
    by_cases hlt : k < n
    · have hkl : k < l.length := by rw [hlen.out]; exact hlt
      obtain ⟨b, o, rfl, hbl, _⟩ := hI.2 k hkl
      have c1 := hI.at_ hkl rfl hb
      have h6 := h64 l[k] (List.getElem_mem hkl)
      have htk := List.take_succ_eq_append_getElem hkl
      obtain ⟨x, hx⟩ : ∃ x, x = l[k] := ⟨_, rfl⟩
      rw [← hx] at c1 h6 htk
      have HT := Lib.hid htk
      have HX := Lib.hid hx
      clear hx htk
      have hd : decide ((k : Int) < (n : Int)) = true := decide_eq_true (by omega)
      by_cases hv : 0 ≤ x ∧ x < 2 ^ w
      · have hx0 : x / 2 ^ w = 0 := Int.ediv_eq_zero_of_lt hv.1 hv.2
        obtain ⟨v, rfl⟩ := Int.eq_ofNat_of_zero_le hv.1
        have hft : fits w (l.take (k + 1)) = true := by
          have := HF.out
          unfold fits at this ⊢
          rw [HT.out, List.all_append, this]
          simpa using hv
        have HFT := Lib.hid hft
        have HV := Lib.hid hv
        clear hft hv
        go_wp2
        clear hx0
        obtain ⟨B, hB⟩ : ∃ B, B = PackM.allBits w ((l.take k).map Int.toNat) := ⟨_, rfl⟩
        have hBl : B.length = q := by rw [hB, PackM.allBits_length, List.length_map, List.length_take, hq]; congr 1; omega
        have hBok : PackM.Bits B := by rw [hB]; exact PackM.allBits_ok _ _
        have hqp : q + w ≤ p := by
          have h1 : (k + 1) * w ≤ n * w := Nat.mul_le_mul_right _ hlt
          rw [Nat.succ_mul] at h1
          rw [HP.out, Nat.mul_comm w n, hq]; exact h1
        have HQ := Lib.hid hq
        have HBL := Lib.hid hBl
        rw [← hB] at HB
        have HBE := Lib.hid hB
        clear hq hBl hB
        go_loopw [7, 33] (fun at_ i wr2 => ∃ (j r : Nat), j ≤ w ∧ i = .int .i64 j ∧ r = q + j ∧ at_ = .int .i64 r ∧ BytesAt wr2 W.heap.size (PackM.packed (B ++ PackM.bitsN j v) L) ∧ Below W.heap.size W wr2) (fun _ i _ => w - (intOf i).toNat)
        case atStart => exact ⟨0, q, by omega, rfl, by omega, rfl, by simpa [PackM.bitsN] using HB.out, hb⟩
        case round =>
          clear hb
          obtain ⟨j, r, hj, rfl, hr, rfl, hby, hb2⟩ := hrel
          by_cases hjw : j < w
          · have hdj : decide ((j : Int) < (w : Int)) = true := decide_eq_true (by omega)
            have hB'l : (B ++ PackM.bitsN j v).length = r := by rw [List.length_append, HBL.out, PackM.bitsN_length, hr]
            obtain ⟨e8, he8⟩ : ∃ e8, e8 = r / 8 := ⟨_, rfl⟩
            obtain ⟨m8, hm8⟩ : ∃ m8, m8 = r % 8 := ⟨_, rfl⟩
            have he8L : e8 < L := by have := HL.out; omega
            obtain ⟨cc, cf⟩ := hby e8 (by rw [PackM.packed_length]; exact he8L)
            have hq1 : (r : Int) / 8 = (e8 : Int) := by omega
            have hq2 : (r : Int) % 8 = (m8 : Int) := by omega
            have hm8l : m8 < 8 := by omega
            obtain ⟨old, hold⟩ : ∃ old : Nat, old = ((PackM.packed (B ++ PackM.bitsN j v) L)[e8]'(by rw [PackM.packed_length]; exact he8L)).toNat := ⟨_, rfl⟩
            rw [← hold] at cc
            obtain ⟨y, hy⟩ : ∃ y : Nat, y = v / 2 ^ j := ⟨_, rfl⟩
            have hyI : (v : Int) / 2 ^ j = (y : Int) := by rw [hy]; simp
            have hyl : y < 9223372036854775808 := by rw [hy]; exact Nat.lt_of_le_of_lt (Nat.div_le_self _ _) (by omega)
            have hand := i64_and1 y hyl
            obtain ⟨bt, hbt⟩ : ∃ bt : Nat, bt = y % 2 := ⟨_, rfl⟩
            have hbt1 : bt ≤ 1 := by omega
            rw [← hbt] at hand
            have hor := or_bit (B ++ PackM.bitsN j v) (by intro z hz; rcases List.mem_append.1 hz with h | h; exact hBok z h; exact PackM.bitsN_ok _ _ z h) L e8 m8 old bt (by rw [hB'l, he8]) (by rw [hB'l, hm8]) he8L hold hbt1
            have hnew : PackM.packed (B ++ PackM.bitsN (j + 1) v) L = (PackM.packed (B ++ PackM.bitsN j v) L).set e8 (UInt8.ofNat (PackM.byt (B ++ PackM.bitsN j v) ((B ++ PackM.bitsN j v).length / 8) + bt * 2 ^ ((B ++ PackM.bitsN j v).length % 8))) := by
              rw [PackM.bitsN_succ, ← List.append_assoc, PackM.packed_snoc, hbt, hy, hB'l, he8]
            have hset := hby.set_ e8 (UInt8.ofNat (PackM.byt (B ++ PackM.bitsN j v) ((B ++ PackM.bitsN j v).length / 8) + bt * 2 ^ ((B ++ PackM.bitsN j v).length % 8)))
            rw [← hor, ← hnew] at hset
            have HSET := Lib.hid hset
            have HR := Lib.hid hr
            clear hset hor hnew hby hold hy hr he8 hm8 hB'l hbt
            go_wp2
            go_region
            all_goals go_wp2
            all_goals exact ⟨⟨j + 1, r + 1, by omega, by go_num, by rw [HR.out]; rfl, by go_num, HSET.out, (hb2.setCell (Nat.le_refl _) _).drew⟩, by simp [intOf]; omega⟩
          · have hdj : decide ((j : Int) < (w : Int)) = false := decide_eq_false (by omega)
            have hjE : j = w := by omega
            subst hjE
            have hall : B ++ PackM.bitsN j v = PackM.allBits j ((l.take (k + 1)).map Int.toNat) := by
              rw [HT.out, List.map_append, List.map_singleton, PackM.allBits_snoc, ← HBE.out, Int.toNat_natCast]
            have HA := Lib.hid hall
            have HBY := Lib.hid hby
            clear hall hby
            go_wp2
            go_roundw
            case rel => exact ⟨k + 1, r, by omega, by go_num, by rw [hr, HQ.out, Nat.succ_mul], rfl, HFT.out, by rw [← HA.out]; exact HBY.out, hb2⟩
            case measure => simp [intOf]; omega
      · obtain ⟨y, hy⟩ : ∃ y : Int, y = x / 2 ^ w := ⟨_, rfl⟩
        have hy0 : y ≠ 0 := by
          intro e
          apply hv
          rw [e] at hy
          have hpos : (0 : Int) < 2 ^ w := Int.pow_pos (by decide)
          have h1 := Int.emod_add_mul_ediv x (2 ^ w)
          rw [← hy, Int.mul_zero, Int.add_zero] at h1
          rw [← h1]
          exact ⟨Int.emod_nonneg _ (by omega), Int.emod_lt_of_pos _ hpos⟩
        have hyb : (y != 0) = true := by simpa using hy0
        have hf : fits w l = false := by
          unfold fits
          rw [List.all_eq_false]
          exact ⟨x, by rw [HX.out]; exact List.getElem_mem hkl, by simpa using hv⟩
        have hs : fixS w l = [] := by
          unfold fixS
          rw [if_neg (fun h => by have := h.2.2; rw [Int.toNat_natCast, hf] at this; cases this)]
        have hc : fixC w l = 1 := by
          unfold fixC
          rw [if_neg (fun h => by have := h.2.2; rw [Int.toNat_natCast, hf] at this; cases this)]
        have hyE := hy.symm
        have HS := Lib.hid hs
        have HC := Lib.hid hc
        clear hs hc hf hv hy
        go_wp2
        go_ret2
        exact ⟨by rw [HS.out, HC.out]; rfl, hb⟩
    · have hd : decide ((k : Int) < (n : Int)) = false := decide_eq_false (by omega)
      have hke : l.take k = l := List.take_of_length_le (by rw [hlen.out]; omega)
      have hf : fits w l = true := by have := HF.out; rwa [hke] at this
      have hs : fixS w l = PackM.packed (PackM.allBits w (l.map Int.toNat)) L := by
        unfold fixS
        rw [if_pos ⟨by omega, by omega, hf⟩, PackM.fixB, List.length_map, hlen.out, Int.toNat_natCast, ← HP.out, ← HL.out]
      have hc : fixC w l = 0 := by unfold fixC; rw [if_pos ⟨by omega, by omega, hf⟩]
      have hcv := conv_string wr W.heap.size L _ HB.out
      rw [hke, PackM.packed_length] at hcv
      have HS := Lib.hid hs
      have HC := Lib.hid hc
      clear hs hc hf hke
      go_wp2
      go_ret2
      exact ⟨by rw [HS.out, HC.out]; rfl, hb⟩
end Go.Proofs.YtddnnhfffmhpmaaGreatDoor

/- A packed row, written by the document; what is out of its range. -/
namespace Go.Proofs.YtddnnhfffmhpmaaGreatDoor
open Go.RowKit

end Go.Proofs.YtddnnhfffmhpmaaGreatDoor

/- A packed row, written by the document: the walk. -/
namespace Go.Proofs.YtddnnhfffmhpmaaGreatDoor
open Go.RowKit

def toI (l : List Nat) : List Int := l.map Int.ofNat
theorem toI_length (l : List Nat) : (toI l).length = l.length := by simp [toI]
theorem toI_snoc (l : List Nat) (x : Nat) : toI (l ++ [x]) = toI l ++ [(x : Int)] := by simp [toI]

end Go.Proofs.YtddnnhfffmhpmaaGreatDoor

/- The program's reader: its block, fail, New, Left, Bad, number. -/
namespace Go.Proofs.YtddnnhfffmhpmaaGreatDoor
open Go.RowKit

/-- the reader at block b: what is left, is it bad -/
def RD (w : World) (b : Nat) (s : List UInt8) (bad : Bool) : Prop := w.heap[b]? = some (.cells #[.string (ofBytes s), .bool bad] 155 (0, 0))
section
variable {w : World} {b : Nat} {s : List UInt8} {bad : Bool}
theorem RD.lt (h : RD w b s bad) : b < w.heap.size := (Array.getElem?_eq_some_iff.1 h).1
theorem RD.c0 (h : RD w b s bad) : w.cell? ⟨b, 0, none⟩ = some (.string (ofBytes s)) := cell_of_row w b 0 _ _ (0, 0) h
theorem RD.c1 (h : RD w b s bad) : w.cell? ⟨b, 1, none⟩ = some (.bool bad) := cell_of_row w b 1 _ _ (0, 0) h
theorem RD.free (h : RD w b s bad) (i : Nat) : w.frozen? ⟨b, i, none⟩ = false := by
  unfold RD at h
  simp [World.frozen?, h]
theorem RD.set0 (h : RD w b s bad) (s' : List UInt8) : RD (w.setCell ⟨b, 0, none⟩ (.string (ofBytes s'))) b s' bad := by
  unfold RD; rw [heap_setCell_row h]; rfl
theorem RD.set1 (h : RD w b s bad) (x : Bool) : RD (w.setCell ⟨b, 1, none⟩ (.bool x)) b s x := by
  unfold RD; rw [heap_setCell_row h]; rfl
theorem RD.kept {w' : World} (h : RD w b s bad) (hb : w'.heap[b]? = w.heap[b]?) : RD w' b s bad := hb.trans h
theorem RD.alloc (h : RD w b s bad) (o : Obj) : RD (w.alloc o) b s bad := (Below.heap_alloc w o b h.lt).trans h
theorem RD.later {w' : World} (h : RD w b s bad) (hb : Below w.heap.size w w') : RD w' b s bad := (hb.block b h.lt).trans h
end
theorem only_below {a w w' : World} {b : Nat} (h : a.grownBy w (some b)) (hb : Below w.heap.size w w') : a.grownBy w' (some b) :=
  ⟨hb.os.trans h.os, hb.tape.trans h.tape, hb.output.trans h.output, Nat.le_trans h.size hb.size, fun i hi hne => (hb.block i (Nat.lt_of_lt_of_le hi h.size)).trans (h.block i hi hne)⟩

set_option maxHeartbeats 400000 in
theorem rfail_any (w : World) (b : Nat) (s : List UInt8) (bad : Bool) (h : RD w b s bad) :
    Calls Tryz.prog 129 #[.pointer (some ⟨b, 0, none⟩)] w fun e w' => e = .returned (.tuple #[]) ∧ RD w' b [] true ∧ w.grownBy w' (some b) := by
  have c0 := h.c0
  have f0 := h.free 0
  have h1 : RD (w.setCell ⟨b, 0, none⟩ (.string ⟨#[]⟩)) b [] bad := h.set0 []
  have c1 := h1.c1
  have f1 := h1.free 1
  go_enter Tryz.func129, Tryz.ntmps129
  go_wp2
  go_end0
  exact ⟨rfl, h1.set1 true, only_set (only_set (World.grownBy.refl w _) _ _) _ _⟩

set_option maxHeartbeats 400000 in
theorem rleft_any (w : World) (b : Nat) (s : List UInt8) (bad : Bool) (h : RD w b s bad) :
    Calls Tryz.prog 133 #[.pointer (some ⟨b, 0, none⟩)] w fun e w' => e = .returned (.int .i64 (s.length : Nat)) ∧ w = w' := by
  have c0 := h.c0
  have hs : (ofBytes s).size = s.length := size_ofBytes s
  go_enter Tryz.func133, Tryz.ntmps133
  go_wp2
  go_ret
  exact ⟨rfl, rfl⟩
set_option maxHeartbeats 400000 in
theorem rbad_any (w : World) (b : Nat) (s : List UInt8) (bad : Bool) (h : RD w b s bad) :
    Calls Tryz.prog 132 #[.pointer (some ⟨b, 0, none⟩)] w fun e w' => e = .returned (.bool bad) ∧ w = w' := by
  have c1 := h.c1
  go_enter Tryz.func132, Tryz.ntmps132
  go_wp2
  go_ret
  exact ⟨rfl, rfl⟩

set_option maxHeartbeats 400000 in
theorem rnew_any (w : World) (s : List UInt8) (hs : s.length ≤ 100000000) :
    Calls Tryz.prog 89 #[.string (ofBytes s)] w fun e w' => ∃ b, e = .returned (.pointer (some ⟨b, 0, none⟩)) ∧ w.heap.size ≤ b ∧ RD w' b s false ∧ Below w.heap.size w w' := by
  have hz : (ofBytes s).size ≤ 100000000 := by rw [size_ofBytes]; exact hs
  go_enter Tryz.func89, Tryz.ntmps89
  go_wp2_with fail
  refine (clone_any _ _ hz).mono ?_
  rintro e w1 ⟨rfl, hb⟩
  go_wp2
  go_ret
  exact ⟨_, rfl, hb.size, heap_alloc_new w1 _, hb.alloc hb.size _⟩

def nV (most : Nat) (s : List UInt8) : Nat := match PackM.num most 0 0 s with | none => 0 | some x => x.1
def nS (most : Nat) (s : List UInt8) : List UInt8 := match PackM.num most 0 0 s with | none => [] | some x => x.2
def nB (most : Nat) (s : List UInt8) (bad : Bool) : Bool := match PackM.num most 0 0 s with | none => true | some _ => bad

theorem and127u8 (u : Nat) (h : u < 256) : bits .and .u8 (u : Int) 127 = ((u % 128 : Nat) : Int) := by
  have := u8_and_nat u 127 h (by decide)
  have e : u &&& 127 = u % 128 := Nat.and_two_pow_sub_one_eq_mod u 7
  rw [e] at this
  exact this
theorem and128u8 (u : Nat) (h : u < 256) : bits .and .u8 (u : Int) 128 = ((if 128 ≤ u then 128 else 0 : Nat) : Int) := by
  have := u8_and_nat u 128 h (by decide)
  have e : u &&& 128 = if 128 ≤ u then 128 else 0 := by
    have h2 : ∀ x : Fin 256, x.val &&& 128 = if 128 ≤ x.val then 128 else 0 := by decide +kernel
    exact h2 ⟨u, h⟩
  rw [e] at this
  exact this

theorem shr_min (x t : Nat) (hx : x < 18446744073709551616) : (x : Int) / 2 ^ min t 64 = ((x / 2 ^ t : Nat) : Int) := by
  by_cases ht : t ≤ 64
  · rw [Nat.min_eq_left ht]; simp
  · rw [Nat.min_eq_right (by omega)]
    have h0 : x / 2 ^ t = 0 := Nat.div_eq_of_lt (Nat.lt_of_lt_of_le hx (by
      calc 18446744073709551616 = 2 ^ 64 := by decide
        _ ≤ 2 ^ t := Nat.pow_le_pow_right (by decide) (by omega)))
    rw [h0]
    omega
theorem shl_min (x t y : Nat) (hy : y = x * 2 ^ t) (hyl : y < 18446744073709551616) : (x : Int) * 2 ^ min t 64 = (y : Int) := by
  by_cases ht : t ≤ 64
  · rw [Nat.min_eq_left ht, hy]; simp
  · have hp : 18446744073709551616 ≤ 2 ^ t := by
      calc 18446744073709551616 = 2 ^ 64 := by decide
        _ ≤ 2 ^ t := Nat.pow_le_pow_right (by decide) (by omega)
    have hx : x = 0 := by
      rcases Nat.eq_zero_or_pos x with e | e
      · exact e
      · have := Nat.mul_le_mul e hp
        omega
    subst hx
    rw [Nat.zero_mul] at hy
    subst hy
    simp
theorem pow7 (k : Nat) : 2 ^ (7 * k) = 128 ^ k := by rw [Nat.pow_mul]
theorem or_u64 (u y k : Nat) (g : Nat) (hu : u < 128 ^ k) (hy : y = g * 128 ^ k) (h : u + y < 18446744073709551616) : bits .or .u64 (u : Int) (y : Int) = ((u + y : Nat) : Int) := by
  rw [u64_or_nat u y (by omega) (by omega)]
  have := Nat.shiftLeft_add_eq_or_of_lt (i := 7 * k) (b := u) (by rw [pow7]; exact hu) g
  rw [Nat.shiftLeft_eq, pow7, ← hy] at this
  rw [Nat.or_comm, ← this, Nat.add_comm]
theorem over_iff (most u g k : Nat) (hu : u ≤ most) : (most - u) / 128 ^ k < g ↔ most < u + g * 128 ^ k := by
  rw [Nat.div_lt_iff_lt_mul (Nat.pow_pos (by decide))]
  omega
theorem extract_drop (s : List UInt8) (k N : Nat) (h : N = s.length) : (ofBytes s).extract k N = ofBytes (s.drop k) := by
  apply ByteArray.ext
  apply Array.ext'
  rw [ByteArray.data_extract, Array.toList_extract, ofBytes_list, ofBytes_list, h]
  simp only [List.extract]
  exact List.take_of_length_le (by simp)

set_option maxHeartbeats 1600000 in
set_option maxRecDepth 100000 in
theorem number_any (w : World) (b : Nat) (s : List UInt8) (bad : Bool) (most : Nat) (hm : most < 18446744073709551616) (hl : s.length ≤ 100000000) (h : RD w b s bad) :
    Calls Tryz.prog 128 #[.pointer (some ⟨b, 0, none⟩), .int .u64 most] w fun e w' => e = .returned (.int .u64 (nV most s)) ∧ RD w' b (nS most s) (nB most s bad) ∧ w.grownBy w' (some b) := by
  have c0 := h.c0
  have f0 := h.free 0
  have hs : (ofBytes s).size = s.length := size_ofBytes s
  obtain ⟨N, hN⟩ : ∃ N, N = s.length := ⟨_, rfl⟩
  rw [← hN] at hs hl
  have HN := Lib.hid hN
  clear hN
  go_enter Tryz.func128, Tryz.ntmps128
  go_wp2
  go_loop [5, 14] (fun x i => ∃ (k u : Nat), k ≤ N ∧ i = .int .i64 k ∧ x = .int .u64 u ∧ u < 128 ^ k ∧ u ≤ most ∧ PackM.num most 0 0 s = PackM.num most k u (s.drop k)) (fun _ i => N - (intOf i).toNat)
  case atStart => exact ⟨0, 0, by omega, rfl, rfl, by decide, by omega, by rw [List.drop_zero]⟩
  case round =>
    obtain ⟨k, u, hk, rfl, rfl, hu, hum, heq⟩ := hrel
    have HE := Lib.hid heq
    have HU := Lib.hid hu
    clear heq hu
    by_cases hlt : k < N
    · have hkl : k < s.length := by rw [← HN.out]; exact hlt
      have hd : decide ((k : Int) < (N : Int)) = true := decide_eq_true (by omega)
      have hdr := List.drop_eq_getElem_cons hkl
      obtain ⟨c, hc⟩ : ∃ c : UInt8, c = s[k] := ⟨_, rfl⟩
      have hkz : k < (ofBytes s).size := by rw [hs]; exact hlt
      obtain ⟨x, hx⟩ : ∃ x : Nat, x = c.toNat := ⟨_, rfl⟩
      have hx256 : x < 256 := by rw [hx]; exact c.toNat_lt
      have hbx : (ofBytes s)[k].toNat = x := by rw [hx, hc]; rfl
      rw [← hc] at hdr
      clear hc
      have hand := and127u8 x hx256
      obtain ⟨g, hg⟩ : ∃ g, g = x % 128 := ⟨_, rfl⟩
      rw [← hg] at hand
      have hgl : g < 128 := by omega
      obtain ⟨t, ht⟩ : ∃ t, t = 7 * k := ⟨_, rfl⟩
      have htI : 7 * (k : Int) = (t : Int) := by omega
      have hsubI : (most : Int) - (u : Int) = ((most - u : Nat) : Int) := by omega
      have hshr := shr_min (most - u) t (by omega)
      obtain ⟨qv, hqv⟩ : ∃ qv, qv = (most - u) / 2 ^ t := ⟨_, rfl⟩
      rw [← hqv] at hshr
      rw [ht, pow7] at hqv
      have hov := over_iff most u g k hum
      rw [← hqv] at hov
      obtain ⟨d, hdE⟩ : ∃ d, d = most - u := ⟨_, rfl⟩
      rw [← hdE] at hsubI hshr
      have hdl : d < 18446744073709551616 := by omega
      have HX := Lib.hid hx
      have HG := Lib.hid hg
      have HT := Lib.hid ht
      have HQ := Lib.hid hqv
      have HDR := Lib.hid hdr
      have HOV := Lib.hid hov
      clear hx hg ht hqv hdr hov hdE
      by_cases hover : qv < g
      · have hdo : decide (qv < g) = true := decide_eq_true (by omega)
        have hnone : PackM.num most 0 0 s = none := by
          rw [HE.out, HDR.out]
          refine PackM.num_over ?_
          rw [← HX.out, ← HG.out]
          exact HOV.out.1 hover
        have HNO := Lib.hid hnone
        clear hnone
        go_wp2_with fail
        refine (rfail_any _ _ _ _ h).mono ?_
        rintro e w' ⟨rfl, hr, hg⟩
        go_wp2
        go_ret
        unfold nV nS nB
        rw [HNO.out]
        exact ⟨rfl, hr, hg⟩
      · have hdo : decide (qv < g) = false := decide_eq_false (by omega)
        have hno : ¬ most < u + g * 128 ^ k := fun h => hover (HOV.out.2 h)
        obtain ⟨y, hy⟩ : ∃ y, y = g * 128 ^ k := ⟨_, rfl⟩
        rw [← hy] at hno
        have hshl := shl_min g t y (by rw [HT.out, pow7, hy]) (by omega)
        have hor := or_u64 u y k g HU.out hy (by omega)
        obtain ⟨u2, hu2⟩ : ∃ u2, u2 = u + y := ⟨_, rfl⟩
        rw [← hu2] at hor hno
        have hu2k : u2 < 128 ^ (k + 1) := by
          have h1 : g * 128 ^ k ≤ 127 * 128 ^ k := Nat.mul_le_mul_right _ (by omega)
          have h2 := HU.out
          rw [Nat.pow_succ]; omega
        have hno' : ¬ most < u + c.toNat % 128 * 128 ^ k := by rw [← HX.out, ← HG.out, ← hy, ← hu2]; exact hno
        have hval : u + c.toNat % 128 * 128 ^ k = u2 := by rw [← HX.out, ← HG.out, ← hy, ← hu2]
        have HV := Lib.hid hval
        have HNO := Lib.hid hno'
        have HU2 := Lib.hid hu2
        have HU2K := Lib.hid hu2k
        have hy64 : y < 18446744073709551616 := by omega
        clear hval hno' hu2 hy hu2k
        have hand2 := and128u8 x hx256
        by_cases hmore : 128 ≤ x
        · rw [if_pos hmore] at hand2
          have hnext : PackM.num most 0 0 s = PackM.num most (k + 1) u2 (s.drop (k + 1)) := by
            rw [HE.out, HDR.out, PackM.num_more HNO.out (by rw [← HX.out]; exact hmore), HV.out]
          have HNX := Lib.hid hnext
          clear hnext
          go_wp2
          go_round
          case rel => exact ⟨k + 1, u2, by omega, by go_num, rfl, HU2K.out, by omega, HNX.out⟩
          case measure => simp [intOf]; omega
        · rw [if_neg hmore] at hand2
          by_cases hzero : x = 0 ∧ 0 < k
          · have hnone : PackM.num most 0 0 s = none := by
              rw [HE.out, HDR.out]
              exact PackM.num_null HNO.out (by rw [← HX.out]; exact hzero.1) hzero.2
            have HNONE := Lib.hid hnone
            obtain ⟨hz1, hz2⟩ := hzero
            have hx0 : ((x : Int) == 0) = true := beq_iff_eq.2 (by omega)
            have hk0 : decide ((0 : Int) < (k : Int)) = true := decide_eq_true (by omega)
            clear hnone hz1
            go_wp2_with fail
            refine (rfail_any _ _ _ _ h).mono ?_
            rintro e w' ⟨rfl, hr, hg⟩
            go_wp2
            go_ret
            unfold nV nS nB
            rw [HNONE.out]
            exact ⟨rfl, hr, hg⟩
          · have hsome : PackM.num most 0 0 s = some (u2, s.drop (k + 1)) := by
              rw [HE.out, HDR.out, PackM.num_end HNO.out (by rw [← HX.out]; exact hmore) (by rw [← HX.out]; exact hzero), HV.out]
            have HSOME := Lib.hid hsome
            have hex := extract_drop s (k + 1) N HN.out
            have hr := h.set0 (s.drop (k + 1))
            have HZ := Lib.hid hzero
            clear hsome hzero
            by_cases hx0 : x = 0
            · have hx0b : ((x : Int) == 0) = true := beq_iff_eq.2 (by omega)
              have hk0 : ¬ 0 < k := by have := HZ.out; omega
              have hk1 : decide (0 < k) = false := decide_eq_false hk0
              have htz : min t 64 = t := by have := HT.out; omega
              rw [htz] at hshr hshl
              clear hx0 htz
              go_wp2
              go_ret
              unfold nV nS nB
              rw [HSOME.out]
              exact ⟨rfl, hr, only_set (World.grownBy.refl w _) _ _⟩
            · have hx0b : ((x : Int) == 0) = false := beq_eq_false_iff_ne.2 (by omega)
              clear hx0
              go_wp2
              go_ret
              unfold nV nS nB
              rw [HSOME.out]
              exact ⟨rfl, hr, only_set (World.grownBy.refl w _) _ _⟩
    · have hd : decide ((k : Int) < (N : Int)) = false := decide_eq_false (by omega)
      have hnone : PackM.num most 0 0 s = none := by rw [HE.out, List.drop_of_length_le (by rw [← HN.out]; omega)]; rfl
      have HNO := Lib.hid hnone
      clear hnone
      go_wp2_with fail
      refine (rfail_any _ _ _ _ h).mono ?_
      rintro e w' ⟨rfl, hr, hg⟩
      go_wp2
      go_ret
      unfold nV nS nB
      rw [HNO.out]
      exact ⟨rfl, hr, hg⟩
end Go.Proofs.YtddnnhfffmhpmaaGreatDoor

/- The program's reader: Varint, Zigzag, Bytes. -/
namespace Go.Proofs.YtddnnhfffmhpmaaGreatDoor
open Go.RowKit

theorem nV_le (most : Nat) (s : List UInt8) : nV most s ≤ most := by
  unfold nV
  cases h : PackM.num most 0 0 s with
  | none => simp
  | some x => exact (PackM.num_ge s 0 0 x.1 x.2 h).2
theorem nS_len (most : Nat) (s : List UInt8) : (nS most s).length ≤ s.length := by
  unfold nS
  cases h : PackM.num most 0 0 s with
  | none => simp
  | some x => have := PackM.num_short (v := x.1) (t := x.2) h; simp only; omega

set_option maxHeartbeats 400000 in
theorem rvarint_any (w : World) (b : Nat) (s : List UInt8) (bad : Bool) (hl : s.length ≤ 100000000) (h : RD w b s bad) :
    Calls Tryz.prog 90 #[.pointer (some ⟨b, 0, none⟩)] w fun e w' => e = .returned (.int .i64 (nV PackM.MAXI s : Nat)) ∧ RD w' b (nS PackM.MAXI s) (nB PackM.MAXI s bad) ∧ w.grownBy w' (some b) := by
  have hv := nV_le PackM.MAXI s
  have hm : PackM.MAXI = 9223372036854775807 := rfl
  rw [hm] at hv
  have HM := Lib.hid hm
  clear hm
  go_enter Tryz.func90, Tryz.ntmps90
  go_wp2_with fail
  refine (number_any w b s bad PackM.MAXI (by rw [HM.out]; decide) hl h).mono ?_
  rintro e w' ⟨rfl, hr, hg⟩
  obtain ⟨x, hx⟩ : ∃ x, x = nV PackM.MAXI s := ⟨_, rfl⟩
  have hv2 : x ≤ 9223372036854775807 := by rw [hx]; exact hv
  rw [← hx]
  have HX := Lib.hid hx
  clear hx hv
  go_wp2
  go_ret
  exact ⟨by rw [← HX.out]; rfl, hr, hg⟩

def byV (n : Int) (s : List UInt8) : List UInt8 := if 0 ≤ n ∧ n ≤ (s.length : Int) then s.take n.toNat else []
def byS (n : Int) (s : List UInt8) : List UInt8 := if 0 ≤ n ∧ n ≤ (s.length : Int) then s.drop n.toNat else []
def byB (n : Int) (s : List UInt8) (bad : Bool) : Bool := if 0 ≤ n ∧ n ≤ (s.length : Int) then bad else true
theorem extract_take (s : List UInt8) (k : Nat) : (ofBytes s).extract 0 k = ofBytes (s.take k) := by
  apply ByteArray.ext
  apply Array.ext'
  rw [ByteArray.data_extract, Array.toList_extract, ofBytes_list, ofBytes_list]
  simp [List.extract]

set_option maxHeartbeats 800000 in
theorem rbytes_any (w : World) (b : Nat) (s : List UInt8) (bad : Bool) (n : Int) (_hl : s.length ≤ 1000000000) (h : RD w b s bad) :
    Calls Tryz.prog 135 #[.pointer (some ⟨b, 0, none⟩), .int .i64 n] w fun e w' => e = .returned (.string (ofBytes (byV n s))) ∧ RD w' b (byS n s) (byB n s bad) ∧ w.grownBy w' (some b) := by
  have c0 := h.c0
  have f0 := h.free 0
  have hs : (ofBytes s).size = s.length := size_ofBytes s
  obtain ⟨N, hN⟩ : ∃ N, N = s.length := ⟨_, rfl⟩
  rw [← hN] at hs _hl
  have HN := Lib.hid hN
  clear hN
  unfold byV byS byB
  rw [← HN.out]
  by_cases h0 : n < 0
  · rw [if_neg (by omega), if_neg (by omega), if_neg (by omega)]
    have hd : decide (n < 0) = true := decide_eq_true h0
    go_enter Tryz.func135, Tryz.ntmps135
    go_wp2_with fail
    refine (rfail_any _ _ _ _ h).mono ?_
    rintro e w' ⟨rfl, hr, hg⟩
    go_wp2
    go_ret
    exact ⟨rfl, hr, hg⟩
  · have hd : decide (n < 0) = false := decide_eq_false h0
    obtain ⟨m, rfl⟩ := Int.eq_ofNat_of_zero_le (Int.not_lt.1 h0)
    by_cases h1 : m ≤ N
    · rw [if_pos ⟨by omega, by omega⟩, if_pos ⟨by omega, by omega⟩, if_pos ⟨by omega, by omega⟩, Int.toNat_natCast]
      have hd1 : decide (N < m) = false := decide_eq_false (by omega)
      have e1 := extract_take s m
      have e2 := extract_drop s m N HN.out
      go_enter Tryz.func135, Tryz.ntmps135
      go_wp2
      go_ret
      exact ⟨rfl, h.set0 _, only_set (World.grownBy.refl w _) _ _⟩
    · rw [if_neg (by omega), if_neg (by omega), if_neg (by omega)]
      have hd1 : decide (N < m) = true := decide_eq_true (by omega)
      go_enter Tryz.func135, Tryz.ntmps135
      go_wp2_with fail
      refine (rfail_any _ _ _ _ h).mono ?_
      rintro e w' ⟨rfl, hr, hg⟩
      go_wp2
      go_ret
      exact ⟨rfl, hr, hg⟩
end Go.Proofs.YtddnnhfffmhpmaaGreatDoor
