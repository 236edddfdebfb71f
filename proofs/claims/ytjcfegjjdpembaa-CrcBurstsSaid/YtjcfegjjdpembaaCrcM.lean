/- CrcBursts answers true: the walk. -/
import Derived.Test.YtjcfegjjdpembaaCrcL
import Derived.Test.YtjcfegjjdpembaaCrcFlip
namespace Go.Proofs.Ytjcfegjjdpembaa
open Go.RowKit

def BytesAt (w : World) (g : Nat) (l : List UInt8) : Prop := ∀ j (h : j < l.length), w.cell? ⟨g, j, none⟩ = some (.int .u8 (l[j].toNat : Int)) ∧ w.frozen? ⟨g, j, none⟩ = false

theorem BytesAt.set_ {w : World} {g : Nat} {l : List UInt8} (h : BytesAt w g l) (i : Nat) (x : UInt8) : BytesAt (w.setCell ⟨g, i, none⟩ (.int .u8 (x.toNat : Int))) g (l.set i x) := by
  intro j hj
  have hj' : j < l.length := by simpa using hj
  refine ⟨?_, by simp [(h j hj').2]⟩
  by_cases e : i = j
  · subst e
    rw [World.cell?_setCell_same w _ _ (h i hj').1]
    simp
  · rw [World.cell?_setCell_other w _ _ _ (fun h => e (by injection h)), (h j hj').1]
    simp [e]

theorem size_ofBytes (l : List UInt8) : (ofBytes l).size = l.length := by simp [ofBytes, ByteArray.size]

theorem conv_bytes (w : World) (T : ByteArray) : ∃ C W, (convert 9 39 (.string T)).run Try.prog w = .ok (.slice (some ⟨w.heap.size, 0, none⟩) T.size C) W ∧ BytesAt W w.heap.size T.data.toList ∧ Below w.heap.size w W := by
  have hcv := run_bytes_of_string (P := Try.prog) w 9 39 5 T Try.underlying9 Try.underlying39 Try.underlying5
  refine ⟨_, _, hcv, ?_, (Below.refl _ w).drew.alloc (Nat.le_refl _) _⟩
  generalize grownCap w T.size 0 5 = C
  intro j hj
  have hj' : j < T.size := by simpa using hj
  have hrow : (w.drew.alloc (.cells (bytesRow T C) 5 ((bytesRow T C).size, (bytesRow T C).size + 1))).heap[w.heap.size]? = some (.cells (bytesRow T C) 5 ((bytesRow T C).size, (bytesRow T C).size + 1)) := heap_alloc_new w.drew _
  have hsz : T.size ≤ (bytesRow T C).size := by simp [bytesRow]
  refine ⟨?_, ?_⟩
  · rw [cell_of_row _ _ _ _ _ _ hrow]
    unfold bytesRow
    rw [Array.getElem?_append_left (by simpa using hj')]
    simp [hj']
  · unfold World.frozen?
    simp only [hrow]
    simp
    omega

theorem conv_string (W : World) (g C : Nat) (l : List UInt8) (h : BytesAt W g l) : (convert 39 9 (.slice (some ⟨g, 0, none⟩) l.length C)).run Try.prog W = .ok (.string (ofBytes l)) W :=
  run_convert_bytes_back W 39 9 5 ⟨g, 0, none⟩ C l Try.underlying39 Try.underlying5 Try.underlying9 (fun j hj => by
    have hadd : (⟨g, 0, none⟩ : Addr).add j = ⟨g, j, none⟩ := by unfold Addr.add; split <;> simp_all
    rw [hadd]
    exact (h j hj).1)

theorem xor_turn (l : List UInt8) (q j m : Nat) (hj : j = q / 8) (hm : m = q % 8) (hl : j < l.length) : bits .xor .u8 ((l[j].toNat : Nat) : Int) (2 ^ m % 256) = (((CrcM.turnAt l q).toNat : Nat) : Int) := by
  have hp : 2 ^ m < 256 := by
    calc 2 ^ m < 2 ^ 8 := Nat.pow_lt_pow_right (by decide) (by omega)
      _ = 256 := by decide
  have e : ((2 : Int) ^ m % 256) = ((2 ^ m : Nat) : Int) := by
    have h2 : ((2 ^ m : Nat) : Int) = (2 : Int) ^ m := by simp
    rw [← h2]
    generalize 2 ^ m = z at hp
    omega
  have hb := (l[j]).toNat_lt
  rw [e, u8_xor_nat _ _ (by omega) hp]
  unfold CrcM.turnAt
  rw [UInt8.toNat_xor, UInt8.toNat_ofNat', ← hj, ← hm]
  generalize 2 ^ m = z at hp
  rw [show z % 2 ^ 8 = z from by omega]
  simp [hl]

set_option maxHeartbeats 4000000 in
set_option maxRecDepth 100000 in
theorem bursts_main (s : ByteArray) (p : Int) (turn : Nat) (w : World) (hs : s.size ≤ 3000) (hp : 0 ≤ p) (hp2 : p ≤ 9223372036854775807) (ht : turn < 4294967296) :
    Calls Try.prog 4 #[.string s, .int .i64 p, .int .u32 turn] w fun e w' => e = .returned (.bool true) ∧ Below w.heap.size w w' := by
  have hs1 : decide ((3000 : Int) < (s.size : Int)) = false := decide_eq_false (by omega)
  have hp1 : decide (p < 0) = false := decide_eq_false (by omega)
  go_enter Try.func4, Try.ntmps4
  go_wp2_with fail
  refine (awake_any _).mono ?_
  rintro e w1 ⟨rfl, b1⟩
  go_wp2_with fail
  refine (Seal_any _ _ (by omega)).mono ?_
  rintro e w2 ⟨rfl, b2⟩
  have b02 : Below w.heap.size w w2 := b1.trans (b2.mono b1.size)
  clear b1 b2
  obtain ⟨T, hT⟩ : ∃ T, T = ofBytes (CrcM.sealed s.data.toList) := ⟨_, rfl⟩
  rw [← hT]
  obtain ⟨C, w3, hcv, ha3, b3⟩ := conv_bytes w2 T
  obtain ⟨L, hL⟩ : ∃ L, L = T.size := ⟨_, rfl⟩
  have hLs : L = s.size + 4 := by rw [hL, hT, size_ofBytes, CrcM.sealed_length]; simp
  rw [← hL] at hcv
  have b03 : Below w.heap.size w w3 := b02.trans (b3.mono b02.size)
  have hg2 : w.heap.size ≤ w2.heap.size := b02.size
  obtain ⟨g, hg⟩ : ∃ g, g = w2.heap.size := ⟨_, rfl⟩
  rw [← hg] at hcv ha3 hg2
  obtain ⟨a, haE⟩ : ∃ a : Nat, p % (8 * (L : Int)) = (a : Int) := ⟨(p % (8 * (L : Int))).toNat, by have := Int.emod_nonneg p (b := 8 * (L : Int)) (by omega); omega⟩
  have halt : a < 8 * L := by have := Int.emod_lt_of_pos p (b := 8 * (L : Int)) (by omega); omega
  have hL4 : 4 ≤ L := by omega
  have hL5 : L ≤ 3004 := by omega
  have HT := Lib.hid hT
  have HL := Lib.hid hL
  have HLs := Lib.hid hLs
  have HB := Lib.hid ha3
  clear hT hL hLs hg b02 b3 ha3
  go_wp2_with fail
  rw [haE]
  clear haE hcv
  go_loopw [8, 9] (fun f i wr => ∃ (k : Nat) (l : List UInt8), k ≤ 32 ∧ a + k ≤ 8 * L ∧ i = .int .i64 k ∧ f = .bool (CrcM.flag turn k) ∧ CrcM.Flipped a turn k T.data.toList l ∧ BytesAt wr g l ∧ Below w.heap.size w wr) (fun _ i _ => 32 - (intOf i).toNat)
  case atStart => exact ⟨0, T.data.toList, by omega, by omega, rfl, by rw [CrcM.flag_zero], CrcM.flipped_zero _ _ _, HB.out, b03⟩
  case round =>
    obtain ⟨k, l, hk, hak, rfl, rfl, hfl, hbl, hbw⟩ := hrel
    by_cases hlt : k < 32 ∧ a + k < 8 * L
    · obtain ⟨hk1, hk2⟩ := hlt
      have hd1 : decide ((k : Int) < 32) = true := decide_eq_true (by omega)
      have hd2 : decide ((a : Int) + (k : Int) < 8 * (L : Int)) = true := decide_eq_true (by omega)
      obtain ⟨q, hq⟩ : ∃ q : Nat, q = turn / 2 ^ k := ⟨_, rfl⟩
      have hqI : (turn : Int) / 2 ^ k = (q : Int) := by rw [hq]; simp
      have hqlt : q ≤ 4294967296 := by rw [hq]; exact Nat.le_trans (Nat.div_le_self _ _) (by omega)
      have hbit := CrcM.bit_of turn k
      rw [← hq] at hbit
      have HQ := Lib.hid hq
      clear hq
      by_cases ho : q % 2 = 1
      · have hob : ((q : Int) % 2 == 1) = true := beq_iff_eq.2 (by omega)
        rw [decide_eq_true ho] at hbit
        have hTl : T.data.toList.length = L := by rw [HL.out]; simp
        have hfl2 := CrcM.flip_yes hfl hbit
        have hll : l.length = L := by rw [hfl.1, hTl]
        obtain ⟨j, hjE⟩ : ∃ j : Nat, j = (a + k) / 8 := ⟨_, rfl⟩
        obtain ⟨m, hmE⟩ : ∃ m : Nat, m = (a + k) % 8 := ⟨_, rfl⟩
        have hjI : ((a : Int) + (k : Int)) / 8 = (j : Int) := by omega
        have hmI : ((a : Int) + (k : Int)) % 8 = (m : Int) := by omega
        have hjl : j < l.length := by rw [hll]; omega
        have hjL : j < L := by omega
        have hm8 : m < 8 := by omega
        have hcell := (hbl j hjl).1
        have hfr := (hbl j hjl).2
        have hset := hbl.set_ j (CrcM.turnAt l (a + k))
        rw [← hjE] at hfl2
        have HF2 := Lib.hid hfl2
        have HSET := Lib.hid hset
        have HO := Lib.hid ho
        clear hset hfl2 hbit hTl ho
        obtain ⟨x, hx⟩ : ∃ x, x = l[j].toNat := ⟨_, rfl⟩
        rw [← hx] at hcell
        have HX := Lib.hid hx
        have HJ := Lib.hid hjE
        have HM := Lib.hid hmE
        clear hx hjE hmE hll
        have hxt := xor_turn l (a + k) j m HJ.out HM.out hjl
        rw [← HX.out] at hxt
        have HXT := Lib.hid hxt
        clear hxt
        go_wp2_with fail
        refine ⟨⟨k + 1, l.set j (CrcM.turnAt l (a + k)), by omega, by omega, by go_num, ?_, HF2.out, ?_, ?_⟩, by simp [intOf]; omega⟩
        · rw [CrcM.turned_yes turn k (by rw [← HQ.out]; exact HO.out)]
        · rw [HXT.out]; exact HSET.out
        · exact hbw.setCell hg2 _
      · have hob : ((q : Int) % 2 == 1) = false := beq_eq_false_iff_ne.2 (by omega)
        rw [decide_eq_false ho] at hbit
        have hfl2 := CrcM.flip_no hfl hbit
        have HF2 := Lib.hid hfl2
        have HO := Lib.hid ho
        clear hfl2 hbit ho
        go_wp2_with fail
        refine ⟨⟨k + 1, l, by omega, by omega, by go_num, ?_, HF2.out, hbl, hbw⟩, by simp [intOf]; omega⟩
        rw [CrcM.turned_no turn k (by rw [← HQ.out]; have := HO.out; omega)]
    · have hTl : T.data.toList.length = L := by rw [HL.out]; simp
      have hll : l.length = L := by rw [hfl.1, hTl]
      have hcs := conv_string wr g C l hbl
      rw [hll] at hcs
      have hTs : T.data.toList = CrcM.sealed s.data.toList := by rw [HT.out, ofBytes_list]
      rw [hTs] at hfl
      have hsz : (ofBytes l).size = s.size + 4 := by rw [size_ofBytes, hll, HLs.out]
      have hszl : (ofBytes l).size ≤ 100000000 := by omega
      have hk2 : k = 32 ∨ a + k = 8 * L := by omega
      have hak2 : a + k ≤ 8 * (CrcM.sealed s.data.toList).length := by rw [← hTs, hTl]; exact hak
      have HLL := Lib.hid hll
      clear hll hTl hTs
      by_cases hz : turn % 2 ^ k = 0
      · have hfz : CrcM.flag turn k = false := by simp [CrcM.flag, hz]
        have hlE := CrcM.flipped_none hfl hz
        have hgood : (ofBytes l).data.toList = CrcM.sealed ((ofBytes l).data.toList.take s.size) := by
          rw [ofBytes_list, hlE]
          have : (CrcM.sealed s.data.toList).take s.size = s.data.toList := by
            rw [CrcM.sealed, List.take_append_of_le_length (by simp), List.take_of_length_le (by simp)]
          rw [this]
        have hres : ofBytes ((ofBytes l).data.toList.take s.size) = s := by
          rw [ofBytes_list, hlE, CrcM.sealed, List.take_append_of_le_length (by simp), List.take_of_length_le (by simp), ofBytes_self]
        have HG := Lib.hid hgood
        have HR := Lib.hid hres
        have HSZ := Lib.hid hsz
        have HZ := Lib.hid hz
        have HLE := Lib.hid hlE
        clear hgood hres hsz hz hlE
        rw [hfz]
        clear hfz
        go_wp2_with (go_at_call 11; refine (open_good _ s.size _ HSZ.out hszl HG.out).mono ?_; rintro e w5 ⟨rfl, b5⟩; rw [HR.out])
        all_goals go_ret
        all_goals exact ⟨rfl, hbw.trans (b5.mono hbw.size)⟩
      · have hfz : CrcM.flag turn k = true := by simp [CrcM.flag, hz]
        have hbad : (ofBytes l).data.toList ≠ CrcM.sealed ((ofBytes l).data.toList.take s.size) := by
          rw [ofBytes_list]
          exact CrcM.burst s.data.toList l a turn k hk hak2 hfl hz _
        have HG := Lib.hid hbad
        have HSZ := Lib.hid hsz
        clear hbad hsz hz
        rw [hfz]
        clear hfz
        go_wp2_with (go_at_call 11; refine (open_bad _ s.size _ HSZ.out hszl HG.out).mono ?_; rintro e w5 ⟨rfl, b5⟩)
        all_goals go_ret
        all_goals exact ⟨rfl, hbw.trans (b5.mono hbw.size)⟩

set_option maxHeartbeats 4000000 in
set_option maxRecDepth 100000 in
theorem bursts_long (s : ByteArray) (p : Int) (turn : Nat) (w : World) (hs : ¬ s.size ≤ 3000) :
    Calls Try.prog 4 #[.string s, .int .i64 p, .int .u32 turn] w fun e w' => e = .returned (.bool true) ∧ Below w.heap.size w w' := by
  have hs1 : decide ((3000 : Int) < (s.size : Int)) = true := decide_eq_true (by omega)
  go_enter Try.func4, Try.ntmps4
  go_wp2_with fail
  refine (awake_any _).mono ?_
  rintro e w1 ⟨rfl, b1⟩
  go_wp2_with fail
  go_ret
  exact ⟨rfl, b1⟩

set_option maxHeartbeats 4000000 in
set_option maxRecDepth 100000 in
theorem bursts_low (s : ByteArray) (p : Int) (turn : Nat) (w : World) (hs : s.size ≤ 3000) (hp : p < 0) :
    Calls Try.prog 4 #[.string s, .int .i64 p, .int .u32 turn] w fun e w' => e = .returned (.bool true) ∧ Below w.heap.size w w' := by
  have hs1 : decide ((3000 : Int) < (s.size : Int)) = false := decide_eq_false (by omega)
  have hp1 : decide (p < 0) = true := decide_eq_true (by omega)
  go_enter Try.func4, Try.ntmps4
  go_wp2_with fail
  refine (awake_any _).mono ?_
  rintro e w1 ⟨rfl, b1⟩
  go_wp2_with fail
  go_ret
  exact ⟨rfl, b1⟩

theorem bursts_any (s : ByteArray) (p : Int) (turn : Nat) (w : World) (hp2 : p ≤ 9223372036854775807) (ht : turn < 4294967296) :
    Calls Try.prog 4 #[.string s, .int .i64 p, .int .u32 turn] w fun e w' => e = .returned (.bool true) ∧ Below w.heap.size w w' := by
  by_cases h1 : s.size ≤ 3000
  · by_cases h2 : p < 0
    · exact bursts_low s p turn w h1 h2
    · exact bursts_main s p turn w h1 (by omega) hp2 ht
  · exact bursts_long s p turn w h1
end Go.Proofs.Ytjcfegjjdpembaa
