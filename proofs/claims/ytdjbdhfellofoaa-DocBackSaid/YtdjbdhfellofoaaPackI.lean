
/- The program's reader: its block, fail, New, Left, Bad, number. -/
import Derived.Test.YtdjbdhfellofoaaPackH
namespace Go.Proofs.Ytdjbdhfellofoaa
open Go.RowKit

/-- the reader at block b: what is left, is it bad -/
def RD (w : World) (b : Nat) (s : List UInt8) (bad : Bool) : Prop := w.heap[b]? = some (.cells #[.string (ofBytes s), .bool bad] 67 (0, 0))
section
variable {w : World} {b : Nat} {s : List UInt8} {bad : Bool}
theorem RD.lt (h : RD w b s bad) : b < w.heap.size := (Array.getElem?_eq_some_iff.1 h).1
theorem RD.c0 (h : RD w b s bad) : w.cell? ⟨b, 0, none⟩ = some (.string (ofBytes s)) := cell_of_row w b 0 _ _ (0, 0) h
theorem RD.c1 (h : RD w b s bad) : w.cell? ⟨b, 1, none⟩ = some (.bool bad) := cell_of_row w b 1 _ _ (0, 0) h
theorem RD.free (h : RD w b s bad) (i : Nat) : w.frozen? ⟨b, i, none⟩ = false := by
  unfold RD at h
  simp [World.frozen?, h]
theorem RD.set0 (h : RD w b s bad) (s' : List UInt8) : RD (w.setCell ⟨b, 0, none⟩ (.string (ofBytes s'))) b s' bad := by
  unfold RD; rw [heap_setCell_row h]; rfl
theorem RD.set1 (h : RD w b s bad) (x : Bool) : RD (w.setCell ⟨b, 1, none⟩ (.bool x)) b s x := by
  unfold RD; rw [heap_setCell_row h]; rfl
theorem RD.kept {w' : World} (h : RD w b s bad) (hb : w'.heap[b]? = w.heap[b]?) : RD w' b s bad := hb.trans h
theorem RD.alloc (h : RD w b s bad) (o : Obj) : RD (w.alloc o) b s bad := (Below.heap_alloc w o b h.lt).trans h
theorem RD.later {w' : World} (h : RD w b s bad) (hb : Below w.heap.size w w') : RD w' b s bad := (hb.block b h.lt).trans h
theorem RD.drew (h : RD w b s bad) : RD w.drew b s bad := h
end
theorem only_below {a w w' : World} {b : Nat} (h : a.grownBy w (some b)) (hb : Below w.heap.size w w') : a.grownBy w' (some b) :=
  ⟨hb.os.trans h.os, hb.tape.trans h.tape, hb.output.trans h.output, Nat.le_trans h.size hb.size, fun i hi hne => (hb.block i (Nat.lt_of_lt_of_le hi h.size)).trans (h.block i hi hne)⟩

set_option maxHeartbeats 400000 in
theorem rfail_any (w : World) (b : Nat) (s : List UInt8) (bad : Bool) (h : RD w b s bad) :
    Calls Try.prog 72 #[.pointer (some ⟨b, 0, none⟩)] w fun e w' => e = .returned (.tuple #[]) ∧ RD w' b [] true ∧ w.grownBy w' (some b) := by
  have c0 := h.c0
  have f0 := h.free 0
  have h1 : RD (w.setCell ⟨b, 0, none⟩ (.string ⟨#[]⟩)) b [] bad := h.set0 []
  have c1 := h1.c1
  have f1 := h1.free 1
  go_enter Try.func72, Try.ntmps72
  go_wp2
  go_end0
  exact ⟨rfl, h1.set1 true, only_set (only_set (World.grownBy.refl w _) _ _) _ _⟩

set_option maxHeartbeats 400000 in
theorem rleft_any (w : World) (b : Nat) (s : List UInt8) (bad : Bool) (h : RD w b s bad) :
    Calls Try.prog 18 #[.pointer (some ⟨b, 0, none⟩)] w fun e w' => e = .returned (.int .i64 (s.length : Nat)) ∧ w = w' := by
  have c0 := h.c0
  have hs : (ofBytes s).size = s.length := size_ofBytes s
  go_enter Try.func18, Try.ntmps18
  go_wp2
  go_ret
  exact ⟨rfl, rfl⟩
set_option maxHeartbeats 400000 in
theorem rbad_any (w : World) (b : Nat) (s : List UInt8) (bad : Bool) (h : RD w b s bad) :
    Calls Try.prog 29 #[.pointer (some ⟨b, 0, none⟩)] w fun e w' => e = .returned (.bool bad) ∧ w = w' := by
  have c1 := h.c1
  go_enter Try.func29, Try.ntmps29
  go_wp2
  go_ret
  exact ⟨rfl, rfl⟩

set_option maxHeartbeats 400000 in
theorem rnew_any (w : World) (s : List UInt8) (hs : s.length ≤ 100000000) :
    Calls Try.prog 12 #[.string (ofBytes s)] w fun e w' => ∃ b, e = .returned (.pointer (some ⟨b, 0, none⟩)) ∧ w.heap.size ≤ b ∧ RD w' b s false ∧ Below w.heap.size w w' := by
  have hz : (ofBytes s).size ≤ 100000000 := by rw [size_ofBytes]; exact hs
  go_enter Try.func12, Try.ntmps12
  go_wp2_with fail
  refine (clone_any _ _ hz).mono ?_
  rintro e w1 ⟨rfl, hb⟩
  go_wp2
  go_ret
  exact ⟨_, rfl, hb.size, heap_alloc_new w1 _, hb.alloc hb.size _⟩

def nV (most : Nat) (s : List UInt8) : Nat := match PackM.num most 0 0 s with | none => 0 | some x => x.1
def nS (most : Nat) (s : List UInt8) : List UInt8 := match PackM.num most 0 0 s with | none => [] | some x => x.2
def nB (most : Nat) (s : List UInt8) (bad : Bool) : Bool := match PackM.num most 0 0 s with | none => true | some _ => bad

theorem and127u8 (u : Nat) (h : u < 256) : bits .and .u8 (u : Int) 127 = ((u % 128 : Nat) : Int) := by
  have := u8_and_nat u 127 h (by decide)
  have e : u &&& 127 = u % 128 := Nat.and_two_pow_sub_one_eq_mod u 7
  rw [e] at this
  exact this
theorem and128u8 (u : Nat) (h : u < 256) : bits .and .u8 (u : Int) 128 = ((if 128 ≤ u then 128 else 0 : Nat) : Int) := by
  have := u8_and_nat u 128 h (by decide)
  have e : u &&& 128 = if 128 ≤ u then 128 else 0 := by
    have h2 : ∀ x : Fin 256, x.val &&& 128 = if 128 ≤ x.val then 128 else 0 := by decide +kernel
    exact h2 ⟨u, h⟩
  rw [e] at this
  exact this

theorem shr_min (x t : Nat) (hx : x < 18446744073709551616) : (x : Int) / 2 ^ min t 64 = ((x / 2 ^ t : Nat) : Int) := by
  by_cases ht : t ≤ 64
  · rw [Nat.min_eq_left ht]; simp
  · rw [Nat.min_eq_right (by omega)]
    have h0 : x / 2 ^ t = 0 := Nat.div_eq_of_lt (Nat.lt_of_lt_of_le hx (by
      calc 18446744073709551616 = 2 ^ 64 := by decide
        _ ≤ 2 ^ t := Nat.pow_le_pow_right (by decide) (by omega)))
    rw [h0]
    omega
theorem shl_min (x t y : Nat) (hy : y = x * 2 ^ t) (hyl : y < 18446744073709551616) : (x : Int) * 2 ^ min t 64 = (y : Int) := by
  by_cases ht : t ≤ 64
  · rw [Nat.min_eq_left ht, hy]; simp
  · have hp : 18446744073709551616 ≤ 2 ^ t := by
      calc 18446744073709551616 = 2 ^ 64 := by decide
        _ ≤ 2 ^ t := Nat.pow_le_pow_right (by decide) (by omega)
    have hx : x = 0 := by
      rcases Nat.eq_zero_or_pos x with e | e
      · exact e
      · have := Nat.mul_le_mul e hp
        omega
    subst hx
    rw [Nat.zero_mul] at hy
    subst hy
    simp
theorem pow7 (k : Nat) : 2 ^ (7 * k) = 128 ^ k := by rw [Nat.pow_mul]
theorem or_u64 (u y k : Nat) (g : Nat) (hu : u < 128 ^ k) (hy : y = g * 128 ^ k) (h : u + y < 18446744073709551616) : bits .or .u64 (u : Int) (y : Int) = ((u + y : Nat) : Int) := by
  rw [u64_or_nat u y (by omega) (by omega)]
  have := Nat.shiftLeft_add_eq_or_of_lt (i := 7 * k) (b := u) (by rw [pow7]; exact hu) g
  rw [Nat.shiftLeft_eq, pow7, ← hy] at this
  rw [Nat.or_comm, ← this, Nat.add_comm]
theorem over_iff (most u g k : Nat) (hu : u ≤ most) : (most - u) / 128 ^ k < g ↔ most < u + g * 128 ^ k := by
  rw [Nat.div_lt_iff_lt_mul (Nat.pow_pos (by decide))]
  omega
theorem extract_drop (s : List UInt8) (k N : Nat) (h : N = s.length) : (ofBytes s).extract k N = ofBytes (s.drop k) := by
  apply ByteArray.ext
  apply Array.ext'
  rw [ByteArray.data_extract, Array.toList_extract, ofBytes_list, ofBytes_list, h]
  simp only [List.extract]
  exact List.take_of_length_le (by simp)

set_option maxHeartbeats 1600000 in
set_option maxRecDepth 100000 in
theorem number_any (w : World) (b : Nat) (s : List UInt8) (bad : Bool) (most : Nat) (hm : most < 18446744073709551616) (hl : s.length ≤ 100000000) (h : RD w b s bad) :
    Calls Try.prog 66 #[.pointer (some ⟨b, 0, none⟩), .int .u64 most] w fun e w' => e = .returned (.int .u64 (nV most s)) ∧ RD w' b (nS most s) (nB most s bad) ∧ w.grownBy w' (some b) := by
  have c0 := h.c0
  have f0 := h.free 0
  have hs : (ofBytes s).size = s.length := size_ofBytes s
  obtain ⟨N, hN⟩ : ∃ N, N = s.length := ⟨_, rfl⟩
  rw [← hN] at hs hl
  have HN := Lib.hid hN
  clear hN
  go_enter Try.func66, Try.ntmps66
  go_wp2
  go_loop [5, 14] (fun x i => ∃ (k u : Nat), k ≤ N ∧ i = .int .i64 k ∧ x = .int .u64 u ∧ u < 128 ^ k ∧ u ≤ most ∧ PackM.num most 0 0 s = PackM.num most k u (s.drop k)) (fun _ i => N - (intOf i).toNat)
  case atStart => exact ⟨0, 0, by omega, rfl, rfl, by decide, by omega, by rw [List.drop_zero]⟩
  case round =>
    obtain ⟨k, u, hk, rfl, rfl, hu, hum, heq⟩ := hrel
    have HE := Lib.hid heq
    have HU := Lib.hid hu
    clear heq hu
    by_cases hlt : k < N
    · have hkl : k < s.length := by rw [← HN.out]; exact hlt
      have hd : decide ((k : Int) < (N : Int)) = true := decide_eq_true (by omega)
      have hdr := List.drop_eq_getElem_cons hkl
      obtain ⟨c, hc⟩ : ∃ c : UInt8, c = s[k] := ⟨_, rfl⟩
      have hkz : k < (ofBytes s).size := by rw [hs]; exact hlt
      obtain ⟨x, hx⟩ : ∃ x : Nat, x = c.toNat := ⟨_, rfl⟩
      have hx256 : x < 256 := by rw [hx]; exact c.toNat_lt
      have hbx : (ofBytes s)[k].toNat = x := by rw [hx, hc]; rfl
      rw [← hc] at hdr
      clear hc
      have hand := and127u8 x hx256
      obtain ⟨g, hg⟩ : ∃ g, g = x % 128 := ⟨_, rfl⟩
      rw [← hg] at hand
      have hgl : g < 128 := by omega
      obtain ⟨t, ht⟩ : ∃ t, t = 7 * k := ⟨_, rfl⟩
      have htI : 7 * (k : Int) = (t : Int) := by omega
      have hsubI : (most : Int) - (u : Int) = ((most - u : Nat) : Int) := by omega
      have hshr := shr_min (most - u) t (by omega)
      obtain ⟨qv, hqv⟩ : ∃ qv, qv = (most - u) / 2 ^ t := ⟨_, rfl⟩
      rw [← hqv] at hshr
      rw [ht, pow7] at hqv
      have hov := over_iff most u g k hum
      rw [← hqv] at hov
      obtain ⟨d, hdE⟩ : ∃ d, d = most - u := ⟨_, rfl⟩
      rw [← hdE] at hsubI hshr
      have hdl : d < 18446744073709551616 := by omega
      have HX := Lib.hid hx
      have HG := Lib.hid hg
      have HT := Lib.hid ht
      have HQ := Lib.hid hqv
      have HDR := Lib.hid hdr
      have HOV := Lib.hid hov
      clear hx hg ht hqv hdr hov hdE
      by_cases hover : qv < g
      · have hdo : decide (qv < g) = true := decide_eq_true (by omega)
        have hnone : PackM.num most 0 0 s = none := by
          rw [HE.out, HDR.out]
          refine PackM.num_over ?_
          rw [← HX.out, ← HG.out]
          exact HOV.out.1 hover
        have HNO := Lib.hid hnone
        clear hnone
        go_wp2_with fail
        refine (rfail_any _ _ _ _ h).mono ?_
        rintro e w' ⟨rfl, hr, hg⟩
        go_wp2
        go_ret
        unfold nV nS nB
        rw [HNO.out]
        exact ⟨rfl, hr, hg⟩
      · have hdo : decide (qv < g) = false := decide_eq_false (by omega)
        have hno : ¬ most < u + g * 128 ^ k := fun h => hover (HOV.out.2 h)
        obtain ⟨y, hy⟩ : ∃ y, y = g * 128 ^ k := ⟨_, rfl⟩
        rw [← hy] at hno
        have hshl := shl_min g t y (by rw [HT.out, pow7, hy]) (by omega)
        have hor := or_u64 u y k g HU.out hy (by omega)
        obtain ⟨u2, hu2⟩ : ∃ u2, u2 = u + y := ⟨_, rfl⟩
        rw [← hu2] at hor hno
        have hu2k : u2 < 128 ^ (k + 1) := by
          have h1 : g * 128 ^ k ≤ 127 * 128 ^ k := Nat.mul_le_mul_right _ (by omega)
          have h2 := HU.out
          rw [Nat.pow_succ]; omega
        have hno' : ¬ most < u + c.toNat % 128 * 128 ^ k := by rw [← HX.out, ← HG.out, ← hy, ← hu2]; exact hno
        have hval : u + c.toNat % 128 * 128 ^ k = u2 := by rw [← HX.out, ← HG.out, ← hy, ← hu2]
        have HV := Lib.hid hval
        have HNO := Lib.hid hno'
        have HU2 := Lib.hid hu2
        have HU2K := Lib.hid hu2k
        have hy64 : y < 18446744073709551616 := by omega
        clear hval hno' hu2 hy hu2k
        have hand2 := and128u8 x hx256
        by_cases hmore : 128 ≤ x
        · rw [if_pos hmore] at hand2
          have hnext : PackM.num most 0 0 s = PackM.num most (k + 1) u2 (s.drop (k + 1)) := by
            rw [HE.out, HDR.out, PackM.num_more HNO.out (by rw [← HX.out]; exact hmore), HV.out]
          have HNX := Lib.hid hnext
          clear hnext
          go_wp2
          go_round
          case rel => exact ⟨k + 1, u2, by omega, by go_num, rfl, HU2K.out, by omega, HNX.out⟩
          case measure => simp [intOf]; omega
        · rw [if_neg hmore] at hand2
          by_cases hzero : x = 0 ∧ 0 < k
          · have hnone : PackM.num most 0 0 s = none := by
              rw [HE.out, HDR.out]
              exact PackM.num_null HNO.out (by rw [← HX.out]; exact hzero.1) hzero.2
            have HNONE := Lib.hid hnone
            obtain ⟨hz1, hz2⟩ := hzero
            have hx0 : ((x : Int) == 0) = true := beq_iff_eq.2 (by omega)
            have hk0 : decide ((0 : Int) < (k : Int)) = true := decide_eq_true (by omega)
            clear hnone hz1
            go_wp2_with fail
            refine (rfail_any _ _ _ _ h).mono ?_
            rintro e w' ⟨rfl, hr, hg⟩
            go_wp2
            go_ret
            unfold nV nS nB
            rw [HNONE.out]
            exact ⟨rfl, hr, hg⟩
          · have hsome : PackM.num most 0 0 s = some (u2, s.drop (k + 1)) := by
              rw [HE.out, HDR.out, PackM.num_end HNO.out (by rw [← HX.out]; exact hmore) (by rw [← HX.out]; exact hzero), HV.out]
            have HSOME := Lib.hid hsome
            have hex := extract_drop s (k + 1) N HN.out
            have hr := h.set0 (s.drop (k + 1))
            have HZ := Lib.hid hzero
            clear hsome hzero
            by_cases hx0 : x = 0
            · have hx0b : ((x : Int) == 0) = true := beq_iff_eq.2 (by omega)
              have hk0 : ¬ 0 < k := by have := HZ.out; omega
              have hk1 : decide (0 < k) = false := decide_eq_false hk0
              have htz : min t 64 = t := by have := HT.out; omega
              rw [htz] at hshr hshl
              clear hx0 htz
              go_wp2
              go_ret
              unfold nV nS nB
              rw [HSOME.out]
              exact ⟨rfl, hr, only_set (World.grownBy.refl w _) _ _⟩
            · have hx0b : ((x : Int) == 0) = false := beq_eq_false_iff_ne.2 (by omega)
              clear hx0
              go_wp2
              go_ret
              unfold nV nS nB
              rw [HSOME.out]
              exact ⟨rfl, hr, only_set (World.grownBy.refl w _) _ _⟩
    · have hd : decide ((k : Int) < (N : Int)) = false := decide_eq_false (by omega)
      have hnone : PackM.num most 0 0 s = none := by rw [HE.out, List.drop_of_length_le (by rw [← HN.out]; omega)]; rfl
      have HNO := Lib.hid hnone
      clear hnone
      go_wp2_with fail
      refine (rfail_any _ _ _ _ h).mono ?_
      rintro e w' ⟨rfl, hr, hg⟩
      go_wp2
      go_ret
      unfold nV nS nB
      rw [HNO.out]
      exact ⟨rfl, hr, hg⟩
end Go.Proofs.Ytdjbdhfellofoaa
