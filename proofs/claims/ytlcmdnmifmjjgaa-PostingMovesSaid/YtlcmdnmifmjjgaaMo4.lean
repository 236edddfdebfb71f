/- Own texts, merged (4 of 9). -/
import Derived.Laws.EntriesVeiled
import Derived.Test.YtlcmdnmifmjjgaaRows
import Derived.WalkKit
import Derived.WalkSpells
import Derived.WalkLawsBesides
import Derived.Test.YtlcmdnmifmjjgaaMo3

/- The program's reader: Varint, Zigzag, Bytes. -/
namespace Go.Proofs.Ytlcmdnmifmjjgaa
open Go.RowKit

theorem nV_le (most : Nat) (s : List UInt8) : nV most s ≤ most := by
  unfold nV
  cases h : PackM.num most 0 0 s with
  | none => simp
  | some x => exact (PackM.num_ge s 0 0 x.1 x.2 h).2
theorem nS_len (most : Nat) (s : List UInt8) : (nS most s).length ≤ s.length := by
  unfold nS
  cases h : PackM.num most 0 0 s with
  | none => simp
  | some x => have := PackM.num_short (v := x.1) (t := x.2) h; simp only; omega

set_option maxHeartbeats 400000 in
theorem rvarint_any (w : World) (b : Nat) (s : List UInt8) (bad : Bool) (hl : s.length ≤ 100000000) (h : RD w b s bad) :
    Calls Try.prog 60 #[.pointer (some ⟨b, 0, none⟩)] w fun e w' => e = .returned (.int .i64 (nV PackM.MAXI s : Nat)) ∧ RD w' b (nS PackM.MAXI s) (nB PackM.MAXI s bad) ∧ w.grownBy w' (some b) := by
  have hv := nV_le PackM.MAXI s
  have hm : PackM.MAXI = 9223372036854775807 := rfl
  rw [hm] at hv
  have HM := Lib.hid hm
  clear hm
  go_enter Try.func60, Try.ntmps60
  go_wp2_with fail
  refine (number_any w b s bad PackM.MAXI (by rw [HM.out]; decide) hl h).mono ?_
  rintro e w' ⟨rfl, hr, hg⟩
  obtain ⟨x, hx⟩ : ∃ x, x = nV PackM.MAXI s := ⟨_, rfl⟩
  have hv2 : x ≤ 9223372036854775807 := by rw [hx]; exact hv
  rw [← hx]
  have HX := Lib.hid hx
  clear hx hv
  go_wp2
  go_ret
  exact ⟨by rw [← HX.out]; rfl, hr, hg⟩

theorem and1u64 (u : Nat) (h : u < 18446744073709551616) : bits .and .u64 (u : Int) 1 = ((u % 2 : Nat) : Int) := by
  have := u64_and_nat u 1 h (by decide)
  rw [Nat.and_one_is_mod] at this
  exact this

theorem not_i64 (y : Nat) (h : y < 9223372036854775808) : bits .xor .i64 (-1) (y : Int) = -(y : Int) - 1 := by
  have h1 : (BitVec.ofInt 64 (-1)).toNat = 18446744073709551615 := by decide
  show IntKind.i64.wrap ((BitVec.ofInt 64 (-1) ^^^ BitVec.ofInt 64 (y : Int)).toNat : Int) = _
  rw [BitVec.toNat_xor, ofInt_u64 y (by omega), h1, ← xor_ones64 (by omega), IntKind.wrap_i64]
  omega

def byV (n : Int) (s : List UInt8) : List UInt8 := if 0 ≤ n ∧ n ≤ (s.length : Int) then s.take n.toNat else []
def byS (n : Int) (s : List UInt8) : List UInt8 := if 0 ≤ n ∧ n ≤ (s.length : Int) then s.drop n.toNat else []
def byB (n : Int) (s : List UInt8) (bad : Bool) : Bool := if 0 ≤ n ∧ n ≤ (s.length : Int) then bad else true
theorem extract_take (s : List UInt8) (k : Nat) : (ofBytes s).extract 0 k = ofBytes (s.take k) := by
  apply ByteArray.ext
  apply Array.ext'
  rw [ByteArray.data_extract, Array.toList_extract, ofBytes_list, ofBytes_list]
  simp [List.extract]

set_option maxHeartbeats 800000 in
theorem rbytes_any (w : World) (b : Nat) (s : List UInt8) (bad : Bool) (n : Int) (_hl : s.length ≤ 1000000000) (h : RD w b s bad) :
    Calls Try.prog 64 #[.pointer (some ⟨b, 0, none⟩), .int .i64 n] w fun e w' => e = .returned (.string (ofBytes (byV n s))) ∧ RD w' b (byS n s) (byB n s bad) ∧ w.grownBy w' (some b) := by
  have c0 := h.c0
  have f0 := h.free 0
  have hs : (ofBytes s).size = s.length := size_ofBytes s
  obtain ⟨N, hN⟩ : ∃ N, N = s.length := ⟨_, rfl⟩
  rw [← hN] at hs _hl
  have HN := Lib.hid hN
  clear hN
  unfold byV byS byB
  rw [← HN.out]
  by_cases h0 : n < 0
  · rw [if_neg (by omega), if_neg (by omega), if_neg (by omega)]
    have hd : decide (n < 0) = true := decide_eq_true h0
    go_enter Try.func64, Try.ntmps64
    go_wp2_with fail
    refine (rfail_any _ _ _ _ h).mono ?_
    rintro e w' ⟨rfl, hr, hg⟩
    go_wp2
    go_ret
    exact ⟨rfl, hr, hg⟩
  · have hd : decide (n < 0) = false := decide_eq_false h0
    obtain ⟨m, rfl⟩ := Int.eq_ofNat_of_zero_le (Int.not_lt.1 h0)
    by_cases h1 : m ≤ N
    · rw [if_pos ⟨by omega, by omega⟩, if_pos ⟨by omega, by omega⟩, if_pos ⟨by omega, by omega⟩, Int.toNat_natCast]
      have hd1 : decide (N < m) = false := decide_eq_false (by omega)
      have e1 := extract_take s m
      have e2 := extract_drop s m N HN.out
      go_enter Try.func64, Try.ntmps64
      go_wp2
      go_ret
      exact ⟨rfl, h.set0 _, only_set (World.grownBy.refl w _) _ _⟩
    · rw [if_neg (by omega), if_neg (by omega), if_neg (by omega)]
      have hd1 : decide (N < m) = true := decide_eq_true (by omega)
      go_enter Try.func64, Try.ntmps64
      go_wp2_with fail
      refine (rfail_any _ _ _ _ h).mono ?_
      rintro e w' ⟨rfl, hr, hg⟩
      go_wp2
      go_ret
      exact ⟨rfl, hr, hg⟩
end Go.Proofs.Ytlcmdnmifmjjgaa

/- The program's reader: Rising. -/
namespace Go.Proofs.Ytlcmdnmifmjjgaa
open Go.RowKit

def IntsAt (w : World) (g : Nat) (l : List Int) : Prop := ∀ j (h : j < l.length), w.cell? ⟨g, j, none⟩ = some (.int .i64 l[j]) ∧ w.frozen? ⟨g, j, none⟩ = false
theorem IntsAt.set_ {w : World} {g : Nat} {l : List Int} (h : IntsAt w g l) (i : Nat) (x : Int) : IntsAt (w.setCell ⟨g, i, none⟩ (.int .i64 x)) g (l.set i x) := by
  intro j hj
  have hj' : j < l.length := by simpa using hj
  refine ⟨?_, by simp [(h j hj').2]⟩
  by_cases e : i = j
  · subst e
    rw [World.cell?_setCell_same w _ _ (h i hj').1]
    simp
  · rw [World.cell?_setCell_other w _ _ _ (fun h => e (by injection h)), (h j hj').1]
    simp [e]
theorem IntsAt.turned {S : Nat → Prop} {w w' : World} {g : Nat} {l : List Int} (h : IntsAt w g l) (ht : Turned S w w') (hg : g < w.heap.size) (hS : ¬ S g) : IntsAt w' g l :=
  fun j hj => ⟨(ht.cell (p := ⟨g, j, none⟩) hg hS).trans (h j hj).1, (ht.frozen (p := ⟨g, j, none⟩) hg hS).trans (h j hj).2⟩
theorem IntsAt.ints {w : World} {g n : Nat} {l : List Int} (h : IntsAt w g l) (hg : g < w.heap.size) (hn : l.length = n) : Ints w (some ⟨g, 0, none⟩) n l :=
  ⟨hn, fun k hk => ⟨g, 0, rfl, hg, by rw [Nat.zero_add]; exact (h k hk).1⟩⟩
theorem set_fill (acc : List Int) (m : Nat) (x : Int) : (acc ++ List.replicate (m + 1) 0).set acc.length x = (acc ++ [x]) ++ List.replicate m 0 := by
  rw [List.set_append_right _ _ (Nat.le_refl _), Nat.sub_self, List.replicate_succ, List.set_cons_zero, List.append_assoc]
  rfl
theorem made_ints (w : World) (L : Nat) (hL : L ≤ 1000000000) : ∃ M, (Instr.makeSlice 60 (.int .i64 (L : Int)) (.int .i64 (L : Int))).run Try.prog w = .ok (.slice (some ⟨w.heap.size, 0, none⟩) L L) (w.alloc (.cells M 3)) ∧ IntsAt (w.alloc (.cells M 3)) w.heap.size (List.replicate L 0) := by
  obtain ⟨i0, hi, hz0, hz1, hz2⟩ := info_parts int_info
  have h := run_make (P := Try.prog) w 60 3 i0 (.int .i64 0) Try.underlying60 hi hz0 .i64 .i64 (L : Int) (L : Int) (by omega) (by omega) (by rw [hz2]; omega) (by omega)
  rw [hz1, Int.toNat_natCast, Nat.mul_one] at h
  obtain ⟨M, hM⟩ : ∃ M, M = madeCells (Value.int .i64 0).cells L := ⟨_, rfl⟩
  rw [← hM] at h
  refine ⟨M, h, ?_⟩
  intro j hj
  rw [List.length_replicate] at hj
  have hrow := heap_alloc_new w (.cells M 3)
  refine ⟨?_, by unfold World.frozen?; simp only [hrow]; simp⟩
  rw [cell_of_row _ _ _ _ _ _ hrow, hM, show (Value.int .i64 0).cells = #[Value.int .i64 0] from rfl, made_at _ _ _ hj]
  simp

/-- what a step of a rising row leaves -/
def RisStep (b B6 : Nat) (s : List UInt8) (la : Int) (e : Ending) (w' : World) : Prop :=
  (∃ d t, PackM.num PackM.MAXI 0 0 s = some (d, t) ∧ ¬ (PackM.MAXI : Int) - 1 - la < (d : Int) ∧ e = .returned (.int .i64 (la + 1 + d)) ∧ RD w' b t false ∧ w'.cell? ⟨B6, 0, none⟩ = some (.int .i64 (la + 1 + d)) ∧ w'.frozen? ⟨B6, 0, none⟩ = false) ∨
  ((∀ d t, PackM.num PackM.MAXI 0 0 s = some (d, t) → (PackM.MAXI : Int) - 1 - la < (d : Int)) ∧ (∃ v : Int, e = .returned (.int .i64 v)) ∧ RD w' b [] true)

set_option maxHeartbeats 800000 in
theorem rstep_any (w : World) (b B2 B6 : Nat) (s : List UInt8) (la : Int) (hl : s.length ≤ 100000000) (h1 : -1 ≤ la) (h2 : la ≤ 9223372036854775807) (h : RD w b s false) (hb2 : B2 ≠ b) (hb6 : B6 ≠ b) (hs2 : B2 < w.heap.size) (hs6 : B6 < w.heap.size)
    (c2 : w.cell? ⟨B2, 0, none⟩ = some (.pointer (some ⟨b, 0, none⟩))) (c6 : w.cell? ⟨B6, 0, none⟩ = some (.int .i64 la)) (f6 : w.frozen? ⟨B6, 0, none⟩ = false) :
    Calls Try.prog 63 #[.pointer (some ⟨B2, 0, none⟩), .pointer (some ⟨B6, 0, none⟩)] w fun e w' => RisStep b B6 s la e w' ∧ Turned (fun k => k = b ∨ k = B6) w w' := by
  go_enter Try.func63, Try.ntmps63
  go_wp2_with fail
  refine (rvarint_any w b s false hl h).mono ?_
  rintro e w1 ⟨rfl, hr, hg⟩
  have k2 : w1.cell? ⟨B2, 0, none⟩ = some (.pointer (some ⟨b, 0, none⟩)) := (cell_of_grown hg (p := ⟨B2, 0, none⟩) hs2 (fun e => hb2 (by injection e))).trans c2
  have k6 : w1.cell? ⟨B6, 0, none⟩ = some (.int .i64 la) := (cell_of_grown hg (p := ⟨B6, 0, none⟩) hs6 (fun e => hb6 (by injection e))).trans c6
  have k6f : w1.frozen? ⟨B6, 0, none⟩ = false := (World.frozen?_of_block (hg.block B6 hs6 (fun e => hb6 (by injection e)))).trans f6
  have hT : Turned (fun k => k = b ∨ k = B6) w w1 := Turned.of_grown hg (.inl rfl)
  have hv := nV_le PackM.MAXI s
  have hm : PackM.MAXI = 9223372036854775807 := rfl
  rw [hm] at hv
  have HM := Lib.hid hm
  obtain ⟨x, hx⟩ : ∃ x, x = nV PackM.MAXI s := ⟨_, rfl⟩
  rw [← hm, ← hx] at hv
  rw [hm] at hv
  rw [← hx]
  have HX := Lib.hid hx
  have HR := Lib.hid hr
  clear hx hm c2 c6 f6 hr
  by_cases hbig : 9223372036854775806 - la < (x : Int)
  · have hd : decide (9223372036854775806 - la < (x : Int)) = true := decide_eq_true hbig
    go_wp2_with fail
    refine (rfail_any _ _ _ _ HR.out).mono ?_
    rintro e w2 ⟨rfl, hr2, hg2⟩
    go_wp2
    go_ret
    refine ⟨.inr ⟨fun d t hd => ?_, ⟨_, rfl⟩, hr2⟩, hT.trans (Turned.of_grown hg2 (.inl rfl))⟩
    have : x = d := by rw [HX.out]; unfold nV; rw [hd]
    rw [HM.out]; omega
  · have hd : decide (9223372036854775806 - la < (x : Int)) = false := decide_eq_false hbig
    go_wp2
    go_ret
    have hw1 : wrap64 (la + wrap64 (1 + (x : Int))) = la + 1 + (x : Int) := by unfold wrap64; omega
    rw [hw1]
    have hT2 : Turned (fun k => k = b ∨ k = B6) w (w1.setCell ⟨B6, 0, none⟩ (.int .i64 (la + 1 + (x : Int)))) := hT.set_ (.inr rfl) _ _
    have hRb : ∀ s' bad', RD w1 b s' bad' → RD (w1.setCell ⟨B6, 0, none⟩ (.int .i64 (la + 1 + (x : Int)))) b s' bad' := fun s' bad' hr => hr.kept (Below.heap_setCell w1 _ _ b (fun e => hb6 e.symm))
    refine ⟨?_, hT2⟩
    cases hN : PackM.num PackM.MAXI 0 0 s with
    | none =>
      refine .inr ⟨fun d t hd => (by rw [hN] at hd; cases hd), ⟨_, rfl⟩, hRb _ _ ?_⟩
      have := HR.out
      unfold nS nB at this
      rw [hN] at this
      exact this
    | some y =>
      have hxd : x = y.1 := by rw [HX.out]; unfold nV; rw [hN]
      refine .inl ⟨y.1, y.2, hN, by rw [HM.out]; omega, by rw [hxd]; rfl, hRb _ _ ?_, by rw [← hxd]; exact World.cell?_setCell_same _ _ _ k6, by simp [k6f]⟩
      have := HR.out
      unfold nS nB at this
      rw [hN] at this
      exact this
end Go.Proofs.Ytlcmdnmifmjjgaa

/- The program's reader: a rising row. -/
namespace Go.Proofs.Ytlcmdnmifmjjgaa
open Go.RowKit

/-- what row leaves of a rising row -/
def RisRow (N b : Nat) (bad : Bool) (o : Option (List Int × List UInt8)) (e : Ending) (w' : World) : Prop :=
  (∃ l t g, o = some (l, t) ∧ e = .returned (.slice (some ⟨g, 0, none⟩) l.length l.length) ∧ N ≤ g ∧ Ints w' (some ⟨g, 0, none⟩) l.length l ∧ RD w' b t bad) ∨ (o = none ∧ e = .returned (.slice none 0 0) ∧ RD w' b [] true)

set_option maxHeartbeats 1600000 in
set_option maxRecDepth 100000 in
theorem rowrise_any (w : World) (b B2 B6 n : Nat) (s : List UInt8) (hl : s.length ≤ 100000000) (hn : n ≤ 100000000) (h : RD w b s false) (hb2 : B2 ≠ b) (hb6 : B6 ≠ b) (hb26 : B2 ≠ B6) (hs2 : B2 < w.heap.size) (hs6 : B6 < w.heap.size)
    (c2 : w.cell? ⟨B2, 0, none⟩ = some (.pointer (some ⟨b, 0, none⟩))) (c6 : w.cell? ⟨B6, 0, none⟩ = some (.int .i64 (-1))) (f6 : w.frozen? ⟨B6, 0, none⟩ = false) :
    Calls Try.prog 62 #[.pointer (some ⟨b, 0, none⟩), .int .i64 (n : Int), .func (.func 63) #[] #[.pointer (some ⟨B2, 0, none⟩), .pointer (some ⟨B6, 0, none⟩)]] w fun e w' => RisRow w.heap.size b false (PackM.ris (-1) n s) e w' ∧ Turned (fun k => k = b ∨ k = B6) w w' := by
  obtain ⟨M, hmk, hz⟩ := made_ints w n (by omega)
  have hbl := h.lt
  obtain ⟨g, hgE⟩ : ∃ g, g = w.heap.size := ⟨_, rfl⟩
  have hgb : g ≠ b := by omega
  have hg6 : g ≠ B6 := by omega
  rw [← hgE] at hz hmk
  have HZ := Lib.hid hz
  have hT0 : Turned (fun k => k = b ∨ k = B6) w (w.alloc (.cells M 3)) := (Turned.refl _ w).alloc _
  have hs0 : (w.alloc (.cells M 3)).heap.size = g + 1 := by rw [hgE]; simp
  have r0 : RD (w.alloc (.cells M 3)) b s false := h.alloc _
  have k20 : (w.alloc (.cells M 3)).cell? ⟨B2, 0, none⟩ = some (.pointer (some ⟨b, 0, none⟩)) := (hT0.cell (p := ⟨B2, 0, none⟩) hs2 (fun x => x.elim hb2 hb26)).trans c2
  have k60 : (w.alloc (.cells M 3)).cell? ⟨B6, 0, none⟩ = some (.int .i64 (-1)) := (World.cell?_alloc_lt _ _ ⟨B6, 0, none⟩ hs6).trans c6
  have f60 : (w.alloc (.cells M 3)).frozen? ⟨B6, 0, none⟩ = false := (World.frozen?_of_block (w := w) (Below.heap_alloc w _ B6 hs6)).trans f6
  have hgw : w.heap.size ≤ g := by omega
  clear hz c2 c6 f6 hgE
  go_enter Try.func62, Try.ntmps62
  go_wp2
  clear hmk
  generalize w.alloc (.cells M 3) = w0 at HZ hT0 hs0 r0 k20 k60 f60 ⊢
  go_loopw [13] (fun i wr => ∃ (k : Nat) (acc : List Int) (la : Int) (t : List UInt8), k ≤ n ∧ i = .int .i64 k ∧ acc.length = k ∧ IntsAt wr g (acc ++ List.replicate (n - k) 0) ∧ RD wr b t false ∧ t.length ≤ s.length ∧ -1 ≤ la ∧ la ≤ 9223372036854775807 ∧ g < wr.heap.size ∧ B2 < wr.heap.size ∧ B6 < wr.heap.size ∧ wr.cell? ⟨B2, 0, none⟩ = some (.pointer (some ⟨b, 0, none⟩)) ∧ wr.cell? ⟨B6, 0, none⟩ = some (.int .i64 la) ∧ wr.frozen? ⟨B6, 0, none⟩ = false ∧ PackM.ris (-1) n s = (PackM.ris la (n - k) t).bind (fun y => some (acc ++ y.1, y.2)) ∧ Turned (fun k => k = b ∨ k = B6) w wr) (fun i _ => n - (intOf i).toNat)
  case atStart =>
    refine ⟨0, [], -1, s, by omega, rfl, rfl, HZ.out, r0, Nat.le_refl _, by omega, by omega, by omega, by omega, by omega, k20, k60, f60, ?_, hT0⟩
    rw [Nat.sub_zero]
    cases PackM.ris (-1) n s <;> rfl
  case round =>
    clear r0 k20 k60 f60 hT0
    obtain ⟨k, acc, la, t, hk, rfl, hak, hat, hr, htl, hla1, hla2, hgl, h2l, h6l, k2, k6, f6, heq, hT⟩ := hrel
    have HE := Lib.hid heq
    have HAK := Lib.hid hak
    have HAT := Lib.hid hat
    clear heq hak hat
    by_cases hlt : k < n
    · have hd : decide ((k : Int) < (n : Int)) = true := decide_eq_true (by omega)
      have hst := rstep_any wr b B2 B6 t la (by omega) hla1 hla2 hr hb2 hb6 h2l h6l k2 k6 f6
      have hnk : n - k = (n - (k + 1)) + 1 := by omega
      go_wp2_with fail
      refine hst.mono ?_
      rintro e w1 ⟨hstep, hT1⟩
      have hg1 : g < w1.heap.size := Nat.lt_of_lt_of_le hgl hT1.size
      have h21 : B2 < w1.heap.size := Nat.lt_of_lt_of_le h2l hT1.size
      have h61 : B6 < w1.heap.size := Nat.lt_of_lt_of_le h6l hT1.size
      have hat1 := HAT.out.turned hT1 hgl (fun x => x.elim hgb hg6)
      have k21 := (hT1.cell (p := ⟨B2, 0, none⟩) h2l (fun x => x.elim hb2 hb26)).trans k2
      rw [hnk] at hat1
      have hlen1 : k < (acc ++ List.replicate (n - (k + 1) + 1) (0 : Int)).length := by rw [List.length_append, HAK.out, List.length_replicate]; omega
      obtain ⟨cg, fg⟩ := hat1 k hlen1
      obtain ⟨z, hzE⟩ : ∃ z, z = (acc ++ List.replicate (n - (k + 1) + 1) (0 : Int))[k] := ⟨_, rfl⟩
      rw [← hzE] at cg
      clear hzE hst
      rcases hstep with ⟨d, t', hN, hbig, rfl, hr1, k61, f61⟩ | ⟨hno, ⟨v, rfl⟩, hr1⟩
      · obtain ⟨x, hxE⟩ : ∃ x, x = la + 1 + (d : Int) := ⟨_, rfl⟩
        rw [← hxE] at k61 ⊢
        have HXE := Lib.hid hxE
        have hset := hat1.set_ k x
        rw [← HAK.out, set_fill] at hset
        rw [HAK.out] at hset
        have hr2 : RD (w1.setCell ⟨g, k, none⟩ (.int .i64 x)) b t' false := hr1.kept (Below.heap_setCell w1 _ _ b (fun e => hgb e.symm))
        have c1 := hr2.c1
        have HSET := Lib.hid hset
        have HN := Lib.hid hN
        have HB := Lib.hid hbig
        clear hset hN hbig hxE
        go_wp2
        go_roundw
        case rel =>
          refine ⟨k + 1, acc ++ [x], x, t', by omega, by go_num, by rw [List.length_append, HAK.out]; rfl, HSET.out, hr2, ?_, ?_, ?_, by simpa [World.setCell] using hg1, by simpa [World.setCell] using h21, by simpa [World.setCell] using h61, ?_, ?_, ?_, ?_, ?_⟩
          · have := PackM.num_short HN.out; omega
          · rw [HXE.out]; omega
          · have h1 := HB.out
            have h2 : PackM.MAXI = 9223372036854775807 := rfl
            rw [HXE.out]; omega
          · rw [World.cell?_setCell_other _ _ _ _ (fun e => by injection e with e1; omega)]; exact k21
          · rw [World.cell?_setCell_other _ _ _ _ (fun e => by injection e with e1; omega)]; exact k61
          · simp [f61]
          · rw [HE.out, hnk]
            simp only [PackM.ris]
            rw [HN.out]
            simp only [Option.bind]
            rw [if_neg (Int.not_lt.2 HB.out), ← HXE.out]
            cases PackM.ris x (n - (k + 1)) t' with
            | none => rfl
            | some y => simp
          · exact (hT.trans hT1).from_new ((Turned.refl _ w1).set_ (.inr (by omega)) _ _)
        case measure => simp [intOf]; omega
      · have hr2 : RD (w1.setCell ⟨g, k, none⟩ (.int .i64 v)) b [] true := hr1.kept (Below.heap_setCell w1 _ _ b (fun e => hgb e.symm))
        have c1 := hr2.c1
        have HNO := Lib.hid hno
        clear hno
        go_wp2
        go_ret
        refine ⟨.inr ⟨?_, rfl, hr2⟩, (hT.trans hT1).from_new ((Turned.refl _ w1).set_ (.inr (by omega)) _ _)⟩
        rw [HE.out, hnk]
        simp only [PackM.ris]
        cases hN : PackM.num PackM.MAXI 0 0 t with
        | none => rfl
        | some y =>
          simp only [Option.bind]
          rw [if_pos (HNO.out y.1 y.2 hN)]
    · have hd : decide ((k : Int) < (n : Int)) = false := decide_eq_false (by omega)
      have hke : n - k = 0 := by omega
      have hkn : acc.length = n := by rw [HAK.out]; omega
      have hI : Ints wr (some ⟨g, 0, none⟩) acc.length acc := by
        have := HAT.out
        rw [hke, List.replicate_zero, List.append_nil] at this
        exact this.ints hgl rfl
      have hres : PackM.ris (-1) n s = some (acc, t) := by rw [HE.out, hke]; simp [PackM.ris]
      have HRES := Lib.hid hres
      have HKN := Lib.hid hkn
      clear hres hkn
      go_wp2
      go_ret
      refine ⟨.inl ⟨acc, t, _, HRES.out, ?_, hgw, hI, hr⟩, hT⟩
      rw [HKN.out]
      rfl

def rsV (most : Int) (s : List UInt8) : List Int := match PackM.rRis most s with | none => [] | some x => x.1
def rsS (most : Int) (s : List UInt8) : List UInt8 := match PackM.rRis most s with | none => [] | some x => x.2
def rsB (most : Int) (s : List UInt8) (bad : Bool) : Bool := match PackM.rRis most s with | none => true | some _ => bad
theorem rRis_none_num {most : Int} {s : List UInt8} (h : PackM.num PackM.MAXI 0 0 s = none) : PackM.rRis most s = none := by unfold PackM.rRis; rw [h]; rfl

set_option maxHeartbeats 400000 in
theorem row_zero (w : World) (b : Nat) (fv : Value) : Calls Try.prog 62 #[.pointer (some ⟨b, 0, none⟩), .int .i64 0, fv] w fun e w' => (∃ g, e = .returned (.slice (some ⟨g, 0, none⟩) 0 0) ∧ w.heap.size ≤ g) ∧ Below w.heap.size w w' := by
  obtain ⟨M, hmk, _⟩ := made_ints w 0 (by omega)
  have hmk' : (Instr.makeSlice 60 (.int .i64 0) (.int .i64 0)).run Try.prog w = .ok (.slice (some ⟨w.heap.size, 0, none⟩) 0 0) (w.alloc (.cells M 3)) := hmk
  clear hmk
  go_enter Try.func62, Try.ntmps62
  go_wp2
  go_loop [13] (fun i => i = .int .i64 0) (fun _ => 0)
  case atStart => rfl
  case round =>
    subst hrel
    go_wp2
    go_ret
    exact ⟨⟨_, rfl, Nat.le_refl _⟩, (Below.refl _ _).alloc (Nat.le_refl _) _⟩

/-- what a reader's answer is, a row of numbers -/
def RowEnd (N b : Nat) (l : List Int) (s : List UInt8) (bad : Bool) (e : Ending) (w' : World) : Prop :=
  ∃ A cp, e = .returned (.slice A l.length cp) ∧ (∀ ad, A = some ad → N ≤ ad.block) ∧ Ints w' A l.length l ∧ RD w' b s bad
theorem RowEnd.none_ {N b : Nat} {e : Ending} {w' : World} {bad : Bool} (he : e = .returned (.slice none 0 0)) (hr : RD w' b [] bad) : RowEnd N b [] [] bad e w' :=
  ⟨none, 0, he, fun ad h => (by cases h), ⟨rfl, fun k hk => by simp at hk⟩, hr⟩

set_option maxHeartbeats 1600000 in
set_option maxRecDepth 100000 in
theorem rrising_any (w : World) (b : Nat) (s : List UInt8) (bad : Bool) (most : Int) (hl : s.length ≤ 100000000) (hbad : bad = true → s = []) (h : RD w b s bad) :
    Calls Try.prog 49 #[.pointer (some ⟨b, 0, none⟩), .int .i64 most] w fun e w' => RowEnd w.heap.size b (rsV most s) (rsS most s) (rsB most s bad) e w' ∧ w.grownBy w' (some b) := by
  have hbl := h.lt
  have h0 : RD (w.alloc (.cells #[.pointer (some ⟨b, 0, none⟩)] 71)) b s bad := h.alloc _
  go_enter Try.func49, Try.ntmps49
  go_wp2_with fail
  refine (rvarint_any _ b s bad hl h0).mono ?_
  rintro e w1 ⟨rfl, hr, hg⟩
  have hsz : w.heap.size < w1.heap.size := by have := hg.size; simp at this; omega
  have k2 : w1.cell? ⟨w.heap.size, 0, none⟩ = some (.pointer (some ⟨b, 0, none⟩)) := (cell_of_grown hg (p := ⟨w.heap.size, 0, none⟩) (by simp) (fun e => by injection e with e; simp at e; omega)).trans (by simp)
  have hT : Turned (fun k => k = b) w w1 := ((Turned.refl _ w).alloc _).trans (Turned.of_grown hg rfl)
  have hv := nV_le PackM.MAXI s
  have hm : PackM.MAXI = 9223372036854775807 := rfl
  obtain ⟨n, hn⟩ : ∃ n, n = nV PackM.MAXI s := ⟨_, rfl⟩
  obtain ⟨t, ht⟩ : ∃ t, t = nS PackM.MAXI s := ⟨_, rfl⟩
  obtain ⟨bd, hbd⟩ : ∃ bd, bd = nB PackM.MAXI s bad := ⟨_, rfl⟩
  have htl := nS_len PackM.MAXI s
  rw [← ht] at htl
  rw [← hn] at hv ⊢
  rw [← ht, ← hbd] at hr
  have hvn : n ≤ 9223372036854775807 := by omega
  have c0 := hr.c0
  have hs : (ofBytes t).size = t.length := size_ofBytes t
  obtain ⟨N, hN⟩ : ∃ N, N = t.length := ⟨_, rfl⟩
  rw [← hN] at hs htl
  have HNN := Lib.hid hN
  have HN := Lib.hid hn
  have HT := Lib.hid ht
  have HBD := Lib.hid hbd
  have HM := Lib.hid hm
  clear hn ht hbd hm hv hN
  obtain ⟨B2, hB2⟩ : ∃ B2, B2 = w.heap.size := ⟨_, rfl⟩
  rw [← hB2] at hsz k2 ⊢
  have HB2 := Lib.hid hB2
  have hB2b : B2 ≠ b := by omega
  clear hB2
  -- the two ways in which it fails ahead of the row
  have fails : most < (n : Int) ∨ N < n → rsV most s = [] ∧ rsS most s = [] ∧ rsB most s bad = true := by
    intro hor
    have hnone : PackM.rRis most s = none := by
      cases hnum : PackM.num PackM.MAXI 0 0 s with
      | none => exact rRis_none_num hnum
      | some x =>
        have hn1 : n = x.1 := by rw [HN.out]; unfold nV; rw [hnum]
        have ht1 : t = x.2 := by rw [HT.out]; unfold nS; rw [hnum]
        unfold PackM.rRis
        rw [hnum]
        simp only [Option.bind]
        by_cases hmo : most < (x.1 : Int)
        · rw [if_pos hmo]
        · rw [if_neg hmo]
          cases hris : PackM.ris (-1) x.1 x.2 with
          | none => rfl
          | some y =>
            have := PackM.ris_short _ _ _ y.1 y.2 hris
            have h3 := HNN.out
            rw [ht1] at h3
            omega
    unfold rsV rsS rsB
    rw [hnone]
    exact ⟨rfl, rfl, rfl⟩
  have HF := Lib.hid fails
  clear fails
  by_cases hmost : most < (n : Int)
  · have hd : decide (most < (n : Int)) = true := decide_eq_true hmost
    go_wp2_with fail
    refine (rfail_any _ _ _ _ hr).mono ?_
    rintro e w2 ⟨rfl, hr2, hg2⟩
    go_wp2
    go_ret
    obtain ⟨e1, e2, e3⟩ := HF.out (.inl hmost)
    rw [e1, e2, e3]
    exact ⟨RowEnd.none_ rfl hr2, (hT.trans (Turned.of_grown hg2 rfl)).grown (fun k _ e => e)⟩
  · have hd : decide (most < (n : Int)) = false := decide_eq_false hmost
    by_cases hlong : N < n
    · have hd2 : decide (N < n) = true := decide_eq_true hlong
      go_wp2_with fail
      refine (rfail_any _ _ _ _ hr).mono ?_
      rintro e w2 ⟨rfl, hr2, hg2⟩
      go_wp2
      go_ret
      obtain ⟨e1, e2, e3⟩ := HF.out (.inr hlong)
      rw [e1, e2, e3]
      exact ⟨RowEnd.none_ rfl hr2, (hT.trans (Turned.of_grown hg2 rfl)).grown (fun k _ e => e)⟩
    · have hd2 : decide (N < n) = false := decide_eq_false hlong
      have hmk : ∀ (fn : Fn) (first cap : Array Value) (w : World), (Instr.makeFunc fn first cap).run Try.prog w = .ok (.func fn first cap) w := fun _ _ _ _ => rfl
      cases bd with
      | true =>
        have hnum : PackM.num PackM.MAXI 0 0 s = none := by
          cases hnum : PackM.num PackM.MAXI 0 0 s with
          | none => rfl
          | some x =>
            have : true = bad := by have := HBD.out; unfold nB at this; rw [hnum] at this; exact this
            have hs0 := hbad this.symm
            rw [hs0] at hnum
            cases hnum
        have hn0 : n = 0 := by rw [HN.out]; unfold nV; rw [hnum]
        have ht0 : t = [] := by rw [HT.out]; unfold nS; rw [hnum]
        have hno := rRis_none_num (most := most) hnum
        subst hn0
        subst ht0
        have HNO := Lib.hid hno
        clear hno hnum
        go_wp2_with fail
        refine (row_zero _ _ _).mono ?_
        rintro e w2 ⟨⟨A2, rfl, hA2⟩, hb2⟩
        go_wp2
        go_ret
        refine ⟨?_, ((hT.alloc _).trans (Turned.of_below hb2)).grown (fun k _ e => e)⟩
        unfold rsV rsS rsB
        rw [HNO.out]
        refine ⟨some ⟨A2, 0, none⟩, 0, rfl, fun ad h => ?_, ⟨rfl, fun k hk => by simp at hk⟩, (hr.alloc _).later hb2⟩
        injection h with h
        subst h
        have h1 := hT.size
        simp at hA2
        show w.heap.size ≤ A2
        omega
      | false =>
        have hnum : PackM.num PackM.MAXI 0 0 s = some (n, t) ∧ bad = false := by
          cases hnum : PackM.num PackM.MAXI 0 0 s with
          | none => have := HBD.out; unfold nB at this; rw [hnum] at this; cases this
          | some x =>
            have h1 : n = x.1 := by rw [HN.out]; unfold nV; rw [hnum]
            have h2 : t = x.2 := by rw [HT.out]; unfold nS; rw [hnum]
            have h3 : false = bad := by have := HBD.out; unfold nB at this; rw [hnum] at this; exact this
            rw [h1, h2]
            exact ⟨rfl, h3.symm⟩
        obtain ⟨hnum, rfl⟩ := hnum
        have hrr : PackM.rRis most s = PackM.ris (-1) n t := by
          unfold PackM.rRis
          rw [hnum]
          simp only [Option.bind]
          rw [if_neg hmost]
        have HRR := Lib.hid hrr
        have hblt := hr.lt
        clear hrr hnum
        have hrow := rowrise_any (w1.alloc (.cells #[.int .i64 (-1)] 3)) b B2 w1.heap.size n t (by rw [← HNN.out]; omega) (by omega) (hr.alloc _) hB2b (by omega) (by omega) (by simp; omega) (by simp) ((World.cell?_alloc_lt _ _ ⟨B2, 0, none⟩ hsz).trans k2) (by simp) (by simp)
        go_wp2_with fail
        refine hrow.mono ?_
        rintro e w2 ⟨hend, hT2⟩
        have hTT : w.grownBy w2 (some b) := by
          have h1 : Turned (fun k => k = b ∨ w.heap.size ≤ k) w w2 := ((hT.alloc _).wide (fun k e => .inl e)).trans (hT2.wide (fun k e => e.elim .inl (fun e => .inr (by have := HB2.out; omega))))
          exact h1.grown (fun k hk e => e.elim id (fun e => by omega))
        unfold RisRow at hend
        rcases hend with ⟨l, t', g, ho, rfl, hNg, hI, hr2⟩ | ⟨ho, rfl, hr2⟩
        · have HO := Lib.hid ho
          clear ho
          go_wp2
          go_ret
          refine ⟨?_, hTT⟩
          unfold rsV rsS rsB
          rw [HRR.out, HO.out]
          refine ⟨_, _, rfl, fun ad h => ?_, hI, hr2⟩
          injection h with h
          subst h
          have h1 := hT.size
          simp at hNg
          show w.heap.size ≤ g
          omega
        · have HO := Lib.hid ho
          clear ho
          go_wp2
          go_ret
          refine ⟨?_, hTT⟩
          unfold rsV rsS rsB
          rw [HRR.out, HO.out]
          exact RowEnd.none_ rfl hr2
end Go.Proofs.Ytlcmdnmifmjjgaa

/- The program's reader: bits, and rows of them. -/
namespace Go.Proofs.Ytlcmdnmifmjjgaa
open Go.RowKit

theorem and1u8 (u : Nat) (h : u < 256) : bits .and .u8 (u : Int) 1 = ((u % 2 : Nat) : Int) := by
  have := u8_and_nat u 1 h (by decide)
  rw [Nat.and_one_is_mod] at this
  exact this
theorem pow32 (k : Nat) (h : k ≤ 32) : 2 ^ k ≤ 4294967296 := by
  calc 2 ^ k ≤ 2 ^ 32 := Nat.pow_le_pow_right (by decide) h
    _ = 4294967296 := by decide
theorem or_i64 (v k bt : Nat) (hv : v < 2 ^ k) (hk : k ≤ 32) (hbt : bt ≤ 1) : bits .or .i64 (v : Int) ((bt * 2 ^ k : Nat) : Int) = ((v + bt * 2 ^ k : Nat) : Int) := by
  have h32 := pow32 k hk
  have hb : bt * 2 ^ k ≤ 4294967296 := by
    calc bt * 2 ^ k ≤ 1 * 2 ^ k := Nat.mul_le_mul_right _ hbt
      _ ≤ 4294967296 := by omega
  rw [i64_or_nat v _ (by omega) (by omega)]
  have := Nat.shiftLeft_add_eq_or_of_lt (i := k) (b := v) hv bt
  rw [Nat.shiftLeft_eq] at this
  rw [Nat.or_comm, ← this, Nat.add_comm]

set_option maxHeartbeats 1600000 in
set_option maxRecDepth 100000 in
theorem take_any (w : World) (Bs Ba n p : Nat) (s : List UInt8) (hn : n ≤ 32) (hp : p + n ≤ 8 * s.length) (hsl : s.length ≤ 100000000) (hsa : Bs ≠ Ba) (h1 : Bs < w.heap.size) (_h2 : Ba < w.heap.size)
    (cs : w.cell? ⟨Bs, 0, none⟩ = some (.string (ofBytes s))) (ca : w.cell? ⟨Ba, 0, none⟩ = some (.int .i64 (p : Int))) (fa : w.frozen? ⟨Ba, 0, none⟩ = false) :
    Calls Try.prog 72 #[.int .i64 (n : Int), .pointer (some ⟨Bs, 0, none⟩), .pointer (some ⟨Ba, 0, none⟩)] w fun e w' => e = .returned (.int .i64 (PackM.bv s p n : Nat)) ∧ w'.cell? ⟨Ba, 0, none⟩ = some (.int .i64 ((p + n : Nat) : Int)) ∧ w'.frozen? ⟨Ba, 0, none⟩ = false ∧ Turned (fun k => k = Ba) w w' := by
  have hs : (ofBytes s).size = s.length := size_ofBytes s
  obtain ⟨N, hN⟩ : ∃ N, N = s.length := ⟨_, rfl⟩
  rw [← hN] at hs hp hsl
  have HN := Lib.hid hN
  clear hN
  go_enter Try.func72, Try.ntmps72
  go_wp2
  go_loopw [5, 8] (fun v i wr => ∃ (k : Nat), k ≤ n ∧ i = .int .i64 k ∧ v = .int .i64 (PackM.bv s p k : Nat) ∧ wr.cell? ⟨Ba, 0, none⟩ = some (.int .i64 ((p + k : Nat) : Int)) ∧ wr.frozen? ⟨Ba, 0, none⟩ = false ∧ Turned (fun k => k = Ba) w wr) (fun _ i _ => n - (intOf i).toNat)
  case atStart => exact ⟨0, by omega, rfl, rfl, ca, fa, Turned.refl _ _⟩
  case round =>
    obtain ⟨k, hk, rfl, rfl, ka, kf, hT⟩ := hrel
    clear ca fa
    have ks := (hT.cell (p := ⟨Bs, 0, none⟩) h1 hsa).trans cs
    have hvl := PackM.bv_lt s k p
    have hbk := PackM.bv_back s k p
    obtain ⟨v, hv⟩ : ∃ v, v = PackM.bv s p k := ⟨_, rfl⟩
    rw [← hv] at hvl hbk ⊢
    by_cases hlt : k < n
    · have hd : decide ((k : Int) < (n : Int)) = true := decide_eq_true (by omega)
      obtain ⟨q, hq⟩ : ∃ q, q = p + k := ⟨_, rfl⟩
      rw [← hq] at ka hbk
      obtain ⟨e8, he8⟩ : ∃ e8, e8 = q / 8 := ⟨_, rfl⟩
      obtain ⟨m8, hm8⟩ : ∃ m8, m8 = q % 8 := ⟨_, rfl⟩
      have heN : e8 < N := by omega
      have hes : e8 < s.length := by rw [← HN.out]; exact heN
      have hez : e8 < (ofBytes s).size := by rw [hs]; exact heN
      have hq1 : (q : Int) / 8 = (e8 : Int) := by omega
      have hq2 : (q : Int) % 8 = (m8 : Int) := by omega
      have hm8l : m8 < 8 := by omega
      obtain ⟨c, hc⟩ : ∃ c : UInt8, c = s[e8] := ⟨_, rfl⟩
      obtain ⟨x, hx⟩ : ∃ x : Nat, x = c.toNat := ⟨_, rfl⟩
      have hx256 : x < 256 := by rw [hx]; exact c.toNat_lt
      have hbx : (ofBytes s)[e8].toNat = x := by rw [hx, hc]; rfl
      obtain ⟨y, hy⟩ : ∃ y, y = x / 2 ^ m8 := ⟨_, rfl⟩
      have hyI : (x : Int) / 2 ^ m8 = (y : Int) := by rw [hy]; simp
      have hy256 : y < 256 := by rw [hy]; exact Nat.lt_of_le_of_lt (Nat.div_le_self _ _) hx256
      have hand := and1u8 y hy256
      obtain ⟨bt, hbt⟩ : ∃ bt, bt = y % 2 := ⟨_, rfl⟩
      rw [← hbt] at hand
      have hbt1 : bt ≤ 1 := by omega
      have hbit : PackM.bitAt s q = bt := by
        unfold PackM.bitAt
        rw [hbt, hy, hx, hc, ← he8, ← hm8, List.getD_eq_getElem?_getD, List.getElem?_eq_getElem hes]
        rfl
      rw [hbit] at hbk
      have h32 := pow32 k (by omega)
      have hor := or_i64 v k bt hvl (by omega) hbt1
      obtain ⟨sh, hsh⟩ : ∃ sh, sh = bt * 2 ^ k := ⟨_, rfl⟩
      rw [← hsh] at hor hbk
      have hshI : (bt : Int) * 2 ^ k = (sh : Int) := by rw [hsh]; simp
      have hshl : sh ≤ 4294967296 := by
        rw [hsh]
        calc bt * 2 ^ k ≤ 1 * 2 ^ k := Nat.mul_le_mul_right _ hbt1
          _ ≤ 4294967296 := by omega
      have HBK := Lib.hid hbk
      have HQ := Lib.hid hq
      have hvl2 : v < 4294967296 := by omega
      have hqm : q ≤ 1000000000 := by omega
      clear hbk hq he8 hm8 hc hx hy hbt hbit hsh hv hvl h32
      go_wp2
      go_quiet (fail)
      go_wp2
      have ka' : (wr.drewN nq).cell? ⟨Ba, 0, none⟩ = some (.int .i64 (q : Int)) := ka
      have kf' : (wr.drewN nq).frozen? ⟨Ba, 0, none⟩ = false := kf
      refine ⟨⟨k + 1, by omega, by go_num, by rw [HBK.out]; go_num, ?_, by simp [kf'], (hT.trans (Turned.of_below (below_drewN nq))).set_ rfl _ _⟩, by simp [intOf]; omega⟩
      rw [World.cell?_setCell_same _ _ _ ka', HQ.out]
      go_num
    · have hd : decide ((k : Int) < (n : Int)) = false := decide_eq_false (by omega)
      have hkn : k = n := by omega
      subst hkn
      have HV := Lib.hid hv
      clear hv hbk
      go_wp2
      go_ret
      exact ⟨by rw [← HV.out]; rfl, ka, kf, hT⟩

set_option maxHeartbeats 400000 in
theorem fixstep_any (w : World) (B8 B4 Bs Ba n p : Nat) (s : List UInt8) (hn : n ≤ 32) (hp : p + n ≤ 8 * s.length) (hsl : s.length ≤ 100000000) (hsa : Bs ≠ Ba) (h1 : Bs < w.heap.size) (h2 : Ba < w.heap.size)
    (c8 : w.cell? ⟨B8, 0, none⟩ = some (.func (.func 72) #[] #[.pointer (some ⟨Bs, 0, none⟩), .pointer (some ⟨Ba, 0, none⟩)])) (c4 : w.cell? ⟨B4, 0, none⟩ = some (.int .i64 (n : Int)))
    (cs : w.cell? ⟨Bs, 0, none⟩ = some (.string (ofBytes s))) (ca : w.cell? ⟨Ba, 0, none⟩ = some (.int .i64 (p : Int))) (fa : w.frozen? ⟨Ba, 0, none⟩ = false) :
    Calls Try.prog 66 #[.pointer (some ⟨B8, 0, none⟩), .pointer (some ⟨B4, 0, none⟩)] w fun e w' => e = .returned (.int .i64 (PackM.bv s p n : Nat)) ∧ w'.cell? ⟨Ba, 0, none⟩ = some (.int .i64 ((p + n : Nat) : Int)) ∧ w'.frozen? ⟨Ba, 0, none⟩ = false ∧ Turned (fun k => k = Ba) w w' := by
  have ht := take_any w Bs Ba n p s hn hp hsl hsa h1 h2 cs ca fa
  clear ca cs
  go_enter Try.func66, Try.ntmps66
  go_wp2_with fail
  refine ht.mono ?_
  rintro e w1 ⟨rfl, k1, k2, k3⟩
  go_wp2
  go_ret
  exact ⟨rfl, k1, k2, k3⟩

theorem nums_succ (s : List UInt8) (w k : Nat) : PackM.nums s w (k + 1) = PackM.nums s w k ++ [PackM.bv s (k * w) w] := by simp [PackM.nums, List.range_succ]
theorem nums_length (s : List UInt8) (w k : Nat) : (PackM.nums s w k).length = k := by simp [PackM.nums]

set_option maxHeartbeats 1600000 in
set_option maxRecDepth 100000 in
theorem rowfix_any (w : World) (b B8 B4 Bs Ba n m : Nat) (s t : List UInt8) (hm : m ≤ 32) (hn : n ≤ 65536) (hp : n * m ≤ 8 * s.length) (hsl : s.length ≤ 100000000) (hsa : Bs ≠ Ba) (h8a : B8 ≠ Ba) (h4a : B4 ≠ Ba) (hba : b ≠ Ba) (h1 : Bs < w.heap.size) (h2 : Ba < w.heap.size) (h3 : B8 < w.heap.size) (h4 : B4 < w.heap.size)
    (h : RD w b t false)
    (c8 : w.cell? ⟨B8, 0, none⟩ = some (.func (.func 72) #[] #[.pointer (some ⟨Bs, 0, none⟩), .pointer (some ⟨Ba, 0, none⟩)])) (c4 : w.cell? ⟨B4, 0, none⟩ = some (.int .i64 (m : Int)))
    (cs : w.cell? ⟨Bs, 0, none⟩ = some (.string (ofBytes s))) (ca : w.cell? ⟨Ba, 0, none⟩ = some (.int .i64 0)) (fa : w.frozen? ⟨Ba, 0, none⟩ = false) :
    Calls Try.prog 62 #[.pointer (some ⟨b, 0, none⟩), .int .i64 (n : Int), .func (.func 66) #[] #[.pointer (some ⟨B8, 0, none⟩), .pointer (some ⟨B4, 0, none⟩)]] w fun e w' => (∃ g, e = .returned (.slice (some ⟨g, 0, none⟩) n n) ∧ w.heap.size ≤ g ∧ g < w'.heap.size ∧ IntsAt w' g (toI (PackM.nums s m n))) ∧ w'.cell? ⟨Ba, 0, none⟩ = some (.int .i64 ((n * m : Nat) : Int)) ∧ w'.frozen? ⟨Ba, 0, none⟩ = false ∧ Turned (fun k => k = Ba) w w' := by
  obtain ⟨M, hmk, hz⟩ := made_ints w n (by omega)
  have hbl := h.lt
  obtain ⟨g, hgE⟩ : ∃ g, g = w.heap.size := ⟨_, rfl⟩
  have hgb : b ≠ g := by omega
  have hga : g ≠ Ba := by omega
  have hgw : w.heap.size ≤ g := by omega
  rw [← hgE] at hz hmk
  have HZ := Lib.hid hz
  have hT0 : Turned (fun k => k = Ba) w (w.alloc (.cells M 3)) := (Turned.refl _ w).alloc _
  have hs0 : g < (w.alloc (.cells M 3)).heap.size := by rw [hgE]; simp
  have k60 : (w.alloc (.cells M 3)).cell? ⟨Ba, 0, none⟩ = some (.int .i64 0) := (World.cell?_alloc_lt _ _ ⟨Ba, 0, none⟩ h2).trans ca
  have f60 : (w.alloc (.cells M 3)).frozen? ⟨Ba, 0, none⟩ = false := (World.frozen?_of_block (w := w) (Below.heap_alloc w _ Ba h2)).trans fa
  clear hz ca fa hgE
  go_enter Try.func62, Try.ntmps62
  go_wp2
  clear hmk
  generalize w.alloc (.cells M 3) = w0 at HZ hT0 hs0 k60 f60 ⊢
  go_loopw [13] (fun i wr => ∃ (k : Nat), k ≤ n ∧ i = .int .i64 k ∧ IntsAt wr g (toI (PackM.nums s m k) ++ List.replicate (n - k) 0) ∧ g < wr.heap.size ∧ wr.cell? ⟨Ba, 0, none⟩ = some (.int .i64 ((k * m : Nat) : Int)) ∧ wr.frozen? ⟨Ba, 0, none⟩ = false ∧ Turned (fun k => k = Ba) w wr) (fun i _ => n - (intOf i).toNat)
  case atStart => exact ⟨0, by omega, rfl, HZ.out, hs0, by rw [Nat.zero_mul]; exact k60, f60, hT0⟩
  case round =>
    clear k60 f60 hT0
    obtain ⟨k, hk, rfl, hat, hgl, ka, kf, hT⟩ := hrel
    have HAT := Lib.hid hat
    clear hat
    by_cases hlt : k < n
    · have hd : decide ((k : Int) < (n : Int)) = true := decide_eq_true (by omega)
      have hkm : k * m + m ≤ 8 * s.length := by
        have : (k + 1) * m ≤ n * m := Nat.mul_le_mul_right _ hlt
        rw [Nat.succ_mul] at this; omega
      have hst := fixstep_any wr B8 B4 Bs Ba m (k * m) s hm hkm hsl hsa (Nat.lt_of_lt_of_le h1 hT.size) (Nat.lt_of_lt_of_le h2 hT.size) ((hT.cell (p := ⟨B8, 0, none⟩) h3 h8a).trans c8) ((hT.cell (p := ⟨B4, 0, none⟩) h4 h4a).trans c4) ((hT.cell (p := ⟨Bs, 0, none⟩) h1 hsa).trans cs) ka kf
      have hnk : n - k = (n - (k + 1)) + 1 := by omega
      go_wp2_with fail
      refine hst.mono ?_
      rintro e w1 ⟨rfl, ka1, kf1, hT1⟩
      clear hst ka kf
      have hg1 : g < w1.heap.size := Nat.lt_of_lt_of_le hgl hT1.size
      have hat1 := HAT.out.turned hT1 hgl hga
      rw [hnk] at hat1
      have hakl : (toI (PackM.nums s m k)).length = k := by rw [toI_length, nums_length]
      have hlen1 : k < (toI (PackM.nums s m k) ++ List.replicate (n - (k + 1) + 1) (0 : Int)).length := by rw [List.length_append, hakl, List.length_replicate]; omega
      obtain ⟨cg, fg⟩ := hat1 k hlen1
      obtain ⟨z, hzE⟩ : ∃ z, z = (toI (PackM.nums s m k) ++ List.replicate (n - (k + 1) + 1) (0 : Int))[k] := ⟨_, rfl⟩
      rw [← hzE] at cg
      obtain ⟨x, hxE⟩ : ∃ x, x = PackM.bv s (k * m) m := ⟨_, rfl⟩
      rw [← hxE]
      have hset := hat1.set_ k (x : Int)
      have hsf := set_fill (toI (PackM.nums s m k)) (n - (k + 1)) (x : Int)
      rw [hakl] at hsf
      rw [hsf, ← toI_snoc, hxE, ← nums_succ, ← hxE] at hset
      have hr2 : RD (w1.setCell ⟨g, k, none⟩ (.int .i64 (x : Int))) b t false := (h.kept ((hT.trans hT1).block b hbl hba)).kept (Below.heap_setCell w1 _ _ b hgb)
      have c1 := hr2.c1
      have HSET := Lib.hid hset
      clear hset hsf hzE hxE hakl hat1
      go_wp2
      go_roundw
      case rel =>
        refine ⟨k + 1, by omega, by go_num, HSET.out, by simpa [World.setCell] using hg1, ?_, by simp [kf1], (hT.trans hT1).from_new ((Turned.refl _ w1).set_ (.inr hgw) _ _)⟩
        rw [World.cell?_setCell_other _ _ _ _ (fun e => by injection e with e1; omega), Nat.succ_mul]; exact ka1
      case measure => simp [intOf]; omega
    · have hd : decide ((k : Int) < (n : Int)) = false := decide_eq_false (by omega)
      have hkn : k = n := by omega
      subst hkn
      have hI : IntsAt wr g (toI (PackM.nums s m k)) := by
        have := HAT.out
        rw [Nat.sub_self, List.replicate_zero, List.append_nil] at this
        exact this
      go_wp2
      go_ret
      exact ⟨⟨_, rfl, hgw, hgl, hI⟩, ka, kf, hT⟩
end Go.Proofs.Ytlcmdnmifmjjgaa

/- The program's reader: Fixed. -/
namespace Go.Proofs.Ytlcmdnmifmjjgaa
open Go.RowKit

/-- Fixed, of any w and n -/
def fxR (w n : Int) (s : List UInt8) (bad : Bool) : Option (List Nat × List UInt8) := if bad = false ∧ 0 ≤ w ∧ w ≤ 32 ∧ 0 ≤ n ∧ n ≤ 65536 then PackM.rFix w.toNat n.toNat s else none
def fxV (w n : Int) (s : List UInt8) (bad : Bool) : List Int := match fxR w n s bad with | none => [] | some x => toI x.1
def fxS (w n : Int) (s : List UInt8) (bad : Bool) : List UInt8 := match fxR w n s bad with | none => [] | some x => x.2
def fxB (w n : Int) (s : List UInt8) (bad : Bool) : Bool := match fxR w n s bad with | none => true | some _ => false
theorem fx_none {w n : Int} {s : List UInt8} {bad : Bool} (h : fxR w n s bad = none) : fxV w n s bad = [] ∧ fxS w n s bad = [] ∧ fxB w n s bad = true := by
  unfold fxV fxS fxB; rw [h]; exact ⟨rfl, rfl, rfl⟩

set_option maxHeartbeats 400000 in
theorem bitsOf_any (w : World) (s : ByteArray) :
    Calls Try.prog 65 #[.string s] w fun e w' => e = .returned (.func (.func 72) #[] #[.pointer (some ⟨w.heap.size, 0, none⟩), .pointer (some ⟨w.heap.size + 1, 0, none⟩)]) ∧ w' = (w.alloc (.cells #[.string s] 9)).alloc (.cells #[.int .i64 0] 3) := by
  have hmk : ∀ (fn : Fn) (first cap : Array Value) (w : World), (Instr.makeFunc fn first cap).run Try.prog w = .ok (.func fn first cap) w := fun _ _ _ _ => rfl
  go_enter Try.func65, Try.ntmps65
  go_wp2
  go_ret
  exact ⟨by simp, rfl⟩

set_option maxHeartbeats 1600000 in
set_option maxRecDepth 100000 in
theorem rfixed_out (w : World) (b : Nat) (s : List UInt8) (bad : Bool) (m n : Int) (h : RD w b s bad) (hout : ¬ (0 ≤ m ∧ m ≤ 32 ∧ 0 ≤ n ∧ n ≤ 65536)) :
    Calls Try.prog 50 #[.pointer (some ⟨b, 0, none⟩), .int .i64 m, .int .i64 n] w fun e w' => RowEnd w.heap.size b (fxV m n s bad) (fxS m n s bad) (fxB m n s bad) e w' ∧ w.grownBy w' (some b) := by
  have hnone : fxR m n s bad = none := by unfold fxR; rw [if_neg (fun x => hout x.2)]
  have HX := Lib.hid (fx_none hnone)
  have h0 : RD (w.alloc (.cells #[.int .i64 m] 3)) b s bad := h.alloc _
  have hT : w.grownBy (w.alloc (.cells #[.int .i64 m] 3)) (some b) := World.grownBy_alloc _ _ _
  clear hnone
  by_cases hm0 : m < 0
  · have hd : decide (m < 0) = true := decide_eq_true hm0
    go_enter Try.func50, Try.ntmps50
    go_wp2_with fail
    refine (rfail_any _ _ _ _ h0).mono ?_
    rintro e w2 ⟨rfl, hr2, hg2⟩
    go_wp2
    go_ret
    rw [HX.out.1, HX.out.2.1, HX.out.2.2]
    exact ⟨RowEnd.none_ rfl hr2, hT.trans hg2⟩
  · have hd : decide (m < 0) = false := decide_eq_false hm0
    by_cases hm1 : 32 < m
    · have hd1 : decide (32 < m) = true := decide_eq_true hm1
      go_enter Try.func50, Try.ntmps50
      go_wp2_with fail
      refine (rfail_any _ _ _ _ h0).mono ?_
      rintro e w2 ⟨rfl, hr2, hg2⟩
      go_wp2
      go_ret
      rw [HX.out.1, HX.out.2.1, HX.out.2.2]
      exact ⟨RowEnd.none_ rfl hr2, hT.trans hg2⟩
    · have hd1 : decide (32 < m) = false := decide_eq_false hm1
      by_cases hn0 : n < 0
      · have hd2 : decide (n < 0) = true := decide_eq_true hn0
        go_enter Try.func50, Try.ntmps50
        go_wp2_with fail
        refine (rfail_any _ _ _ _ h0).mono ?_
        rintro e w2 ⟨rfl, hr2, hg2⟩
        go_wp2
        go_ret
        rw [HX.out.1, HX.out.2.1, HX.out.2.2]
        exact ⟨RowEnd.none_ rfl hr2, hT.trans hg2⟩
      · have hd2 : decide (n < 0) = false := decide_eq_false hn0
        have hd3 : decide (65536 < n) = true := decide_eq_true (by omega)
        go_enter Try.func50, Try.ntmps50
        go_wp2_with fail
        refine (rfail_any _ _ _ _ h0).mono ?_
        rintro e w2 ⟨rfl, hr2, hg2⟩
        go_wp2
        go_ret
        rw [HX.out.1, HX.out.2.1, HX.out.2.2]
        exact ⟨RowEnd.none_ rfl hr2, hT.trans hg2⟩

set_option maxHeartbeats 1600000 in
set_option maxRecDepth 100000 in
theorem rfixed_in (w : World) (b : Nat) (s : List UInt8) (bad : Bool) (m n : Nat) (hl : s.length ≤ 100000000) (hbad : bad = true → s = []) (h : RD w b s bad) (hm : m ≤ 32) (hn : n ≤ 65536) :
    Calls Try.prog 50 #[.pointer (some ⟨b, 0, none⟩), .int .i64 (m : Int), .int .i64 (n : Int)] w fun e w' => RowEnd w.heap.size b (fxV m n s bad) (fxS m n s bad) (fxB m n s bad) e w' ∧ w.grownBy w' (some b) := by
  have hbl := h.lt
  obtain ⟨p, hp⟩ : ∃ p, p = m * n := ⟨_, rfl⟩
  have hpl : p ≤ 2097152 := by
    rw [hp]
    calc m * n ≤ 32 * n := Nat.mul_le_mul_right _ hm
      _ ≤ 2097152 := by omega
  have hpI : (m : Int) * (n : Int) = (p : Int) := by rw [hp]; simp
  have HP := Lib.hid hp
  clear hp
  obtain ⟨L, hL⟩ : ∃ L, L = (p + 7) / 8 := ⟨_, rfl⟩
  have hLl : L ≤ 300000 := by omega
  have hLp : p ≤ 8 * L := by omega
  have hLp2 : 8 * L ≤ p + 7 := by omega
  have HL := Lib.hid hL
  clear hL
  have h0 : RD (w.alloc (.cells #[.int .i64 (m : Int)] 3)) b s bad := h.alloc _
  have hd : decide ((m : Int) < 0) = false := decide_eq_false (by omega)
  have hd1 : decide (32 < (m : Int)) = false := decide_eq_false (by omega)
  have hd2 : decide ((n : Int) < 0) = false := decide_eq_false (by omega)
  have hd3 : decide (65536 < (n : Int)) = false := decide_eq_false (by omega)
  obtain ⟨B4, hB4⟩ : ∃ B4, B4 = w.heap.size := ⟨_, rfl⟩
  go_enter Try.func50, Try.ntmps50
  go_wp2_with fail
  refine (packedSize_any m n p _ HP.out (by omega)).mono ?_
  rintro e w0 ⟨rfl, rfl⟩
  rw [← HL.out]
  go_wp2_with fail
  refine (rbytes_any _ b s bad (L : Int) (by omega) h0).mono ?_
  rintro e w1 ⟨rfl, hr, hg⟩
  have k4 : w1.cell? ⟨w.heap.size, 0, none⟩ = some (.int .i64 (m : Int)) := (cell_of_grown hg (p := ⟨w.heap.size, 0, none⟩) (by simp) (fun e => by injection e with e; simp at e; omega)).trans (by simp)
  have hsz : w.heap.size < w1.heap.size := by have := hg.size; simp at this; omega
  have hT : Turned (fun k => k = b) w w1 := ((Turned.refl _ w).alloc _).trans (Turned.of_grown hg rfl)
  rw [← hB4] at k4 hsz ⊢
  have HB4 := Lib.hid hB4
  have hb4b : B4 ≠ b := by omega
  clear hB4
  have c1 := hr.c1
  by_cases hgood : bad = false ∧ L ≤ s.length
  · obtain ⟨rfl, hLs⟩ := hgood
    have e1 : byV (L : Int) s = s.take L := by unfold byV; rw [if_pos ⟨by omega, by omega⟩, Int.toNat_natCast]
    have e2 : byS (L : Int) s = s.drop L := by unfold byS; rw [if_pos ⟨by omega, by omega⟩, Int.toNat_natCast]
    have e3 : byB (L : Int) s false = false := by unfold byB; rw [if_pos ⟨by omega, by omega⟩]
    rw [e3] at c1
    rw [e2, e3] at hr
    rw [e1]
    clear e1 e2 e3
    obtain ⟨P, hPE⟩ : ∃ P, P = s.take L := ⟨_, rfl⟩
    have hPl : P.length = L := by rw [hPE, List.length_take]; omega
    rw [← hPE]
    have HPE := Lib.hid hPE
    clear hPE
    have hmk : ∀ (fn : Fn) (first cap : Array Value) (w : World), (Instr.makeFunc fn first cap).run Try.prog w = .ok (.func fn first cap) w := fun _ _ _ _ => rfl
    have HPL := Lib.hid hPl
    clear hPl
    go_wp2_with fail
    refine (bitsOf_any _ _).mono ?_
    rintro e w2 ⟨rfl, rfl⟩
    obtain ⟨Bs, hBs⟩ : ∃ Bs, Bs = w1.heap.size := ⟨_, rfl⟩
    have x8 : (((w1.alloc (.cells #[.string (ofBytes P)] 9)).alloc (.cells #[.int .i64 0] 3)).alloc (.cells #[.func (.func 72) #[] #[.pointer (some ⟨w1.heap.size, 0, none⟩), .pointer (some ⟨w1.heap.size + 1, 0, none⟩)]] 80)).cell? ⟨w1.heap.size + 1 + 1, 0, none⟩ = some (.func (.func 72) #[] #[.pointer (some ⟨w1.heap.size, 0, none⟩), .pointer (some ⟨w1.heap.size + 1, 0, none⟩)]) := by go_simp
    have xa : (((w1.alloc (.cells #[.string (ofBytes P)] 9)).alloc (.cells #[.int .i64 0] 3)).alloc (.cells #[.func (.func 72) #[] #[.pointer (some ⟨w1.heap.size, 0, none⟩), .pointer (some ⟨w1.heap.size + 1, 0, none⟩)]] 80)).cell? ⟨w1.heap.size + 1, 0, none⟩ = some (.int .i64 0) := by go_simp
    have xf : (((w1.alloc (.cells #[.string (ofBytes P)] 9)).alloc (.cells #[.int .i64 0] 3)).alloc (.cells #[.func (.func 72) #[] #[.pointer (some ⟨w1.heap.size, 0, none⟩), .pointer (some ⟨w1.heap.size + 1, 0, none⟩)]] 80)).frozen? ⟨w1.heap.size + 1, 0, none⟩ = false := by go_simp
    have xs : (((w1.alloc (.cells #[.string (ofBytes P)] 9)).alloc (.cells #[.int .i64 0] 3)).alloc (.cells #[.func (.func 72) #[] #[.pointer (some ⟨w1.heap.size, 0, none⟩), .pointer (some ⟨w1.heap.size + 1, 0, none⟩)]] 80)).cell? ⟨w1.heap.size, 0, none⟩ = some (.string (ofBytes P)) := by go_simp
    have x4 : (((w1.alloc (.cells #[.string (ofBytes P)] 9)).alloc (.cells #[.int .i64 0] 3)).alloc (.cells #[.func (.func 72) #[] #[.pointer (some ⟨w1.heap.size, 0, none⟩), .pointer (some ⟨w1.heap.size + 1, 0, none⟩)]] 80)).cell? ⟨B4, 0, none⟩ = some (.int .i64 (m : Int)) := by
      rw [World.cell?_alloc_lt _ _ _ (by simp; omega), World.cell?_alloc_lt _ _ _ (by simp; omega), World.cell?_alloc_lt _ _ _ hsz]; exact k4
    have xr : RD (((w1.alloc (.cells #[.string (ofBytes P)] 9)).alloc (.cells #[.int .i64 0] 3)).alloc (.cells #[.func (.func 72) #[] #[.pointer (some ⟨w1.heap.size, 0, none⟩), .pointer (some ⟨w1.heap.size + 1, 0, none⟩)]] 80)) b (s.drop L) false := ((hr.alloc _).alloc _).alloc _
    have xz : (((w1.alloc (.cells #[.string (ofBytes P)] 9)).alloc (.cells #[.int .i64 0] 3)).alloc (.cells #[.func (.func 72) #[] #[.pointer (some ⟨w1.heap.size, 0, none⟩), .pointer (some ⟨w1.heap.size + 1, 0, none⟩)]] 80)).heap.size = w1.heap.size + 3 := by simp
    have xT : Turned (fun k => k = b) w (((w1.alloc (.cells #[.string (ofBytes P)] 9)).alloc (.cells #[.int .i64 0] 3)).alloc (.cells #[.func (.func 72) #[] #[.pointer (some ⟨w1.heap.size, 0, none⟩), .pointer (some ⟨w1.heap.size + 1, 0, none⟩)]] 80)) := ((hT.alloc _).alloc _).alloc _
    go_wp2_with fail
    have hrlt := hr.lt
    clear hT c1 k4
    generalize ((w1.alloc (.cells #[.string (ofBytes P)] 9)).alloc (.cells #[.int .i64 0] 3)).alloc (.cells #[.func (.func 72) #[] #[.pointer (some ⟨w1.heap.size, 0, none⟩), .pointer (some ⟨w1.heap.size + 1, 0, none⟩)]] 80) = w3 at x8 xa xf xs x4 xr xz xT ⊢
    rw [← hBs] at x8 xa xf xs xz hsz hrlt ⊢
    have hsw : w.heap.size ≤ Bs := by rw [hBs]; have := HB4.out; omega
    clear hBs hr
    have HXZ := Lib.hid xz
    refine (rowfix_any w3 b (Bs + 1 + 1) B4 Bs (Bs + 1) n m P (s.drop L) hm hn (by rw [HPL.out, Nat.mul_comm, ← HP.out]; omega) (by rw [HPL.out]; omega) (by omega) (by omega) (by omega) (by omega) (by omega) (by omega) (by omega) (by omega) xr x8 x4 xs xa xf).mono ?_
    clear xz
    rintro e w4 ⟨⟨g, rfl, hgw, hgl, hIA⟩, ya, yf, yT⟩
    have y4 := (yT.cell (p := ⟨B4, 0, none⟩) (by show B4 < _; rw [HXZ.out]; omega) (by show ¬ B4 = _; omega)).trans x4
    have y8 := (yT.cell (p := ⟨Bs + 1 + 1, 0, none⟩) (by show Bs + 1 + 1 < _; rw [HXZ.out]; omega) (by show ¬ Bs + 1 + 1 = _; omega)).trans x8
    have ys := (yT.cell (p := ⟨Bs, 0, none⟩) (by show Bs < _; rw [HXZ.out]; omega) (by show ¬ Bs = _; omega)).trans xs
    have yr : RD w4 b (s.drop L) false := xr.kept (yT.block b xr.lt (by omega))
    rw [Nat.mul_comm, ← HP.out] at ya
    obtain ⟨f, hf⟩ : ∃ f, f = L * 8 - p := ⟨_, rfl⟩
    have hfI : (L : Int) * 8 - (p : Int) = (f : Int) := by omega
    have hPs : (ofBytes P).size = L := by rw [size_ofBytes, HPL.out]
    have hsz4 := yT.size
    have hg3 : Bs + 3 ≤ g := by rw [← HXZ.out]; exact hgw
    have hszB : Bs + 3 ≤ w4.heap.size := by rw [← HXZ.out]; exact hsz4
    have htk := take_any w4 Bs (Bs + 1) f p P (by omega) (by rw [HPL.out]; omega) (by rw [HPL.out]; omega) (by omega) (by omega) (by omega) ys ya yf
    have HF := Lib.hid hf
    have HIA := Lib.hid hIA
    clear hf x8 xa xf xs x4 hIA
    go_wp2_with fail
    refine htk.mono ?_
    rintro e w5 ⟨rfl, _, _, zT⟩
    have zr : RD w5 b (s.drop L) false := yr.kept (zT.block b yr.lt (by omega))
    have hTT : Turned (fun k => k = b ∨ w.heap.size ≤ k) w w5 := ((xT.wide (fun k e => .inl e)).trans (yT.wide (fun k e => .inr (by omega)))).trans (zT.wide (fun k e => .inr (by omega)))
    have hgr : w.grownBy w5 (some b) := hTT.grown (fun k hk e => e.elim id (fun e => by omega))
    obtain ⟨z, hz⟩ : ∃ z, z = PackM.bv P p f := ⟨_, rfl⟩
    rw [← hz]
    have HZ := Lib.hid hz
    have hrf : PackM.rFix m n s = if z = 0 then some (PackM.nums P m n, s.drop L) else none := by
      unfold PackM.rFix
      rw [← HP.out, ← HL.out, if_neg (by omega), ← HPE.out, ← HF.out, ← hz]
    have hfx : fxR (m : Int) (n : Int) s false = if z = 0 then some (PackM.nums P m n, s.drop L) else none := by
      unfold fxR
      rw [if_pos ⟨rfl, by omega, by omega, by omega, by omega⟩, Int.toNat_natCast, Int.toNat_natCast, hrf]
    have HFX := Lib.hid hfx
    clear hz hrf hfx htk
    by_cases hz0 : z = 0
    · have hz0I : ((z : Int) != 0) = false := by simp [hz0]
      go_wp2
      go_ret
      refine ⟨?_, hgr⟩
      have e := HFX.out
      rw [if_pos hz0] at e
      unfold fxV fxS fxB
      rw [e]
      have hln : (toI (PackM.nums P m n)).length = n := by rw [toI_length, nums_length]
      refine ⟨some ⟨g, 0, none⟩, n, by rw [hln]; rfl, fun ad h => (by injection h with h; subst h; show w.heap.size ≤ g; omega), ?_, zr⟩
      exact (HIA.out.turned zT hgl (by omega)).ints (Nat.lt_of_lt_of_le hgl zT.size) rfl
    · have hz0I : ((z : Int) != 0) = true := by simp [hz0]
      go_wp2_with fail
      refine (rfail_any _ _ _ _ zr).mono ?_
      rintro e w6 ⟨rfl, hr6, hg6⟩
      go_wp2
      go_ret
      have e := HFX.out
      rw [if_neg hz0] at e
      have hx := fx_none e
      rw [hx.1, hx.2.1, hx.2.2]
      exact ⟨RowEnd.none_ rfl hr6, hgr.trans hg6⟩
  · have e3 : byB (L : Int) s bad = true := by
      unfold byB
      by_cases hLs : L ≤ s.length
      · rw [if_pos ⟨by omega, by omega⟩]
        cases bad with
        | true => rfl
        | false => exact absurd ⟨rfl, hLs⟩ hgood
      · rw [if_neg (by omega)]
    have e2 : byS (L : Int) s = [] := by
      unfold byS
      by_cases hLs : L ≤ s.length
      · rw [if_pos ⟨by omega, by omega⟩]
        cases hbb : bad with
        | true => rw [hbad hbb]; simp
        | false => exact absurd ⟨hbb, hLs⟩ hgood
      · rw [if_neg (by omega)]
    have hfx : fxR (m : Int) (n : Int) s bad = none := by
      unfold fxR
      cases hbb : bad with
      | true => rw [if_neg (fun h => by cases h.1)]
      | false =>
        rw [if_pos ⟨rfl, by omega, by omega, by omega, by omega⟩, Int.toNat_natCast, Int.toNat_natCast]
        unfold PackM.rFix
        rw [← HP.out, ← HL.out, if_pos]
        have : ¬ L ≤ s.length := fun h => hgood ⟨hbb, h⟩
        omega
    have HX := Lib.hid (fx_none hfx)
    rw [e3] at c1
    rw [e2, e3] at hr
    clear e2 e3 hfx
    go_wp2
    go_ret
    rw [HX.out.1, HX.out.2.1, HX.out.2.2]
    exact ⟨RowEnd.none_ rfl hr, hT.grown (fun k _ e => e)⟩
end Go.Proofs.Ytlcmdnmifmjjgaa

/- Posts, in plain words: what sealed bytes tell. Nothing of the program. -/
namespace Go.Proofs.Ytlcmdnmifmjjgaa
namespace PostM
open PackM

/-- two bytes as one number, the first one the lower -/
def wtAt (s : List UInt8) (i : Nat) : Int := ((s.getD (2 * i) 0).toNat : Int) + 256 * ((s.getD (2 * i + 1) 0).toNat : Int)
/-- the posts that documents and bytes tell -/
def parL (docs : List Int) (s : List UInt8) : List (Int × Int) := (List.range docs.length).map fun i => (docs.getD i 0, wtAt s i)
theorem parL_len (docs : List Int) (s : List UInt8) : (parL docs s).length = docs.length := by simp [parL]
/-- the posts of bytes that were opened -/
def rdP (t : List UInt8) : Option (List (Int × Int)) := match rRis 2147483648 t with
  | none => none
  | some x => if x.2.length = 2 * x.1.length then some (parL x.1 x.2) else none

theorem bv_two (s : List UInt8) (k : Nat) : bv s (k * 16) 16 = (s.getD (2 * k) 0).toNat + 256 * (s.getD (2 * k + 1) 0).toNat := by
  obtain ⟨a, ha⟩ : ∃ a, a = (s.getD (2 * k) 0).toNat := ⟨_, rfl⟩
  obtain ⟨b, hb⟩ : ∃ b, b = (s.getD (2 * k + 1) 0).toNat := ⟨_, rfl⟩
  have la : a < 256 := by rw [ha]; exact UInt8.toNat_lt _
  have lb : b < 256 := by rw [hb]; exact UInt8.toNat_lt _
  rw [← ha, ← hb]
  refine bv_of s 16 _ _ (by omega) (fun i hi => ?_)
  unfold bitAt
  rcases Nat.lt_or_ge i 8 with h8 | h8
  · rw [show (k * 16 + i) / 8 = 2 * k by omega, show (k * 16 + i) % 8 = i by omega, ← ha]
    have : i = 0 ∨ i = 1 ∨ i = 2 ∨ i = 3 ∨ i = 4 ∨ i = 5 ∨ i = 6 ∨ i = 7 := by omega
    rcases this with rfl | rfl | rfl | rfl | rfl | rfl | rfl | rfl <;> omega
  · rw [show (k * 16 + i) / 8 = 2 * k + 1 by omega, show (k * 16 + i) % 8 = i - 8 by omega, ← hb]
    have : i = 8 ∨ i = 9 ∨ i = 10 ∨ i = 11 ∨ i = 12 ∨ i = 13 ∨ i = 14 ∨ i = 15 := by omega
    rcases this with rfl | rfl | rfl | rfl | rfl | rfl | rfl | rfl <;> simp only [Nat.reduceSub] <;> omega
theorem rFix_two (n : Nat) (s : List UInt8) : rFix 16 n s = if s.length < 2 * n then none else some (nums (s.take (2 * n)) 16 n, s.drop (2 * n)) := by
  unfold rFix
  rw [show (16 * n + 7) / 8 = 2 * n by omega, show 2 * n * 8 - 16 * n = 0 by omega]
  by_cases h : s.length < 2 * n
  · rw [if_pos h, if_pos h]
  · rw [if_neg h, if_neg h, if_pos (by rfl)]
theorem nums_two (n : Nat) (s : List UInt8) (i : Nat) (hi : i < n) : ((nums (s.take (2 * n)) 16 n).getD i 0 : Nat) = (s.getD (2 * i) 0).toNat + 256 * (s.getD (2 * i + 1) 0).toNat := by
  unfold nums
  rw [List.getD_eq_getElem?_getD, List.getElem?_map, List.getElem?_range hi]
  simp only [Option.map_some, Option.getD_some]
  rw [bv_two]
  simp only [List.getD_eq_getElem?_getD]
  rw [List.getElem?_take_of_lt (by omega), List.getElem?_take_of_lt (by omega)]
/-- a greater 'most' plays no part, where the count can't lie in what is there -/
theorem rRis_most (m : Int) (t : List UInt8) (h : (t.length : Int) ≤ m) : rRis (t.length : Int) t = rRis m t := by
  unfold rRis
  cases hn : num MAXI 0 0 t with
  | none => rfl
  | some x =>
    obtain ⟨n, r⟩ := x
    have hs := num_short hn
    simp only [Option.bind_some]
    by_cases h1 : m < (n : Int)
    · rw [if_pos h1, if_pos (by omega)]
    · rw [if_neg h1]
      by_cases h2 : (t.length : Int) < (n : Int)
      · rw [if_pos h2]
        cases hr : ris (-1) n r with
        | none => rfl
        | some y =>
          obtain ⟨l, u⟩ := y
          have := (ris_short n (-1) r l u hr).1
          omega
      · rw [if_neg h2]
end PostM
end Go.Proofs.Ytlcmdnmifmjjgaa

/- The plain mathematics of the sums: no condition. What the walks compute is brought to these functions. -/
namespace CrcM

def poly : Nat := 3988292384
def mv (c : Nat) : Nat := if c % 2 = 1 then c / 2 ^^^ poly else c / 2
def mvn : Nat → Nat → Nat
  | 0, c => c
  | n + 1, c => mv (mvn n c)

theorem mv_bit (c i : Nat) : (mv c).testBit i = (c.testBit (i + 1) ^^ (c.testBit 0 && poly.testBit i)) := by
  unfold mv
  split
  · rename_i h
    simp [Nat.testBit_xor, Nat.testBit_add_one, Nat.testBit_zero, h]
  · rename_i h
    simp [Nat.testBit_add_one, Nat.testBit_zero, h]

theorem mv_xor (a b : Nat) : mv (a ^^^ b) = mv a ^^^ mv b := by
  apply Nat.eq_of_testBit_eq
  intro i
  rw [Nat.testBit_xor, mv_bit, mv_bit, mv_bit, Nat.testBit_xor, Nat.testBit_xor]
  cases a.testBit (i + 1) <;> cases b.testBit (i + 1) <;> cases a.testBit 0 <;> cases b.testBit 0 <;> cases poly.testBit i <;> rfl

theorem mvn_xor (n a b : Nat) : mvn n (a ^^^ b) = mvn n a ^^^ mvn n b := by
  induction n with
  | zero => rfl
  | succ n ih => simp only [mvn, ih, mv_xor]

theorem mv_zero : mv 0 = 0 := rfl
theorem mvn_zero (n : Nat) : mvn n 0 = 0 := by
  induction n with
  | zero => rfl
  | succ n ih => simp only [mvn, ih, mv_zero]

theorem mvn_add (m n c : Nat) : mvn (m + n) c = mvn n (mvn m c) := by
  induction n with
  | zero => rfl
  | succ n ih => show mv (mvn (m + n) c) = _; rw [ih]; rfl

theorem mv_lt {c : Nat} (h : c < 4294967296) : mv c < 4294967296 := by
  unfold mv
  split
  · exact Nat.xor_lt_two_pow (n := 32) (by omega) (by decide)
  · omega

theorem mvn_lt (n : Nat) {c : Nat} (h : c < 4294967296) : mvn n c < 4294967296 := by
  induction n with
  | zero => exact h
  | succ n ih => exact mv_lt ih

theorem mv_ne {c : Nat} (h : c < 4294967296) (h0 : c ≠ 0) : mv c ≠ 0 := by
  unfold mv
  split
  · intro e
    have e2 : c / 2 = poly := by
      have : c / 2 ^^^ poly ^^^ poly = 0 ^^^ poly := by rw [e]
      rw [Nat.xor_assoc, Nat.xor_self, Nat.xor_zero, Nat.zero_xor] at this
      exact this
    unfold poly at e2
    omega
  · omega

theorem mvn_ne (n : Nat) {c : Nat} (h : c < 4294967296) (h0 : c ≠ 0) : mvn n c ≠ 0 := by
  induction n with
  | zero => exact h0
  | succ n ih => exact mv_ne (mvn_lt n h) ih

theorem mv_two (k : Nat) : mv (2 * k) = k := by unfold mv; rw [if_neg (by omega)]; omega
theorem mvn_pow (n k : Nat) : mvn n (2 ^ n * k) = k := by
  induction n generalizing k with
  | zero => simp [mvn]
  | succ n ih =>
    have : 2 ^ (n + 1) * k = 2 ^ n * (2 * k) := by rw [Nat.pow_succ, Nat.mul_assoc]
    rw [this]
    show mv (mvn n (2 ^ n * (2 * k))) = k
    rw [ih, mv_two]

theorem split_xor (c n : Nat) : c = c % 2 ^ n ^^^ 2 ^ n * (c / 2 ^ n) := by
  apply Nat.eq_of_testBit_eq
  intro i
  rw [Nat.testBit_xor, Nat.testBit_mod_two_pow, Nat.testBit_two_pow_mul, Nat.testBit_div_two_pow]
  by_cases h : i < n
  · have : ¬ n ≤ i := by omega
    simp [h, this]
  · have h2 : n ≤ i := by omega
    have : n + (i - n) = i := by omega
    simp [h, h2]

/-- the half byte's table -/
theorem mvn_half (c : Nat) : mvn 4 c = mvn 4 (c % 16) ^^^ c / 16 := by
  have h := split_xor c 4
  calc mvn 4 c = mvn 4 (c % 2 ^ 4 ^^^ 2 ^ 4 * (c / 2 ^ 4)) := by rw [← h]
    _ = _ := by rw [mvn_xor, mvn_pow]

def up (c b : Nat) : Nat := mvn 8 (c ^^^ b)
def run (c : Nat) (l : List UInt8) : Nat := l.foldl (fun c b => up c b.toNat) c
def sum (l : List UInt8) : Nat := 4294967295 - run 4294967295 l

theorem up_lt {c b : Nat} (h : c < 4294967296) (hb : b < 256) : up c b < 4294967296 :=
  mvn_lt 8 (Nat.xor_lt_two_pow (n := 32) h (by omega))
theorem run_lt (l : List UInt8) {c : Nat} (h : c < 4294967296) : run c l < 4294967296 := by
  induction l generalizing c with
  | nil => exact h
  | cons b l ih => exact ih (up_lt h (by have := b.toNat_lt; omega))
theorem run_append (c : Nat) (l m : List UInt8) : run c (l ++ m) = run (run c l) m := by simp [run, List.foldl_append]
theorem run_snoc (c : Nat) (l : List UInt8) (b : UInt8) : run c (l ++ [b]) = up (run c l) b.toNat := by rw [run_append]; rfl
theorem sum_lt (l : List UInt8) : sum l < 4294967296 := by unfold sum; omega

def le4 (n : Nat) : List UInt8 := [UInt8.ofNat n, UInt8.ofNat (n / 256), UInt8.ofNat (n / 65536), UInt8.ofNat (n / 16777216)]
def sealed (l : List UInt8) : List UInt8 := l ++ le4 (sum l)

/-! bits -/
def rb (f : Nat → Bool) (c : Nat) : Nat → Nat
  | 0 => c
  | n + 1 => mv (rb f c n ^^^ (f n).toNat)

theorem rb_congr {f g : Nat → Bool} (c n : Nat) (h : ∀ i, i < n → f i = g i) : rb f c n = rb g c n := by
  induction n with
  | zero => rfl
  | succ n ih =>
    simp only [rb]
    rw [ih (fun i hi => h i (by omega)), h n (by omega)]

theorem toNat_xor (a b : Bool) : (a ^^ b).toNat = a.toNat ^^^ b.toNat := by cases a <;> cases b <;> rfl

theorem rb_xor (f g : Nat → Bool) (c d n : Nat) : rb (fun i => f i ^^ g i) (c ^^^ d) n = rb f c n ^^^ rb g d n := by
  induction n with
  | zero => rfl
  | succ n ih =>
    simp only [rb]
    rw [ih, toNat_xor, ← mv_xor]
    congr 1
    rw [Nat.xor_assoc, Nat.xor_assoc]
    congr 1
    rw [← Nat.xor_assoc, ← Nat.xor_assoc, Nat.xor_comm (rb g d n)]

theorem mod_succ (b k : Nat) : b % 2 ^ (k + 1) = b % 2 ^ k ^^^ 2 ^ k * (b.testBit k).toNat := by
  apply Nat.eq_of_testBit_eq
  intro i
  rw [Nat.testBit_xor, Nat.testBit_mod_two_pow, Nat.testBit_mod_two_pow, Nat.testBit_two_pow_mul]
  by_cases h : i < k
  · have h1 : i < k + 1 := by omega
    have h2 : ¬ k ≤ i := by omega
    simp [h, h1, h2]
  · by_cases h3 : i = k
    · subst h3
      simp
      cases b.testBit i <;> simp
    · have h1 : ¬ i < k + 1 := by omega
      have h2 : ¬ i < k := by omega
      have h4 : k ≤ i := by omega
      simp [h1, h2, h4]
      exact Nat.testBit_lt_two_pow (Nat.lt_of_lt_of_le (Nat.lt_succ_of_le (Bool.toNat_le _)) (by
        calc 1 + 1 = 2 ^ 1 := rfl
          _ ≤ 2 ^ (i - k) := Nat.pow_le_pow_right (by decide) (by omega)))

theorem rb_word (f : Nat → Bool) (c n b k : Nat) (h : ∀ i, i < k → f (n + i) = b.testBit i) : rb f c (n + k) = mvn k (rb f c n ^^^ b % 2 ^ k) := by
  induction k with
  | zero => simp [mvn, Nat.mod_one]
  | succ k ih =>
    show mv (rb f c (n + k) ^^^ (f (n + k)).toNat) = mv (mvn k _)
    rw [ih (fun i hi => h i (by omega)), h k (by omega), mod_succ, ← Nat.xor_assoc, mvn_xor, mvn_xor, mvn_xor, mvn_pow]

theorem rb_zeros (f : Nat → Bool) (c n k : Nat) (h : ∀ i, i < k → f (n + i) = false) : rb f c (n + k) = mvn k (rb f c n) := by
  have := rb_word f c n 0 k (fun i hi => by rw [h i hi]; simp)
  simpa using this

def bitOf (l : List UInt8) (p : Nat) : Bool := (l.getD (p / 8) 0).toNat.testBit (p % 8)

theorem run_bits (l : List UInt8) (c : Nat) : run c l = rb (bitOf l) c (8 * l.length) := by
  suffices H : ∀ n, n ≤ l.length → run c (l.take n) = rb (bitOf l) c (8 * n) by
    have := H l.length (Nat.le_refl _)
    rwa [List.take_length] at this
  intro n hn
  induction n with
  | zero => rfl
  | succ n ih =>
    have hlt : n < l.length := by omega
    rw [List.take_succ_eq_append_getElem hlt, run_snoc, ih (by omega)]
    have hb := (l[n]).toNat_lt
    have := rb_word (bitOf l) c (8 * n) (l[n]).toNat 8 (fun i hi => by
      unfold bitOf
      have e1 : (8 * n + i) / 8 = n := by omega
      have e2 : (8 * n + i) % 8 = i := by omega
      rw [e1, e2]
      simp [hlt])
    rw [Nat.mod_eq_of_lt (by omega)] at this
    unfold up
    rw [← this]
    rfl

/-- bits p with at ≤ p < at + i are turned by 'turn' -/
def err (at_ turn i p : Nat) : Bool := decide (at_ ≤ p) && decide (p < at_ + i) && turn.testBit (p - at_)

theorem rb_err_ne (at_ turn i n : Nat) (hi : i ≤ 32) (hn : at_ + i ≤ n) (h : turn % 2 ^ i ≠ 0) : rb (err at_ turn i) 0 n ≠ 0 := by
  have h0 : rb (err at_ turn i) 0 (0 + at_) = mvn at_ (rb (err at_ turn i) 0 0) := rb_zeros _ 0 0 at_ (fun j hj => by
    have : decide (at_ ≤ 0 + j) = false := decide_eq_false (by omega)
    unfold err
    rw [this]
    rfl)
  have e0 : rb (err at_ turn i) 0 at_ = 0 := by
    rw [Nat.zero_add] at h0; rw [h0]; exact mvn_zero at_
  have h1 := rb_word (err at_ turn i) 0 at_ turn i (fun j hj => by
    have a : at_ + j - at_ = j := by omega
    have b : at_ + j < at_ + i := by omega
    simp [err, a, b])
  rw [e0, Nat.zero_xor] at h1
  have hlt : turn % 2 ^ i < 4294967296 := Nat.lt_of_lt_of_le (Nat.mod_lt _ (Nat.two_pow_pos i)) (by
    calc 2 ^ i ≤ 2 ^ 32 := Nat.pow_le_pow_right (by decide) hi
      _ = 4294967296 := by decide)
  obtain ⟨k, rfl⟩ : ∃ k, n = at_ + i + k := ⟨n - (at_ + i), by omega⟩
  rw [rb_zeros (err at_ turn i) 0 (at_ + i) k (fun j hj => by
    have : decide (at_ + i + j < at_ + i) = false := decide_eq_false (by omega)
    unfold err
    rw [this, Bool.and_false, Bool.false_and])]
  rw [h1]
  exact mvn_ne _ (mvn_lt _ hlt) (mvn_ne _ hlt h)

theorem xor_ones {c : Nat} (h : c < 4294967296) : 4294967295 - c = c ^^^ 4294967295 := by
  have e := Nat.testBit_two_pow_sub_succ (n := 32) (x := c) h
  apply Nat.eq_of_testBit_eq
  intro i
  have h1 : 4294967295 - c = 2 ^ 32 - (c + 1) := by omega
  have h2 : (4294967295 : Nat) = 2 ^ 32 - 1 := by decide
  rw [h1, e, Nat.testBit_xor, h2, Nat.testBit_two_pow_sub_one]
  by_cases hi : i < 32
  · simp [hi]
  · have : c.testBit i = false := Nat.testBit_lt_two_pow (Nat.lt_of_lt_of_le h (by
      calc 4294967296 = 2 ^ 32 := by decide
        _ ≤ 2 ^ i := Nat.pow_le_pow_right (by decide) (by omega)))
    simp [hi, this]

theorem le4_run (c n : Nat) (hn : n < 4294967296) : run c (le4 n) = mvn 32 (c ^^^ n) := by
  rw [run_bits]
  have := rb_word (bitOf (le4 n)) c 0 n 32 (fun i hi => by
    rw [Nat.zero_add]
    have hcase : i / 8 = 0 ∨ i / 8 = 1 ∨ i / 8 = 2 ∨ i / 8 = 3 := by omega
    unfold bitOf le4
    have key : ∀ (k : Nat), i / 8 = k → (UInt8.ofNat (n / 2 ^ (8 * k))).toNat.testBit (i % 8) = n.testBit i := fun k hk => by
      rw [UInt8.toNat_ofNat']
      rw [Nat.testBit_mod_two_pow, Nat.testBit_div_two_pow]
      have e : 8 * k + i % 8 = i := by omega
      have : i % 8 < 8 := by omega
      simp [this]
      rw [← e]; congr 1; omega
    rcases hcase with h | h | h | h
    · have := key 0 h; rw [h]; simpa using this
    · have := key 1 h; rw [h]; simpa using this
    · have := key 2 h; rw [h]; simpa using this
    · have := key 3 h; rw [h]; simpa using this)
  have e : 8 * (le4 n).length = 0 + 32 := by rfl
  rw [e, this, Nat.mod_eq_of_lt (by exact hn)]
  rfl

/-- what is sealed has one and the same register behind it -/
theorem run_sealed (l : List UInt8) : run 4294967295 (sealed l) = mvn 32 4294967295 := by
  unfold sealed
  rw [run_append, le4_run _ _ (sum_lt l)]
  unfold sum
  have h := run_lt l (c := 4294967295) (by decide)
  rw [xor_ones h, ← Nat.xor_assoc, Nat.xor_self, Nat.zero_xor]

def Flipped (at_ turn i : Nat) (t t' : List UInt8) : Prop :=
  t'.length = t.length ∧ ∀ j k, j < t.length → k < 8 → (t'.getD j 0).toNat.testBit k = ((t.getD j 0).toNat.testBit k ^^ err at_ turn i (8 * j + k))

theorem flipped_bits {at_ turn i : Nat} {t t' : List UInt8} (h : Flipped at_ turn i t t') (p : Nat) (hp : p < 8 * t.length) : bitOf t' p = (bitOf t p ^^ err at_ turn i p) := by
  unfold bitOf
  rw [h.2 (p / 8) (p % 8) (by omega) (by omega)]
  congr 2
  omega

/-- a burst is seen: what the turned bytes' register is, is another than of what is sealed -/
theorem burst (l t' : List UInt8) (at_ turn i : Nat) (hi : i ≤ 32) (hn : at_ + i ≤ 8 * (sealed l).length) (hf : Flipped at_ turn i (sealed l) t') (h : turn % 2 ^ i ≠ 0) (m : List UInt8) : t' ≠ sealed m := by
  intro e
  have r1 := run_sealed l
  have r2 := run_sealed m
  rw [← e] at r2
  rw [run_bits, hf.1] at r2
  rw [rb_congr _ _ (fun p hp => flipped_bits hf p hp)] at r2
  have := rb_xor (bitOf (sealed l)) (err at_ turn i) 4294967295 0 (8 * (sealed l).length)
  rw [Nat.xor_zero] at this
  rw [this, ← run_bits, r1] at r2
  have z : rb (err at_ turn i) 0 (8 * (sealed l).length) = 0 := by
    have q : mvn 32 4294967295 ^^^ (mvn 32 4294967295 ^^^ rb (err at_ turn i) 0 (8 * (sealed l).length)) = mvn 32 4294967295 ^^^ mvn 32 4294967295 := by rw [r2]
    rwa [← Nat.xor_assoc, Nat.xor_self, Nat.zero_xor] at q
  exact rb_err_ne at_ turn i _ hi hn h z

theorem flipped_none {at_ turn i : Nat} {t t' : List UInt8} (hf : Flipped at_ turn i t t') (h : turn % 2 ^ i = 0) : t' = t := by
  apply List.ext_getElem hf.1
  intro j h1 h2
  have hb : ∀ k, k < 8 → (t'[j]).toNat.testBit k = (t[j]).toNat.testBit k := fun k hk => by
    have := hf.2 j k h2 hk
    simp only [List.getD_eq_getElem?_getD, h1, h2, List.getElem?_eq_getElem, Option.getD_some] at this
    rw [this]
    have z : err at_ turn i (8 * j + k) = false := by
      unfold err
      by_cases a : at_ ≤ 8 * j + k
      · by_cases b : 8 * j + k < at_ + i
        · have := Nat.testBit_mod_two_pow turn i (8 * j + k - at_)
          rw [h] at this
          have c : 8 * j + k - at_ < i := by omega
          simp [c] at this
          simp [this]
        · simp [b]
      · simp [a]
    simp [z]
  apply UInt8.toNat_inj.1
  apply Nat.eq_of_testBit_eq
  intro k
  by_cases hk : k < 8
  · exact hb k hk
  · have a := (t'[j]).toNat_lt
    have b := (t[j]).toNat_lt
    have c : 256 ≤ 2 ^ k := by
      calc 256 = 2 ^ 8 := by decide
        _ ≤ 2 ^ k := Nat.pow_le_pow_right (by decide) (by omega)
    rw [Nat.testBit_lt_two_pow (by omega), Nat.testBit_lt_two_pow (by omega)]

theorem flipped_zero (at_ turn : Nat) (t : List UInt8) : Flipped at_ turn 0 t t := by
  refine ⟨rfl, fun j k _ _ => ?_⟩
  have : err at_ turn 0 (8 * j + k) = false := by
    unfold err
    by_cases a : at_ ≤ 8 * j + k
    · have b : decide (8 * j + k < at_ + 0) = false := decide_eq_false (by omega)
      rw [b, Bool.and_false, Bool.false_and]
    · simp [a]
  simp [this]
end CrcM

/- Contracts of crc's small functions. -/
namespace Go.Proofs.Ytlcmdnmifmjjgaa
open Go.RowKit

theorem bit_u32 (c : Nat) (h : c < 4294967296) : bits .and .u32 (c : Int) 1 = ((c % 2 : Nat) : Int) := by
  have := u32_and_nat c 1 h (by decide)
  rw [Nat.and_one_is_mod] at this
  exact this

theorem mv_odd (c : Nat) (h : c < 4294967296) (ho : c % 2 = 1) : bits .xor .u32 ((c : Int) / 2) 3988292384 = ((CrcM.mv c : Nat) : Int) := by
  have e : ((c : Int) / 2) = ((c / 2 : Nat) : Int) := by omega
  have := u32_xor_nat (c / 2) 3988292384 (by omega) (by decide)
  rw [e]
  unfold CrcM.mv
  rw [if_pos ho]
  exact this
theorem mv_even (c : Nat) (ho : ¬ c % 2 = 1) : ((c : Int) / 2) = ((CrcM.mv c : Nat) : Int) := by
  unfold CrcM.mv
  rw [if_neg ho]
  omega


set_option maxHeartbeats 400000 in
theorem moveBit_any (c : Nat) (w : World) (h : c < 4294967296) :
    Calls Try.prog 79 #[.int .u32 c] w fun e w' => e = .returned (.int .u32 (CrcM.mv c)) ∧ w = w' := by
  have hb := bit_u32 c h
  by_cases ho : c % 2 = 1
  · rw [ho] at hb
    go_enter Try.func79, Try.ntmps79
    go_wp2
    go_ret
    exact ⟨ret_int (mv_odd c h ho), rfl⟩
  · have h0 : c % 2 = 0 := by omega
    rw [h0] at hb
    have h1 : c % 2 ≠ 1 := by omega
    clear h0
    go_enter Try.func79, Try.ntmps79
    go_wp2
    go_ret
    exact ⟨ret_int (mv_even c ho), rfl⟩

/-- the meter's table, in front of it the first k are made -/
def tabK (k : Nat) : Array Value := ((List.range 16).map fun i => Value.int .u32 (if i < k then (CrcM.mvn 4 i : Nat) else (0 : Nat) : Nat)).toArray
theorem tabK_0 : tabK 0 = #[.int .u32 0, .int .u32 0, .int .u32 0, .int .u32 0, .int .u32 0, .int .u32 0, .int .u32 0, .int .u32 0, .int .u32 0, .int .u32 0, .int .u32 0, .int .u32 0, .int .u32 0, .int .u32 0, .int .u32 0, .int .u32 0] := rfl
theorem tabK_16 : tabK 16 = #[.int .u32 0, .int .u32 498536548, .int .u32 997073096, .int .u32 651767980, .int .u32 1994146192, .int .u32 1802195444, .int .u32 1303535960, .int .u32 1342533948, .int .u32 3988292384, .int .u32 4027552580, .int .u32 3604390888, .int .u32 3412177804, .int .u32 2607071920, .int .u32 2262029012, .int .u32 2685067896, .int .u32 3183342108] := by kernel_rfl
theorem tabK_size (k : Nat) : (tabK k).size = 16 := by simp [tabK]
theorem tabK_at (k i : Nat) (h : i < 16) : (tabK k)[i]? = some (.int .u32 (if i < k then (CrcM.mvn 4 i : Nat) else (0 : Nat) : Nat)) := by
  simp [tabK, h]
theorem tabK_set (k : Nat) : (tabK k).setIfInBounds k (.int .u32 (CrcM.mvn 4 k : Nat)) = tabK (k + 1) := by
  apply Array.ext
  · simp [tabK]
  · intro i h1 h2
    rw [tabK_size] at h2
    simp only [tabK, List.setIfInBounds_toArray, List.getElem_toArray, List.getElem_set, List.getElem_map, List.getElem_range]
    by_cases e : k = i
    · subst e; simp
    · rw [if_neg e]
      by_cases l : i < k
      · have : i < k + 1 := by omega
        simp [l, this]
      · have : ¬ i < k + 1 := by omega
        simp [l, this]

/-- the cells of a meter: done d, lock st, the table's first k made, sum s, count n -/
def gcells (d st k s n : Nat) : Array Value := #[.int .u32 d, .int .i32 st, .int .u32 0] ++ tabK k ++ #[.int .u32 s, .int .i64 n]
def mcells (d s n : Nat) : Array Value := gcells d 0 (16 * d) s n

/-- the meter at block b: 'done' d (0 or 1), sum s, count n -/
def Mtr (w : World) (b d s n : Nat) : Prop := w.heap[b]? = some (.cells (mcells d s n) 134 (0, 0))

set_option maxHeartbeats 400000 in
theorem new_any (w : World) :
    Calls Try.prog 68 #[] w fun e w' => e = .returned (.pointer (some ⟨w.heap.size, 0, none⟩)) ∧ w' = w.alloc (.cells (mcells 0 0 0) 134) := by
  go_enter Try.func68, Try.ntmps68
  go_wp2
  go_ret
  exact ⟨rfl, rfl⟩

set_option maxHeartbeats 400000 in
theorem msum_any (b : Nat) (s : Nat) (w : World) (h : w.cell? ⟨b, 19, none⟩ = some (.int .u32 s)) :
    Calls Try.prog 70 #[.pointer (some ⟨b, 0, none⟩)] w fun e w' => e = .returned (.int .u32 s) ∧ w = w' := by
  go_enter Try.func70, Try.ntmps70
  go_wp2
  go_ret
  exact ⟨rfl, rfl⟩

theorem add_run {P : Program} {w : World} (n m : Nat) (hn : n ≤ 1000000000) (hm : m ≤ 1000000000) : (Op.intArith .add .i64 (n : Int) (m : Int)).run P w = .ok (.int .i64 ((n + m : Nat) : Int)) w := by
  have h : IntKind.i64.wrap ((n : Int) + (m : Int)) = ((n + m : Nat) : Int) := by rw [IntWalk.i64_in _ (by omega)]; omega
  simp [go_sem, h]

set_option maxHeartbeats 400000 in
theorem iadd_any (b : Nat) (n m : Nat) (w : World) (hn : n ≤ 1000000000) (hm : m ≤ 1000000000) (h : w.cell? ⟨b, 20, none⟩ = some (.int .i64 n)) (hz : w.frozen? ⟨b, 20, none⟩ = false) :
    Calls Try.prog 76 #[.pointer (some ⟨b, 20, none⟩), .int .i64 m] w fun e w' => e = .returned (.int .i64 ((n + m : Nat) : Int)) ∧ w' = w.setCell ⟨b, 20, none⟩ (.int .i64 ((n + m : Nat) : Int)) := by
  have hadd := run_call_add (P := Try.prog) Try.func80 (by kernel_rfl) (by kernel_rfl) (by kernel_rfl) .i64 (by kernel_rfl) (y := m) (s := ((n + m : Nat) : Int)) h hz (add_run n m hn hm)
  go_enter Try.func76, Try.ntmps76
  go_wp2
  go_ret
  exact ⟨rfl, rfl⟩
end Go.Proofs.Ytlcmdnmifmjjgaa
