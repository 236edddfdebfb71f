
/- The program's reader: a rising row. -/
import Derived.Test.YtdjbdhfellofoaaPackK
namespace Go.Proofs.Ytdjbdhfellofoaa
open Go.RowKit

/-- what row leaves of a rising row -/
def RisRow (N b : Nat) (bad : Bool) (o : Option (List Int × List UInt8)) (e : Ending) (w' : World) : Prop :=
  (∃ l t g, o = some (l, t) ∧ e = .returned (.slice (some ⟨g, 0, none⟩) l.length l.length) ∧ N ≤ g ∧ Ints w' (some ⟨g, 0, none⟩) l.length l ∧ RD w' b t bad) ∨ (o = none ∧ e = .returned (.slice none 0 0) ∧ RD w' b [] true)

set_option maxHeartbeats 1600000 in
set_option maxRecDepth 100000 in
theorem rowrise_any (w : World) (b B2 B6 n : Nat) (s : List UInt8) (hl : s.length ≤ 100000000) (hn : n ≤ 100000000) (h : RD w b s false) (hb2 : B2 ≠ b) (hb6 : B6 ≠ b) (hb26 : B2 ≠ B6) (hs2 : B2 < w.heap.size) (hs6 : B6 < w.heap.size)
    (c2 : w.cell? ⟨B2, 0, none⟩ = some (.pointer (some ⟨b, 0, none⟩))) (c6 : w.cell? ⟨B6, 0, none⟩ = some (.int .i64 (-1))) (f6 : w.frozen? ⟨B6, 0, none⟩ = false) :
    Calls Try.prog 73 #[.pointer (some ⟨b, 0, none⟩), .int .i64 (n : Int), .func (.func 74) #[] #[.pointer (some ⟨B2, 0, none⟩), .pointer (some ⟨B6, 0, none⟩)]] w fun e w' => RisRow w.heap.size b false (PackM.ris (-1) n s) e w' ∧ Turned (fun k => k = b ∨ k = B6) w w' := by
  obtain ⟨M, hmk, hz⟩ := made_ints w n (by omega)
  have hbl := h.lt
  obtain ⟨g, hgE⟩ : ∃ g, g = w.heap.size := ⟨_, rfl⟩
  have hgb : g ≠ b := by omega
  have hg6 : g ≠ B6 := by omega
  rw [← hgE] at hz hmk
  have HZ := Lib.hid hz
  have hT0 : Turned (fun k => k = b ∨ k = B6) w (w.alloc (.cells M 3)) := (Turned.refl _ w).alloc _
  have hs0 : (w.alloc (.cells M 3)).heap.size = g + 1 := by rw [hgE]; simp
  have r0 : RD (w.alloc (.cells M 3)) b s false := h.alloc _
  have k20 : (w.alloc (.cells M 3)).cell? ⟨B2, 0, none⟩ = some (.pointer (some ⟨b, 0, none⟩)) := (hT0.cell (p := ⟨B2, 0, none⟩) hs2 (fun x => x.elim hb2 hb26)).trans c2
  have k60 : (w.alloc (.cells M 3)).cell? ⟨B6, 0, none⟩ = some (.int .i64 (-1)) := (World.cell?_alloc_lt _ _ ⟨B6, 0, none⟩ hs6).trans c6
  have f60 : (w.alloc (.cells M 3)).frozen? ⟨B6, 0, none⟩ = false := (World.frozen?_of_block (w := w) (Below.heap_alloc w _ B6 hs6)).trans f6
  have hgw : w.heap.size ≤ g := by omega
  clear hz c2 c6 f6 hgE
  go_enter Try.func73, Try.ntmps73
  go_wp2
  clear hmk
  generalize w.alloc (.cells M 3) = w0 at HZ hT0 hs0 r0 k20 k60 f60 ⊢
  go_loopw [13] (fun i wr => ∃ (k : Nat) (acc : List Int) (la : Int) (t : List UInt8), k ≤ n ∧ i = .int .i64 k ∧ acc.length = k ∧ IntsAt wr g (acc ++ List.replicate (n - k) 0) ∧ RD wr b t false ∧ t.length ≤ s.length ∧ -1 ≤ la ∧ la ≤ 9223372036854775807 ∧ g < wr.heap.size ∧ B2 < wr.heap.size ∧ B6 < wr.heap.size ∧ wr.cell? ⟨B2, 0, none⟩ = some (.pointer (some ⟨b, 0, none⟩)) ∧ wr.cell? ⟨B6, 0, none⟩ = some (.int .i64 la) ∧ wr.frozen? ⟨B6, 0, none⟩ = false ∧ PackM.ris (-1) n s = (PackM.ris la (n - k) t).bind (fun y => some (acc ++ y.1, y.2)) ∧ Turned (fun k => k = b ∨ k = B6) w wr) (fun i _ => n - (intOf i).toNat)
  case atStart =>
    refine ⟨0, [], -1, s, by omega, rfl, rfl, HZ.out, r0, Nat.le_refl _, by omega, by omega, by omega, by omega, by omega, k20, k60, f60, ?_, hT0⟩
    rw [Nat.sub_zero]
    cases PackM.ris (-1) n s <;> rfl
  case round =>
    clear r0 k20 k60 f60 hT0
    obtain ⟨k, acc, la, t, hk, rfl, hak, hat, hr, htl, hla1, hla2, hgl, h2l, h6l, k2, k6, f6, heq, hT⟩ := hrel
    have HE := Lib.hid heq
    have HAK := Lib.hid hak
    have HAT := Lib.hid hat
    clear heq hak hat
    by_cases hlt : k < n
    · have hd : decide ((k : Int) < (n : Int)) = true := decide_eq_true (by omega)
      have hst := rstep_any wr b B2 B6 t la (by omega) hla1 hla2 hr hb2 hb6 h2l h6l k2 k6 f6
      have hnk : n - k = (n - (k + 1)) + 1 := by omega
      go_wp2_with fail
      refine hst.mono ?_
      rintro e w1 ⟨hstep, hT1⟩
      have hg1 : g < w1.heap.size := Nat.lt_of_lt_of_le hgl hT1.size
      have h21 : B2 < w1.heap.size := Nat.lt_of_lt_of_le h2l hT1.size
      have h61 : B6 < w1.heap.size := Nat.lt_of_lt_of_le h6l hT1.size
      have hat1 := HAT.out.turned hT1 hgl (fun x => x.elim hgb hg6)
      have k21 := (hT1.cell (p := ⟨B2, 0, none⟩) h2l (fun x => x.elim hb2 hb26)).trans k2
      rw [hnk] at hat1
      have hlen1 : k < (acc ++ List.replicate (n - (k + 1) + 1) (0 : Int)).length := by rw [List.length_append, HAK.out, List.length_replicate]; omega
      obtain ⟨cg, fg⟩ := hat1 k hlen1
      obtain ⟨z, hzE⟩ : ∃ z, z = (acc ++ List.replicate (n - (k + 1) + 1) (0 : Int))[k] := ⟨_, rfl⟩
      rw [← hzE] at cg
      clear hzE hst
      rcases hstep with ⟨d, t', hN, hbig, rfl, hr1, k61, f61⟩ | ⟨hno, ⟨v, rfl⟩, hr1⟩
      · obtain ⟨x, hxE⟩ : ∃ x, x = la + 1 + (d : Int) := ⟨_, rfl⟩
        rw [← hxE] at k61 ⊢
        have HXE := Lib.hid hxE
        have hset := hat1.set_ k x
        rw [← HAK.out, set_fill] at hset
        rw [HAK.out] at hset
        have hr2 : RD (w1.setCell ⟨g, k, none⟩ (.int .i64 x)) b t' false := hr1.kept (Below.heap_setCell w1 _ _ b (fun e => hgb e.symm))
        have c1 := hr2.c1
        have HSET := Lib.hid hset
        have HN := Lib.hid hN
        have HB := Lib.hid hbig
        clear hset hN hbig hxE
        go_wp2
        go_roundw
        case rel =>
          refine ⟨k + 1, acc ++ [x], x, t', by omega, by go_num, by rw [List.length_append, HAK.out]; rfl, HSET.out, hr2, ?_, ?_, ?_, by simpa [World.setCell] using hg1, by simpa [World.setCell] using h21, by simpa [World.setCell] using h61, ?_, ?_, ?_, ?_, ?_⟩
          · have := PackM.num_short HN.out; omega
          · rw [HXE.out]; omega
          · have h1 := HB.out
            have h2 : PackM.MAXI = 9223372036854775807 := rfl
            rw [HXE.out]; omega
          · rw [World.cell?_setCell_other _ _ _ _ (fun e => by injection e with e1; omega)]; exact k21
          · rw [World.cell?_setCell_other _ _ _ _ (fun e => by injection e with e1; omega)]; exact k61
          · simp [f61]
          · rw [HE.out, hnk]
            simp only [PackM.ris]
            rw [HN.out]
            simp only [Option.bind]
            rw [if_neg (Int.not_lt.2 HB.out), ← HXE.out]
            cases PackM.ris x (n - (k + 1)) t' with
            | none => rfl
            | some y => simp
          · exact (hT.trans hT1).from_new ((Turned.refl _ w1).set_ (.inr (by omega)) _ _)
        case measure => simp [intOf]; omega
      · have hr2 : RD (w1.setCell ⟨g, k, none⟩ (.int .i64 v)) b [] true := hr1.kept (Below.heap_setCell w1 _ _ b (fun e => hgb e.symm))
        have c1 := hr2.c1
        have HNO := Lib.hid hno
        clear hno
        go_wp2
        go_ret
        refine ⟨.inr ⟨?_, rfl, hr2⟩, (hT.trans hT1).from_new ((Turned.refl _ w1).set_ (.inr (by omega)) _ _)⟩
        rw [HE.out, hnk]
        simp only [PackM.ris]
        cases hN : PackM.num PackM.MAXI 0 0 t with
        | none => rfl
        | some y =>
          simp only [Option.bind]
          rw [if_pos (HNO.out y.1 y.2 hN)]
    · have hd : decide ((k : Int) < (n : Int)) = false := decide_eq_false (by omega)
      have hke : n - k = 0 := by omega
      have hkn : acc.length = n := by rw [HAK.out]; omega
      have hI : Ints wr (some ⟨g, 0, none⟩) acc.length acc := by
        have := HAT.out
        rw [hke, List.replicate_zero, List.append_nil] at this
        exact this.ints hgl rfl
      have hres : PackM.ris (-1) n s = some (acc, t) := by rw [HE.out, hke]; simp [PackM.ris]
      have HRES := Lib.hid hres
      have HKN := Lib.hid hkn
      clear hres hkn
      go_wp2
      go_ret
      refine ⟨.inl ⟨acc, t, _, HRES.out, ?_, hgw, hI, hr⟩, hT⟩
      rw [HKN.out]
      rfl

def rsV (most : Int) (s : List UInt8) : List Int := match PackM.rRis most s with | none => [] | some x => x.1
def rsS (most : Int) (s : List UInt8) : List UInt8 := match PackM.rRis most s with | none => [] | some x => x.2
def rsB (most : Int) (s : List UInt8) (bad : Bool) : Bool := match PackM.rRis most s with | none => true | some _ => bad
theorem rRis_none_num {most : Int} {s : List UInt8} (h : PackM.num PackM.MAXI 0 0 s = none) : PackM.rRis most s = none := by unfold PackM.rRis; rw [h]; rfl

set_option maxHeartbeats 400000 in
theorem row_zero (w : World) (b : Nat) (fv : Value) : Calls Try.prog 73 #[.pointer (some ⟨b, 0, none⟩), .int .i64 0, fv] w fun e w' => (∃ g, e = .returned (.slice (some ⟨g, 0, none⟩) 0 0) ∧ w.heap.size ≤ g) ∧ Below w.heap.size w w' := by
  obtain ⟨M, hmk, _⟩ := made_ints w 0 (by omega)
  have hmk' : (Instr.makeSlice 23 (.int .i64 0) (.int .i64 0)).run Try.prog w = .ok (.slice (some ⟨w.heap.size, 0, none⟩) 0 0) (w.alloc (.cells M 3)) := hmk
  clear hmk
  go_enter Try.func73, Try.ntmps73
  go_wp2
  go_loop [13] (fun i => i = .int .i64 0) (fun _ => 0)
  case atStart => rfl
  case round =>
    subst hrel
    go_wp2
    go_ret
    exact ⟨⟨_, rfl, Nat.le_refl _⟩, (Below.refl _ _).alloc (Nat.le_refl _) _⟩

/-- what a reader's answer is, a row of numbers -/
def RowEnd (N b : Nat) (l : List Int) (s : List UInt8) (bad : Bool) (e : Ending) (w' : World) : Prop :=
  ∃ A cp, e = .returned (.slice A l.length cp) ∧ (∀ ad, A = some ad → N ≤ ad.block) ∧ Ints w' A l.length l ∧ RD w' b s bad
theorem RowEnd.none_ {N b : Nat} {e : Ending} {w' : World} {bad : Bool} (he : e = .returned (.slice none 0 0)) (hr : RD w' b [] bad) : RowEnd N b [] [] bad e w' :=
  ⟨none, 0, he, fun ad h => (by cases h), ⟨rfl, fun k hk => by simp at hk⟩, hr⟩

set_option maxHeartbeats 1600000 in
set_option maxRecDepth 100000 in
theorem rrising_any (w : World) (b : Nat) (s : List UInt8) (bad : Bool) (most : Int) (hl : s.length ≤ 100000000) (hbad : bad = true → s = []) (h : RD w b s bad) :
    Calls Try.prog 67 #[.pointer (some ⟨b, 0, none⟩), .int .i64 most] w fun e w' => RowEnd w.heap.size b (rsV most s) (rsS most s) (rsB most s bad) e w' ∧ w.grownBy w' (some b) := by
  have hbl := h.lt
  have h0 : RD (w.alloc (.cells #[.pointer (some ⟨b, 0, none⟩)] 42)) b s bad := h.alloc _
  go_enter Try.func67, Try.ntmps67
  go_wp2_with fail
  refine (rvarint_any _ b s bad hl h0).mono ?_
  rintro e w1 ⟨rfl, hr, hg⟩
  have hsz : w.heap.size < w1.heap.size := by have := hg.size; simp at this; omega
  have k2 : w1.cell? ⟨w.heap.size, 0, none⟩ = some (.pointer (some ⟨b, 0, none⟩)) := (cell_of_grown hg (p := ⟨w.heap.size, 0, none⟩) (by simp) (fun e => by injection e with e; simp at e; omega)).trans (by simp)
  have hT : Turned (fun k => k = b) w w1 := ((Turned.refl _ w).alloc _).trans (Turned.of_grown hg rfl)
  have hv := nV_le PackM.MAXI s
  have hm : PackM.MAXI = 9223372036854775807 := rfl
  obtain ⟨n, hn⟩ : ∃ n, n = nV PackM.MAXI s := ⟨_, rfl⟩
  obtain ⟨t, ht⟩ : ∃ t, t = nS PackM.MAXI s := ⟨_, rfl⟩
  obtain ⟨bd, hbd⟩ : ∃ bd, bd = nB PackM.MAXI s bad := ⟨_, rfl⟩
  have htl := nS_len PackM.MAXI s
  rw [← ht] at htl
  rw [← hn] at hv ⊢
  rw [← ht, ← hbd] at hr
  have hvn : n ≤ 9223372036854775807 := by omega
  have c0 := hr.c0
  have hs : (ofBytes t).size = t.length := size_ofBytes t
  obtain ⟨N, hN⟩ : ∃ N, N = t.length := ⟨_, rfl⟩
  rw [← hN] at hs htl
  have HNN := Lib.hid hN
  have HN := Lib.hid hn
  have HT := Lib.hid ht
  have HBD := Lib.hid hbd
  have HM := Lib.hid hm
  clear hn ht hbd hm hv hN
  obtain ⟨B2, hB2⟩ : ∃ B2, B2 = w.heap.size := ⟨_, rfl⟩
  rw [← hB2] at hsz k2 ⊢
  have HB2 := Lib.hid hB2
  have hB2b : B2 ≠ b := by omega
  clear hB2
  -- the two ways in which it fails ahead of the row
  have fails : most < (n : Int) ∨ N < n → rsV most s = [] ∧ rsS most s = [] ∧ rsB most s bad = true := by
    intro hor
    have hnone : PackM.rRis most s = none := by
      cases hnum : PackM.num PackM.MAXI 0 0 s with
      | none => exact rRis_none_num hnum
      | some x =>
        have hn1 : n = x.1 := by rw [HN.out]; unfold nV; rw [hnum]
        have ht1 : t = x.2 := by rw [HT.out]; unfold nS; rw [hnum]
        unfold PackM.rRis
        rw [hnum]
        simp only [Option.bind]
        by_cases hmo : most < (x.1 : Int)
        · rw [if_pos hmo]
        · rw [if_neg hmo]
          cases hris : PackM.ris (-1) x.1 x.2 with
          | none => rfl
          | some y =>
            have := PackM.ris_short _ _ _ y.1 y.2 hris
            have h3 := HNN.out
            rw [ht1] at h3
            omega
    unfold rsV rsS rsB
    rw [hnone]
    exact ⟨rfl, rfl, rfl⟩
  have HF := Lib.hid fails
  clear fails
  by_cases hmost : most < (n : Int)
  · have hd : decide (most < (n : Int)) = true := decide_eq_true hmost
    go_wp2_with fail
    refine (rfail_any _ _ _ _ hr).mono ?_
    rintro e w2 ⟨rfl, hr2, hg2⟩
    go_wp2
    go_ret
    obtain ⟨e1, e2, e3⟩ := HF.out (.inl hmost)
    rw [e1, e2, e3]
    exact ⟨RowEnd.none_ rfl hr2, (hT.trans (Turned.of_grown hg2 rfl)).grown (fun k _ e => e)⟩
  · have hd : decide (most < (n : Int)) = false := decide_eq_false hmost
    by_cases hlong : N < n
    · have hd2 : decide (N < n) = true := decide_eq_true hlong
      go_wp2_with fail
      refine (rfail_any _ _ _ _ hr).mono ?_
      rintro e w2 ⟨rfl, hr2, hg2⟩
      go_wp2
      go_ret
      obtain ⟨e1, e2, e3⟩ := HF.out (.inr hlong)
      rw [e1, e2, e3]
      exact ⟨RowEnd.none_ rfl hr2, (hT.trans (Turned.of_grown hg2 rfl)).grown (fun k _ e => e)⟩
    · have hd2 : decide (N < n) = false := decide_eq_false hlong
      have hmk : ∀ (fn : Fn) (first cap : Array Value) (w : World), (Instr.makeFunc fn first cap).run Try.prog w = .ok (.func fn first cap) w := fun _ _ _ _ => rfl
      cases bd with
      | true =>
        have hnum : PackM.num PackM.MAXI 0 0 s = none := by
          cases hnum : PackM.num PackM.MAXI 0 0 s with
          | none => rfl
          | some x =>
            have : true = bad := by have := HBD.out; unfold nB at this; rw [hnum] at this; exact this
            have hs0 := hbad this.symm
            rw [hs0] at hnum
            cases hnum
        have hn0 : n = 0 := by rw [HN.out]; unfold nV; rw [hnum]
        have ht0 : t = [] := by rw [HT.out]; unfold nS; rw [hnum]
        have hno := rRis_none_num (most := most) hnum
        subst hn0
        subst ht0
        have HNO := Lib.hid hno
        clear hno hnum
        go_wp2_with fail
        refine (row_zero _ _ _).mono ?_
        rintro e w2 ⟨⟨A2, rfl, hA2⟩, hb2⟩
        go_wp2
        go_ret
        refine ⟨?_, ((hT.alloc _).trans (Turned.of_below hb2)).grown (fun k _ e => e)⟩
        unfold rsV rsS rsB
        rw [HNO.out]
        refine ⟨some ⟨A2, 0, none⟩, 0, rfl, fun ad h => ?_, ⟨rfl, fun k hk => by simp at hk⟩, (hr.alloc _).later hb2⟩
        injection h with h
        subst h
        have h1 := hT.size
        simp at hA2
        show w.heap.size ≤ A2
        omega
      | false =>
        have hnum : PackM.num PackM.MAXI 0 0 s = some (n, t) ∧ bad = false := by
          cases hnum : PackM.num PackM.MAXI 0 0 s with
          | none => have := HBD.out; unfold nB at this; rw [hnum] at this; cases this
          | some x =>
            have h1 : n = x.1 := by rw [HN.out]; unfold nV; rw [hnum]
            have h2 : t = x.2 := by rw [HT.out]; unfold nS; rw [hnum]
            have h3 : false = bad := by have := HBD.out; unfold nB at this; rw [hnum] at this; exact this
            rw [h1, h2]
            exact ⟨rfl, h3.symm⟩
        obtain ⟨hnum, rfl⟩ := hnum
        have hrr : PackM.rRis most s = PackM.ris (-1) n t := by
          unfold PackM.rRis
          rw [hnum]
          simp only [Option.bind]
          rw [if_neg hmost]
        have HRR := Lib.hid hrr
        have hblt := hr.lt
        clear hrr hnum
        have hrow := rowrise_any (w1.alloc (.cells #[.int .i64 (-1)] 3)) b B2 w1.heap.size n t (by rw [← HNN.out]; omega) (by omega) (hr.alloc _) hB2b (by omega) (by omega) (by simp; omega) (by simp) ((World.cell?_alloc_lt _ _ ⟨B2, 0, none⟩ hsz).trans k2) (by simp) (by simp)
        go_wp2_with fail
        refine hrow.mono ?_
        rintro e w2 ⟨hend, hT2⟩
        have hTT : w.grownBy w2 (some b) := by
          have h1 : Turned (fun k => k = b ∨ w.heap.size ≤ k) w w2 := ((hT.alloc _).wide (fun k e => .inl e)).trans (hT2.wide (fun k e => e.elim .inl (fun e => .inr (by have := HB2.out; omega))))
          exact h1.grown (fun k hk e => e.elim id (fun e => by omega))
        unfold RisRow at hend
        rcases hend with ⟨l, t', g, ho, rfl, hNg, hI, hr2⟩ | ⟨ho, rfl, hr2⟩
        · have HO := Lib.hid ho
          clear ho
          go_wp2
          go_ret
          refine ⟨?_, hTT⟩
          unfold rsV rsS rsB
          rw [HRR.out, HO.out]
          refine ⟨_, _, rfl, fun ad h => ?_, hI, hr2⟩
          injection h with h
          subst h
          have h1 := hT.size
          simp at hNg
          show w.heap.size ≤ g
          omega
        · have HO := Lib.hid ho
          clear ho
          go_wp2
          go_ret
          refine ⟨?_, hTT⟩
          unfold rsV rsS rsB
          rw [HRR.out, HO.out]
          exact RowEnd.none_ rfl hr2
end Go.Proofs.Ytdjbdhfellofoaa
