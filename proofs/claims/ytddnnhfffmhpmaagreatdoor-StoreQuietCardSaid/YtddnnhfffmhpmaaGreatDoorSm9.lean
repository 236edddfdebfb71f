/- Own texts, merged (9 of 42). -/
import Derived.Test.YtddnnhfffmhpmaaGreatDoorSm4
import Derived.Test.YtddnnhfffmhpmaaGreatDoorSm6

/- The program's reader: Rising. -/
namespace Go.Proofs.YtddnnhfffmhpmaaGreatDoor
open Go.RowKit

def IntsAt (w : World) (g : Nat) (l : List Int) : Prop := ∀ j (h : j < l.length), w.cell? ⟨g, j, none⟩ = some (.int .i64 l[j]) ∧ w.frozen? ⟨g, j, none⟩ = false
theorem IntsAt.set_ {w : World} {g : Nat} {l : List Int} (h : IntsAt w g l) (i : Nat) (x : Int) : IntsAt (w.setCell ⟨g, i, none⟩ (.int .i64 x)) g (l.set i x) := by
  intro j hj
  have hj' : j < l.length := by simpa using hj
  refine ⟨?_, by simp [(h j hj').2]⟩
  by_cases e : i = j
  · subst e
    rw [World.cell?_setCell_same w _ _ (h i hj').1]
    simp
  · rw [World.cell?_setCell_other w _ _ _ (fun h => e (by injection h)), (h j hj').1]
    simp [e]
theorem IntsAt.turned {S : Nat → Prop} {w w' : World} {g : Nat} {l : List Int} (h : IntsAt w g l) (ht : Turned S w w') (hg : g < w.heap.size) (hS : ¬ S g) : IntsAt w' g l :=
  fun j hj => ⟨(ht.cell (p := ⟨g, j, none⟩) hg hS).trans (h j hj).1, (ht.frozen (p := ⟨g, j, none⟩) hg hS).trans (h j hj).2⟩
theorem IntsAt.ints {w : World} {g n : Nat} {l : List Int} (h : IntsAt w g l) (hg : g < w.heap.size) (hn : l.length = n) : Ints w (some ⟨g, 0, none⟩) n l :=
  ⟨hn, fun k hk => ⟨g, 0, rfl, hg, by rw [Nat.zero_add]; exact (h k hk).1⟩⟩
theorem set_fill (acc : List Int) (m : Nat) (x : Int) : (acc ++ List.replicate (m + 1) 0).set acc.length x = (acc ++ [x]) ++ List.replicate m 0 := by
  rw [List.set_append_right _ _ (Nat.le_refl _), Nat.sub_self, List.replicate_succ, List.set_cons_zero, List.append_assoc]
  rfl
theorem made_ints (w : World) (L : Nat) (hL : L ≤ 1000000000) : ∃ M, (Instr.makeSlice 31 (.int .i64 (L : Int)) (.int .i64 (L : Int))).run Tryz.prog w = .ok (.slice (some ⟨w.heap.size, 0, none⟩) L L) (w.alloc (.cells M 3)) ∧ IntsAt (w.alloc (.cells M 3)) w.heap.size (List.replicate L 0) := by
  obtain ⟨i0, hi, hz0, hz1, hz2⟩ := info_parts int_info
  have h := run_make (P := Tryz.prog) w 31 3 i0 (.int .i64 0) Tryz.underlying31 hi hz0 .i64 .i64 (L : Int) (L : Int) (by omega) (by omega) (by rw [hz2]; omega) (by omega)
  rw [hz1, Int.toNat_natCast, Nat.mul_one] at h
  obtain ⟨M, hM⟩ : ∃ M, M = madeCells (Value.int .i64 0).cells L := ⟨_, rfl⟩
  rw [← hM] at h
  refine ⟨M, h, ?_⟩
  intro j hj
  rw [List.length_replicate] at hj
  have hrow := heap_alloc_new w (.cells M 3)
  refine ⟨?_, by unfold World.frozen?; simp only [hrow]; simp⟩
  rw [cell_of_row _ _ _ _ _ _ hrow, hM, show (Value.int .i64 0).cells = #[Value.int .i64 0] from rfl, made_at _ _ _ hj]
  simp

/-- what a step of a rising row leaves -/
def RisStep (b B6 : Nat) (s : List UInt8) (la : Int) (e : Ending) (w' : World) : Prop :=
  (∃ d t, PackM.num PackM.MAXI 0 0 s = some (d, t) ∧ ¬ (PackM.MAXI : Int) - 1 - la < (d : Int) ∧ e = .returned (.int .i64 (la + 1 + d)) ∧ RD w' b t false ∧ w'.cell? ⟨B6, 0, none⟩ = some (.int .i64 (la + 1 + d)) ∧ w'.frozen? ⟨B6, 0, none⟩ = false) ∨
  ((∀ d t, PackM.num PackM.MAXI 0 0 s = some (d, t) → (PackM.MAXI : Int) - 1 - la < (d : Int)) ∧ (∃ v : Int, e = .returned (.int .i64 v)) ∧ RD w' b [] true)

set_option maxHeartbeats 800000 in
theorem rstep_any (w : World) (b B2 B6 : Nat) (s : List UInt8) (la : Int) (hl : s.length ≤ 100000000) (h1 : -1 ≤ la) (h2 : la ≤ 9223372036854775807) (h : RD w b s false) (hb2 : B2 ≠ b) (hb6 : B6 ≠ b) (hs2 : B2 < w.heap.size) (hs6 : B6 < w.heap.size)
    (c2 : w.cell? ⟨B2, 0, none⟩ = some (.pointer (some ⟨b, 0, none⟩))) (c6 : w.cell? ⟨B6, 0, none⟩ = some (.int .i64 la)) (f6 : w.frozen? ⟨B6, 0, none⟩ = false) :
    Calls Tryz.prog 131 #[.pointer (some ⟨B2, 0, none⟩), .pointer (some ⟨B6, 0, none⟩)] w fun e w' => RisStep b B6 s la e w' ∧ Turned (fun k => k = b ∨ k = B6) w w' := by
  go_enter Tryz.func131, Tryz.ntmps131
  go_wp2_with fail
  refine (rvarint_any w b s false hl h).mono ?_
  rintro e w1 ⟨rfl, hr, hg⟩
  have k2 : w1.cell? ⟨B2, 0, none⟩ = some (.pointer (some ⟨b, 0, none⟩)) := (cell_of_grown hg (p := ⟨B2, 0, none⟩) hs2 (fun e => hb2 (by injection e))).trans c2
  have k6 : w1.cell? ⟨B6, 0, none⟩ = some (.int .i64 la) := (cell_of_grown hg (p := ⟨B6, 0, none⟩) hs6 (fun e => hb6 (by injection e))).trans c6
  have k6f : w1.frozen? ⟨B6, 0, none⟩ = false := (World.frozen?_of_block (hg.block B6 hs6 (fun e => hb6 (by injection e)))).trans f6
  have hT : Turned (fun k => k = b ∨ k = B6) w w1 := Turned.of_grown hg (.inl rfl)
  have hv := nV_le PackM.MAXI s
  have hm : PackM.MAXI = 9223372036854775807 := rfl
  rw [hm] at hv
  have HM := Lib.hid hm
  obtain ⟨x, hx⟩ : ∃ x, x = nV PackM.MAXI s := ⟨_, rfl⟩
  rw [← hm, ← hx] at hv
  rw [hm] at hv
  rw [← hx]
  have HX := Lib.hid hx
  have HR := Lib.hid hr
  clear hx hm c2 c6 f6 hr
  by_cases hbig : 9223372036854775806 - la < (x : Int)
  · have hd : decide (9223372036854775806 - la < (x : Int)) = true := decide_eq_true hbig
    go_wp2_with fail
    refine (rfail_any _ _ _ _ HR.out).mono ?_
    rintro e w2 ⟨rfl, hr2, hg2⟩
    go_wp2
    go_ret
    refine ⟨.inr ⟨fun d t hd => ?_, ⟨_, rfl⟩, hr2⟩, hT.trans (Turned.of_grown hg2 (.inl rfl))⟩
    have : x = d := by rw [HX.out]; unfold nV; rw [hd]
    rw [HM.out]; omega
  · have hd : decide (9223372036854775806 - la < (x : Int)) = false := decide_eq_false hbig
    go_wp2
    go_ret
    have hw1 : wrap64 (la + wrap64 (1 + (x : Int))) = la + 1 + (x : Int) := by unfold wrap64; omega
    rw [hw1]
    have hT2 : Turned (fun k => k = b ∨ k = B6) w (w1.setCell ⟨B6, 0, none⟩ (.int .i64 (la + 1 + (x : Int)))) := hT.set_ (.inr rfl) _ _
    have hRb : ∀ s' bad', RD w1 b s' bad' → RD (w1.setCell ⟨B6, 0, none⟩ (.int .i64 (la + 1 + (x : Int)))) b s' bad' := fun s' bad' hr => hr.kept (Below.heap_setCell w1 _ _ b (fun e => hb6 e.symm))
    refine ⟨?_, hT2⟩
    cases hN : PackM.num PackM.MAXI 0 0 s with
    | none =>
      refine .inr ⟨fun d t hd => (by rw [hN] at hd; cases hd), ⟨_, rfl⟩, hRb _ _ ?_⟩
      have := HR.out
      unfold nS nB at this
      rw [hN] at this
      exact this
    | some y =>
      have hxd : x = y.1 := by rw [HX.out]; unfold nV; rw [hN]
      refine .inl ⟨y.1, y.2, hN, by rw [HM.out]; omega, by rw [hxd]; rfl, hRb _ _ ?_, by rw [← hxd]; exact World.cell?_setCell_same _ _ _ k6, by simp [k6f]⟩
      have := HR.out
      unfold nS nB at this
      rw [hN] at this
      exact this
end Go.Proofs.YtddnnhfffmhpmaaGreatDoor

/- The program's reader: a rising row. -/
namespace Go.Proofs.YtddnnhfffmhpmaaGreatDoor
open Go.RowKit

/-- what row leaves of a rising row -/
def RisRow (N b : Nat) (bad : Bool) (o : Option (List Int × List UInt8)) (e : Ending) (w' : World) : Prop :=
  (∃ l t g, o = some (l, t) ∧ e = .returned (.slice (some ⟨g, 0, none⟩) l.length l.length) ∧ N ≤ g ∧ Ints w' (some ⟨g, 0, none⟩) l.length l ∧ RD w' b t bad) ∨ (o = none ∧ e = .returned (.slice none 0 0) ∧ RD w' b [] true)

set_option maxHeartbeats 1600000 in
set_option maxRecDepth 100000 in
theorem rowrise_any (w : World) (b B2 B6 n : Nat) (s : List UInt8) (hl : s.length ≤ 100000000) (hn : n ≤ 100000000) (h : RD w b s false) (hb2 : B2 ≠ b) (hb6 : B6 ≠ b) (hb26 : B2 ≠ B6) (hs2 : B2 < w.heap.size) (hs6 : B6 < w.heap.size)
    (c2 : w.cell? ⟨B2, 0, none⟩ = some (.pointer (some ⟨b, 0, none⟩))) (c6 : w.cell? ⟨B6, 0, none⟩ = some (.int .i64 (-1))) (f6 : w.frozen? ⟨B6, 0, none⟩ = false) :
    Calls Tryz.prog 130 #[.pointer (some ⟨b, 0, none⟩), .int .i64 (n : Int), .func (.func 131) #[] #[.pointer (some ⟨B2, 0, none⟩), .pointer (some ⟨B6, 0, none⟩)]] w fun e w' => RisRow w.heap.size b false (PackM.ris (-1) n s) e w' ∧ Turned (fun k => k = b ∨ k = B6) w w' := by
  obtain ⟨M, hmk, hz⟩ := made_ints w n (by omega)
  have hbl := h.lt
  obtain ⟨g, hgE⟩ : ∃ g, g = w.heap.size := ⟨_, rfl⟩
  have hgb : g ≠ b := by omega
  have hg6 : g ≠ B6 := by omega
  rw [← hgE] at hz hmk
  have HZ := Lib.hid hz
  have hT0 : Turned (fun k => k = b ∨ k = B6) w (w.alloc (.cells M 3)) := (Turned.refl _ w).alloc _
  have hs0 : (w.alloc (.cells M 3)).heap.size = g + 1 := by rw [hgE]; simp
  have r0 : RD (w.alloc (.cells M 3)) b s false := h.alloc _
  have k20 : (w.alloc (.cells M 3)).cell? ⟨B2, 0, none⟩ = some (.pointer (some ⟨b, 0, none⟩)) := (hT0.cell (p := ⟨B2, 0, none⟩) hs2 (fun x => x.elim hb2 hb26)).trans c2
  have k60 : (w.alloc (.cells M 3)).cell? ⟨B6, 0, none⟩ = some (.int .i64 (-1)) := (World.cell?_alloc_lt _ _ ⟨B6, 0, none⟩ hs6).trans c6
  have f60 : (w.alloc (.cells M 3)).frozen? ⟨B6, 0, none⟩ = false := (World.frozen?_of_block (w := w) (Below.heap_alloc w _ B6 hs6)).trans f6
  have hgw : w.heap.size ≤ g := by omega
  clear hz c2 c6 f6 hgE
  go_enter Tryz.func130, Tryz.ntmps130
  go_wp2
  clear hmk
  generalize w.alloc (.cells M 3) = w0 at HZ hT0 hs0 r0 k20 k60 f60 ⊢
  go_loopw [13] (fun i wr => ∃ (k : Nat) (acc : List Int) (la : Int) (t : List UInt8), k ≤ n ∧ i = .int .i64 k ∧ acc.length = k ∧ IntsAt wr g (acc ++ List.replicate (n - k) 0) ∧ RD wr b t false ∧ t.length ≤ s.length ∧ -1 ≤ la ∧ la ≤ 9223372036854775807 ∧ g < wr.heap.size ∧ B2 < wr.heap.size ∧ B6 < wr.heap.size ∧ wr.cell? ⟨B2, 0, none⟩ = some (.pointer (some ⟨b, 0, none⟩)) ∧ wr.cell? ⟨B6, 0, none⟩ = some (.int .i64 la) ∧ wr.frozen? ⟨B6, 0, none⟩ = false ∧ PackM.ris (-1) n s = (PackM.ris la (n - k) t).bind (fun y => some (acc ++ y.1, y.2)) ∧ Turned (fun k => k = b ∨ k = B6) w wr) (fun i _ => n - (intOf i).toNat)
  case atStart =>
    refine ⟨0, [], -1, s, by omega, rfl, rfl, HZ.out, r0, Nat.le_refl _, by omega, by omega, by omega, by omega, by omega, k20, k60, f60, ?_, hT0⟩
    rw [Nat.sub_zero]
    cases PackM.ris (-1) n s <;> rfl
  case round =>
    clear r0 k20 k60 f60 hT0
    obtain ⟨k, acc, la, t, hk, rfl, hak, hat, hr, htl, hla1, hla2, hgl, h2l, h6l, k2, k6, f6, heq, hT⟩ := hrel
    have HE := Lib.hid heq
    have HAK := Lib.hid hak
    have HAT := Lib.hid hat
    clear heq hak hat
    by_cases hlt : k < n
    · have hd : decide ((k : Int) < (n : Int)) = true := decide_eq_true (by omega)
      have hst := rstep_any wr b B2 B6 t la (by omega) hla1 hla2 hr hb2 hb6 h2l h6l k2 k6 f6
      have hnk : n - k = (n - (k + 1)) + 1 := by omega
      go_wp2_with fail
      refine hst.mono ?_
      rintro e w1 ⟨hstep, hT1⟩
      have hg1 : g < w1.heap.size := Nat.lt_of_lt_of_le hgl hT1.size
      have h21 : B2 < w1.heap.size := Nat.lt_of_lt_of_le h2l hT1.size
      have h61 : B6 < w1.heap.size := Nat.lt_of_lt_of_le h6l hT1.size
      have hat1 := HAT.out.turned hT1 hgl (fun x => x.elim hgb hg6)
      have k21 := (hT1.cell (p := ⟨B2, 0, none⟩) h2l (fun x => x.elim hb2 hb26)).trans k2
      rw [hnk] at hat1
      have hlen1 : k < (acc ++ List.replicate (n - (k + 1) + 1) (0 : Int)).length := by rw [List.length_append, HAK.out, List.length_replicate]; omega
      obtain ⟨cg, fg⟩ := hat1 k hlen1
      obtain ⟨z, hzE⟩ : ∃ z, z = (acc ++ List.replicate (n - (k + 1) + 1) (0 : Int))[k] := ⟨_, rfl⟩
      rw [← hzE] at cg
      clear hzE hst
      rcases hstep with ⟨d, t', hN, hbig, rfl, hr1, k61, f61⟩ | ⟨hno, ⟨v, rfl⟩, hr1⟩
      · obtain ⟨x, hxE⟩ : ∃ x, x = la + 1 + (d : Int) := ⟨_, rfl⟩
        rw [← hxE] at k61 ⊢
        have HXE := Lib.hid hxE
        have hset := hat1.set_ k x
        rw [← HAK.out, set_fill] at hset
        rw [HAK.out] at hset
        have hr2 : RD (w1.setCell ⟨g, k, none⟩ (.int .i64 x)) b t' false := hr1.kept (Below.heap_setCell w1 _ _ b (fun e => hgb e.symm))
        have c1 := hr2.c1
        have HSET := Lib.hid hset
        have HN := Lib.hid hN
        have HB := Lib.hid hbig
        clear hset hN hbig hxE
        go_wp2
        go_roundw
        case rel =>
          refine ⟨k + 1, acc ++ [x], x, t', by omega, by go_num, by rw [List.length_append, HAK.out]; rfl, HSET.out, hr2, ?_, ?_, ?_, by simpa [World.setCell] using hg1, by simpa [World.setCell] using h21, by simpa [World.setCell] using h61, ?_, ?_, ?_, ?_, ?_⟩
          · have := PackM.num_short HN.out; omega
          · rw [HXE.out]; omega
          · have h1 := HB.out
            have h2 : PackM.MAXI = 9223372036854775807 := rfl
            rw [HXE.out]; omega
          · rw [World.cell?_setCell_other _ _ _ _ (fun e => by injection e with e1; omega)]; exact k21
          · rw [World.cell?_setCell_other _ _ _ _ (fun e => by injection e with e1; omega)]; exact k61
          · simp [f61]
          · rw [HE.out, hnk]
            simp only [PackM.ris]
            rw [HN.out]
            simp only [Option.bind]
            rw [if_neg (Int.not_lt.2 HB.out), ← HXE.out]
            cases PackM.ris x (n - (k + 1)) t' with
            | none => rfl
            | some y => simp
          · exact (hT.trans hT1).from_new ((Turned.refl _ w1).set_ (.inr (by omega)) _ _)
        case measure => simp [intOf]; omega
      · have hr2 : RD (w1.setCell ⟨g, k, none⟩ (.int .i64 v)) b [] true := hr1.kept (Below.heap_setCell w1 _ _ b (fun e => hgb e.symm))
        have c1 := hr2.c1
        have HNO := Lib.hid hno
        clear hno
        go_wp2
        go_ret
        refine ⟨.inr ⟨?_, rfl, hr2⟩, (hT.trans hT1).from_new ((Turned.refl _ w1).set_ (.inr (by omega)) _ _)⟩
        rw [HE.out, hnk]
        simp only [PackM.ris]
        cases hN : PackM.num PackM.MAXI 0 0 t with
        | none => rfl
        | some y =>
          simp only [Option.bind]
          rw [if_pos (HNO.out y.1 y.2 hN)]
    · have hd : decide ((k : Int) < (n : Int)) = false := decide_eq_false (by omega)
      have hke : n - k = 0 := by omega
      have hkn : acc.length = n := by rw [HAK.out]; omega
      have hI : Ints wr (some ⟨g, 0, none⟩) acc.length acc := by
        have := HAT.out
        rw [hke, List.replicate_zero, List.append_nil] at this
        exact this.ints hgl rfl
      have hres : PackM.ris (-1) n s = some (acc, t) := by rw [HE.out, hke]; simp [PackM.ris]
      have HRES := Lib.hid hres
      have HKN := Lib.hid hkn
      clear hres hkn
      go_wp2
      go_ret
      refine ⟨.inl ⟨acc, t, _, HRES.out, ?_, hgw, hI, hr⟩, hT⟩
      rw [HKN.out]
      rfl

def rsV (most : Int) (s : List UInt8) : List Int := match PackM.rRis most s with | none => [] | some x => x.1
def rsS (most : Int) (s : List UInt8) : List UInt8 := match PackM.rRis most s with | none => [] | some x => x.2
def rsB (most : Int) (s : List UInt8) (bad : Bool) : Bool := match PackM.rRis most s with | none => true | some _ => bad
theorem rRis_none_num {most : Int} {s : List UInt8} (h : PackM.num PackM.MAXI 0 0 s = none) : PackM.rRis most s = none := by unfold PackM.rRis; rw [h]; rfl

set_option maxHeartbeats 400000 in
theorem row_zero (w : World) (b : Nat) (fv : Value) : Calls Tryz.prog 130 #[.pointer (some ⟨b, 0, none⟩), .int .i64 0, fv] w fun e w' => (∃ g, e = .returned (.slice (some ⟨g, 0, none⟩) 0 0) ∧ w.heap.size ≤ g) ∧ Below w.heap.size w w' := by
  obtain ⟨M, hmk, _⟩ := made_ints w 0 (by omega)
  have hmk' : (Instr.makeSlice 31 (.int .i64 0) (.int .i64 0)).run Tryz.prog w = .ok (.slice (some ⟨w.heap.size, 0, none⟩) 0 0) (w.alloc (.cells M 3)) := hmk
  clear hmk
  go_enter Tryz.func130, Tryz.ntmps130
  go_wp2
  go_loop [13] (fun i => i = .int .i64 0) (fun _ => 0)
  case atStart => rfl
  case round =>
    subst hrel
    go_wp2
    go_ret
    exact ⟨⟨_, rfl, Nat.le_refl _⟩, (Below.refl _ _).alloc (Nat.le_refl _) _⟩

/-- what a reader's answer is, a row of numbers -/
def RowEnd (N b : Nat) (l : List Int) (s : List UInt8) (bad : Bool) (e : Ending) (w' : World) : Prop :=
  ∃ A cp, e = .returned (.slice A l.length cp) ∧ (∀ ad, A = some ad → N ≤ ad.block) ∧ Ints w' A l.length l ∧ RD w' b s bad
theorem RowEnd.none_ {N b : Nat} {e : Ending} {w' : World} {bad : Bool} (he : e = .returned (.slice none 0 0)) (hr : RD w' b [] bad) : RowEnd N b [] [] bad e w' :=
  ⟨none, 0, he, fun ad h => (by cases h), ⟨rfl, fun k hk => by simp at hk⟩, hr⟩

set_option maxHeartbeats 1600000 in
set_option maxRecDepth 100000 in
theorem rrising_any (w : World) (b : Nat) (s : List UInt8) (bad : Bool) (most : Int) (hl : s.length ≤ 100000000) (hbad : bad = true → s = []) (h : RD w b s bad) :
    Calls Tryz.prog 91 #[.pointer (some ⟨b, 0, none⟩), .int .i64 most] w fun e w' => RowEnd w.heap.size b (rsV most s) (rsS most s) (rsB most s bad) e w' ∧ w.grownBy w' (some b) := by
  have hbl := h.lt
  have h0 : RD (w.alloc (.cells #[.pointer (some ⟨b, 0, none⟩)] 127)) b s bad := h.alloc _
  go_enter Tryz.func91, Tryz.ntmps91
  go_wp2_with fail
  refine (rvarint_any _ b s bad hl h0).mono ?_
  rintro e w1 ⟨rfl, hr, hg⟩
  have hsz : w.heap.size < w1.heap.size := by have := hg.size; simp at this; omega
  have k2 : w1.cell? ⟨w.heap.size, 0, none⟩ = some (.pointer (some ⟨b, 0, none⟩)) := (cell_of_grown hg (p := ⟨w.heap.size, 0, none⟩) (by simp) (fun e => by injection e with e; simp at e; omega)).trans (by simp)
  have hT : Turned (fun k => k = b) w w1 := ((Turned.refl _ w).alloc _).trans (Turned.of_grown hg rfl)
  have hv := nV_le PackM.MAXI s
  have hm : PackM.MAXI = 9223372036854775807 := rfl
  obtain ⟨n, hn⟩ : ∃ n, n = nV PackM.MAXI s := ⟨_, rfl⟩
  obtain ⟨t, ht⟩ : ∃ t, t = nS PackM.MAXI s := ⟨_, rfl⟩
  obtain ⟨bd, hbd⟩ : ∃ bd, bd = nB PackM.MAXI s bad := ⟨_, rfl⟩
  have htl := nS_len PackM.MAXI s
  rw [← ht] at htl
  rw [← hn] at hv ⊢
  rw [← ht, ← hbd] at hr
  have hvn : n ≤ 9223372036854775807 := by omega
  have c0 := hr.c0
  have hs : (ofBytes t).size = t.length := size_ofBytes t
  obtain ⟨N, hN⟩ : ∃ N, N = t.length := ⟨_, rfl⟩
  rw [← hN] at hs htl
  have HNN := Lib.hid hN
  have HN := Lib.hid hn
  have HT := Lib.hid ht
  have HBD := Lib.hid hbd
  have HM := Lib.hid hm
  clear hn ht hbd hm hv hN
  obtain ⟨B2, hB2⟩ : ∃ B2, B2 = w.heap.size := ⟨_, rfl⟩
  rw [← hB2] at hsz k2 ⊢
  have HB2 := Lib.hid hB2
  have hB2b : B2 ≠ b := by omega
  clear hB2
  -- the two ways in which it fails ahead of the row
  have fails : most < (n : Int) ∨ N < n → rsV most s = [] ∧ rsS most s = [] ∧ rsB most s bad = true := by
    intro hor
    have hnone : PackM.rRis most s = none := by
      cases hnum : PackM.num PackM.MAXI 0 0 s with
      | none => exact rRis_none_num hnum
      | some x =>
        have hn1 : n = x.1 := by rw [HN.out]; unfold nV; rw [hnum]
        have ht1 : t = x.2 := by rw [HT.out]; unfold nS; rw [hnum]
        unfold PackM.rRis
        rw [hnum]
        simp only [Option.bind]
        by_cases hmo : most < (x.1 : Int)
        · rw [if_pos hmo]
        · rw [if_neg hmo]
          cases hris : PackM.ris (-1) x.1 x.2 with
          | none => rfl
          | some y =>
            have := PackM.ris_short _ _ _ y.1 y.2 hris
            have h3 := HNN.out
            rw [ht1] at h3
            omega
    unfold rsV rsS rsB
    rw [hnone]
    exact ⟨rfl, rfl, rfl⟩
  have HF := Lib.hid fails
  clear fails
  by_cases hmost : most < (n : Int)
  · have hd : decide (most < (n : Int)) = true := decide_eq_true hmost
    go_wp2_with fail
    refine (rfail_any _ _ _ _ hr).mono ?_
    rintro e w2 ⟨rfl, hr2, hg2⟩
    go_wp2
    go_ret
    obtain ⟨e1, e2, e3⟩ := HF.out (.inl hmost)
    rw [e1, e2, e3]
    exact ⟨RowEnd.none_ rfl hr2, (hT.trans (Turned.of_grown hg2 rfl)).grown (fun k _ e => e)⟩
  · have hd : decide (most < (n : Int)) = false := decide_eq_false hmost
    by_cases hlong : N < n
    · have hd2 : decide (N < n) = true := decide_eq_true hlong
      go_wp2_with fail
      refine (rfail_any _ _ _ _ hr).mono ?_
      rintro e w2 ⟨rfl, hr2, hg2⟩
      go_wp2
      go_ret
      obtain ⟨e1, e2, e3⟩ := HF.out (.inr hlong)
      rw [e1, e2, e3]
      exact ⟨RowEnd.none_ rfl hr2, (hT.trans (Turned.of_grown hg2 rfl)).grown (fun k _ e => e)⟩
    · have hd2 : decide (N < n) = false := decide_eq_false hlong
      have hmk : ∀ (fn : Fn) (first cap : Array Value) (w : World), (Instr.makeFunc fn first cap).run Tryz.prog w = .ok (.func fn first cap) w := fun _ _ _ _ => rfl
      cases bd with
      | true =>
        have hnum : PackM.num PackM.MAXI 0 0 s = none := by
          cases hnum : PackM.num PackM.MAXI 0 0 s with
          | none => rfl
          | some x =>
            have : true = bad := by have := HBD.out; unfold nB at this; rw [hnum] at this; exact this
            have hs0 := hbad this.symm
            rw [hs0] at hnum
            cases hnum
        have hn0 : n = 0 := by rw [HN.out]; unfold nV; rw [hnum]
        have ht0 : t = [] := by rw [HT.out]; unfold nS; rw [hnum]
        have hno := rRis_none_num (most := most) hnum
        subst hn0
        subst ht0
        have HNO := Lib.hid hno
        clear hno hnum
        go_wp2_with fail
        refine (row_zero _ _ _).mono ?_
        rintro e w2 ⟨⟨A2, rfl, hA2⟩, hb2⟩
        go_wp2
        go_ret
        refine ⟨?_, ((hT.alloc _).trans (Turned.of_below hb2)).grown (fun k _ e => e)⟩
        unfold rsV rsS rsB
        rw [HNO.out]
        refine ⟨some ⟨A2, 0, none⟩, 0, rfl, fun ad h => ?_, ⟨rfl, fun k hk => by simp at hk⟩, (hr.alloc _).later hb2⟩
        injection h with h
        subst h
        have h1 := hT.size
        simp at hA2
        show w.heap.size ≤ A2
        omega
      | false =>
        have hnum : PackM.num PackM.MAXI 0 0 s = some (n, t) ∧ bad = false := by
          cases hnum : PackM.num PackM.MAXI 0 0 s with
          | none => have := HBD.out; unfold nB at this; rw [hnum] at this; cases this
          | some x =>
            have h1 : n = x.1 := by rw [HN.out]; unfold nV; rw [hnum]
            have h2 : t = x.2 := by rw [HT.out]; unfold nS; rw [hnum]
            have h3 : false = bad := by have := HBD.out; unfold nB at this; rw [hnum] at this; exact this
            rw [h1, h2]
            exact ⟨rfl, h3.symm⟩
        obtain ⟨hnum, rfl⟩ := hnum
        have hrr : PackM.rRis most s = PackM.ris (-1) n t := by
          unfold PackM.rRis
          rw [hnum]
          simp only [Option.bind]
          rw [if_neg hmost]
        have HRR := Lib.hid hrr
        have hblt := hr.lt
        clear hrr hnum
        have hrow := rowrise_any (w1.alloc (.cells #[.int .i64 (-1)] 3)) b B2 w1.heap.size n t (by rw [← HNN.out]; omega) (by omega) (hr.alloc _) hB2b (by omega) (by omega) (by simp; omega) (by simp) ((World.cell?_alloc_lt _ _ ⟨B2, 0, none⟩ hsz).trans k2) (by simp) (by simp)
        go_wp2_with fail
        refine hrow.mono ?_
        rintro e w2 ⟨hend, hT2⟩
        have hTT : w.grownBy w2 (some b) := by
          have h1 : Turned (fun k => k = b ∨ w.heap.size ≤ k) w w2 := ((hT.alloc _).wide (fun k e => .inl e)).trans (hT2.wide (fun k e => e.elim .inl (fun e => .inr (by have := HB2.out; omega))))
          exact h1.grown (fun k hk e => e.elim id (fun e => by omega))
        unfold RisRow at hend
        rcases hend with ⟨l, t', g, ho, rfl, hNg, hI, hr2⟩ | ⟨ho, rfl, hr2⟩
        · have HO := Lib.hid ho
          clear ho
          go_wp2
          go_ret
          refine ⟨?_, hTT⟩
          unfold rsV rsS rsB
          rw [HRR.out, HO.out]
          refine ⟨_, _, rfl, fun ad h => ?_, hI, hr2⟩
          injection h with h
          subst h
          have h1 := hT.size
          simp at hNg
          show w.heap.size ≤ g
          omega
        · have HO := Lib.hid ho
          clear ho
          go_wp2
          go_ret
          refine ⟨?_, hTT⟩
          unfold rsV rsS rsB
          rw [HRR.out, HO.out]
          exact RowEnd.none_ rfl hr2
end Go.Proofs.YtddnnhfffmhpmaaGreatDoor

/- The program's reader: bits, and rows of them. -/
namespace Go.Proofs.YtddnnhfffmhpmaaGreatDoor
open Go.RowKit

theorem and1u8 (u : Nat) (h : u < 256) : bits .and .u8 (u : Int) 1 = ((u % 2 : Nat) : Int) := by
  have := u8_and_nat u 1 h (by decide)
  rw [Nat.and_one_is_mod] at this
  exact this
theorem pow32 (k : Nat) (h : k ≤ 32) : 2 ^ k ≤ 4294967296 := by
  calc 2 ^ k ≤ 2 ^ 32 := Nat.pow_le_pow_right (by decide) h
    _ = 4294967296 := by decide
theorem or_i64 (v k bt : Nat) (hv : v < 2 ^ k) (hk : k ≤ 32) (hbt : bt ≤ 1) : bits .or .i64 (v : Int) ((bt * 2 ^ k : Nat) : Int) = ((v + bt * 2 ^ k : Nat) : Int) := by
  have h32 := pow32 k hk
  have hb : bt * 2 ^ k ≤ 4294967296 := by
    calc bt * 2 ^ k ≤ 1 * 2 ^ k := Nat.mul_le_mul_right _ hbt
      _ ≤ 4294967296 := by omega
  rw [i64_or_nat v _ (by omega) (by omega)]
  have := Nat.shiftLeft_add_eq_or_of_lt (i := k) (b := v) hv bt
  rw [Nat.shiftLeft_eq] at this
  rw [Nat.or_comm, ← this, Nat.add_comm]

set_option maxHeartbeats 1600000 in
set_option maxRecDepth 100000 in
theorem take_any (w : World) (Bs Ba n p : Nat) (s : List UInt8) (hn : n ≤ 32) (hp : p + n ≤ 8 * s.length) (hsl : s.length ≤ 100000000) (hsa : Bs ≠ Ba) (h1 : Bs < w.heap.size) (_h2 : Ba < w.heap.size)
    (cs : w.cell? ⟨Bs, 0, none⟩ = some (.string (ofBytes s))) (ca : w.cell? ⟨Ba, 0, none⟩ = some (.int .i64 (p : Int))) (fa : w.frozen? ⟨Ba, 0, none⟩ = false) :
    Calls Tryz.prog 245 #[.int .i64 (n : Int), .pointer (some ⟨Bs, 0, none⟩), .pointer (some ⟨Ba, 0, none⟩)] w fun e w' => e = .returned (.int .i64 (PackM.bv s p n : Nat)) ∧ w'.cell? ⟨Ba, 0, none⟩ = some (.int .i64 ((p + n : Nat) : Int)) ∧ w'.frozen? ⟨Ba, 0, none⟩ = false ∧ Turned (fun k => k = Ba) w w' := by
  have hs : (ofBytes s).size = s.length := size_ofBytes s
  obtain ⟨N, hN⟩ : ∃ N, N = s.length := ⟨_, rfl⟩
  rw [← hN] at hs hp hsl
  have HN := Lib.hid hN
  clear hN
  go_enter Tryz.func245, Tryz.ntmps245
  go_wp2
  go_loopw [5, 8] (fun v i wr => ∃ (k : Nat), k ≤ n ∧ i = .int .i64 k ∧ v = .int .i64 (PackM.bv s p k : Nat) ∧ wr.cell? ⟨Ba, 0, none⟩ = some (.int .i64 ((p + k : Nat) : Int)) ∧ wr.frozen? ⟨Ba, 0, none⟩ = false ∧ Turned (fun k => k = Ba) w wr) (fun _ i _ => n - (intOf i).toNat)
  case atStart => exact ⟨0, by omega, rfl, rfl, ca, fa, Turned.refl _ _⟩
  case round =>
    obtain ⟨k, hk, rfl, rfl, ka, kf, hT⟩ := hrel
    clear ca fa
    have ks := (hT.cell (p := ⟨Bs, 0, none⟩) h1 hsa).trans cs
    have hvl := PackM.bv_lt s k p
    have hbk := PackM.bv_back s k p
    obtain ⟨v, hv⟩ : ∃ v, v = PackM.bv s p k := ⟨_, rfl⟩
    rw [← hv] at hvl hbk ⊢
    by_cases hlt : k < n
    · have hd : decide ((k : Int) < (n : Int)) = true := decide_eq_true (by omega)
      obtain ⟨q, hq⟩ : ∃ q, q = p + k := ⟨_, rfl⟩
      rw [← hq] at ka hbk
      obtain ⟨e8, he8⟩ : ∃ e8, e8 = q / 8 := ⟨_, rfl⟩
      obtain ⟨m8, hm8⟩ : ∃ m8, m8 = q % 8 := ⟨_, rfl⟩
      have heN : e8 < N := by omega
      have hes : e8 < s.length := by rw [← HN.out]; exact heN
      have hez : e8 < (ofBytes s).size := by rw [hs]; exact heN
      have hq1 : (q : Int) / 8 = (e8 : Int) := by omega
      have hq2 : (q : Int) % 8 = (m8 : Int) := by omega
      have hm8l : m8 < 8 := by omega
      obtain ⟨c, hc⟩ : ∃ c : UInt8, c = s[e8] := ⟨_, rfl⟩
      obtain ⟨x, hx⟩ : ∃ x : Nat, x = c.toNat := ⟨_, rfl⟩
      have hx256 : x < 256 := by rw [hx]; exact c.toNat_lt
      have hbx : (ofBytes s)[e8].toNat = x := by rw [hx, hc]; rfl
      obtain ⟨y, hy⟩ : ∃ y, y = x / 2 ^ m8 := ⟨_, rfl⟩
      have hyI : (x : Int) / 2 ^ m8 = (y : Int) := by rw [hy]; simp
      have hy256 : y < 256 := by rw [hy]; exact Nat.lt_of_le_of_lt (Nat.div_le_self _ _) hx256
      have hand := and1u8 y hy256
      obtain ⟨bt, hbt⟩ : ∃ bt, bt = y % 2 := ⟨_, rfl⟩
      rw [← hbt] at hand
      have hbt1 : bt ≤ 1 := by omega
      have hbit : PackM.bitAt s q = bt := by
        unfold PackM.bitAt
        rw [hbt, hy, hx, hc, ← he8, ← hm8, List.getD_eq_getElem?_getD, List.getElem?_eq_getElem hes]
        rfl
      rw [hbit] at hbk
      have h32 := pow32 k (by omega)
      have hor := or_i64 v k bt hvl (by omega) hbt1
      obtain ⟨sh, hsh⟩ : ∃ sh, sh = bt * 2 ^ k := ⟨_, rfl⟩
      rw [← hsh] at hor hbk
      have hshI : (bt : Int) * 2 ^ k = (sh : Int) := by rw [hsh]; simp
      have hshl : sh ≤ 4294967296 := by
        rw [hsh]
        calc bt * 2 ^ k ≤ 1 * 2 ^ k := Nat.mul_le_mul_right _ hbt1
          _ ≤ 4294967296 := by omega
      have HBK := Lib.hid hbk
      have HQ := Lib.hid hq
      have hvl2 : v < 4294967296 := by omega
      have hqm : q ≤ 1000000000 := by omega
      clear hbk hq he8 hm8 hc hx hy hbt hbit hsh hv hvl h32
      go_wp2
      go_quiet (fail)
      go_wp2
      have ka' : (wr.drewN nq).cell? ⟨Ba, 0, none⟩ = some (.int .i64 (q : Int)) := ka
      have kf' : (wr.drewN nq).frozen? ⟨Ba, 0, none⟩ = false := kf
      refine ⟨⟨k + 1, by omega, by go_num, by rw [HBK.out]; go_num, ?_, by simp [kf'], (hT.trans (Turned.of_below (below_drewN nq))).set_ rfl _ _⟩, by simp [intOf]; omega⟩
      rw [World.cell?_setCell_same _ _ _ ka', HQ.out]
      go_num
    · have hd : decide ((k : Int) < (n : Int)) = false := decide_eq_false (by omega)
      have hkn : k = n := by omega
      subst hkn
      have HV := Lib.hid hv
      clear hv hbk
      go_wp2
      go_ret
      exact ⟨by rw [← HV.out]; rfl, ka, kf, hT⟩

set_option maxHeartbeats 400000 in
theorem fixstep_any (w : World) (B8 B4 Bs Ba n p : Nat) (s : List UInt8) (hn : n ≤ 32) (hp : p + n ≤ 8 * s.length) (hsl : s.length ≤ 100000000) (hsa : Bs ≠ Ba) (h1 : Bs < w.heap.size) (h2 : Ba < w.heap.size)
    (c8 : w.cell? ⟨B8, 0, none⟩ = some (.func (.func 245) #[] #[.pointer (some ⟨Bs, 0, none⟩), .pointer (some ⟨Ba, 0, none⟩)])) (c4 : w.cell? ⟨B4, 0, none⟩ = some (.int .i64 (n : Int)))
    (cs : w.cell? ⟨Bs, 0, none⟩ = some (.string (ofBytes s))) (ca : w.cell? ⟨Ba, 0, none⟩ = some (.int .i64 (p : Int))) (fa : w.frozen? ⟨Ba, 0, none⟩ = false) :
    Calls Tryz.prog 225 #[.pointer (some ⟨B8, 0, none⟩), .pointer (some ⟨B4, 0, none⟩)] w fun e w' => e = .returned (.int .i64 (PackM.bv s p n : Nat)) ∧ w'.cell? ⟨Ba, 0, none⟩ = some (.int .i64 ((p + n : Nat) : Int)) ∧ w'.frozen? ⟨Ba, 0, none⟩ = false ∧ Turned (fun k => k = Ba) w w' := by
  have ht := take_any w Bs Ba n p s hn hp hsl hsa h1 h2 cs ca fa
  clear ca cs
  go_enter Tryz.func225, Tryz.ntmps225
  go_wp2_with fail
  refine ht.mono ?_
  rintro e w1 ⟨rfl, k1, k2, k3⟩
  go_wp2
  go_ret
  exact ⟨rfl, k1, k2, k3⟩

theorem nums_succ (s : List UInt8) (w k : Nat) : PackM.nums s w (k + 1) = PackM.nums s w k ++ [PackM.bv s (k * w) w] := by simp [PackM.nums, List.range_succ]
theorem nums_length (s : List UInt8) (w k : Nat) : (PackM.nums s w k).length = k := by simp [PackM.nums]

set_option maxHeartbeats 1600000 in
set_option maxRecDepth 100000 in
theorem rowfix_any (w : World) (b B8 B4 Bs Ba n m : Nat) (s t : List UInt8) (hm : m ≤ 32) (hn : n ≤ 65536) (hp : n * m ≤ 8 * s.length) (hsl : s.length ≤ 100000000) (hsa : Bs ≠ Ba) (h8a : B8 ≠ Ba) (h4a : B4 ≠ Ba) (hba : b ≠ Ba) (h1 : Bs < w.heap.size) (h2 : Ba < w.heap.size) (h3 : B8 < w.heap.size) (h4 : B4 < w.heap.size)
    (h : RD w b t false)
    (c8 : w.cell? ⟨B8, 0, none⟩ = some (.func (.func 245) #[] #[.pointer (some ⟨Bs, 0, none⟩), .pointer (some ⟨Ba, 0, none⟩)])) (c4 : w.cell? ⟨B4, 0, none⟩ = some (.int .i64 (m : Int)))
    (cs : w.cell? ⟨Bs, 0, none⟩ = some (.string (ofBytes s))) (ca : w.cell? ⟨Ba, 0, none⟩ = some (.int .i64 0)) (fa : w.frozen? ⟨Ba, 0, none⟩ = false) :
    Calls Tryz.prog 130 #[.pointer (some ⟨b, 0, none⟩), .int .i64 (n : Int), .func (.func 225) #[] #[.pointer (some ⟨B8, 0, none⟩), .pointer (some ⟨B4, 0, none⟩)]] w fun e w' => (∃ g, e = .returned (.slice (some ⟨g, 0, none⟩) n n) ∧ w.heap.size ≤ g ∧ g < w'.heap.size ∧ IntsAt w' g (toI (PackM.nums s m n))) ∧ w'.cell? ⟨Ba, 0, none⟩ = some (.int .i64 ((n * m : Nat) : Int)) ∧ w'.frozen? ⟨Ba, 0, none⟩ = false ∧ Turned (fun k => k = Ba) w w' := by
  obtain ⟨M, hmk, hz⟩ := made_ints w n (by omega)
  have hbl := h.lt
  obtain ⟨g, hgE⟩ : ∃ g, g = w.heap.size := ⟨_, rfl⟩
  have hgb : b ≠ g := by omega
  have hga : g ≠ Ba := by omega
  have hgw : w.heap.size ≤ g := by omega
  rw [← hgE] at hz hmk
  have HZ := Lib.hid hz
  have hT0 : Turned (fun k => k = Ba) w (w.alloc (.cells M 3)) := (Turned.refl _ w).alloc _
  have hs0 : g < (w.alloc (.cells M 3)).heap.size := by rw [hgE]; simp
  have k60 : (w.alloc (.cells M 3)).cell? ⟨Ba, 0, none⟩ = some (.int .i64 0) := (World.cell?_alloc_lt _ _ ⟨Ba, 0, none⟩ h2).trans ca
  have f60 : (w.alloc (.cells M 3)).frozen? ⟨Ba, 0, none⟩ = false := (World.frozen?_of_block (w := w) (Below.heap_alloc w _ Ba h2)).trans fa
  clear hz ca fa hgE
  go_enter Tryz.func130, Tryz.ntmps130
  go_wp2
  clear hmk
  generalize w.alloc (.cells M 3) = w0 at HZ hT0 hs0 k60 f60 ⊢
  go_loopw [13] (fun i wr => ∃ (k : Nat), k ≤ n ∧ i = .int .i64 k ∧ IntsAt wr g (toI (PackM.nums s m k) ++ List.replicate (n - k) 0) ∧ g < wr.heap.size ∧ wr.cell? ⟨Ba, 0, none⟩ = some (.int .i64 ((k * m : Nat) : Int)) ∧ wr.frozen? ⟨Ba, 0, none⟩ = false ∧ Turned (fun k => k = Ba) w wr) (fun i _ => n - (intOf i).toNat)
  case atStart => exact ⟨0, by omega, rfl, HZ.out, hs0, by rw [Nat.zero_mul]; exact k60, f60, hT0⟩
  case round =>
    clear k60 f60 hT0
    obtain ⟨k, hk, rfl, hat, hgl, ka, kf, hT⟩ := hrel
    have HAT := Lib.hid hat
    clear hat
    by_cases hlt : k < n
    · have hd : decide ((k : Int) < (n : Int)) = true := decide_eq_true (by omega)
      have hkm : k * m + m ≤ 8 * s.length := by
        have : (k + 1) * m ≤ n * m := Nat.mul_le_mul_right _ hlt
        rw [Nat.succ_mul] at this; omega
      have hst := fixstep_any wr B8 B4 Bs Ba m (k * m) s hm hkm hsl hsa (Nat.lt_of_lt_of_le h1 hT.size) (Nat.lt_of_lt_of_le h2 hT.size) ((hT.cell (p := ⟨B8, 0, none⟩) h3 h8a).trans c8) ((hT.cell (p := ⟨B4, 0, none⟩) h4 h4a).trans c4) ((hT.cell (p := ⟨Bs, 0, none⟩) h1 hsa).trans cs) ka kf
      have hnk : n - k = (n - (k + 1)) + 1 := by omega
      go_wp2_with fail
      refine hst.mono ?_
      rintro e w1 ⟨rfl, ka1, kf1, hT1⟩
      clear hst ka kf
      have hg1 : g < w1.heap.size := Nat.lt_of_lt_of_le hgl hT1.size
      have hat1 := HAT.out.turned hT1 hgl hga
      rw [hnk] at hat1
      have hakl : (toI (PackM.nums s m k)).length = k := by rw [toI_length, nums_length]
      have hlen1 : k < (toI (PackM.nums s m k) ++ List.replicate (n - (k + 1) + 1) (0 : Int)).length := by rw [List.length_append, hakl, List.length_replicate]; omega
      obtain ⟨cg, fg⟩ := hat1 k hlen1
      obtain ⟨z, hzE⟩ : ∃ z, z = (toI (PackM.nums s m k) ++ List.replicate (n - (k + 1) + 1) (0 : Int))[k] := ⟨_, rfl⟩
      rw [← hzE] at cg
      obtain ⟨x, hxE⟩ : ∃ x, x = PackM.bv s (k * m) m := ⟨_, rfl⟩
      rw [← hxE]
      have hset := hat1.set_ k (x : Int)
      have hsf := set_fill (toI (PackM.nums s m k)) (n - (k + 1)) (x : Int)
      rw [hakl] at hsf
      rw [hsf, ← toI_snoc, hxE, ← nums_succ, ← hxE] at hset
      have hr2 : RD (w1.setCell ⟨g, k, none⟩ (.int .i64 (x : Int))) b t false := (h.kept ((hT.trans hT1).block b hbl hba)).kept (Below.heap_setCell w1 _ _ b hgb)
      have c1 := hr2.c1
      have HSET := Lib.hid hset
      clear hset hsf hzE hxE hakl hat1
      go_wp2
      go_roundw
      case rel =>
        refine ⟨k + 1, by omega, by go_num, HSET.out, by simpa [World.setCell] using hg1, ?_, by simp [kf1], (hT.trans hT1).from_new ((Turned.refl _ w1).set_ (.inr hgw) _ _)⟩
        rw [World.cell?_setCell_other _ _ _ _ (fun e => by injection e with e1; omega), Nat.succ_mul]; exact ka1
      case measure => simp [intOf]; omega
    · have hd : decide ((k : Int) < (n : Int)) = false := decide_eq_false (by omega)
      have hkn : k = n := by omega
      subst hkn
      have hI : IntsAt wr g (toI (PackM.nums s m k)) := by
        have := HAT.out
        rw [Nat.sub_self, List.replicate_zero, List.append_nil] at this
        exact this
      go_wp2
      go_ret
      exact ⟨⟨_, rfl, hgw, hgl, hI⟩, ka, kf, hT⟩
end Go.Proofs.YtddnnhfffmhpmaaGreatDoor
