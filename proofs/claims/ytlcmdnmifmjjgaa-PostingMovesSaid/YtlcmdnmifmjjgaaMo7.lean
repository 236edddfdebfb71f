/- Own texts, merged (7 of 9). -/
import Derived.LaidEqlPtr
import Derived.RegionTactic
import Derived.ChangeAlike
import Derived.Deep.DeepCutAuto
import Derived.Test.YtlcmdnmifmjjgaaMo6

/- The document's reader: TakeRising. -/
namespace Go.Proofs.Ytlcmdnmifmjjgaa
open Go.RowKit

/-- the document's reader as a variable at block b -/
def MD (w : World) (b : Nat) (s : List UInt8) (bad : Bool) : Prop := w.heap[b]? = some (.cells #[.string (ofBytes s), .bool bad] 75 (0, 0))
section
variable {w : World} {b : Nat} {s : List UInt8} {bad : Bool}
theorem MD.lt (h : MD w b s bad) : b < w.heap.size := (Array.getElem?_eq_some_iff.1 h).1
theorem MD.c0 (h : MD w b s bad) : w.cell? ⟨b, 0, none⟩ = some (.string (ofBytes s)) := cell_of_row w b 0 _ _ (0, 0) h
theorem MD.c1 (h : MD w b s bad) : w.cell? ⟨b, 1, none⟩ = some (.bool bad) := cell_of_row w b 1 _ _ (0, 0) h
theorem MD.free (h : MD w b s bad) (i : Nat) : w.frozen? ⟨b, i, none⟩ = false := by
  unfold MD at h
  simp [World.frozen?, h]
theorem MD.set2 (h : MD w b s bad) (s' : List UInt8) (x : Bool) : MD ((w.setCell ⟨b, 0, none⟩ (.string (ofBytes s'))).setCell ⟨b, 1, none⟩ (.bool x)) b s' x := by
  have h1 := heap_setCell_row h 0 (.string (ofBytes s'))
  unfold MD; rw [heap_setCell_row h1]; rfl
theorem MD.kept {w' : World} (h : MD w b s bad) (hb : w'.heap[b]? = w.heap[b]?) : MD w' b s bad := hb.trans h
theorem MD.other {c : Nat} (h : MD w b s bad) (hc : c ≠ b) (i : Nat) (u : Value) : MD (w.setCell ⟨c, i, none⟩ u) b s bad := h.kept (Below.heap_setCell w _ _ b (fun e => hc e.symm))
theorem MD.alloc (h : MD w b s bad) (o : Obj) : MD (w.alloc o) b s bad := (Below.heap_alloc w o b h.lt).trans h
theorem MD.later {w' : World} (h : MD w b s bad) (hb : Below w.heap.size w w') : MD w' b s bad := (hb.block b h.lt).trans h
theorem MD.drew (h : MD w b s bad) : MD w.drew b s bad := h
end
theorem MD.under {w w' : World} {b B : Nat} {s : List UInt8} {bad : Bool} (h : MD w b s bad) (hB : b < B) (hb : Below B w w') : MD w' b s bad := (hb.block b hB).trans h
theorem at_snoc {acc : List Int} {k : Nat} (h : acc.length = k) (x : Int) : ∀ j, k + 1 = j + 1 → (acc ++ [x])[j]? = some x := fun j hj => by
  have : j = acc.length := by omega
  subst this
  simp
theorem MD.new (w : World) (s : List UInt8) (bad : Bool) : MD (w.alloc (.cells #[.string (ofBytes s), .bool bad] 75)) w.heap.size s bad := heap_alloc_new w _

def MEnd (N : Nat) (l : List Int) (s : List UInt8) (bad : Bool) (e : Ending) (w' : World) : Prop := ∃ A cp, e = .returned (.tuple #[mR s bad, .slice A l.length cp]) ∧ (∀ ad, A = some ad → N ≤ ad.block) ∧ Ints w' A l.length l
theorem MEnd.none_ {N : Nat} {e : Ending} {w' : World} (he : e = .returned (.tuple #[.agg #[.string (ofBytes []), .bool true], .slice none 0 0])) : MEnd N [] [] true e w' := ⟨none, 0, he, fun ad h => (by cases h), rfl, fun k hk => by simp at hk⟩
theorem IntRow.blk {w : World} {base : Nat} {A : Option Addr} {n cp : Nat} {l : List Int} (h : IntRow w base (.slice A n cp) l) : ∀ ad, A = some ad → base ≤ ad.block := fun ad hA => (World.ownsRow.lt h ad.block (by rw [hA]; rfl)).1

theorem IntRow.ints_ {w : World} {base : Nat} {A : Option Addr} {n cp : Nat} {l : List Int} (h : IntRow w base (.slice A n cp) l) : n = l.length ∧ Ints w A l.length l := by
  obtain ⟨A', cp', e, hI⟩ := h.ints
  injection e with e1 e2 e3
  subst e1; subst e2
  exact ⟨rfl, hI⟩
theorem IntRow.setBelow {w : World} {base : Nat} {v : Value} {l : List Int} (h : IntRow w base v l) {c : Nat} (hc : c < base) (i : Nat) (u : Value) : IntRow (w.setCell ⟨c, i, none⟩ u) base v l := ownsRow_setCell_below h (by exact hc) u
theorem IntRow.alloc {w : World} {base : Nat} {v : Value} {l : List Int} (h : IntRow w base v l) (o : Obj) : IntRow (w.alloc o) base v l := World.ownsRow.alloc h o
theorem Ints.get {w : World} {A : Option Addr} {n : Nat} {l : List Int} (h : Ints w A n l) {k : Nat} {x : Int} (hk : l[k]? = some x) : ∃ b o, A = some ⟨b, o, none⟩ ∧ w.cell? ⟨b, o + k, none⟩ = some (.int .i64 x) := by
  obtain ⟨hlt, rfl⟩ := List.getElem?_eq_some_iff.1 hk
  obtain ⟨b, o, e, _, hc⟩ := h.2 k hlt
  exact ⟨b, o, e, hc⟩

set_option maxHeartbeats 3200000 in
set_option maxRecDepth 100000 in
theorem mrising_any (w : World) (s : List UInt8) (bad : Bool) (most : Int) (hl : s.length ≤ 100000) (hbad : bad = true → s = []) :
    Calls Try.prog 39 #[mR s bad, .int .i64 most] w fun e w' => MEnd w.heap.size (rsV most s) (rsS most s) (rsB most s bad) e w' ∧ Below w.heap.size w w' := by
  obtain ⟨wA, hwA⟩ : ∃ wA, wA = wMR w s bad := ⟨_, rfl⟩
  obtain ⟨A, hA⟩ : ∃ A, A = w.heap.size := ⟨_, rfl⟩
  obtain ⟨R, hR⟩ : ∃ R, R = w.heap.size + 1 := ⟨_, rfl⟩
  have a0 := wMR_a0 w s bad
  have a1 := wMR_a1 w s bad
  have r0 := wMR_r0 w s bad
  have r1 := wMR_r1 w s bad
  have f0 := wMR_f0 w s bad
  have f1 := wMR_f1 w s bad
  have hAs := wMR_size w s bad
  have hBA := wMR_below w s bad
  rw [← hwA, ← hA] at a0 a1
  rw [← hwA, ← hR] at r0 r1 f0 f1 hAs
  rw [← hwA] at hBA
  unfold wMR at hwA
  have hRw : w.heap.size ≤ R := by omega
  have hAR : A < R := by omega
  have mdA : MD wA R [] false := by rw [hwA, hR]; have := MD.new (w.alloc (.cells #[.string (ofBytes s), .bool bad] 75)) [] false; rw [show (w.alloc (.cells #[.string (ofBytes s), .bool bad] 75)).heap.size = w.heap.size + 1 from by simp] at this; exact this
  have fails : PackM.rRis most s = none → rsS most s = [] ∧ rsB most s bad = true ∧ rsV most s = [] := fun h => by
    unfold rsS rsB rsV; rw [h]; exact ⟨rfl, rfl, rfl⟩
  have HFAIL := Lib.hid fails
  clear fails
  have hv := fun W => mvarint_any W s bad (by omega) hbad
  have hm : PackM.MAXI = 9223372036854775807 := rfl
  have HM := Lib.hid hm
  have hnl := nV_le PackM.MAXI s
  have htl := nS_len PackM.MAXI s
  obtain ⟨n, hn⟩ : ∃ n, n = nV PackM.MAXI s := ⟨_, rfl⟩
  obtain ⟨t0, ht0⟩ : ∃ t0, t0 = nS PackM.MAXI s := ⟨_, rfl⟩
  obtain ⟨b0, hb0⟩ : ∃ b0, b0 = nB PackM.MAXI s bad := ⟨_, rfl⟩
  rw [← hn, hm] at hnl
  rw [← ht0] at htl
  rw [← hn, ← ht0, ← hb0] at hv
  have HN := Lib.hid hn
  have HT0 := Lib.hid ht0
  have HB0 := Lib.hid hb0
  have hmR : mR s bad = .agg #[.string (ofBytes s), .bool bad] := rfl
  rw [hmR] at hv ⊢
  clear hm hn ht0 hb0 hmR
  go_enter Try.func39, Try.ntmps39
  go_wp2_with fail
  rw [← hwA, ← hR, ← hA]
  clear hwA hR hA
  refine (hv _).mono ?_
  rintro e w1 ⟨rfl, hb⟩
  clear hv a0 a1 r0 r1 f0 f1
  have hB1 : Below w.heap.size w w1 := hBA.trans (hb.mono (by omega))
  have hsz1 := hB1.size
  have md1 := mdA.later hb
  have hR1 := md1.lt
  have hBW := hB1.alloc hsz1 (.cells #[.string (ofBytes t0), .bool b0] 75)
  have mdR := md1.alloc (.cells #[.string (ofBytes t0), .bool b0] 75)
  have mdX := MD.new w1 t0 b0
  unfold mR
  cases b0 with
  | true =>
    have hnone : PackM.rRis most s = none := by
      refine rRis_none_num ?_
      cases hnum : PackM.num PackM.MAXI 0 0 s with
      | none => rfl
      | some x =>
        have h1 : true = bad := by have := HB0.out; unfold nB at this; rw [hnum] at this; exact this
        have hs0 := hbad h1.symm
        rw [hs0] at hnum
        cases hnum
    have HX := Lib.hid (HFAIL.out hnone)
    clear hnone hbad
    go_wp2_with fail
    refine (mfail_any _).mono ?_
    rintro e wf ⟨rfl, hbf⟩
    have mdf := mdR.later hbf
    have q0 := mdf.c0
    have q1 := mdf.c1
    have p0 := mdf.free 0
    have p1 := mdf.free 1
    unfold mR
    go_wp2
    have g0 := set2_0 q0 (.string (ofBytes [])) (.bool true) q1
    have g1 := set2_1 q1 (.string (ofBytes [])) (.bool true)
    have gB := below_set2 (hBW.trans (hbf.mono hBW.size)) hRw (.string (ofBytes [])) (.bool true)
    generalize (wf.setCell ⟨R, 0, none⟩ (.string (ofBytes []))).setCell ⟨R, 1, none⟩ (.bool true) = w9 at g0 g1 gB ⊢
    rw [HX.out.1, HX.out.2.1, HX.out.2.2]
    exact bodyPost_ret (v := .tuple #[.agg #[.string (ofBytes []), .bool true], .slice none 0 0]) (by simp [results, Try.results39, go_sem, g0, g1]) rfl ⟨MEnd.none_ rfl, gB⟩
  | false =>
    have hnum : PackM.num PackM.MAXI 0 0 s = some (n, t0) ∧ bad = false := by
      cases hnum : PackM.num PackM.MAXI 0 0 s with
      | none => have := HB0.out; unfold nB at this; rw [hnum] at this; cases this
      | some x =>
        have h1 : n = x.1 := by rw [HN.out]; unfold nV; rw [hnum]
        have h2 : t0 = x.2 := by rw [HT0.out]; unfold nS; rw [hnum]
        have h3 : false = bad := by have := HB0.out; unfold nB at this; rw [hnum] at this; exact this
        rw [h1, h2]
        exact ⟨rfl, h3.symm⟩
    obtain ⟨hnum, rfl⟩ := hnum
    have hrr : PackM.rRis most s = if most < (n : Int) then none else PackM.ris (-1) n t0 := by
      unfold PackM.rRis
      rw [hnum]
      rfl
    have HRR := Lib.hid hrr
    clear hnum hrr hbad
    by_cases hmost : most < (n : Int)
    · have hd : decide (most < (n : Int)) = true := decide_eq_true hmost
      have HX := Lib.hid (HFAIL.out (by rw [HRR.out, if_pos hmost]))
      go_wp2_with fail
      refine (mfail_any _).mono ?_
      rintro e wf ⟨rfl, hbf⟩
      have mdf := mdR.later hbf
      have q0 := mdf.c0
      have q1 := mdf.c1
      have p0 := mdf.free 0
      have p1 := mdf.free 1
      unfold mR
      go_wp2
      have g0 := set2_0 q0 (.string (ofBytes [])) (.bool true) q1
      have g1 := set2_1 q1 (.string (ofBytes [])) (.bool true)
      have gB := below_set2 (hBW.trans (hbf.mono hBW.size)) hRw (.string (ofBytes [])) (.bool true)
      generalize (wf.setCell ⟨R, 0, none⟩ (.string (ofBytes []))).setCell ⟨R, 1, none⟩ (.bool true) = w9 at g0 g1 gB ⊢
      rw [HX.out.1, HX.out.2.1, HX.out.2.2]
      exact bodyPost_ret (v := .tuple #[.agg #[.string (ofBytes []), .bool true], .slice none 0 0]) (by simp [results, Try.results39, go_sem, g0, g1]) rfl ⟨MEnd.none_ rfl, gB⟩
    · have hd : decide (most < (n : Int)) = false := decide_eq_false hmost
      have hrr2 : PackM.rRis most s = PackM.ris (-1) n t0 := by rw [HRR.out, if_neg hmost]
      have HRR2 := Lib.hid hrr2
      obtain ⟨X, hX⟩ : ∃ X, X = w1.heap.size := ⟨_, rfl⟩
      rw [← hX] at mdX hR1
      have hRXl : R < X := hR1
      have hXw : w.heap.size ≤ X := by omega
      have hRX : R ≠ X := by omega
      clear hrr2
      go_wp2
      rw [← hX]
      have hXs : X + 1 ≤ (w1.alloc (.cells #[.string (ofBytes t0), .bool false] 75)).heap.size := by rw [hX]; simp
      clear hX
      generalize w1.alloc (.cells #[.string (ofBytes t0), .bool false] 75) = wB at hBW mdR mdX hXs ⊢
      go_loopw [8, 9] (fun o i wr => ∃ (k : Nat) (acc : List Int) (la : Int) (t : List UInt8), k ≤ n ∧ i = .int .i64 k ∧ acc.length = k ∧ k + t.length ≤ t0.length ∧ (k = 0 → la = -1) ∧ (∀ j, k = j + 1 → acc[j]? = some la) ∧ (0 < k → 0 ≤ la) ∧ -1 ≤ la ∧ la ≤ 9223372036854775807 ∧ IntRow wr (X + 1) o acc ∧ MD wr R [] false ∧ MD wr X t false ∧ X + 1 ≤ wr.heap.size ∧ PackM.ris (-1) n t0 = (PackM.ris la (n - k) t).bind (fun y => some (acc ++ y.1, y.2)) ∧ Below w.heap.size w wr) (fun _ i _ => n - (intOf i).toNat)
      case atStart =>
        refine ⟨0, [], -1, t0, by omega, rfl, rfl, by omega, fun _ => rfl, fun j h => by omega, fun h => by omega, by omega, by omega, IntRow.nil_ _ _, mdR, mdX, hXs, ?_, hBW⟩
        rw [Nat.sub_zero]
        cases PackM.ris (-1) n t0 <;> rfl
      case round =>
        clear hBW mdR mdX hXs md1 hb hB1 hsz1
        obtain ⟨k, acc, la, t, hk, rfl, hak, htk, hz0, hzs, hla0, hla1, hla2, hrow, mdR, mdX, hXs, heq, hBW⟩ := hrel
        obtain ⟨A8, c8, rfl, _⟩ := hrow.ints
        rw [hak]
        have HE := Lib.hid heq
        have HAK := Lib.hid hak
        have HZ0 := Lib.hid hz0
        have HZS := Lib.hid hzs
        have HROW := Lib.hid hrow
        clear heq hak hz0 hzs hrow
        by_cases hlt : k < n
        · have hdk : decide ((k : Int) < (n : Int)) = true := decide_eq_true (by omega)
          have hnk : n - k = (n - (k + 1)) + 1 := by omega
          have x0 := mdX.c0
          have x1 := mdX.c1
          have hv := fun W => mvarint_any W t false (by omega) (fun e => by cases e)
          have hdl := nV_le PackM.MAXI t
          obtain ⟨d, hdE⟩ : ∃ d, d = nV PackM.MAXI t := ⟨_, rfl⟩
          obtain ⟨t2, ht2⟩ : ∃ t2, t2 = nS PackM.MAXI t := ⟨_, rfl⟩
          obtain ⟨b2, hb2⟩ : ∃ b2, b2 = nB PackM.MAXI t false := ⟨_, rfl⟩
          rw [← hdE, HM.out] at hdl
          rw [← hdE, ← ht2, ← hb2] at hv
          have hmR : mR t false = .agg #[.string (ofBytes t), .bool false] := rfl
          rw [hmR] at hv
          have HD := Lib.hid hdE
          have HT2 := Lib.hid ht2
          have HB2 := Lib.hid hb2
          clear hdE ht2 hb2 hmR
          go_wp2_with fail
          refine (hv _).mono ?_
          rintro e w2 ⟨rfl, hbb⟩
          clear hv x0 x1
          have hB2 : Below w.heap.size w w2 := hBW.trans (hbb.mono hBW.size)
          have mdX2 := mdX.later hbb
          have mdR2 := mdR.later hbb
          have y0 := mdX2.c0
          have y1 := mdX2.c1
          have y0f := mdX2.free 0
          have y1f := mdX2.free 1
          have hXlt := mdX2.lt
          have row2 : IntRow w2 (X + 1) (.slice A8 acc.length c8) acc := HROW.out.later hbb
          have hX2 : X + 1 ≤ w2.heap.size := hXlt
          -- behind the store into x
          have mdX3 := (mdX2.set2 t2 b2).alloc (.cells #[.string (ofBytes t2), .bool b2] 75)
          have mdR3 := ((mdR2.other (fun e => hRX e.symm) 0 (.string (ofBytes t2))).other (fun e => hRX e.symm) 1 (.bool b2)).alloc (.cells #[.string (ofBytes t2), .bool b2] 75)
          have row3 := ((row2.setBelow (c := X) (by omega) 0 (.string (ofBytes t2))).setBelow (c := X) (by omega) 1 (.bool b2)).alloc (.cells #[.string (ofBytes t2), .bool b2] 75)
          have hB3 := endB hB2 hXw hB2.size (.cells #[.string (ofBytes t2), .bool b2] 75) (.string (ofBytes t2)) (.bool b2)
          have hX3 : X + 1 ≤ (((w2.setCell ⟨X, 0, none⟩ (.string (ofBytes t2))).setCell ⟨X, 1, none⟩ (.bool b2)).alloc (.cells #[.string (ofBytes t2), .bool b2] 75)).heap.size := by simp [World.setCell]; omega
          unfold mR
          cases b2 with
          | true =>
            have hnone : PackM.num PackM.MAXI 0 0 t = none := by
              cases hnum : PackM.num PackM.MAXI 0 0 t with
              | none => rfl
              | some x => have := HB2.out; unfold nB at this; rw [hnum] at this; cases this
            have hall : PackM.rRis most s = none := by
              rw [HRR2.out, HE.out, hnk]
              simp only [PackM.ris]
              rw [hnone]
              rfl
            have HX := Lib.hid (HFAIL.out hall)
            clear hnone hall
            clear mdR hBW
            have mdR := mdR3
            have hBW := hB3
            clear mdR3 hB3
            go_wp2_with fail
            refine (mfail_any _).mono ?_
            rintro e wf ⟨rfl, hbf⟩
            have mdf := mdR.later hbf
            have q0 := mdf.c0
            have q1 := mdf.c1
            have p0 := mdf.free 0
            have p1 := mdf.free 1
            unfold mR
            go_wp2
            have g0 := set2_0 q0 (.string (ofBytes [])) (.bool true) q1
            have g1 := set2_1 q1 (.string (ofBytes [])) (.bool true)
            have gB := below_set2 (hBW.trans (hbf.mono hBW.size)) hRw (.string (ofBytes [])) (.bool true)
            generalize (wf.setCell ⟨R, 0, none⟩ (.string (ofBytes []))).setCell ⟨R, 1, none⟩ (.bool true) = w9 at g0 g1 gB ⊢
            rw [HX.out.1, HX.out.2.1, HX.out.2.2]
            exact bodyPost_ret (v := .tuple #[.agg #[.string (ofBytes []), .bool true], .slice none 0 0]) (by simp [results, Try.results39, go_sem, g0, g1]) rfl ⟨MEnd.none_ rfl, gB⟩
          | false =>
            have hnum : PackM.num PackM.MAXI 0 0 t = some (d, t2) := by
              cases hnum : PackM.num PackM.MAXI 0 0 t with
              | none => have := HB2.out; unfold nB at this; rw [hnum] at this; cases this
              | some x =>
                have h1 : d = x.1 := by rw [HD.out]; unfold nV; rw [hnum]
                have h2 : t2 = x.2 := by rw [HT2.out]; unfold nS; rw [hnum]
                rw [h1, h2]
            have ht2l := PackM.num_short hnum
            have hstep : PackM.ris (-1) n t0 = if (PackM.MAXI : Int) - 1 - la < (d : Int) then none else (PackM.ris (la + 1 + d) (n - (k + 1)) t2).bind (fun y => some ((acc ++ [la + 1 + (d : Int)]) ++ y.1, y.2)) := by
              rw [HE.out, hnk]
              simp only [PackM.ris]
              rw [hnum]
              simp only [Option.bind]
              by_cases hbig : (PackM.MAXI : Int) - 1 - la < (d : Int)
              · rw [if_pos hbig, if_pos hbig]
              · rw [if_neg hbig, if_neg hbig]
                cases PackM.ris (la + 1 + d) (n - (k + 1)) t2 with
                | none => rfl
                | some y => simp
            have HST := Lib.hid hstep
            clear hstep hnum
            have hal : acc.length ≤ 1000000000 := by rw [HAK.out]; omega
            clear mdR hBW
            rcases Nat.eq_zero_or_pos k with e | e
            · subst e
              have hla := HZ0.out rfl
              subst hla
              have hst2 : PackM.ris (-1) n t0 = (PackM.ris (d : Int) (n - (0 + 1)) t2).bind (fun y => some ((acc ++ [(d : Int)]) ++ y.1, y.2)) := by
                rw [HST.out, if_neg (by rw [HM.out]; omega), show (-1 : Int) + 1 + (d : Int) = (d : Int) from by omega]
              have HS2 := Lib.hid hst2
              have hd0 : decide ((0 : Int) < ((0 : Nat) : Int)) = false := rfl
              clear hst2
              rw [HAK.out] at row3
              go_wp2_with (at_builtin; refine wpList_append_int rfl _ _ rfl (X + 1) _ acc rfl (row3.alloc _) _ _ (d : Int) rfl (by go_simp) (by simp [World.setCell]; omega) hal ?_; intro v' w4 hown' hb4)
              go_wp2
              exact ⟨⟨0 + 1, acc ++ [(d : Int)], d, t2, by omega, by go_num, by rw [List.length_append, HAK.out]; rfl, by omega, fun h => by omega, at_snoc HAK.out _, fun _ => by omega, by omega, by omega, hown', (mdR3.alloc _).under (by omega) hb4, (mdX3.alloc _).under (by omega) hb4, Nat.le_trans (Nat.le_trans hX3 (by simp)) hb4.size, HS2.out, (hB3.alloc hB3.size _).trans (hb4.mono (by omega))⟩, by simp [intOf]; omega⟩
            · obtain ⟨j, rfl⟩ : ∃ j, k = j + 1 := ⟨k - 1, by omega⟩
              have hla3 := hla0 (by omega)
              obtain ⟨bb, oo, hA8, hcb⟩ := row2.ints_.2.get (HZS.out j rfl)
              subst hA8
              have hlt2 := World.ownsRow.lt row2 bb rfl
              have hbX : ¬ X = bb := by omega
              have hbX' : ¬ bb = X := by omega
              have hbz : bb < w2.heap.size := hlt2.2
              have hd0 : decide ((0 : Int) < ((j + 1 : Nat) : Int)) = true := decide_eq_true (by omega)
              rw [HAK.out] at row3
              by_cases hmax : la = 9223372036854775807
              · have hm1 : (la == 9223372036854775807) = true := beq_iff_eq.2 hmax
                have hall : PackM.rRis most s = none := by rw [HRR2.out, HST.out, if_pos (by rw [HM.out]; omega)]
                have HX := Lib.hid (HFAIL.out hall)
                have mdR := mdR3
                have hBW := hB3
                clear hall mdR3 hB3 hmax
                go_wp2_with fail
                refine (mfail_any _).mono ?_
                rintro e wf ⟨rfl, hbf⟩
                have mdf := mdR.later hbf
                have q0 := mdf.c0
                have q1 := mdf.c1
                have p0 := mdf.free 0
                have p1 := mdf.free 1
                unfold mR
                go_wp2
                have g0 := set2_0 q0 (.string (ofBytes [])) (.bool true) q1
                have g1 := set2_1 q1 (.string (ofBytes [])) (.bool true)
                have gB := below_set2 (hBW.trans (hbf.mono hBW.size)) hRw (.string (ofBytes [])) (.bool true)
                generalize (wf.setCell ⟨R, 0, none⟩ (.string (ofBytes []))).setCell ⟨R, 1, none⟩ (.bool true) = w9 at g0 g1 gB ⊢
                rw [HX.out.1, HX.out.2.1, HX.out.2.2]
                exact bodyPost_ret (v := .tuple #[.agg #[.string (ofBytes []), .bool true], .slice none 0 0]) (by simp [results, Try.results39, go_sem, g0, g1]) rfl ⟨MEnd.none_ rfl, gB⟩
              · have hm1 : (la == 9223372036854775807) = false := beq_eq_false_iff_ne.2 hmax
                by_cases hbig : 9223372036854775806 - la < (d : Int)
                · have hdb : decide (9223372036854775806 - la < (d : Int)) = true := decide_eq_true hbig
                  have hall : PackM.rRis most s = none := by rw [HRR2.out, HST.out, if_pos (by rw [HM.out]; omega)]
                  have HX := Lib.hid (HFAIL.out hall)
                  have mdR := mdR3
                  have hBW := hB3
                  clear hall mdR3 hB3
                  go_wp2_with fail
                  refine (mfail_any _).mono ?_
                  rintro e wf ⟨rfl, hbf⟩
                  have mdf := mdR.later hbf
                  have q0 := mdf.c0
                  have q1 := mdf.c1
                  have p0 := mdf.free 0
                  have p1 := mdf.free 1
                  unfold mR
                  go_wp2
                  have g0 := set2_0 q0 (.string (ofBytes [])) (.bool true) q1
                  have g1 := set2_1 q1 (.string (ofBytes [])) (.bool true)
                  have gB := below_set2 (hBW.trans (hbf.mono hBW.size)) hRw (.string (ofBytes [])) (.bool true)
                  generalize (wf.setCell ⟨R, 0, none⟩ (.string (ofBytes []))).setCell ⟨R, 1, none⟩ (.bool true) = w9 at g0 g1 gB ⊢
                  rw [HX.out.1, HX.out.2.1, HX.out.2.2]
                  exact bodyPost_ret (v := .tuple #[.agg #[.string (ofBytes []), .bool true], .slice none 0 0]) (by simp [results, Try.results39, go_sem, g0, g1]) rfl ⟨MEnd.none_ rfl, gB⟩
                · have hdb : decide (9223372036854775806 - la < (d : Int)) = false := decide_eq_false hbig
                  have hst2 := HST.out
                  rw [if_neg (by rw [HM.out]; omega)] at hst2
                  obtain ⟨x, hx⟩ : ∃ x, x = la + 1 + (d : Int) := ⟨_, rfl⟩
                  rw [← hx] at hst2
                  have hxI : la + (d : Int) + 1 = x := by omega
                  have hx1 : 0 ≤ x := by omega
                  have hx2 : x ≤ 9223372036854775807 := by omega
                  have HS2 := Lib.hid hst2
                  clear hst2 hx
                  go_wp2_with (at_builtin; refine wpList_append_int rfl _ _ rfl (X + 1) _ acc rfl (row3.alloc _) _ _ x rfl (by go_simp) (by simp [World.setCell]; omega) hal ?_; intro v' w4 hown' hb4)
                  go_wp2
                  exact ⟨⟨j + 1 + 1, acc ++ [x], x, t2, by omega, by go_num, by rw [List.length_append, HAK.out]; rfl, by omega, fun h => by omega, at_snoc HAK.out _, fun _ => by omega, by omega, by omega, hown', (mdR3.alloc _).under (by omega) hb4, (mdX3.alloc _).under (by omega) hb4, Nat.le_trans (Nat.le_trans hX3 (by simp)) hb4.size, HS2.out, (hB3.alloc hB3.size _).trans (hb4.mono (by omega))⟩, by simp [intOf]; omega⟩
        · have hdk : decide ((k : Int) < (n : Int)) = false := decide_eq_false (by omega)
          have hke : n - k = 0 := by omega
          have hres : PackM.rRis most s = some (acc, t) := by rw [HRR2.out, HE.out, hke]; simp [PackM.ris]
          have HRES := Lib.hid hres
          have x0 := mdX.c0
          have x1 := mdX.c1
          have q0 := mdR.c0
          have q1 := mdR.c1
          have p0 := mdR.free 0
          have p1 := mdR.free 1
          have hI := HROW.out.ints_.2
          have HI := Lib.hid hI
          clear hres hI
          go_wp2
          have g0 := set2_0 q0 (.string (ofBytes t)) (.bool false) q1
          have g1 := set2_1 q1 (.string (ofBytes t)) (.bool false)
          have gB := below_set2 hBW hRw (.string (ofBytes t)) (.bool false)
          have gI := ((HROW.out.setBelow (c := R) (by omega) 0 (.string (ofBytes t))).setBelow (c := R) (by omega) 1 (.bool false)).ints_.2
          generalize (wr.setCell ⟨R, 0, none⟩ (.string (ofBytes t))).setCell ⟨R, 1, none⟩ (.bool false) = w9 at g0 g1 gB gI ⊢
          have hx3 : rsV most s = acc ∧ rsS most s = t ∧ rsB most s false = false := by unfold rsV rsS rsB; rw [HRES.out]; exact ⟨rfl, rfl, rfl⟩
          rw [hx3.1, hx3.2.1, hx3.2.2]
          exact bodyPost_ret (v := .tuple #[.agg #[.string (ofBytes t), .bool false], .slice A8 k c8]) (by simp [results, Try.results39, go_sem, g0, g1]) rfl ⟨⟨A8, c8, by rw [HAK.out]; rfl, fun ad h => Nat.le_trans (by omega) (HROW.out.blk ad h), gI⟩, gB⟩
end Go.Proofs.Ytlcmdnmifmjjgaa

/- The document's reader: TakeFixed. -/
namespace Go.Proofs.Ytlcmdnmifmjjgaa
open Go.RowKit

/-- one bit of a text, as the walk reads it -/
theorem bit_facts (P : List UInt8) (q N : Nat) (hN : N = P.length) (hq : q < 8 * N) : ∃ e8 m8 x y : Nat, e8 < N ∧ m8 < 8 ∧ (q : Int) / 8 = (e8 : Int) ∧ (q : Int) % 8 = (m8 : Int) ∧ x < 256 ∧ y < 256 ∧ (∀ h, ((ofBytes P)[e8]'h).toNat = x) ∧ (x : Int) / 2 ^ m8 = (y : Int) ∧ PackM.bitAt P q = y % 2 := by
  have he : q / 8 < P.length := by omega
  refine ⟨q / 8, q % 8, (P[q / 8]).toNat, (P[q / 8]).toNat / 2 ^ (q % 8), by omega, by omega, by omega, by omega, (P[q / 8]).toNat_lt, Nat.lt_of_le_of_lt (Nat.div_le_self _ _) (P[q / 8]).toNat_lt, fun h => rfl, by simp, ?_⟩
  unfold PackM.bitAt
  rw [List.getD_eq_getElem?_getD, List.getElem?_eq_getElem he]
  rfl

end Go.Proofs.Ytlcmdnmifmjjgaa

/- awake of layer 2 answers true. -/
namespace Go.Proofs.Ytlcmdnmifmjjgaa
open Go.RowKit

theorem vw300 : PackM.vw 300 = [172, 2] := by
  rw [PackM.vw_ge (by decide), PackM.vw_lt (by decide)]
  decide +kernel
theorem ints2 (w : World) (x y : Int) : Ints (w.alloc (.cells #[.int .i64 x, .int .i64 y] 3)) (some ⟨w.heap.size, 0, none⟩) 2 [x, y] :=
  ⟨rfl, fun k hk => ⟨w.heap.size, 0, rfl, by simp, by
    have hrow := heap_alloc_new w (.cells #[.int .i64 x, .int .i64 y] 3)
    rw [Nat.zero_add, cell_of_row _ _ _ _ _ _ hrow]
    match k, hk with
    | 0, _ => rfl
    | 1, _ => rfl⟩⟩
theorem ints3 (w : World) (x y z : Int) : Ints (w.alloc (.cells #[.int .i64 x, .int .i64 y, .int .i64 z] 3)) (some ⟨w.heap.size, 0, none⟩) 3 [x, y, z] :=
  ⟨rfl, fun k hk => ⟨w.heap.size, 0, rfl, by simp, by
    have hrow := heap_alloc_new w (.cells #[.int .i64 x, .int .i64 y, .int .i64 z] 3)
    rw [Nat.zero_add, cell_of_row _ _ _ _ _ _ hrow]
    match k, hk with
    | 0, _ => rfl
    | 1, _ => rfl
    | 2, _ => rfl⟩⟩
theorem rising_35 (w : World) : Calls Try.prog 29 #[.slice (some ⟨w.heap.size, 0, none⟩) 2 2] (w.alloc (.cells #[.int .i64 3, .int .i64 5] 3)) fun e w' => e = .returned (.tuple #[.string ⟨#[2, 3, 1]⟩, .int .i64 0]) ∧ Below w.heap.size w w' := by
  refine (rising_any _ 2 2 [3, 5] _ (by omega) (ints2 w 3 5) (by intro v hv; simp at hv; omega)).mono fun e w' ⟨h1, h2⟩ => ⟨?_, ((Below.refl _ w).alloc (Nat.le_refl _) _).trans (h2.mono (by simp))⟩
  have e1 : risS [3, 5] = [2, 3, 1] := by
    unfold risS
    rw [if_pos (by decide)]
    have a : PackM.risB [3, 5] = PackM.vw 2 ++ (PackM.vw 3 ++ (PackM.vw 1 ++ [])) := rfl
    rw [a, PackM.vw_lt (by decide), PackM.vw_lt (by decide), PackM.vw_lt (by decide)]
    rfl
  rw [h1, e1]
  rfl
theorem fixed_527 (w : World) : Calls Try.prog 30 #[.int .i64 3, .slice (some ⟨w.heap.size, 0, none⟩) 3 3] (w.alloc (.cells #[.int .i64 5, .int .i64 2, .int .i64 7] 3)) fun e w' => e = .returned (.tuple #[.string ⟨#[213, 1]⟩, .int .i64 0]) ∧ Below w.heap.size w w' := by
  refine (fixed_any _ 3 3 3 [5, 2, 7] _ (by omega) (by omega) (ints3 w 5 2 7) (by intro v hv; simp at hv; omega)).mono fun e w' ⟨h1, h2⟩ => ⟨?_, ((Below.refl _ w).alloc (Nat.le_refl _) _).trans (h2.mono (by simp))⟩
  have e1 : fixS 3 [5, 2, 7] = [213, 1] := by decide +kernel
  have e2 : fixC 3 [5, 2, 7] = 0 := by decide +kernel
  have h1' : e = .returned (.tuple #[.string (ofBytes (fixS 3 [5, 2, 7])), .int .i64 (fixC 3 [5, 2, 7])]) := h1
  rw [h1', e1, e2]
  rfl
def awk : List UInt8 := [172, 2, 1, 2, 3, 1, 213, 1, 120]
theorem new_awk (w : World) : Calls Try.prog 37 #[.string ⟨#[172, 2, 1, 2, 3, 1, 213, 1, 120]⟩] w fun e w' => ∃ b, e = .returned (.pointer (some ⟨b, 0, none⟩)) ∧ w.heap.size ≤ b ∧ RD w' b awk false ∧ Below w.heap.size w w' := rnew_any w awk (by decide)
theorem rv_awk (w : World) (b : Nat) (h : RD w b awk false) : Calls Try.prog 60 #[.pointer (some ⟨b, 0, none⟩)] w fun e w' => e = .returned (.int .i64 300) ∧ RD w' b [1, 2, 3, 1, 213, 1, 120] false ∧ w.grownBy w' (some b) := by
  refine (rvarint_any w b awk false (by decide) h).mono fun e w' ⟨h1, h2, h3⟩ => ⟨?_, ?_, h3⟩
  · have e1 : nV PackM.MAXI awk = 300 := by decide +kernel
    rw [h1, e1]; rfl
  · have e1 : nS PackM.MAXI awk = [1, 2, 3, 1, 213, 1, 120] := by decide +kernel
    have e2 : nB PackM.MAXI awk false = false := by decide +kernel
    rw [e1, e2] at h2; exact h2
theorem rr_awk (w : World) (b : Nat) (h : RD w b [2, 3, 1, 213, 1, 120] false) : Calls Try.prog 49 #[.pointer (some ⟨b, 0, none⟩), .int .i64 2] w fun e w' => (∃ g o cp, e = .returned (.slice (some ⟨g, o, none⟩) 2 cp) ∧ w.heap.size ≤ g ∧ g < w'.heap.size ∧ w'.cell? ⟨g, o + 1, none⟩ = some (.int .i64 5)) ∧ RD w' b [213, 1, 120] false ∧ w.grownBy w' (some b) := by
  refine (rrising_any w b _ false 2 (by decide) (fun e => by cases e) h).mono fun e w' ⟨⟨A, cp, h1, hA, hI, h2⟩, h3⟩ => ⟨?_, ?_, h3⟩
  · have e1 : rsV 2 [2, 3, 1, 213, 1, 120] = [3, 5] := by decide +kernel
    rw [e1] at h1 hI
    obtain ⟨g, o, rfl, hlt, hc⟩ := hI.2 1 (by decide)
    exact ⟨g, o, cp, h1, hA _ rfl, hlt, hc⟩
  · have e1 : rsS 2 [2, 3, 1, 213, 1, 120] = [213, 1, 120] := by decide +kernel
    have e2 : rsB 2 [2, 3, 1, 213, 1, 120] false = false := by decide +kernel
    rw [e1, e2] at h2; exact h2
theorem rf_awk (w : World) (b : Nat) (h : RD w b [213, 1, 120] false) : Calls Try.prog 50 #[.pointer (some ⟨b, 0, none⟩), .int .i64 3, .int .i64 3] w fun e w' => (∃ g o cp, e = .returned (.slice (some ⟨g, o, none⟩) 3 cp) ∧ w.heap.size ≤ g ∧ g < w'.heap.size ∧ w'.cell? ⟨g, o, none⟩ = some (.int .i64 5) ∧ w'.cell? ⟨g, o + 2, none⟩ = some (.int .i64 7)) ∧ RD w' b [120] false ∧ w.grownBy w' (some b) := by
  refine (rfixed_in w b _ false 3 3 (by decide) (fun e => by cases e) h (by omega) (by omega)).mono fun e w' ⟨⟨A, cp, h1, hA, hI, h2⟩, h3⟩ => ⟨?_, ?_, h3⟩
  · have e1 : fxV (3 : Nat) (3 : Nat) [213, 1, 120] false = [5, 2, 7] := by decide +kernel
    rw [e1] at h1 hI
    obtain ⟨g, o, rfl, hlt, hc⟩ := hI.2 0 (by decide)
    obtain ⟨g', o', e', _, hc'⟩ := hI.2 2 (by decide)
    injection e' with e'
    injection e' with e1' e2'
    subst e1'; subst e2'
    exact ⟨g, o, cp, h1, hA _ rfl, hlt, hc, hc'⟩
  · have e1 : fxS (3 : Nat) (3 : Nat) [213, 1, 120] false = [120] := by decide +kernel
    have e2 : fxB (3 : Nat) (3 : Nat) [213, 1, 120] false = false := by decide +kernel
    rw [e1, e2] at h2; exact h2
theorem rl_awk (w : World) (b : Nat) (h : RD w b [120] false) : Calls Try.prog 52 #[.pointer (some ⟨b, 0, none⟩)] w fun e w' => e = .returned (.int .i64 1) ∧ w = w' := rleft_any w b _ _ h
theorem rb_awk (w : World) (b : Nat) (h : RD w b [120] false) : Calls Try.prog 64 #[.pointer (some ⟨b, 0, none⟩), .int .i64 2] w fun e w' => e = .returned (.string ⟨#[]⟩) ∧ RD w' b [] true ∧ w.grownBy w' (some b) := by
  refine (rbytes_any w b [120] false 2 (by decide) h).mono fun e w' ⟨h1, h2, h3⟩ => ⟨?_, ?_, h3⟩
  · have e1 : byV 2 [120] = [] := by decide +kernel
    rw [h1, e1]; rfl
  · have e1 : byS 2 [120] = [] := by decide +kernel
    have e2 : byB 2 [120] false = true := by decide +kernel
    rw [e1, e2] at h2; exact h2
theorem reader_info : ∃ j, Try.prog.info? 98 = some j := by
  have h : (Try.prog.info? 98).isSome = true := by kernel_rfl
  exact Option.isSome_iff_exists.1 h
end Go.Proofs.Ytlcmdnmifmjjgaa

/- awake of layer 2 answers true: the walk. -/
namespace Go.Proofs.Ytlcmdnmifmjjgaa
open Go.RowKit

end Go.Proofs.Ytlcmdnmifmjjgaa

/- PackBack's parts: what was written is read. -/
namespace Go.Proofs.Ytlcmdnmifmjjgaa
open Go.RowKit

theorem cat2 (x t : List UInt8) : ofBytes x ++ ofBytes t = ofBytes (x ++ t) := by rw [append_ofBytes, ofBytes_list]
theorem diffs_len : ∀ (l : List Int) (last : Int), -1 ≤ last → PackM.rises last l = true → (∀ v ∈ l, v ≤ 9223372036854775807) → (PackM.diffs last l).length ≤ 10 * l.length
  | [], _, _, _, _ => by simp [PackM.diffs]
  | v :: t, last, hl, hr, hm => by
    simp only [PackM.rises, Bool.and_eq_true, decide_eq_true_eq] at hr
    have hv := hm v (by simp)
    have h1 := PackM.vw_len10 (v - 1 - last).toNat (by omega)
    have h2 := diffs_len t v (by omega) hr.2 (fun x hx => hm x (by simp [hx]))
    simp only [PackM.diffs, List.length_append, List.length_cons]
    omega
theorem risS_len (l : List Int) (h : l.length ≤ 1000) (h64 : I64 l) : (risS l).length ≤ 10010 := by
  unfold risS
  split
  · rename_i hr
    have h1 := diffs_len l (-1) (by omega) hr (fun v hv => (h64 v hv).2)
    have h2 := PackM.vw_len10 l.length (by omega)
    simp only [PackM.risB, List.length_append]
    omega
  · simp
theorem fixS_len (m : Int) (l : List Int) (h : l.length ≤ 1000) : (fixS m l).length ≤ 10010 := by
  unfold fixS
  split
  · rename_i hr
    rw [PackM.fixB, PackM.packed_length, List.length_map]
    have : m.toNat * l.length ≤ 32 * l.length := Nat.mul_le_mul_right _ (by omega)
    omega
  · simp

theorem back_var (w : World) (b n : Nat) (s : List UInt8) (h2 : n ≤ 9223372036854775807) (hl : s.length ≤ 100000) (h : RD w b (PackM.vw n ++ s) false) :
    Calls Try.prog 60 #[.pointer (some ⟨b, 0, none⟩)] w fun e w' => e = .returned (.int .i64 (n : Int)) ∧ RD w' b s false ∧ w.grownBy w' (some b) := by
  have h10 := PackM.vw_len10 n (by omega)
  have hn : PackM.num PackM.MAXI 0 0 (PackM.vw n ++ s) = some (n, s) := PackM.num_there _ _ _ (by unfold PackM.MAXI; omega)
  refine (rvarint_any w b _ false (by rw [List.length_append]; omega) h).mono fun e w' ⟨a1, a2, a3⟩ => ⟨?_, ?_, a3⟩
  · rw [a1]; unfold nV; rw [hn]
  · unfold nS nB at a2; rw [hn] at a2; exact a2
theorem back_ris (w : World) (b n : Nat) (l : List Int) (s : List UInt8) (hn : l.length = n) (hl : n ≤ 1000) (h64 : I64 l) (hr : PackM.rises (-1) l = true) (hs : s.length ≤ 100000) (h : RD w b (risS l ++ s) false) :
    Calls Try.prog 49 #[.pointer (some ⟨b, 0, none⟩), .int .i64 (n : Int)] w fun e w' => (∃ A cp, e = .returned (.slice A n cp) ∧ Ints w' A n l) ∧ RD w' b s false ∧ w.grownBy w' (some b) := by
  have hlen := risS_len l (by omega) h64
  have he : risS l = PackM.risB l := by unfold risS; rw [if_pos hr]
  have hrr : PackM.rRis (n : Int) (risS l ++ s) = some (l, s) := by rw [he, ← hn]; exact PackM.rRis_there l s (by omega) hr (fun v hv => (h64 v hv).2)
  refine (rrising_any w b _ false (n : Int) (by rw [List.length_append]; omega) (fun e => by cases e) h).mono fun e w' ⟨⟨A, cp, a1, _, a2, a3⟩, a4⟩ => ?_
  have e1 : rsV (n : Int) (risS l ++ s) = l := by unfold rsV; rw [hrr]
  have e2 : rsS (n : Int) (risS l ++ s) = s := by unfold rsS; rw [hrr]
  have e3 : rsB (n : Int) (risS l ++ s) false = false := by unfold rsB; rw [hrr]
  rw [e1, hn] at a1 a2
  rw [e2, e3] at a3
  exact ⟨⟨A, cp, a1, a2⟩, a3, a4⟩
theorem map_back (l : List Int) (h : ∀ v ∈ l, 0 ≤ v) : toI (l.map Int.toNat) = l := by
  unfold toI
  rw [List.map_map]
  have : ∀ v ∈ l, (Int.ofNat ∘ Int.toNat) v = v := fun v hv => by
    have := h v hv
    simp only [Function.comp_apply, Int.ofNat_eq_natCast]
    omega
  rw [List.map_congr_left this, List.map_id']
theorem back_fix (w : World) (b n : Nat) (m : Int) (l : List Int) (s : List UInt8) (hn : l.length = n) (hl : n ≤ 1000) (hm0 : 0 ≤ m) (hm : m ≤ 32) (hr : fits m.toNat l = true) (hs : s.length ≤ 100000) (h : RD w b (fixS m l ++ s) false) :
    Calls Try.prog 50 #[.pointer (some ⟨b, 0, none⟩), .int .i64 m, .int .i64 (n : Int)] w fun e w' => (∃ A cp, e = .returned (.slice A n cp) ∧ Ints w' A n l) ∧ RD w' b s false ∧ w.grownBy w' (some b) := by
  have hlen := fixS_len m l (by omega)
  obtain ⟨k, rfl⟩ := Int.eq_ofNat_of_zero_le hm0
  rw [Int.toNat_natCast] at hr
  have hv : ∀ v ∈ l, 0 ≤ v ∧ v < 2 ^ k := fun v hv => by
    unfold fits at hr
    have := (List.all_eq_true.1 hr) v hv
    simpa using this
  have he : fixS (k : Int) l = PackM.fixB k (l.map Int.toNat) := by unfold fixS; rw [Int.toNat_natCast, if_pos ⟨by omega, by omega, hr⟩]
  have hrf : PackM.rFix k n (fixS (k : Int) l ++ s) = some (l.map Int.toNat, s) := by
    have := PackM.rFix_there k (l.map Int.toNat) s (fun v hv' => by
      simp only [List.mem_map] at hv'
      obtain ⟨x, hx, rfl⟩ := hv'
      obtain ⟨h1, h2⟩ := hv x hx
      obtain ⟨y, rfl⟩ := Int.eq_ofNat_of_zero_le h1
      rw [Int.toNat_natCast]
      exact_mod_cast h2)
    rw [List.length_map, hn, ← he] at this
    exact this
  have hfx : fxR (k : Int) (n : Int) (fixS (k : Int) l ++ s) false = some (l.map Int.toNat, s) := by
    unfold fxR
    rw [if_pos ⟨rfl, by omega, by omega, by omega, by omega⟩, Int.toNat_natCast, Int.toNat_natCast, hrf]
  refine (rfixed_in w b _ false k n (by rw [List.length_append]; omega) (fun e => by cases e) h (by omega) (by omega)).mono fun e w' ⟨⟨A, cp, a1, _, a2, a3⟩, a4⟩ => ?_
  have e1 : fxV (k : Int) (n : Int) (fixS (k : Int) l ++ s) false = l := by unfold fxV; rw [hfx]; exact map_back l (fun v hv' => (hv v hv').1)
  have e2 : fxS (k : Int) (n : Int) (fixS (k : Int) l ++ s) false = s := by unfold fxS; rw [hfx]
  have e3 : fxB (k : Int) (n : Int) (fixS (k : Int) l ++ s) false = false := by unfold fxB; rw [hfx]
  rw [e1, hn] at a1 a2
  rw [e2, e3] at a3
  exact ⟨⟨A, cp, a1, a2⟩, a3, a4⟩
end Go.Proofs.Ytlcmdnmifmjjgaa

/- Posts: Print. -/
namespace Go.Proofs.Ytlcmdnmifmjjgaa
open Go.RowKit

def docsL (l : List (Int × Int)) : List Int := l.map (·.1)
def wtsL (l : List (Int × Int)) : List Int := l.map (·.2)
def printB (l : List (Int × Int)) : List UInt8 := CrcM.sealed (risS (docsL l) ++ fixS 16 (wtsL l))
theorem docs_64 {l : List (Int × Int)} (h : PostM.rightL l = true) : I64 (docsL l) := fun v hv => by
  obtain ⟨p, hp, rfl⟩ := List.mem_map.1 hv
  have := PostM.rgt_all h p hp
  omega
theorem wts_64 {l : List (Int × Int)} (h : PostM.rightL l = true) : I64 (wtsL l) := fun v hv => by
  obtain ⟨p, hp, rfl⟩ := List.mem_map.1 hv
  have := PostM.rgt_all h p hp
  omega
theorem IntsAt.far {w : World} {g b : Nat} {l : List Int} (h : IntsAt w g l) (hb : b ≠ g) (i : Nat) (u : Value) : IntsAt (w.setCell ⟨b, i, none⟩ u) g l := fun j hj =>
  ⟨by rw [World.cell?_setCell_other w _ _ _ (fun e => hb (by injection e))]; exact (h j hj).1, by simp [(h j hj).2]⟩
theorem IntsAt.later {w w' : World} {g : Nat} {l : List Int} (h : IntsAt w g l) (hb : Below w.heap.size w w') (hg : g < w.heap.size) : IntsAt w' g l := fun j hj =>
  ⟨(hb.cell (p := ⟨g, j, none⟩) hg).trans (h j hj).1, (hb.frozen (p := ⟨g, j, none⟩) hg).trans (h j hj).2⟩
theorem IntsAt.next {w : World} {g n k : Nat} {f : List Int} (h : IntsAt w g (f.take k ++ List.replicate (n - k) 0)) (hk : k < n) (hf : f.length = n) :
    IntsAt (w.setCell ⟨g, k, none⟩ (.int .i64 (f[k]'(by omega)))) g (f.take (k + 1) ++ List.replicate (n - (k + 1)) 0) := by
  have h2 := h.set_ k (f[k]'(by omega))
  obtain ⟨m, hm⟩ : ∃ m, n - k = m + 1 := ⟨n - k - 1, by omega⟩
  have hl : (f.take k).length = k := by rw [List.length_take]; omega
  have e := set_fill (f.take k) m (f[k]'(by omega))
  rw [hl] at e
  rw [hm, e, ← List.take_succ_eq_append_getElem (by omega)] at h2
  rw [show n - (k + 1) = m by omega]
  exact h2
theorem IntsAt.one {w : World} {g n k : Nat} {f : List Int} (h : IntsAt w g (f.take k ++ List.replicate (n - k) 0)) (hk : k < n) (hf : f.length = n) : w.cell? ⟨g, k, none⟩ = some (.int .i64 0) ∧ w.frozen? ⟨g, k, none⟩ = false := by
  have hl : (f.take k).length = k := by rw [List.length_take]; omega
  have := h k (by rw [List.length_append, hl, List.length_replicate]; omega)
  rw [List.getElem_append_right (by omega)] at this
  simpa using this

set_option maxHeartbeats 2000000 in
set_option maxRecDepth 100000 in
theorem print_any (b : Nat) (l : List (Int × Int)) (w : World) (h : PL w b l) (hl : l.length ≤ 300) (hr : PostM.rightL l = true) :
    Calls Try.prog 15 #[.pointer (some ⟨b, 0, none⟩)] w fun e w' => e = .returned (.string (ofBytes (printB l))) ∧ Below w.heap.size w w' := by
  obtain ⟨A, c, A', c', k0, k1, k2, hP, _, hbs⟩ := h.cells
  obtain ⟨n, hn⟩ : ∃ n, n = l.length := ⟨_, rfl⟩
  rw [← hn] at k0 hP hl
  obtain ⟨M1, hM1, hI1⟩ := made_ints w n (by omega)
  obtain ⟨wa, hwa⟩ : ∃ wa, wa = w.alloc (.cells M1 3) := ⟨_, rfl⟩
  obtain ⟨M2, hM2, hI2⟩ := made_ints wa n (by omega)
  have hba : Below w.heap.size w wa := by rw [hwa]; exact pl1 _ _
  have k0a := (hba.cell (p := ⟨b, 0, none⟩) hbs).trans k0
  have hsa : wa.heap.size = w.heap.size + 1 := by rw [hwa]; simp
  rw [← hwa] at hI1 hM1
  obtain ⟨wb, hwb⟩ : ∃ wb, wb = wa.alloc (.cells M2 3) := ⟨_, rfl⟩
  rw [← hwb] at hI2 hM2
  have hbb : Below wa.heap.size wa wb := by rw [hwb]; exact pl1 _ _
  have hsb : wb.heap.size = w.heap.size + 2 := by rw [hwb]; simp; omega
  have k0b := (hbb.cell (p := ⟨b, 0, none⟩) (show b < wa.heap.size by omega)).trans k0a
  have HB := Lib.hid (hba.trans (hbb.mono hba.size))
  have HI1 := Lib.hid (hI1.later hbb (by omega))
  have HI2 := Lib.hid hI2
  have HP := Lib.hid hP
  have HN := Lib.hid hn
  have HR := Lib.hid hr
  have HSZ := Lib.hid (And.intro hsa hsb)
  clear hI1 hI2 hP hn hr hba hbb hwa hwb h k1 k2 hsa hsb
  go_enter Try.func15, Try.ntmps15
  go_wp2
  obtain ⟨D, hD⟩ : ∃ D, D = w.heap.size := ⟨_, rfl⟩
  obtain ⟨V, hV⟩ : ∃ V, V = wa.heap.size := ⟨_, rfl⟩
  rw [← hV]
  rw [← hD] at ⊢
  have HDV := Lib.hid (And.intro hD hV)
  clear hD hV k0 k0a k0b hM1 hM2
  go_loopw [28] (fun x wr => ∃ k : Nat, k ≤ n ∧ x = .int .i64 k ∧ IntsAt wr D ((docsL l).take k ++ List.replicate (n - k) 0) ∧ IntsAt wr V ((wtsL l).take k ++ List.replicate (n - k) 0) ∧ D < wr.heap.size ∧ V < wr.heap.size ∧ Below w.heap.size w wr) (fun x _ => n - (intOf x).toNat)
  case atStart =>
    obtain ⟨hD, hV⟩ := HDV.out
    obtain ⟨hsa, hsb⟩ := HSZ.out
    refine ⟨0, by omega, rfl, ?_, ?_, by omega, by omega, HB.out⟩
    · rw [hD]; exact HI1.out
    · rw [hV]; exact HI2.out
  case round =>
    obtain ⟨k, hk, rfl, hi1, hi2, hd1, hd2, hb⟩ := hrel
    have hdv : D ≠ V ∧ w.heap.size ≤ D ∧ w.heap.size ≤ V := by
      obtain ⟨hD, hV⟩ := HDV.out
      obtain ⟨hsa, hsb⟩ := HSZ.out
      omega
    have hlw : (docsL l).length = n ∧ (wtsL l).length = n := by unfold docsL wtsL; rw [List.length_map, List.length_map]; exact ⟨HN.out.symm, HN.out.symm⟩
    by_cases hkn : k < n
    · have hkl : k < l.length := by rw [← HN.out]; exact hkn
      obtain ⟨b', o', rfl, hbw, c0, c1⟩ := (HP.out).at_ k hkl
      have c0 := (hb.cell (p := ⟨b', o' + k * 2, none⟩) hbw).trans c0
      have c1 := (hb.cell (p := ⟨b', o' + k * 2 + 1, none⟩) hbw).trans c1
      have x1 := hi1.one hkn hlw.1
      have x2 := hi2.one hkn hlw.2
      have e1 : (docsL l)[k]'(by omega) = l[k].1 := by simp [docsL]
      have e2 : (wtsL l)[k]'(by omega) = l[k].2 := by simp [wtsL]
      obtain ⟨⟨p1, p2⟩, hp⟩ : ∃ p, p = l[k] := ⟨_, rfl⟩
      rw [← hp] at c0 c1 e1 e2
      simp only at c0 c1 e1 e2
      obtain ⟨wr2, hw2⟩ : ∃ wr2, wr2 = wr.alloc (.cells #[.int .i64 p1, .int .i64 p2] 47) := ⟨_, rfl⟩
      have hb2 : Below wr.heap.size wr wr2 := by rw [hw2]; exact pl1 _ _
      have hi1 := hi1.later hb2 hd1
      have hi2 := hi2.later hb2 hd2
      have y1 := hi1.one hkn hlw.1
      have y2 := hi2.one hkn hlw.2
      obtain ⟨y10, y11⟩ := y1
      obtain ⟨y20, y21⟩ := y2
      have z0 : wr2.cell? ⟨wr.heap.size, 0, none⟩ = some (.int .i64 p1) := by rw [hw2]; go_simp
      have z1 : wr2.cell? ⟨wr.heap.size, 1, none⟩ = some (.int .i64 p2) := by rw [hw2]; go_simp
      have hsz : wr2.heap.size = wr.heap.size + 1 := by rw [hw2]; simp
      have q1 : (0 : Int) ≤ (k : Int) := by omega
      have q2 : (k : Int) < (n : Int) := by omega
      have HW2 := Lib.hid hw2
      have HI1 := Lib.hid hi1
      have HI2 := Lib.hid hi2
      have HB2 := Lib.hid (hb.trans (hb2.mono hb.size))
      have HLW := Lib.hid hlw
      have HE := Lib.hid (And.intro e1 e2)
      have HSZ2 := Lib.hid hsz
      have hbw2 : b' < wr.heap.size := Nat.lt_of_lt_of_le hbw hb.size
      obtain ⟨hdv1, hdv2, hdv3⟩ := hdv
      have hd3 : D ≠ wr.heap.size := by omega
      have hd4 : V ≠ wr.heap.size := by omega
      clear hw2 hi1 hi2 hb hb2 x1 x2 hp hsz
      go_upto_region 6 with fail
      rw [← HW2.out]
      go_region
      go_wp2
      obtain ⟨e1, e2⟩ := HE.out
      have i1 := (HI1.out.next hkn HLW.out.1).far (b := V) (Ne.symm hdv1) k (.int .i64 p2)
      have i2 := (HI2.out.far (b := D) hdv1 k (.int .i64 p1)).next hkn HLW.out.2
      rw [e1] at i1
      rw [e2] at i2
      have hs2 := HSZ2.out
      refine ⟨⟨k + 1, by omega, by simp, fun j hj => i1 j hj, fun j hj => i2 j hj, ?_, ?_, ((HB2.out.setCell hdv2 _).setCell hdv3 _).drew⟩, by simp [intOf]; omega⟩
      · simp; omega
      · simp; omega
    · have hke : k = n := by omega
      subst hke
      rw [Nat.sub_self, List.replicate_zero, List.append_nil, List.take_of_length_le (by omega)] at hi1 hi2
      have hj1 := hi1.ints hd1 hlw.1
      have hj2 := hi2.ints hd2 hlw.2
      have HJ2 := Lib.hid hj2
      have HBB := Lib.hid hb
      have HLW := Lib.hid hlw
      clear hi1 hi2 hb hj2 hlw hdv
      go_wp2_with fail
      refine (rising_any _ k k _ wr (by omega) hj1 (docs_64 HR.out)).mono ?_
      rintro e w2 ⟨rfl, hb2⟩
      have hj2 := HJ2.out.below hb2
      have HB2 := Lib.hid hb2
      clear hb2 hj1
      go_wp2_with fail
      refine (fixed_any _ k k 16 _ w2 (by omega) (by omega) hj2 (wts_64 HR.out)).mono ?_
      rintro e w3 ⟨rfl, hb3⟩
      have HB3 := Lib.hid hb3
      clear hb3 hj2
      have hl1 := risS_len (docsL l) (by rw [HLW.out.1]; omega) (docs_64 HR.out)
      have hl2 := fixS_len 16 (wtsL l) (by rw [HLW.out.2]; omega)
      have hq1 : (ofBytes (risS (docsL l))).size ≤ 10010 := by rw [size_ofBytes']; exact hl1
      have hq2 : (ofBytes (fixS 16 (wtsL l))).size ≤ 10010 := by rw [size_ofBytes']; exact hl2
      go_wp2_with fail
      rw [ofBytes_app, ofBytes_list]
      refine (seal_all _ w3 (by rw [List.length_append]; omega)).mono ?_
      rintro e w4 ⟨rfl, hb4⟩
      have HB4 := Lib.hid hb4
      clear hb4 hl1 hl2
      go_wp2
      go_ret
      have e1 := HBB.out.trans (HB2.out.mono HBB.out.size)
      have e2 := e1.trans (HB3.out.mono e1.size)
      exact ⟨rfl, e2.trans (HB4.out.mono e2.size)⟩
end Go.Proofs.Ytlcmdnmifmjjgaa

/- Posts, in plain words: what was printed is read. -/
namespace Go.Proofs.Ytlcmdnmifmjjgaa
open Go.RowKit

theorem rRis_more {m m' : Int} {t : List UInt8} {x : List Int × List UInt8} (h : PackM.rRis m t = some x) (hm : m ≤ m') : PackM.rRis m' t = some x := by
  unfold PackM.rRis at h ⊢
  cases hn : PackM.num PackM.MAXI 0 0 t with
  | none => rw [hn] at h; cases h
  | some y =>
    rw [hn] at h
    simp only [Option.bind_some] at h ⊢
    by_cases h1 : m < (y.1 : Int)
    · rw [if_pos h1] at h; cases h
    · rw [if_neg h1] at h
      rw [if_neg (by omega)]
      exact h
theorem rgt_rises : ∀ (l : List (Int × Int)) (la : Int), PostM.rgt la l = true → PackM.rises la (docsL l) = true
  | [], la, _ => by simp [docsL, PackM.rises]
  | p :: t, la, h => by
    simp only [PostM.rgt, Bool.and_eq_true, decide_eq_true_eq] at h
    have := rgt_rises t p.1 h.2
    unfold docsL at this ⊢
    simp only [List.map_cons, PackM.rises, Bool.and_eq_true, decide_eq_true_eq]
    exact ⟨h.1.1.1.1, this⟩
theorem rdP_of {t s : List UInt8} {docs : List Int} (h : PackM.rRis 2147483648 t = some (docs, s)) (h2 : s.length = 2 * docs.length) : PostM.rdP t = some (PostM.parL docs s) := by
  unfold PostM.rdP
  rw [h]
  exact if_pos h2
theorem rd_print (l : List (Int × Int)) (h : PostM.rightL l = true) (hl : l.length ≤ 300) : PostM.rdP (risS (docsL l) ++ fixS 16 (wtsL l)) = some l := by
  have hd : (docsL l).length = l.length := by simp [docsL]
  have hw : (wtsL l).length = l.length := by simp [wtsL]
  have hr := rgt_rises l (-1) h
  have hv : ∀ v ∈ wtsL l, 0 ≤ v ∧ v < 65536 := fun v hv => by
    obtain ⟨p, hp, rfl⟩ := List.mem_map.1 hv
    have := PostM.rgt_all h p hp
    omega
  have hf : fits (16 : Int).toNat (wtsL l) = true := by
    unfold fits
    rw [List.all_eq_true]
    intro v hv'
    have := hv v hv'
    exact decide_eq_true ⟨this.1, by simpa using this.2⟩
  obtain ⟨ns, hns⟩ : ∃ ns, ns = (wtsL l).map Int.toNat := ⟨_, rfl⟩
  have hnl : ns.length = l.length := by rw [hns, List.length_map, hw]
  have e1 : risS (docsL l) = PackM.risB (docsL l) := by unfold risS; rw [if_pos hr]
  have e2 : fixS 16 (wtsL l) = PackM.fixB 16 ns := by unfold fixS; rw [if_pos ⟨by omega, by omega, hf⟩, hns]; rfl
  have hk : ∀ v ∈ ns, v < 2 ^ 16 := fun v hv' => by
    rw [hns] at hv'
    obtain ⟨u, hu, rfl⟩ := List.mem_map.1 hv'
    have := hv u hu
    omega
  obtain ⟨s, hs⟩ : ∃ s, s = PackM.fixB 16 ns := ⟨_, rfl⟩
  have hsl : s.length = 2 * l.length := by rw [hs, PackM.fixB, PackM.packed_length, hnl]; omega
  have ht := PackM.rFix_there 16 ns [] hk
  rw [List.append_nil, ← hs, hnl, PostM.rFix_two, if_neg (by omega)] at ht
  have hn2 : PackM.nums (s.take (2 * l.length)) 16 l.length = ns := by
    have := Option.some.inj ht
    exact congrArg Prod.fst this
  have hR : PackM.rRis 2147483648 (risS (docsL l) ++ s) = some (docsL l, s) := by
    rw [e1]
    exact rRis_more (PackM.rRis_there (docsL l) s (by omega) hr (fun v hv => (docs_64 h v hv).2)) (by omega)
  rw [e2, ← hs, rdP_of hR (by rw [hd]; exact hsl)]
  refine congrArg some ?_
  refine List.ext_getElem (by rw [PostM.parL_len, hd]) (fun i h1 h2 => ?_)
  have hi : i < l.length := h2
  have hw2 : PostM.wtAt s i = l[i].2 := by
    have := PostM.nums_two l.length s i hi
    rw [hn2, hns, List.getD_eq_getElem?_getD, List.getElem?_map] at this
    have e : (wtsL l)[i]? = some l[i].2 := by simp [wtsL, hi]
    rw [e] at this
    simp only [Option.map_some, Option.getD_some] at this
    have h0 := hv l[i].2 (List.mem_map.2 ⟨l[i], List.getElem_mem _, rfl⟩)
    unfold PostM.wtAt
    omega
  have e : (docsL l)[i]? = some l[i].1 := by simp [docsL, hi]
  have eg : (PostM.parL (docsL l) s)[i] = ((docsL l).getD i 0, PostM.wtAt s i) := by simp [PostM.parL]
  rw [eg, hw2, List.getD_eq_getElem?_getD, e]
  rfl
end Go.Proofs.Ytlcmdnmifmjjgaa

/- PackTells answers true: the walk. -/
namespace Go.Proofs.Ytlcmdnmifmjjgaa
open Go.RowKit

theorem fixed_all (w : Int) (A : Option Addr) (n cp : Nat) (l : List Int) (W : World) (hn : n ≤ 1000000) (hI : Ints W A n l) (h64 : I64 l) :
    Calls Try.prog 30 #[.int .i64 w, .slice A n cp] W fun e W' => e = .returned (.tuple #[.string (ofBytes (fixS w l)), .int .i64 (fixC w l)]) ∧ Below W.heap.size W W' := by
  by_cases h : 0 ≤ w ∧ w ≤ 32
  · obtain ⟨m, rfl⟩ := Int.eq_ofNat_of_zero_le h.1
    exact fixed_any A n cp m l W (by omega) hn hI h64
  · exact fixed_range w A n cp l W h
theorem reffixed_all (w : Int) (A : Option Addr) (n cp : Nat) (l : List Int) (W : World) (hn : n ≤ 1000000) (hI : Ints W A n l) (h64 : I64 l) :
    Calls Try.prog 33 #[.int .i64 w, .slice A n cp] W fun e W' => e = .returned (.tuple #[.string (ofBytes (fixS w l)), .int .i64 (fixC w l)]) ∧ Below W.heap.size W W' := by
  by_cases h : 0 ≤ w ∧ w ≤ 32
  · obtain ⟨m, rfl⟩ := Int.eq_ofNat_of_zero_le h.1
    exact reffixed_any A n cp m l W (by omega) hn hI h64
  · exact reffixed_range w A n cp l W h

theorem varC_01 (v : Int) : 0 ≤ varC v ∧ varC v ≤ 1 := by unfold varC; split <;> omega
theorem risC_01 (l : List Int) : 0 ≤ risC l ∧ risC l ≤ 1 := by unfold risC; split <;> omega
theorem fixC_01 (w : Int) (l : List Int) : 0 ≤ fixC w l ∧ fixC w l ≤ 1 := by unfold fixC; split <;> omega

end Go.Proofs.Ytlcmdnmifmjjgaa
