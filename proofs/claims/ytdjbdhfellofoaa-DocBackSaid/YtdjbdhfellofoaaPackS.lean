
/- The document's reader: TakeRising. -/
import Derived.Test.YtdjbdhfellofoaaPackR
namespace Go.Proofs.Ytdjbdhfellofoaa
open Go.RowKit

/-- the document's reader as a variable at block b -/
def MD (w : World) (b : Nat) (s : List UInt8) (bad : Bool) : Prop := w.heap[b]? = some (.cells #[.string (ofBytes s), .bool bad] 69 (0, 0))
section
variable {w : World} {b : Nat} {s : List UInt8} {bad : Bool}
theorem MD.lt (h : MD w b s bad) : b < w.heap.size := (Array.getElem?_eq_some_iff.1 h).1
theorem MD.c0 (h : MD w b s bad) : w.cell? ⟨b, 0, none⟩ = some (.string (ofBytes s)) := cell_of_row w b 0 _ _ (0, 0) h
theorem MD.c1 (h : MD w b s bad) : w.cell? ⟨b, 1, none⟩ = some (.bool bad) := cell_of_row w b 1 _ _ (0, 0) h
theorem MD.free (h : MD w b s bad) (i : Nat) : w.frozen? ⟨b, i, none⟩ = false := by
  unfold MD at h
  simp [World.frozen?, h]
theorem MD.set2 (h : MD w b s bad) (s' : List UInt8) (x : Bool) : MD ((w.setCell ⟨b, 0, none⟩ (.string (ofBytes s'))).setCell ⟨b, 1, none⟩ (.bool x)) b s' x := by
  have h1 := heap_setCell_row h 0 (.string (ofBytes s'))
  unfold MD; rw [heap_setCell_row h1]; rfl
theorem MD.kept {w' : World} (h : MD w b s bad) (hb : w'.heap[b]? = w.heap[b]?) : MD w' b s bad := hb.trans h
theorem MD.other {c : Nat} (h : MD w b s bad) (hc : c ≠ b) (i : Nat) (u : Value) : MD (w.setCell ⟨c, i, none⟩ u) b s bad := h.kept (Below.heap_setCell w _ _ b (fun e => hc e.symm))
theorem MD.alloc (h : MD w b s bad) (o : Obj) : MD (w.alloc o) b s bad := (Below.heap_alloc w o b h.lt).trans h
theorem MD.later {w' : World} (h : MD w b s bad) (hb : Below w.heap.size w w') : MD w' b s bad := (hb.block b h.lt).trans h
theorem MD.drew (h : MD w b s bad) : MD w.drew b s bad := h
end
theorem MD.under {w w' : World} {b B : Nat} {s : List UInt8} {bad : Bool} (h : MD w b s bad) (hB : b < B) (hb : Below B w w') : MD w' b s bad := (hb.block b hB).trans h
theorem at_snoc {acc : List Int} {k : Nat} (h : acc.length = k) (x : Int) : ∀ j, k + 1 = j + 1 → (acc ++ [x])[j]? = some x := fun j hj => by
  have : j = acc.length := by omega
  subst this
  simp
theorem MD.new (w : World) (s : List UInt8) (bad : Bool) : MD (w.alloc (.cells #[.string (ofBytes s), .bool bad] 69)) w.heap.size s bad := heap_alloc_new w _

def MEnd (N : Nat) (l : List Int) (s : List UInt8) (bad : Bool) (e : Ending) (w' : World) : Prop := ∃ A cp, e = .returned (.tuple #[mR s bad, .slice A l.length cp]) ∧ (∀ ad, A = some ad → N ≤ ad.block) ∧ Ints w' A l.length l
theorem MEnd.none_ {N : Nat} {e : Ending} {w' : World} (he : e = .returned (.tuple #[.agg #[.string (ofBytes []), .bool true], .slice none 0 0])) : MEnd N [] [] true e w' := ⟨none, 0, he, fun ad h => (by cases h), rfl, fun k hk => by simp at hk⟩
theorem IntRow.blk {w : World} {base : Nat} {A : Option Addr} {n cp : Nat} {l : List Int} (h : IntRow w base (.slice A n cp) l) : ∀ ad, A = some ad → base ≤ ad.block := fun ad hA => (World.ownsRow.lt h ad.block (by rw [hA]; rfl)).1

theorem IntRow.ints_ {w : World} {base : Nat} {A : Option Addr} {n cp : Nat} {l : List Int} (h : IntRow w base (.slice A n cp) l) : n = l.length ∧ Ints w A l.length l := by
  obtain ⟨A', cp', e, hI⟩ := h.ints
  injection e with e1 e2 e3
  subst e1; subst e2
  exact ⟨rfl, hI⟩
theorem IntRow.setBelow {w : World} {base : Nat} {v : Value} {l : List Int} (h : IntRow w base v l) {c : Nat} (hc : c < base) (i : Nat) (u : Value) : IntRow (w.setCell ⟨c, i, none⟩ u) base v l := ownsRow_setCell_below h (by exact hc) u
theorem IntRow.alloc {w : World} {base : Nat} {v : Value} {l : List Int} (h : IntRow w base v l) (o : Obj) : IntRow (w.alloc o) base v l := World.ownsRow.alloc h o
theorem Ints.get {w : World} {A : Option Addr} {n : Nat} {l : List Int} (h : Ints w A n l) {k : Nat} {x : Int} (hk : l[k]? = some x) : ∃ b o, A = some ⟨b, o, none⟩ ∧ w.cell? ⟨b, o + k, none⟩ = some (.int .i64 x) := by
  obtain ⟨hlt, rfl⟩ := List.getElem?_eq_some_iff.1 hk
  obtain ⟨b, o, e, _, hc⟩ := h.2 k hlt
  exact ⟨b, o, e, hc⟩

set_option maxHeartbeats 3200000 in
set_option maxRecDepth 100000 in
theorem mrising_any (w : World) (s : List UInt8) (bad : Bool) (most : Int) (hl : s.length ≤ 100000) (hbad : bad = true → s = []) :
    Calls Try.prog 31 #[mR s bad, .int .i64 most] w fun e w' => MEnd w.heap.size (rsV most s) (rsS most s) (rsB most s bad) e w' ∧ Below w.heap.size w w' := by
  obtain ⟨wA, hwA⟩ : ∃ wA, wA = wMR w s bad := ⟨_, rfl⟩
  obtain ⟨A, hA⟩ : ∃ A, A = w.heap.size := ⟨_, rfl⟩
  obtain ⟨R, hR⟩ : ∃ R, R = w.heap.size + 1 := ⟨_, rfl⟩
  have a0 := wMR_a0 w s bad
  have a1 := wMR_a1 w s bad
  have r0 := wMR_r0 w s bad
  have r1 := wMR_r1 w s bad
  have f0 := wMR_f0 w s bad
  have f1 := wMR_f1 w s bad
  have hAs := wMR_size w s bad
  have hBA := wMR_below w s bad
  rw [← hwA, ← hA] at a0 a1
  rw [← hwA, ← hR] at r0 r1 f0 f1 hAs
  rw [← hwA] at hBA
  unfold wMR at hwA
  have hRw : w.heap.size ≤ R := by omega
  have hAR : A < R := by omega
  have mdA : MD wA R [] false := by rw [hwA, hR]; have := MD.new (w.alloc (.cells #[.string (ofBytes s), .bool bad] 69)) [] false; rw [show (w.alloc (.cells #[.string (ofBytes s), .bool bad] 69)).heap.size = w.heap.size + 1 from by simp] at this; exact this
  have fails : PackM.rRis most s = none → rsS most s = [] ∧ rsB most s bad = true ∧ rsV most s = [] := fun h => by
    unfold rsS rsB rsV; rw [h]; exact ⟨rfl, rfl, rfl⟩
  have HFAIL := Lib.hid fails
  clear fails
  have hv := fun W => mvarint_any W s bad (by omega) hbad
  have hm : PackM.MAXI = 9223372036854775807 := rfl
  have HM := Lib.hid hm
  have hnl := nV_le PackM.MAXI s
  have htl := nS_len PackM.MAXI s
  obtain ⟨n, hn⟩ : ∃ n, n = nV PackM.MAXI s := ⟨_, rfl⟩
  obtain ⟨t0, ht0⟩ : ∃ t0, t0 = nS PackM.MAXI s := ⟨_, rfl⟩
  obtain ⟨b0, hb0⟩ : ∃ b0, b0 = nB PackM.MAXI s bad := ⟨_, rfl⟩
  rw [← hn, hm] at hnl
  rw [← ht0] at htl
  rw [← hn, ← ht0, ← hb0] at hv
  have HN := Lib.hid hn
  have HT0 := Lib.hid ht0
  have HB0 := Lib.hid hb0
  have hmR : mR s bad = .agg #[.string (ofBytes s), .bool bad] := rfl
  rw [hmR] at hv ⊢
  clear hm hn ht0 hb0 hmR
  go_enter Try.func31, Try.ntmps31
  go_wp2_with fail
  rw [← hwA, ← hR, ← hA]
  clear hwA hR hA
  refine (hv _).mono ?_
  rintro e w1 ⟨rfl, hb⟩
  clear hv a0 a1 r0 r1 f0 f1
  have hB1 : Below w.heap.size w w1 := hBA.trans (hb.mono (by omega))
  have hsz1 := hB1.size
  have md1 := mdA.later hb
  have hR1 := md1.lt
  have hBW := hB1.alloc hsz1 (.cells #[.string (ofBytes t0), .bool b0] 69)
  have mdR := md1.alloc (.cells #[.string (ofBytes t0), .bool b0] 69)
  have mdX := MD.new w1 t0 b0
  unfold mR
  cases b0 with
  | true =>
    have hnone : PackM.rRis most s = none := by
      refine rRis_none_num ?_
      cases hnum : PackM.num PackM.MAXI 0 0 s with
      | none => rfl
      | some x =>
        have h1 : true = bad := by have := HB0.out; unfold nB at this; rw [hnum] at this; exact this
        have hs0 := hbad h1.symm
        rw [hs0] at hnum
        cases hnum
    have HX := Lib.hid (HFAIL.out hnone)
    clear hnone hbad
    go_wp2_with fail
    refine (mfail_any _).mono ?_
    rintro e wf ⟨rfl, hbf⟩
    have mdf := mdR.later hbf
    have q0 := mdf.c0
    have q1 := mdf.c1
    have p0 := mdf.free 0
    have p1 := mdf.free 1
    unfold mR
    go_wp2
    have g0 := set2_0 q0 (.string (ofBytes [])) (.bool true) q1
    have g1 := set2_1 q1 (.string (ofBytes [])) (.bool true)
    have gB := below_set2 (hBW.trans (hbf.mono hBW.size)) hRw (.string (ofBytes [])) (.bool true)
    generalize (wf.setCell ⟨R, 0, none⟩ (.string (ofBytes []))).setCell ⟨R, 1, none⟩ (.bool true) = w9 at g0 g1 gB ⊢
    rw [HX.out.1, HX.out.2.1, HX.out.2.2]
    exact bodyPost_ret (v := .tuple #[.agg #[.string (ofBytes []), .bool true], .slice none 0 0]) (by simp [results, Try.results31, go_sem, g0, g1]) rfl ⟨MEnd.none_ rfl, gB⟩
  | false =>
    have hnum : PackM.num PackM.MAXI 0 0 s = some (n, t0) ∧ bad = false := by
      cases hnum : PackM.num PackM.MAXI 0 0 s with
      | none => have := HB0.out; unfold nB at this; rw [hnum] at this; cases this
      | some x =>
        have h1 : n = x.1 := by rw [HN.out]; unfold nV; rw [hnum]
        have h2 : t0 = x.2 := by rw [HT0.out]; unfold nS; rw [hnum]
        have h3 : false = bad := by have := HB0.out; unfold nB at this; rw [hnum] at this; exact this
        rw [h1, h2]
        exact ⟨rfl, h3.symm⟩
    obtain ⟨hnum, rfl⟩ := hnum
    have hrr : PackM.rRis most s = if most < (n : Int) then none else PackM.ris (-1) n t0 := by
      unfold PackM.rRis
      rw [hnum]
      rfl
    have HRR := Lib.hid hrr
    clear hnum hrr hbad
    by_cases hmost : most < (n : Int)
    · have hd : decide (most < (n : Int)) = true := decide_eq_true hmost
      have HX := Lib.hid (HFAIL.out (by rw [HRR.out, if_pos hmost]))
      go_wp2_with fail
      refine (mfail_any _).mono ?_
      rintro e wf ⟨rfl, hbf⟩
      have mdf := mdR.later hbf
      have q0 := mdf.c0
      have q1 := mdf.c1
      have p0 := mdf.free 0
      have p1 := mdf.free 1
      unfold mR
      go_wp2
      have g0 := set2_0 q0 (.string (ofBytes [])) (.bool true) q1
      have g1 := set2_1 q1 (.string (ofBytes [])) (.bool true)
      have gB := below_set2 (hBW.trans (hbf.mono hBW.size)) hRw (.string (ofBytes [])) (.bool true)
      generalize (wf.setCell ⟨R, 0, none⟩ (.string (ofBytes []))).setCell ⟨R, 1, none⟩ (.bool true) = w9 at g0 g1 gB ⊢
      rw [HX.out.1, HX.out.2.1, HX.out.2.2]
      exact bodyPost_ret (v := .tuple #[.agg #[.string (ofBytes []), .bool true], .slice none 0 0]) (by simp [results, Try.results31, go_sem, g0, g1]) rfl ⟨MEnd.none_ rfl, gB⟩
    · have hd : decide (most < (n : Int)) = false := decide_eq_false hmost
      have hrr2 : PackM.rRis most s = PackM.ris (-1) n t0 := by rw [HRR.out, if_neg hmost]
      have HRR2 := Lib.hid hrr2
      obtain ⟨X, hX⟩ : ∃ X, X = w1.heap.size := ⟨_, rfl⟩
      rw [← hX] at mdX hR1
      have hRXl : R < X := hR1
      have hXw : w.heap.size ≤ X := by omega
      have hRX : R ≠ X := by omega
      clear hrr2
      go_wp2
      rw [← hX]
      have hXs : X + 1 ≤ (w1.alloc (.cells #[.string (ofBytes t0), .bool false] 69)).heap.size := by rw [hX]; simp
      clear hX
      generalize w1.alloc (.cells #[.string (ofBytes t0), .bool false] 69) = wB at hBW mdR mdX hXs ⊢
      go_loopw [8, 9] (fun o i wr => ∃ (k : Nat) (acc : List Int) (la : Int) (t : List UInt8), k ≤ n ∧ i = .int .i64 k ∧ acc.length = k ∧ k + t.length ≤ t0.length ∧ (k = 0 → la = -1) ∧ (∀ j, k = j + 1 → acc[j]? = some la) ∧ (0 < k → 0 ≤ la) ∧ -1 ≤ la ∧ la ≤ 9223372036854775807 ∧ IntRow wr (X + 1) o acc ∧ MD wr R [] false ∧ MD wr X t false ∧ X + 1 ≤ wr.heap.size ∧ PackM.ris (-1) n t0 = (PackM.ris la (n - k) t).bind (fun y => some (acc ++ y.1, y.2)) ∧ Below w.heap.size w wr) (fun _ i _ => n - (intOf i).toNat)
      case atStart =>
        refine ⟨0, [], -1, t0, by omega, rfl, rfl, by omega, fun _ => rfl, fun j h => by omega, fun h => by omega, by omega, by omega, IntRow.nil_ _ _, mdR, mdX, hXs, ?_, hBW⟩
        rw [Nat.sub_zero]
        cases PackM.ris (-1) n t0 <;> rfl
      case round =>
        clear hBW mdR mdX hXs md1 hb hB1 hsz1
        obtain ⟨k, acc, la, t, hk, rfl, hak, htk, hz0, hzs, hla0, hla1, hla2, hrow, mdR, mdX, hXs, heq, hBW⟩ := hrel
        obtain ⟨A8, c8, rfl, _⟩ := hrow.ints
        rw [hak]
        have HE := Lib.hid heq
        have HAK := Lib.hid hak
        have HZ0 := Lib.hid hz0
        have HZS := Lib.hid hzs
        have HROW := Lib.hid hrow
        clear heq hak hz0 hzs hrow
        by_cases hlt : k < n
        · have hdk : decide ((k : Int) < (n : Int)) = true := decide_eq_true (by omega)
          have hnk : n - k = (n - (k + 1)) + 1 := by omega
          have x0 := mdX.c0
          have x1 := mdX.c1
          have hv := fun W => mvarint_any W t false (by omega) (fun e => by cases e)
          have hdl := nV_le PackM.MAXI t
          obtain ⟨d, hdE⟩ : ∃ d, d = nV PackM.MAXI t := ⟨_, rfl⟩
          obtain ⟨t2, ht2⟩ : ∃ t2, t2 = nS PackM.MAXI t := ⟨_, rfl⟩
          obtain ⟨b2, hb2⟩ : ∃ b2, b2 = nB PackM.MAXI t false := ⟨_, rfl⟩
          rw [← hdE, HM.out] at hdl
          rw [← hdE, ← ht2, ← hb2] at hv
          have hmR : mR t false = .agg #[.string (ofBytes t), .bool false] := rfl
          rw [hmR] at hv
          have HD := Lib.hid hdE
          have HT2 := Lib.hid ht2
          have HB2 := Lib.hid hb2
          clear hdE ht2 hb2 hmR
          go_wp2_with fail
          refine (hv _).mono ?_
          rintro e w2 ⟨rfl, hbb⟩
          clear hv x0 x1
          have hB2 : Below w.heap.size w w2 := hBW.trans (hbb.mono hBW.size)
          have mdX2 := mdX.later hbb
          have mdR2 := mdR.later hbb
          have y0 := mdX2.c0
          have y1 := mdX2.c1
          have y0f := mdX2.free 0
          have y1f := mdX2.free 1
          have hXlt := mdX2.lt
          have row2 : IntRow w2 (X + 1) (.slice A8 acc.length c8) acc := HROW.out.later hbb
          have hX2 : X + 1 ≤ w2.heap.size := hXlt
          -- behind the store into x
          have mdX3 := (mdX2.set2 t2 b2).alloc (.cells #[.string (ofBytes t2), .bool b2] 69)
          have mdR3 := ((mdR2.other (fun e => hRX e.symm) 0 (.string (ofBytes t2))).other (fun e => hRX e.symm) 1 (.bool b2)).alloc (.cells #[.string (ofBytes t2), .bool b2] 69)
          have row3 := ((row2.setBelow (c := X) (by omega) 0 (.string (ofBytes t2))).setBelow (c := X) (by omega) 1 (.bool b2)).alloc (.cells #[.string (ofBytes t2), .bool b2] 69)
          have hB3 := endB hB2 hXw hB2.size (.cells #[.string (ofBytes t2), .bool b2] 69) (.string (ofBytes t2)) (.bool b2)
          have hX3 : X + 1 ≤ (((w2.setCell ⟨X, 0, none⟩ (.string (ofBytes t2))).setCell ⟨X, 1, none⟩ (.bool b2)).alloc (.cells #[.string (ofBytes t2), .bool b2] 69)).heap.size := by simp [World.setCell]; omega
          unfold mR
          cases b2 with
          | true =>
            have hnone : PackM.num PackM.MAXI 0 0 t = none := by
              cases hnum : PackM.num PackM.MAXI 0 0 t with
              | none => rfl
              | some x => have := HB2.out; unfold nB at this; rw [hnum] at this; cases this
            have hall : PackM.rRis most s = none := by
              rw [HRR2.out, HE.out, hnk]
              simp only [PackM.ris]
              rw [hnone]
              rfl
            have HX := Lib.hid (HFAIL.out hall)
            clear hnone hall
            clear mdR hBW
            have mdR := mdR3
            have hBW := hB3
            clear mdR3 hB3
            go_wp2_with fail
            refine (mfail_any _).mono ?_
            rintro e wf ⟨rfl, hbf⟩
            have mdf := mdR.later hbf
            have q0 := mdf.c0
            have q1 := mdf.c1
            have p0 := mdf.free 0
            have p1 := mdf.free 1
            unfold mR
            go_wp2
            have g0 := set2_0 q0 (.string (ofBytes [])) (.bool true) q1
            have g1 := set2_1 q1 (.string (ofBytes [])) (.bool true)
            have gB := below_set2 (hBW.trans (hbf.mono hBW.size)) hRw (.string (ofBytes [])) (.bool true)
            generalize (wf.setCell ⟨R, 0, none⟩ (.string (ofBytes []))).setCell ⟨R, 1, none⟩ (.bool true) = w9 at g0 g1 gB ⊢
            rw [HX.out.1, HX.out.2.1, HX.out.2.2]
            exact bodyPost_ret (v := .tuple #[.agg #[.string (ofBytes []), .bool true], .slice none 0 0]) (by simp [results, Try.results31, go_sem, g0, g1]) rfl ⟨MEnd.none_ rfl, gB⟩
          | false =>
            have hnum : PackM.num PackM.MAXI 0 0 t = some (d, t2) := by
              cases hnum : PackM.num PackM.MAXI 0 0 t with
              | none => have := HB2.out; unfold nB at this; rw [hnum] at this; cases this
              | some x =>
                have h1 : d = x.1 := by rw [HD.out]; unfold nV; rw [hnum]
                have h2 : t2 = x.2 := by rw [HT2.out]; unfold nS; rw [hnum]
                rw [h1, h2]
            have ht2l := PackM.num_short hnum
            have hstep : PackM.ris (-1) n t0 = if (PackM.MAXI : Int) - 1 - la < (d : Int) then none else (PackM.ris (la + 1 + d) (n - (k + 1)) t2).bind (fun y => some ((acc ++ [la + 1 + (d : Int)]) ++ y.1, y.2)) := by
              rw [HE.out, hnk]
              simp only [PackM.ris]
              rw [hnum]
              simp only [Option.bind]
              by_cases hbig : (PackM.MAXI : Int) - 1 - la < (d : Int)
              · rw [if_pos hbig, if_pos hbig]
              · rw [if_neg hbig, if_neg hbig]
                cases PackM.ris (la + 1 + d) (n - (k + 1)) t2 with
                | none => rfl
                | some y => simp
            have HST := Lib.hid hstep
            clear hstep hnum
            have hal : acc.length ≤ 1000000000 := by rw [HAK.out]; omega
            clear mdR hBW
            rcases Nat.eq_zero_or_pos k with e | e
            · subst e
              have hla := HZ0.out rfl
              subst hla
              have hst2 : PackM.ris (-1) n t0 = (PackM.ris (d : Int) (n - (0 + 1)) t2).bind (fun y => some ((acc ++ [(d : Int)]) ++ y.1, y.2)) := by
                rw [HST.out, if_neg (by rw [HM.out]; omega), show (-1 : Int) + 1 + (d : Int) = (d : Int) from by omega]
              have HS2 := Lib.hid hst2
              have hd0 : decide ((0 : Int) < ((0 : Nat) : Int)) = false := rfl
              clear hst2
              rw [HAK.out] at row3
              go_wp2_with (at_builtin; refine wpList_append_int rfl _ _ rfl (X + 1) _ acc rfl (row3.alloc _) _ _ (d : Int) rfl (by go_simp) (by simp [World.setCell]; omega) hal ?_; intro v' w4 hown' hb4)
              go_wp2
              exact ⟨⟨0 + 1, acc ++ [(d : Int)], d, t2, by omega, by go_num, by rw [List.length_append, HAK.out]; rfl, by omega, fun h => by omega, at_snoc HAK.out _, fun _ => by omega, by omega, by omega, hown', (mdR3.alloc _).under (by omega) hb4, (mdX3.alloc _).under (by omega) hb4, Nat.le_trans (Nat.le_trans hX3 (by simp)) hb4.size, HS2.out, (hB3.alloc hB3.size _).trans (hb4.mono (by omega))⟩, by simp [intOf]; omega⟩
            · obtain ⟨j, rfl⟩ : ∃ j, k = j + 1 := ⟨k - 1, by omega⟩
              have hla3 := hla0 (by omega)
              obtain ⟨bb, oo, hA8, hcb⟩ := row2.ints_.2.get (HZS.out j rfl)
              subst hA8
              have hlt2 := World.ownsRow.lt row2 bb rfl
              have hbX : ¬ X = bb := by omega
              have hbX' : ¬ bb = X := by omega
              have hbz : bb < w2.heap.size := hlt2.2
              have hd0 : decide ((0 : Int) < ((j + 1 : Nat) : Int)) = true := decide_eq_true (by omega)
              rw [HAK.out] at row3
              by_cases hmax : la = 9223372036854775807
              · have hm1 : (la == 9223372036854775807) = true := beq_iff_eq.2 hmax
                have hall : PackM.rRis most s = none := by rw [HRR2.out, HST.out, if_pos (by rw [HM.out]; omega)]
                have HX := Lib.hid (HFAIL.out hall)
                have mdR := mdR3
                have hBW := hB3
                clear hall mdR3 hB3 hmax
                go_wp2_with fail
                refine (mfail_any _).mono ?_
                rintro e wf ⟨rfl, hbf⟩
                have mdf := mdR.later hbf
                have q0 := mdf.c0
                have q1 := mdf.c1
                have p0 := mdf.free 0
                have p1 := mdf.free 1
                unfold mR
                go_wp2
                have g0 := set2_0 q0 (.string (ofBytes [])) (.bool true) q1
                have g1 := set2_1 q1 (.string (ofBytes [])) (.bool true)
                have gB := below_set2 (hBW.trans (hbf.mono hBW.size)) hRw (.string (ofBytes [])) (.bool true)
                generalize (wf.setCell ⟨R, 0, none⟩ (.string (ofBytes []))).setCell ⟨R, 1, none⟩ (.bool true) = w9 at g0 g1 gB ⊢
                rw [HX.out.1, HX.out.2.1, HX.out.2.2]
                exact bodyPost_ret (v := .tuple #[.agg #[.string (ofBytes []), .bool true], .slice none 0 0]) (by simp [results, Try.results31, go_sem, g0, g1]) rfl ⟨MEnd.none_ rfl, gB⟩
              · have hm1 : (la == 9223372036854775807) = false := beq_eq_false_iff_ne.2 hmax
                by_cases hbig : 9223372036854775806 - la < (d : Int)
                · have hdb : decide (9223372036854775806 - la < (d : Int)) = true := decide_eq_true hbig
                  have hall : PackM.rRis most s = none := by rw [HRR2.out, HST.out, if_pos (by rw [HM.out]; omega)]
                  have HX := Lib.hid (HFAIL.out hall)
                  have mdR := mdR3
                  have hBW := hB3
                  clear hall mdR3 hB3
                  go_wp2_with fail
                  refine (mfail_any _).mono ?_
                  rintro e wf ⟨rfl, hbf⟩
                  have mdf := mdR.later hbf
                  have q0 := mdf.c0
                  have q1 := mdf.c1
                  have p0 := mdf.free 0
                  have p1 := mdf.free 1
                  unfold mR
                  go_wp2
                  have g0 := set2_0 q0 (.string (ofBytes [])) (.bool true) q1
                  have g1 := set2_1 q1 (.string (ofBytes [])) (.bool true)
                  have gB := below_set2 (hBW.trans (hbf.mono hBW.size)) hRw (.string (ofBytes [])) (.bool true)
                  generalize (wf.setCell ⟨R, 0, none⟩ (.string (ofBytes []))).setCell ⟨R, 1, none⟩ (.bool true) = w9 at g0 g1 gB ⊢
                  rw [HX.out.1, HX.out.2.1, HX.out.2.2]
                  exact bodyPost_ret (v := .tuple #[.agg #[.string (ofBytes []), .bool true], .slice none 0 0]) (by simp [results, Try.results31, go_sem, g0, g1]) rfl ⟨MEnd.none_ rfl, gB⟩
                · have hdb : decide (9223372036854775806 - la < (d : Int)) = false := decide_eq_false hbig
                  have hst2 := HST.out
                  rw [if_neg (by rw [HM.out]; omega)] at hst2
                  obtain ⟨x, hx⟩ : ∃ x, x = la + 1 + (d : Int) := ⟨_, rfl⟩
                  rw [← hx] at hst2
                  have hxI : la + (d : Int) + 1 = x := by omega
                  have hx1 : 0 ≤ x := by omega
                  have hx2 : x ≤ 9223372036854775807 := by omega
                  have HS2 := Lib.hid hst2
                  clear hst2 hx
                  go_wp2_with (at_builtin; refine wpList_append_int rfl _ _ rfl (X + 1) _ acc rfl (row3.alloc _) _ _ x rfl (by go_simp) (by simp [World.setCell]; omega) hal ?_; intro v' w4 hown' hb4)
                  go_wp2
                  exact ⟨⟨j + 1 + 1, acc ++ [x], x, t2, by omega, by go_num, by rw [List.length_append, HAK.out]; rfl, by omega, fun h => by omega, at_snoc HAK.out _, fun _ => by omega, by omega, by omega, hown', (mdR3.alloc _).under (by omega) hb4, (mdX3.alloc _).under (by omega) hb4, Nat.le_trans (Nat.le_trans hX3 (by simp)) hb4.size, HS2.out, (hB3.alloc hB3.size _).trans (hb4.mono (by omega))⟩, by simp [intOf]; omega⟩
        · have hdk : decide ((k : Int) < (n : Int)) = false := decide_eq_false (by omega)
          have hke : n - k = 0 := by omega
          have hres : PackM.rRis most s = some (acc, t) := by rw [HRR2.out, HE.out, hke]; simp [PackM.ris]
          have HRES := Lib.hid hres
          have x0 := mdX.c0
          have x1 := mdX.c1
          have q0 := mdR.c0
          have q1 := mdR.c1
          have p0 := mdR.free 0
          have p1 := mdR.free 1
          have hI := HROW.out.ints_.2
          have HI := Lib.hid hI
          clear hres hI
          go_wp2
          have g0 := set2_0 q0 (.string (ofBytes t)) (.bool false) q1
          have g1 := set2_1 q1 (.string (ofBytes t)) (.bool false)
          have gB := below_set2 hBW hRw (.string (ofBytes t)) (.bool false)
          have gI := ((HROW.out.setBelow (c := R) (by omega) 0 (.string (ofBytes t))).setBelow (c := R) (by omega) 1 (.bool false)).ints_.2
          generalize (wr.setCell ⟨R, 0, none⟩ (.string (ofBytes t))).setCell ⟨R, 1, none⟩ (.bool false) = w9 at g0 g1 gB gI ⊢
          have hx3 : rsV most s = acc ∧ rsS most s = t ∧ rsB most s false = false := by unfold rsV rsS rsB; rw [HRES.out]; exact ⟨rfl, rfl, rfl⟩
          rw [hx3.1, hx3.2.1, hx3.2.2]
          exact bodyPost_ret (v := .tuple #[.agg #[.string (ofBytes t), .bool false], .slice A8 k c8]) (by simp [results, Try.results31, go_sem, g0, g1]) rfl ⟨⟨A8, c8, by rw [HAK.out]; rfl, fun ad h => Nat.le_trans (by omega) (HROW.out.blk ad h), gI⟩, gB⟩
end Go.Proofs.Ytdjbdhfellofoaa
