
/- What looks a file up. -/
import Derived.Test.YteigkmeenokfoaaVdB
namespace Go.Proofs.Yteigkmeenokfoaa.Vd
open Go.RowKit Go.Proofs.Yteigkmeenokfoaa VdM Go.Maps

abbrev nilS : Value := .slice none 0 0
/-- the row, and the number of synced bytes, of what a look-up answers -/
def rowOf (V : Name → Value) (n : Name) : Option Fil → Value
  | none => nilS
  | some _ => V n
def synOf : Option Fil → Int
  | none => 0
  | some f => f.syn
theorem file_zero (w : World) : (zeroValue 56).run Try.prog w = .ok (fileV nilS 0) w := by kernel_rfl
theorem held_inj {u v : Value} (h : (.held u : MD) = .held v) : u = v := by injection h
theorem look_val {D : MD} {V : Name → Value} {fs : Fils} (hr : Rep D V fs) {n : Name} {v : Value} {ps : List MemPlace} (hv : fileElem v = some (D.atKey (keyS n) (.held (fileV nilS 0)), ps)) : v = fileV (rowOf V n (lkF fs n)) (synOf (lkF fs n)) := by
  obtain ⟨p, k, c, x, rfl, e⟩ := fileElem_inv hv
  injection e with e _
  cases hl : lkF fs n with
  | none =>
    have hn : Maps.has D (keyS n) = false := by rw [hr.has n, hl]; rfl
    rw [atKey_of_not_has hn] at e
    exact (held_inj e).symm
  | some f =>
    rw [hr.at_ n f hl] at e
    exact (held_inj e).symm
theorem wpList_look_file {w : World} {ops : Array Oper} {rest : List Oper} {o : Oper} {a : Act} {Q : Exit → Act → World → Prop} (hg : o.guard = none) (mo x : Operand) (hop : o.op = Op.lookup 44 mo x true)
    (m nn : Nat) (D : MD) (V : Name → Value) (fs : Fils) (hm : a.eval mo = .map (some m)) (hown : Own w m nn D) (hr : Rep D V fs) (nm : ByteArray) (hx : a.eval x = .string nm) (hkey : keyOf Try.prog 9 (.string nm) = some (keyS nm.data.toList)) (q : Option Fil) (hq : lkF fs nm.data.toList = q)
    (hK : wpList Try.prog ops Q rest (a.put o.dst (.tuple #[fileV (rowOf V nm.data.toList q) (synOf q), .bool q.isSome])) w) : wpList Try.prog ops Q (o :: rest) a w := by
  refine wpList_lookup_own_ok w hg mo x 44 hop 9 56 key_law Try.underlying44 fileElem (file_zero w) (.held (fileV nilS 0)) [] rfl m nn D hm hown _ (keyS nm.data.toList) hx hkey ?_
  intro v ps hv
  rw [hr.has nm.data.toList, hq]
  have e := look_val hr hv
  rw [hq] at e
  rw [e]
  exact hK
theorem look_run {w : World} {m nn : Nat} {D : MD} {V : Name → Value} {fs : Fils} (hown : Own w m nn D) (hr : Rep D V fs) (nm : ByteArray) (hkey : keyOf Try.prog 9 (.string nm) = some (keyS nm.data.toList)) (q : Option Fil) (hq : lkF fs nm.data.toList = q) :
    (Instr.lookup 44 (.map (some m)) (.string nm) false).run Try.prog w = .ok (fileV (rowOf V nm.data.toList q) (synOf q)) w := by
  obtain ⟨v, ps, hrun, hv⟩ := hown.lookup key_law Try.underlying44 (file_zero w) (rfl : fileElem (fileV nilS 0) = some (.held (fileV nilS 0), [])) hkey
  have e := look_val hr hv
  rw [hq] at e
  rw [hrun, e]
theorem look_run_ok {w : World} {m nn : Nat} {D : MD} {V : Name → Value} {fs : Fils} (hown : Own w m nn D) (hr : Rep D V fs) (nm : ByteArray) (hkey : keyOf Try.prog 9 (.string nm) = some (keyS nm.data.toList)) (q : Option Fil) (hq : lkF fs nm.data.toList = q) :
    (Instr.lookup 44 (.map (some m)) (.string nm) true).run Try.prog w = .ok (.tuple #[fileV (rowOf V nm.data.toList q) (synOf q), .bool q.isSome]) w := by
  obtain ⟨v, ps, hrun, hv⟩ := hown.look_ok key_law Try.underlying44 (file_zero w) (rfl : fileElem (fileV nilS 0) = some (.held (fileV nilS 0), [])) hkey
  have e := look_val hr hv
  rw [hq] at e
  rw [hrun, e, hr.has nm.data.toList, hq]
theorem vset2_0 {w1 : World} {R : Nat} {v0 v1 : Value} (h0 : w1.cell? ⟨R, 0, none⟩ = some v0) (x y : Value) (_h1 : w1.cell? ⟨R, 1, none⟩ = some v1) : ((w1.setCell ⟨R, 0, none⟩ x).setCell ⟨R, 1, none⟩ y).cell? ⟨R, 0, none⟩ = some x := by
  rw [World.cell?_setCell_other _ _ _ _ (fun e => by injection e with e1 e2; omega), World.cell?_setCell_same _ _ _ h0]
theorem vset2_1 {w1 : World} {R : Nat} {v1 : Value} (h1 : w1.cell? ⟨R, 1, none⟩ = some v1) (x y : Value) : ((w1.setCell ⟨R, 0, none⟩ x).setCell ⟨R, 1, none⟩ y).cell? ⟨R, 1, none⟩ = some y := by
  have : (w1.setCell ⟨R, 0, none⟩ x).cell? ⟨R, 1, none⟩ = some v1 := by rw [World.cell?_setCell_other _ _ _ _ (fun e => by injection e with e1 e2; omega), h1]
  rw [World.cell?_setCell_same _ _ _ this]
theorem vbelow_set2 {n R : Nat} {w w1 : World} (h : Below n w w1) (hR : n ≤ R) (x y : Value) : Below n w ((w1.setCell ⟨R, 0, none⟩ x).setCell ⟨R, 1, none⟩ y) := (h.setCell (by exact hR) _).setCell (by exact hR) _
theorem At.shape {w : World} {F : Nat → Prop} {d m : Nat} {D : MD} {V : Name → Value} {s : Dsk} (h : At w F d m D V s) (n : Name) : ∃ p k c, rowOf V n (lkF s.fs n) = .slice p k c := by
  cases hl : lkF s.fs n with
  | none => exact ⟨_, _, _, rfl⟩
  | some f =>
    obtain ⟨p, c, e⟩ := (h.row n f hl).shape
    exact ⟨p, _, c, e⟩
/-- what find answers -/
def findV (V : Name → Value) (s : Dsk) (n : Name) : Value := if s.down then nilS else rowOf V n (lkF s.fs n)
def findS (s : Dsk) (n : Name) : Int := if s.down then 0 else synOf (lkF s.fs n)
set_option maxHeartbeats 2000000 in
set_option maxRecDepth 100000 in
theorem find_any (w : World) (F : Nat → Prop) (d m : Nat) (D : MD) (V : Name → Value) (s : Dsk) (h : At w F d m D V s) (nm : ByteArray) (hn : nm.size ≤ 1000000000) :
    Calls Try.prog 26 #[.pointer (some ⟨d, 0, none⟩), .string nm] w fun e w' => e = .returned (.tuple #[fileV (findV V s nm.data.toList) (findS s nm.data.toList), .int .i64 (findE s nm.data.toList)]) ∧ Below w.heap.size w w' := by
  obtain ⟨c0, c1, c2, c3, c4, c5⟩ := h.cells
  have hdl := h.dlt
  have hB0 := pl1 w (.cells #[nilS, .int .i64 0] 56)
  have hX0 := heap_alloc_new w (.cells #[nilS, .int .i64 0] 56)
  have HX0 := Lib.hid hX0
  have g0 := cell_of_cells (i := 0) hX0 rfl
  have g1 := cell_of_cells (i := 1) hX0 rfl
  have f0 := frozen_of_cells (i := 0) hX0
  have f1 := frozen_of_cells (i := 1) hX0
  have y1 := (hB0.cell (p := ⟨d, 1, none⟩) hdl).trans c1
  have y2 := (hB0.cell (p := ⟨d, 2, none⟩) hdl).trans c2
  have HB0 := Lib.hid hB0
  have HO := Lib.hid ((h.later hB0).own)
  have HR := Lib.hid h.rep
  have hkey := key_is nm hn
  have HK := Lib.hid hkey
  clear c0 c3 c4 c5 hX0 hB0 hkey
  cases hd : s.down with
  | true =>
    rw [hd] at y2 c2
    have HE : Hid (findV V s nm.data.toList = nilS ∧ findS s nm.data.toList = 0 ∧ findE s nm.data.toList = 7) := Lib.hid (by unfold findV findS findE; rw [hd]; exact ⟨rfl, rfl, rfl⟩)
    rw [HE.out.1, HE.out.2.1, HE.out.2.2]
    clear h hd HE
    go_enter Try.func26, Try.ntmps26
    go_wp2
    exact bodyPost_ret (v := .tuple #[fileV nilS 0, .int .i64 7]) (by simp [results, Try.results26, go_sem, g0, g1]) rfl ⟨rfl, HB0.out⟩
  | false =>
    rw [hd] at y2 c2
    obtain ⟨q, hq⟩ : ∃ q, lkF s.fs nm.data.toList = q := ⟨_, rfl⟩
    have HE : Hid (findV V s nm.data.toList = rowOf V nm.data.toList q ∧ findS s nm.data.toList = synOf q ∧ findE s nm.data.toList = if q.isSome then 0 else 4) := Lib.hid (by unfold findV findS findE; rw [hd, hq]; exact ⟨rfl, rfl, rfl⟩)
    rw [HE.out.1, HE.out.2.1, HE.out.2.2]
    have HQ := Lib.hid hq
    obtain ⟨sp, sn, sc, hsl0⟩ := h.shape nm.data.toList
    rw [hq] at hsl0
    have hsl := hsl0.symm
    clear hsl0
    obtain ⟨sy, hsy⟩ : ∃ v, v = synOf q := ⟨_, rfl⟩
    obtain ⟨ok, hok⟩ : ∃ v, v = q.isSome := ⟨_, rfl⟩
    have HN : Hid (ok = false → (.slice sp sn sc : Value) = nilS ∧ sy = 0) := Lib.hid (fun h => by cases q <;> simp_all [rowOf, synOf])
    rw [← hsl, ← hsy, ← hok]
    have hrn := look_run_ok HO.out HR.out nm HK.out q HQ.out
    rw [← hsl, ← hsy, ← hok] at hrn
    have HRN := Lib.hid hrn
    clear h hd HE hq hsl hsy hok HQ
    have hB1 := HB0.out.trans ((pl1 (w.alloc (.cells #[nilS, .int .i64 0] 56)) (.cells #[.slice sp sn sc, .int .i64 sy] 56)).mono (by simp))
    have hY := blk_stay (pl1 (w.alloc (.cells #[nilS, .int .i64 0] 56)) (.cells #[.slice sp sn sc, .int .i64 sy] 56)) HX0.out
    have HB1 := Lib.hid hB1
    have HY := Lib.hid hY
    clear hB1 hY
    cases ok with
    | false =>
      obtain ⟨hsn, rfl⟩ := HN.out rfl
      injection hsn with e1 e2 e3
      subst e1 e2 e3
      clear HN
      go_enter Try.func26, Try.ntmps26
      go_wp2
      have k0 := cell_of_cells (i := 0) HY.out rfl
      have k1 := cell_of_cells (i := 1) HY.out rfl
      exact bodyPost_ret (v := .tuple #[fileV nilS 0, .int .i64 4]) (by simp [results, Try.results26, go_sem, k0, k1]) rfl ⟨rfl, HB1.out⟩
    | true =>
      go_enter Try.func26, Try.ntmps26
      have j0 := cell_of_cells (i := 0) HY.out rfl
      have j1 := cell_of_cells (i := 1) HY.out rfl
      have e0 := frozen_of_cells (i := 0) HY.out
      have e1 := frozen_of_cells (i := 1) HY.out
      clear HN
      go_wp2
      have hZ := blk_stay (pl1 (w.alloc (.cells #[.slice sp sn sc, .int .i64 sy] 56)) (.cells #[.slice sp sn sc, .int .i64 sy] 56)) (heap_alloc_new w (.cells #[.slice sp sn sc, .int .i64 sy] 56))
      have k0 := cell_of_cells (i := 0) hZ rfl
      have k1 := cell_of_cells (i := 1) hZ rfl
      exact bodyPost_ret (v := .tuple #[fileV (.slice sp sn sc) sy, .int .i64 0]) (by simp [results, Try.results26, go_sem, k0, k1]) rfl ⟨rfl, (pl1 _ _).trans ((pl1 _ _).mono (by simp))⟩
end Go.Proofs.Yteigkmeenokfoaa.Vd
