/- Own texts, merged (38 of 42). -/
import Derived.Test.YtddnnhfffmhpmaaGreatDoorSm34
import Derived.Test.YtddnnhfffmhpmaaGreatDoorSm37

/- Acts of law 11 that came in, as the walks take them. -/
namespace Go.Proofs.YtddnnhfffmhpmaaGreatDoor.St
open Go.ChangeShapes Go.WideShapes Go.ChangeAt Go.RowKit Go.Proofs.YtddnnhfffmhpmaaGreatDoor DocM StoM Do

theorem cells_act11 : Tryz.prog.cellsOf 39 = 8 := by kernel_rfl
theorem cells_cut11 : Tryz.prog.cellsOf 37 = 2 := by kernel_rfl
set_option maxRecDepth 100000 in
/-- terms that came in, with room behind them or none -/
theorem terms_prd {H : Type} {enc : TypeId × Value → H} {W : World} {fuel : Nat} {cs : List Value} {x : DataW H × List MemPlace} (hf : DataW.trod enc Tryz.prog W 0 (fun _ => true) true fuel 30 cs = some x) :
    ∃ A n cp l, cs = [.slice A n cp] ∧ Prd W (.slice A n cp) l := by
  rcases Go.Deep.open_slice Tryz.underlying30 hf with ⟨hcs, _⟩ | ⟨a, len, cap, m, n, D, Pl, hcs, h1, hl, h2, hm, hx, hcell⟩
  · exact ⟨none, 0, 0, [], hcs, none, 0, rfl, Nat.le_refl _, fun _ => rfl, rfl, fun k hk => by simp at hk⟩
  · obtain ⟨A, n', cp, l, hcs2, hP⟩ := terms_of_trod0 hf
    rw [hcs] at hcs2
    injection hcs2 with hcs2
    injection hcs2 with e1 e2 e3
    subst e1 e2 e3
    obtain rfl : len = l.length := hP.1.symm
    exact ⟨some a, _, cap, l, hcs, some a, cap, rfl, by omega, fun h => (by cases h), hP⟩
theorem len3 {α : Type} {l : List α} (h : l.length = 3) : ∃ a b c, l = [a, b, c] := by
  match l, h with
  | [a, b, c], _ => exact ⟨a, b, c, rfl⟩
theorem len8 {α : Type} {l : List α} (h : l.length = 8) : ∃ a b c d e f g h, l = [a, b, c, d, e, f, g, h] := by
  match l, h with
  | [a, b, c, d, e, f, g, h], _ => exact ⟨a, b, c, d, e, f, g, h, rfl⟩
set_option maxRecDepth 100000 in
/-- an act that came in -/
theorem act11_of_trod {H : Type} {enc : TypeId × Value → H} {W : World} {fuel : Nat} {cs : List Value} {x : DataW H × List MemPlace} (h : DataW.trod enc Tryz.prog W 0 (fun _ => true) true fuel 39 cs = some x) :
    ∃ (a : Ax) (p q : Option Addr) (n1 k1 m1 j1 : Nat), cs = [.int .i64 a.kind, .int .i64 a.c.1.doc, .slice p n1 k1, .slice q m1 j1, .int .i64 a.c.1.tags, .bool a.c.1.gone, .int .i64 a.at_, .int .i64 a.keep] ∧ a.c.2.1 = .slice p n1 k1 ∧ a.c.2.2 = .slice q m1 j1 ∧ Prd W (.slice p n1 k1) a.c.1.ts ∧ Vrd W (.slice q m1 j1) a.c.1.v ∧ a.at_ ≤ 9223372036854775807 := by
  obtain ⟨xs, n, _, _, hlen, hxl, hf⟩ := DataW.trod_struct Tryz.underlying39 h
  rw [cells_act11] at hlen
  obtain ⟨v0, v1, v2, v3, v4, v5, v6, v7, rfl⟩ := len8 hlen
  obtain ⟨y0, y1, y2, rfl⟩ := len3 hxl
  have f0 : DataW.trod enc Tryz.prog W 0 (fun _ => true) true n 3 (([v0, v1, v2, v3, v4, v5, v6, v7].drop 0).take (Tryz.prog.cellsOf 3)) = some y0 := hf 0 _ rfl
  have f1 : DataW.trod enc Tryz.prog W 0 (fun _ => true) true n 35 (([v0, v1, v2, v3, v4, v5, v6, v7].drop 1).take (Tryz.prog.cellsOf 35)) = some y1 := hf 1 _ rfl
  have f2 : DataW.trod enc Tryz.prog W 0 (fun _ => true) true n 37 (([v0, v1, v2, v3, v4, v5, v6, v7].drop 6).take (Tryz.prog.cellsOf 37)) = some y2 := hf 2 _ rfl
  rw [cells_int10] at f0
  rw [cells_chg] at f1
  rw [cells_cut11] at f2
  obtain ⟨kd, ek, _⟩ := DataW.trod_int Tryz.underlying3 f0
  obtain ⟨us, n1', _, _, _, hul, hu⟩ := DataW.trod_struct Tryz.underlying37 f2
  obtain ⟨u0, u1, rfl⟩ := len2 hul
  have g0 : DataW.trod enc Tryz.prog W 0 (fun _ => true) true n1' 3 (([v6, v7].drop 0).take (Tryz.prog.cellsOf 3)) = some u0 := hu 0 _ rfl
  have g1 : DataW.trod enc Tryz.prog W 0 (fun _ => true) true n1' 3 (([v6, v7].drop 1).take (Tryz.prog.cellsOf 3)) = some u1 := hu 1 _ rfl
  rw [cells_int10] at g0 g1
  obtain ⟨ca, ea, _, wa⟩ := DataW.trod_int Tryz.underlying3 g0
  obtain ⟨ck, ec, _⟩ := DataW.trod_int Tryz.underlying3 g1
  obtain ⟨zs, n2', _, _, _, hzl, hz⟩ := DataW.trod_struct Tryz.underlying35 f1
  obtain ⟨z0, z1, rfl⟩ := len2 hzl
  have i0 : DataW.trod enc Tryz.prog W 0 (fun _ => true) true n2' 33 (([v1, v2, v3, v4, v5].drop 0).take (Tryz.prog.cellsOf 33)) = some z0 := hz 0 _ rfl
  have i1 : DataW.trod enc Tryz.prog W 0 (fun _ => true) true n2' 4 (([v1, v2, v3, v4, v5].drop 4).take (Tryz.prog.cellsOf 4)) = some z1 := hz 1 _ rfl
  rw [cells_rec] at i0
  rw [cells_bool10] at i1
  obtain ⟨b, eb, _⟩ := DataW.trod_bool Tryz.underlying4 i1
  obtain ⟨rs, n3', _, _, _, hrl, hr⟩ := DataW.trod_struct Tryz.underlying33 i0
  obtain ⟨r0, r1, r2, r3, rfl⟩ := len4 hrl
  have j0 : DataW.trod enc Tryz.prog W 0 (fun _ => true) true n3' 3 (([v1, v2, v3, v4].drop 0).take (Tryz.prog.cellsOf 3)) = some r0 := hr 0 _ rfl
  have j1 : DataW.trod enc Tryz.prog W 0 (fun _ => true) true n3' 30 (([v1, v2, v3, v4].drop 1).take (Tryz.prog.cellsOf 30)) = some r1 := hr 1 _ rfl
  have j2 : DataW.trod enc Tryz.prog W 0 (fun _ => true) true n3' 31 (([v1, v2, v3, v4].drop 2).take (Tryz.prog.cellsOf 31)) = some r2 := hr 2 _ rfl
  have j3 : DataW.trod enc Tryz.prog W 0 (fun _ => true) true n3' 3 (([v1, v2, v3, v4].drop 3).take (Tryz.prog.cellsOf 3)) = some r3 := hr 3 _ rfl
  rw [cells_int10] at j0 j3
  rw [cells_terms] at j1
  rw [cells_ints10] at j2
  obtain ⟨di, e0, _⟩ := DataW.trod_int Tryz.underlying3 j0
  obtain ⟨A, m, cp, ts, e1, hP⟩ := terms_prd j1
  obtain ⟨A2, m2, cp2, vs, e2, hI⟩ := ivs_of_trod0 j2
  obtain ⟨ti, e3, _⟩ := DataW.trod_int Tryz.underlying3 j3
  simp at ek ea ec eb e0 e1 e2 e3
  subst ek ea ec eb e0 e1 e2 e3
  obtain rfl : m2 = vs.length := hI.1.symm
  exact ⟨⟨kd, (⟨di, ts, vs, ti, b⟩, .slice A m cp, .slice A2 vs.length cp2), ca, ck⟩, A, A2, m, cp, vs.length, cp2, rfl, rfl, rfl, hP, ⟨A2, cp2, rfl, hI⟩, (bounds_i64 wa).2⟩
/-- one act's cells at a place -/
def ActAt (W : World) (a : Addr) (i : Nat) (t : Ax) : Prop := ∃ (p q : Option Addr) (n1 k1 m1 j1 : Nat), t.c.2.1 = .slice p n1 k1 ∧ t.c.2.2 = .slice q m1 j1 ∧ Prd W (.slice p n1 k1) t.c.1.ts ∧ Vrd W (.slice q m1 j1) t.c.1.v ∧ W.cell? (a.add (i * 8)) = some (.int .i64 t.kind) ∧ W.cell? (a.add (i * 8 + 1)) = some (.int .i64 t.c.1.doc) ∧ W.cell? (a.add (i * 8 + 2)) = some (.slice p n1 k1) ∧ W.cell? (a.add (i * 8 + 3)) = some (.slice q m1 j1) ∧ W.cell? (a.add (i * 8 + 4)) = some (.int .i64 t.c.1.tags) ∧ W.cell? (a.add (i * 8 + 5)) = some (.bool t.c.1.gone) ∧ W.cell? (a.add (i * 8 + 6)) = some (.int .i64 t.at_) ∧ W.cell? (a.add (i * 8 + 7)) = some (.int .i64 t.keep) ∧ t.at_ ≤ 9223372036854775807
set_option maxRecDepth 100000 in
/-- acts that came in -/
theorem acts11_of_trod {H : Type} {enc : TypeId × Value → H} {W : World} {v : Value} {d : DataW H} {ps : List MemPlace} {base : Nat} (hv : Value.okWide Tryz.prog W .any base 22 v)
    (h : DataW.Trod enc Tryz.prog W 0 (fun _ => true) true 22 v d ps) : ∃ A n cp l, v = .slice A n cp ∧ ActsR W A n l ∧ ∀ a ∈ l, a.at_ ≤ 9223372036854775807 := by
  obtain ⟨a0, len, cap, rfl⟩ := okWide_slice Tryz.underlying22 hv
  obtain ⟨fuel, hf⟩ := h
  rcases Go.Deep.open_slice Tryz.underlying22 hf with ⟨hcs, _⟩ | ⟨a, len', cap', m, n, D, Pl, hcs, _, hl, _, hm, hx, hcell⟩
  · have e : a0 = none ∧ len = 0 ∧ cap = 0 := by simpa [Value.cells] using hcs
    obtain ⟨rfl, rfl, rfl⟩ := e
    exact ⟨none, 0, 0, [], rfl, ⟨rfl, fun k hk => by simp at hk⟩, fun x hx => by simp at hx⟩
  · have e : a0 = some a ∧ len = len' ∧ cap = cap' := by simpa [Value.cells] using hcs
    obtain ⟨rfl, rfl, rfl⟩ := e
    simp only [if_true] at hm
    rw [cells_act11] at hcell
    have hone : ∀ i, i < len → ∃ t : Ax, ActAt W a i t := by
      intro i hi
      obtain ⟨cs', hc, ht⟩ := hcell i (by omega)
      obtain ⟨t, p, q, n1, k1, m1, j1, rfl, e1, e2, hP, hI, hat⟩ := act11_of_trod ht
      obtain ⟨_, _, hat8⟩ := World.cells?_some hc
      have c := fun j (hj : j < 8) => hat8 j hj
      simp only [Go.Deep.add_add] at c
      exact ⟨t, p, q, n1, k1, m1, j1, e1, e2, hP, hI, c 0 (by omega), c 1 (by omega), c 2 (by omega), c 3 (by omega), c 4 (by omega), c 5 (by omega), c 6 (by omega), c 7 (by omega), hat⟩
    obtain ⟨f, hfE⟩ : ∃ f : Nat → Ax, ∀ i, i < len → ActAt W a i (f i) :=
      ⟨fun i => if h : i < len then (hone i h).choose else ⟨0, (ch0, .slice none 0 0, .slice none 0 0), 0, 0⟩, fun i hi => by simp only [hi, dif_pos]; exact (hone i hi).choose_spec⟩
    refine ⟨some a, len, cap, (List.range len).map f, rfl, ⟨by simp, fun k hk => ?_⟩, fun x hx => ?_⟩
    rotate_left
    · obtain ⟨i, hi, rfl⟩ := List.mem_map.1 hx
      obtain ⟨_, _, _, _, _, _, _, _, _, _, _, _, _, _, _, _, _, _, hat⟩ := hfE i (List.mem_range.1 hi)
      exact hat
    have hk' : k < len := by simpa using hk
    obtain ⟨p, q, n1, k1, m1, j1, e1, e2, hP, hI, c0, c1, c2, c3, c4, c5, c6, c7, _⟩ := hfE k hk'
    obtain ⟨_, _, _, _, _, _, _, _, _, _, z0, _⟩ := hfE 0 (by omega)
    obtain ⟨b, o, spot⟩ := a
    have hspot : spot = none := by simpa [Addr.add] using World.cell?_spot z0
    subst hspot
    rw [add_none] at c0 c1 c2 c3 c4 c5 c6 c7
    simp only [List.getElem_map, List.getElem_range]
    exact ⟨b, o, rfl, World.block_lt_of_cell? W _ c0, p, q, n1, k1, m1, j1, e1, e2, hP, hI, c0, c1, c2, c3, c4, c5, c6, c7⟩
end Go.Proofs.YtddnnhfffmhpmaaGreatDoor.St
