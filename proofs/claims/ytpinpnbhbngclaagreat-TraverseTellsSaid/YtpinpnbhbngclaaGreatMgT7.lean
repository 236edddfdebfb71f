/- Own texts, merged (7 of 8). -/
import Derived.Deep.Slices
import Derived.SizedLaws
import Derived.Deep.DeepCutAuto
import Derived.Deep.CutBlock
import Derived.IntWalk
import Derived.Deep.RegionHeld3
import Derived.BigQuiet
import Derived.OwnWalk
import Derived.Laws.StructEq
import Derived.Test.YtpinpnbhbngclaaGreatMgT6

/- Posts that came in, as the walks take them. -/
namespace Go.Proofs.YtpinpnbhbngclaaGreat
open Go.ChangeShapes Go.WideShapes Go.ChangeAt Go.RowKit

theorem cells_post : Tryz.prog.cellsOf 60 = 2 := by kernel_rfl
theorem cells_int5 : Tryz.prog.cellsOf 3 = 1 := by kernel_rfl
set_option maxRecDepth 100000 in
/-- one post, as it is read: two ints -/
theorem post_of_trod {H : Type} {enc : TypeId × Value → H} {W : World} {fuel : Nat} {cs : List Value} {x : DataW H × List MemPlace} (h : DataW.trod enc Tryz.prog W 0 (fun _ => true) true fuel 60 cs = some x) :
    ∃ a b : Int, cs = [.int .i64 a, .int .i64 b] := by
  obtain ⟨xs, n, _, _, hlen, hxl, hf⟩ := DataW.trod_struct Tryz.underlying60 h
  rw [cells_post] at hlen
  obtain ⟨v0, v1, rfl⟩ : ∃ v0 v1, cs = [v0, v1] := by
    match cs, hlen with
    | [v0, v1], _ => exact ⟨v0, v1, rfl⟩
  obtain ⟨y0, y1, rfl⟩ : ∃ y0 y1, xs = [y0, y1] := by
    match xs, hxl with
    | [y0, y1], _ => exact ⟨y0, y1, rfl⟩
  have f0 : DataW.trod enc Tryz.prog W 0 (fun _ => true) true n 3 (([v0, v1].drop 0).take (Tryz.prog.cellsOf 3)) = some y0 := hf 0 _ rfl
  have f1 : DataW.trod enc Tryz.prog W 0 (fun _ => true) true n 3 (([v0, v1].drop 1).take (Tryz.prog.cellsOf 3)) = some y1 := hf 1 _ rfl
  rw [cells_int5] at f0 f1
  obtain ⟨a, ea, _⟩ := DataW.trod_int Tryz.underlying3 f0
  obtain ⟨b, eb, _⟩ := DataW.trod_int Tryz.underlying3 f1
  simp at ea eb
  exact ⟨a, b, by rw [ea, eb]⟩

set_option maxRecDepth 100000 in
/-- a slice of posts that came in, as the walk takes it -/
theorem posts_of_trod {H : Type} {enc : TypeId × Value → H} {W : World} {v : Value} {d : DataW H} {ps : List MemPlace} {base : Nat} (hv : Value.okWide Tryz.prog W .any base 61 v) (hp : ∀ x ∈ ps, x.block < W.heap.size)
    (h : DataW.Trod enc Tryz.prog W 0 (fun _ => true) true 61 v d ps) :
    ∃ A n cp l, v = .slice A n cp ∧ l.length = n ∧ Prd W (.slice A n cp) l := by
  obtain ⟨a0, len, cap, rfl⟩ := okWide_slice Tryz.underlying61 hv
  obtain ⟨fuel, hf⟩ := h
  rcases Go.Deep.open_slice Tryz.underlying61 hf with ⟨hcs, _⟩ | ⟨a, len', cap', m, n, D, Pl, hcs, _, hl, _, hm, hx, hcell⟩
  · have e : a0 = none ∧ len = 0 ∧ cap = 0 := by simpa [Value.cells] using hcs
    obtain ⟨rfl, rfl, rfl⟩ := e
    exact ⟨none, 0, 0, [], rfl, rfl, none, 0, rfl, Nat.le_refl _, fun _ => rfl, rfl, fun k hk => by simp at hk⟩
  · have e : a0 = some a ∧ len = len' ∧ cap = cap' := by simpa [Value.cells] using hcs
    obtain ⟨rfl, rfl, rfl⟩ := e
    simp only [if_true] at hm
    rw [cells_post] at hcell hx
    have hone : ∀ i, i < len → ∃ t : Int × Int, W.cell? (a.add (i * 2)) = some (.int .i64 t.1) ∧ W.cell? (a.add (i * 2 + 1)) = some (.int .i64 t.2) := by
      intro i hi
      obtain ⟨cs', hc, ht⟩ := hcell i (by omega)
      obtain ⟨x, y, rfl⟩ := post_of_trod ht
      obtain ⟨_, _, hat⟩ := World.cells?_some hc
      have c0 := hat 0 (by omega)
      have c1 := hat 1 (by omega)
      rw [Go.Deep.add_add] at c0 c1
      exact ⟨(x, y), c0, c1⟩
    obtain ⟨f, hfE⟩ : ∃ f : Nat → Int × Int, ∀ i, i < len → W.cell? (a.add (i * 2)) = some (.int .i64 (f i).1) ∧ W.cell? (a.add (i * 2 + 1)) = some (.int .i64 (f i).2) :=
      ⟨fun i => if h : i < len then (hone i h).choose else (0, 0), fun i hi => by simp only [hi, dif_pos]; exact (hone i hi).choose_spec⟩
    refine ⟨some a, len, cap, (List.range len).map f, rfl, by simp, some a, cap, by simp, by simpa using hl, (fun e => by cases e), by simp, fun k hk => ?_⟩
    have hk' : k < len := by simpa using hk
    obtain ⟨c0, c1⟩ := hfE k hk'
    have hpl : a.block < W.heap.size := by
      simp only [Prod.mk.injEq] at hx
      have := hp (.cell a.block (a.off + k * 2)) (by rw [hx.2]; exact List.mem_append_left _ (MemPlace.mem_row.2 ⟨k * 2, by omega, rfl⟩))
      exact this
    have c00 := (hfE 0 (by omega)).1
    obtain ⟨b, o, spot⟩ := a
    have hspot : spot = none := by simpa [Addr.add] using World.cell?_spot c00
    subst hspot
    refine ⟨b, o, rfl, hpl, ?_⟩
    rw [add_none] at c0 c1
    simp only [List.getElem_map, List.getElem_range]
    exact ⟨c0, c1⟩
end Go.Proofs.YtpinpnbhbngclaaGreat

/- Parts that came in, as the walks take them; how long their posts may be. -/
namespace Go.Proofs.YtpinpnbhbngclaaGreat
open Go.ChangeShapes Go.WideShapes Go.ChangeAt Go.RowKit

theorem cells_part6 : Tryz.prog.cellsOf 63 = 2 := by kernel_rfl
theorem cells_posts6 : Tryz.prog.cellsOf 61 = 1 := by kernel_rfl
theorem cells_int6 : Tryz.prog.cellsOf 3 = 1 := by kernel_rfl
theorem bytes_post6 : Tryz.prog.bytesOf 60 = 16 := by kernel_rfl
set_option maxRecDepth 100000 in
theorem posts_of_trod0 {H : Type} {enc : TypeId × Value → H} {W : World} {fuel : Nat} {cs : List Value} {x : DataW H × List MemPlace} (hf : DataW.trod enc Tryz.prog W 0 (fun _ => true) true fuel 61 cs = some x) :
    ∃ A n cp l, cs = [.slice A n cp] ∧ l.length = n ∧ Prd W (.slice A n cp) l ∧ (l = [] ∨ ∃ e s, x.1 = .slice e s ∧ e.length = n) := by
  rcases Go.Deep.open_slice Tryz.underlying61 hf with ⟨hcs, _⟩ | ⟨a, len, cap, m, n, D, Pl, hcs, _, hl, _, hm, hx, hcell⟩
  · exact ⟨none, 0, 0, [], hcs, rfl, ⟨none, 0, rfl, Nat.le_refl _, fun _ => rfl, rfl, fun k hk => by simp at hk⟩, .inl rfl⟩
  · simp only [if_true] at hm
    rw [cells_post] at hcell hx
    have hone : ∀ i, i < len → ∃ t : Int × Int, W.cell? (a.add (i * 2)) = some (.int .i64 t.1) ∧ W.cell? (a.add (i * 2 + 1)) = some (.int .i64 t.2) := by
      intro i hi
      obtain ⟨cs', hc, ht⟩ := hcell i (by omega)
      obtain ⟨x, y, rfl⟩ := post_of_trod ht
      obtain ⟨_, _, hat⟩ := World.cells?_some hc
      have c0 := hat 0 (by omega)
      have c1 := hat 1 (by omega)
      rw [Go.Deep.add_add] at c0 c1
      exact ⟨(x, y), c0, c1⟩
    obtain ⟨f, hfE⟩ : ∃ f : Nat → Int × Int, ∀ i, i < len → W.cell? (a.add (i * 2)) = some (.int .i64 (f i).1) ∧ W.cell? (a.add (i * 2 + 1)) = some (.int .i64 (f i).2) :=
      ⟨fun i => if h : i < len then (hone i h).choose else (0, 0), fun i hi => by simp only [hi, dif_pos]; exact (hone i hi).choose_spec⟩
    refine ⟨some a, len, cap, (List.range len).map f, hcs, by simp, ⟨some a, cap, by simp, by simpa using hl, (fun e => by cases e), by simp, fun k hk => ?_⟩, .inr ⟨_, _, by rw [hx], by simp⟩⟩
    have hk' : k < len := by simpa using hk
    obtain ⟨c0, c1⟩ := hfE k hk'
    have c00 := (hfE 0 (by omega)).1
    obtain ⟨b, o, spot⟩ := a
    have hspot : spot = none := by simpa [Addr.add] using World.cell?_spot c00
    subst hspot
    rw [add_none] at c0 c1
    refine ⟨b, o, rfl, World.block_lt_of_cell? W _ c0, ?_⟩
    simp only [List.getElem_map, List.getElem_range]
    exact ⟨c0, c1⟩
set_option maxRecDepth 100000 in
theorem part6_of_trod {H : Type} {enc : TypeId × Value → H} {W : World} {fuel : Nat} {cs : List Value} {x : DataW H × List MemPlace} (h : DataW.trod enc Tryz.prog W 0 (fun _ => true) true fuel 63 cs = some x) :
    ∃ (A : Option Addr) (cp : Nat) (l : List (Int × Int)) (d : Int), cs = [.slice A l.length cp, .int .i64 d] ∧ Prd W (.slice A l.length cp) l ∧ (l = [] ∨ ∃ e s y, x.1 = .agg [.slice e s, y] ∧ e.length = l.length) := by
  obtain ⟨xs, n, _, hx, hlen, hxl, hf⟩ := DataW.trod_struct Tryz.underlying63 h
  rw [cells_part6] at hlen
  obtain ⟨v0, v1, rfl⟩ : ∃ v0 v1, cs = [v0, v1] := by
    match cs, hlen with
    | [v0, v1], _ => exact ⟨v0, v1, rfl⟩
  obtain ⟨y0, y1, rfl⟩ : ∃ y0 y1, xs = [y0, y1] := by
    match xs, hxl with
    | [y0, y1], _ => exact ⟨y0, y1, rfl⟩
  have f0 : DataW.trod enc Tryz.prog W 0 (fun _ => true) true n 61 (([v0, v1].drop 0).take (Tryz.prog.cellsOf 61)) = some y0 := hf 0 _ rfl
  have f1 : DataW.trod enc Tryz.prog W 0 (fun _ => true) true n 3 (([v0, v1].drop 1).take (Tryz.prog.cellsOf 3)) = some y1 := hf 1 _ rfl
  rw [cells_posts6] at f0
  rw [cells_int6] at f1
  obtain ⟨A, n2, cp, l, ea, hl, hP, hz⟩ := posts_of_trod0 f0
  obtain ⟨b, eb, _⟩ := DataW.trod_int Tryz.underlying3 f1
  simp at ea eb
  subst hl
  refine ⟨A, cp, l, b, by rw [ea, eb], hP, ?_⟩
  rcases hz with e | ⟨e, s, e1, e2⟩
  · exact .inl e
  · exact .inr ⟨e, s, y1.1, by rw [hx]; simp [e1], e2⟩
set_option maxRecDepth 100000 in
theorem parts_of_trod {H : Type} {enc : TypeId × Value → H} {W : World} {v : Value} {d : DataW H} {ps : List MemPlace} {base : Nat} (hv : Value.okWide Tryz.prog W .any base 22 v)
    (h : DataW.Trod enc Tryz.prog W 0 (fun _ => true) true 22 v d ps) : ∃ A n cp rs, v = .slice A n cp ∧ RP W A n rs ∧ (rs = [] ∨ ∃ elems spare, d = .slice elems spare ∧ ∀ x ∈ rs, x.1 = [] ∨ ∃ e s y, DataW.agg [.slice e s, y] ∈ elems ∧ e.length = x.1.length) := by
  obtain ⟨a0, len, cap, rfl⟩ := okWide_slice Tryz.underlying22 hv
  obtain ⟨fuel, hf⟩ := h
  rcases Go.Deep.open_slice Tryz.underlying22 hf with ⟨hcs, _⟩ | ⟨a, len', cap', m, n, D, Pl, hcs, _, hl, _, hm, hx, hcell⟩
  · have e : a0 = none ∧ len = 0 ∧ cap = 0 := by simpa [Value.cells] using hcs
    obtain ⟨rfl, rfl, rfl⟩ := e
    exact ⟨none, 0, 0, [], rfl, ⟨rfl, fun k hk => by simp at hk⟩, .inl rfl⟩
  · have e : a0 = some a ∧ len = len' ∧ cap = cap' := by simpa [Value.cells] using hcs
    obtain ⟨rfl, rfl, rfl⟩ := e
    simp only [if_true] at hm
    rw [cells_part6] at hcell
    have hone : ∀ i, i < len → ∃ t : List (Int × Int) × Int, (∃ A2 c2, W.cell? (a.add (i * 2)) = some (.slice A2 t.1.length c2) ∧ W.cell? (a.add (i * 2 + 1)) = some (.int .i64 t.2) ∧ Prd W (.slice A2 t.1.length c2) t.1) ∧ (t.1 = [] ∨ ∃ e s y, D i = .agg [.slice e s, y] ∧ e.length = t.1.length) := by
      intro i hi
      obtain ⟨cs', hc, ht⟩ := hcell i (by omega)
      obtain ⟨A2, c2, l2, x, rfl, hP, hz⟩ := part6_of_trod ht
      obtain ⟨_, _, hat⟩ := World.cells?_some hc
      have c0 := hat 0 (by omega)
      have c1 := hat 1 (by omega)
      rw [Go.Deep.add_add] at c0 c1
      exact ⟨(l2, x), ⟨A2, c2, c0, c1, hP⟩, hz⟩
    obtain ⟨f, hfE⟩ : ∃ f : Nat → List (Int × Int) × Int, ∀ i, i < len → (∃ A2 c2, W.cell? (a.add (i * 2)) = some (.slice A2 (f i).1.length c2) ∧ W.cell? (a.add (i * 2 + 1)) = some (.int .i64 (f i).2) ∧ Prd W (.slice A2 (f i).1.length c2) (f i).1) ∧ ((f i).1 = [] ∨ ∃ e s y, D i = .agg [.slice e s, y] ∧ e.length = (f i).1.length) :=
      ⟨fun i => if h : i < len then (hone i h).choose else ([], 0), fun i hi => by simp only [hi, dif_pos]; exact (hone i hi).choose_spec⟩
    refine ⟨some a, len, cap, (List.range len).map f, rfl, ⟨by simp, fun k hk => ?_⟩, .inr ⟨(List.range len).map D, (List.range (m - len)).map fun j => D (len + j), by injection hx, fun x hx2 => ?_⟩⟩
    · have hk' : k < len := by simpa using hk
      obtain ⟨⟨A2, c2, c0, c1, hP⟩, _⟩ := hfE k hk'
      obtain ⟨⟨_, _, c00, _, _⟩, _⟩ := hfE 0 (by omega)
      obtain ⟨b, o, spot⟩ := a
      have hspot : spot = none := by simpa [Addr.add] using World.cell?_spot c00
      subst hspot
      rw [add_none] at c0 c1
      simp only [List.getElem_map, List.getElem_range]
      exact ⟨b, o, A2, c2, rfl, World.block_lt_of_cell? W _ c0, c0, c1, hP⟩
    · obtain ⟨i, hi, rfl⟩ := List.mem_map.1 hx2
      have hi' : i < len := by simpa using hi
      rcases (hfE i hi').2 with e | ⟨e, s, y, e1, e2⟩
      · exact .inl e
      · exact .inr ⟨e, s, y, List.mem_map.2 ⟨i, hi, e1⟩, e2⟩
theorem weightsAll_mem6 {H : Type} {P : Program} {e : TypeId} : ∀ {l : List (DataW H)} {d : DataW H}, d ∈ l → ∀ n ∈ d.weights P e, n ∈ DataW.weightsAll P e l
  | d' :: r, d, hd, n, hn => by
    simp only [DataW.weightsAll, List.mem_append]
    rcases List.mem_cons.1 hd with rfl | h
    · exact Or.inl hn
    · exact Or.inr (weightsAll_mem6 h n hn)
/-- no part's posts are longer than memory reaches -/
theorem parts_short {H : Type} {ts : List TypeId} {ds : List (DataW H)} (h : (DataW.weightsEach Tryz.prog ts ds).all (· ≤ reachBytes) = true) {j : Nat} {d : DataW H} {rs : List (List (Int × Int) × Int)} (ht : ts[j]? = some 22) (hd : ds[j]? = some d)
    (hz : rs = [] ∨ ∃ elems spare, d = .slice elems spare ∧ ∀ x ∈ rs, x.1 = [] ∨ ∃ e s y, DataW.agg [.slice e s, y] ∈ elems ∧ e.length = x.1.length) : ∀ x ∈ rs, x.1.length ≤ 9000000000000000000 := by
  intro x hx
  rcases hz with rfl | ⟨elems, spare, rfl, hz⟩
  · simp at hx
  · rcases hz x hx with e | ⟨e, s, y, hm, hl⟩
    · rw [e]; simp
    · have hw : (e.length + s.length) * Tryz.prog.bytesOf 60 ≤ reachBytes := by
        refine of_decide_eq_true (List.all_eq_true.1 h _ (DataW.weights_mem_each ht hd _ ?_))
        simp only [DataW.weights, Tryz.underlying22, List.mem_cons, List.mem_append]
        refine Or.inr (Or.inl (weightsAll_mem6 hm _ ?_))
        simp [DataW.weights, DataW.weightsEach, Tryz.underlying63, Tryz.underlying61]
      rw [bytes_post6] at hw
      have hr := reachBytes_lt
      omega
end Go.Proofs.YtpinpnbhbngclaaGreat

/- The best k of a list: the program's. The document's comparing; two rows held against each other. -/
namespace Go.Proofs.YtpinpnbhbngclaaGreat
open Go.RowKit Go.Sort

theorem take_more (l : List (Int × Int)) (i : Nat) (h : i < l.length) : l.take (i + 1) = l.take i ++ [l[i]] := by
  rw [List.take_succ_eq_append_getElem h]

/-- which is better: the document's -/
theorem refbetter_any (a b : Int × Int) (w : World) :
    Calls Tryz.prog 39 #[sv a, sv b] w fun e w' => e = .returned (.bool (TopM.bet a b)) ∧ ∃ o1 o2, w' = (w.alloc o1).alloc o2 := by
  obtain ⟨a1, a2⟩ := a
  obtain ⟨b1, b2⟩ := b
  unfold sv
  by_cases h : a2 = b2
  · subst h
    have hb : TopM.bet (a1, a2) (b1, a2) = decide (a1 < b1) := by unfold TopM.bet; rw [if_pos rfl]
    rw [hb]
    obtain ⟨r, hr⟩ : ∃ r, r = decide (a1 < b1) := ⟨_, rfl⟩
    rw [← hr]
    have hr' := hr.symm
    clear hb hr
    go_enter Tryz.func39, Tryz.ntmps39
    go_wp2
    go_ret
    exact ⟨rfl, _, _, rfl⟩
  · have hb : TopM.bet (a1, a2) (b1, b2) = decide (b2 < a2) := by unfold TopM.bet; rw [if_neg h]
    rw [hb]
    have hd : (a2 != b2) = true := by simpa using h
    obtain ⟨r, hr⟩ : ∃ r, r = decide (b2 < a2) := ⟨_, rfl⟩
    rw [← hr]
    have hr' := hr.symm
    clear hb hr h
    go_enter Tryz.func39, Tryz.ntmps39
    go_wp2
    go_ret
    exact ⟨rfl, _, _, rfl⟩

set_option maxHeartbeats 4000000 in
set_option maxRecDepth 100000 in
theorem same_any (v1 v2 : Value) (l1 l2 : List (Int × Int)) (w : World) (h1 : Prd w v1 l1) (h2 : Prd w v2 l2) (hl : l1.length ≤ 1000000) (hl2 : l2.length ≤ 1000000) :
    Calls Tryz.prog 12 #[v1, v2] w fun e w' => e = .returned (.bool (decide (l1 = l2))) ∧ ∃ n, w' = w.drewN n := by
  obtain ⟨A1, cp1, rfl, hcp1, hA1, hP1⟩ := h1
  obtain ⟨A2, cp2, rfl, hcp2, hA2, hP2⟩ := h2
  obtain ⟨n, hn⟩ : ∃ n, n = l1.length := ⟨_, rfl⟩
  obtain ⟨m, hm⟩ : ∃ m, m = l2.length := ⟨_, rfl⟩
  have HP1 := Lib.hid hP1
  have HP2 := Lib.hid hP2
  rw [← hn] at hcp1 hl ⊢
  rw [← hm] at hcp2 hl2 ⊢
  have HN := Lib.hid hn
  have HM := Lib.hid hm
  by_cases hnm : n = m
  · subst hnm
    have hd : ((n : Int) != (n : Int)) = false := by simp
    clear hP1 hP2 hA1 hA2 hn hm
    go_enter Tryz.func12, Tryz.ntmps12
    go_wp2
    go_loopw [5] (fun x wr => ∃ i : Nat, x = .int .i64 i ∧ i ≤ n ∧ l1.take i = l2.take i ∧ ∃ q, wr = w.drewN q) (fun x _ => n - (intOf x).toNat)
    case atStart => exact ⟨0, by go_num, Nat.zero_le _, rfl, 0, rfl⟩
    case round =>
      obtain ⟨i, rfl, hi, htk, q, rfl⟩ := hrel
      have HTK := Lib.hid htk
      clear htk
      by_cases hlt : i < n
      · have hd1 : decide ((i : Int) < (n : Int)) = true := decide_eq_true (by omega)
        have hd2 : decide (i < n) = true := decide_eq_true hlt
        have hi1 : i < l1.length := by rw [← HN.out]; exact hlt
        have hi2 : i < l2.length := by rw [← HM.out]; exact hlt
        obtain ⟨b1, o1, rfl, _, c0, c1⟩ := HP1.out.2 i hi1
        obtain ⟨b2, o2, rfl, _, e0, e1⟩ := HP2.out.2 i hi2
        obtain ⟨⟨x1, x2⟩, hx⟩ : ∃ x, x = l1[i] := ⟨_, rfl⟩
        obtain ⟨⟨y1, y2⟩, hy⟩ : ∃ y, y = l2[i] := ⟨_, rfl⟩
        rw [← hx] at c0 c1
        rw [← hy] at e0 e1
        have hi0 : (0 : Int) ≤ (i : Int) := by omega
        have hin : (i : Int) < (n : Int) := by omega
        by_cases hxy : (x1, x2) = (y1, y2)
        · have hT : Hid (l1.take (i + 1) = l2.take (i + 1)) := Lib.hid (by rw [take_more l1 i hi1, take_more l2 i hi2, HTK.out, ← hx, ← hy, hxy])
          injection hxy with q1 q2
          subst q1; subst q2
          clear hx hy
          go_wp2
          go_quiet (fail)
          go_wp2
          exact ⟨⟨i + 1, by go_num, by omega, hT.out, _, rfl⟩, by simp [intOf]; omega⟩
        · have hne : decide (l1 = l2) = false := decide_eq_false (fun e => hxy (by rw [hx, hy]; simp [e]))
          have HNE := Lib.hid hne
          clear hx hy hne
          by_cases hq1 : x1 = y1
          · subst hq1
            have hq2 : x2 ≠ y2 := fun e => hxy (by rw [e])
            have hb2 : (x2 == y2) = false := by simpa using hq2
            clear hxy
            go_wp2
            go_quiet (fail)
            go_wp2
            go_ret
            exact ⟨by rw [HNE.out]; rfl, _, World.drewN_drewN _ _ _⟩
          · have hb1 : (x1 == y1) = false := by simpa using hq1
            clear hxy
            go_wp2
            go_quiet (fail)
            go_wp2
            go_ret
            exact ⟨by rw [HNE.out]; rfl, _, World.drewN_drewN _ _ _⟩
      · have hin : i = n := by omega
        subst hin
        have hd1 : decide ((i : Int) < (i : Int)) = false := by simp
        have hd2 : decide (i < i) = false := by simp
        have heq : decide (l1 = l2) = true := decide_eq_true (by
          have := HTK.out
          rwa [List.take_of_length_le (by rw [← HN.out]; exact Nat.le_refl _), List.take_of_length_le (by rw [← HM.out]; exact Nat.le_refl _)] at this)
        have HE := Lib.hid heq
        clear heq
        go_wp2
        go_ret
        exact ⟨by rw [HE.out]; rfl, q, rfl⟩
  · have hd : ((n : Int) != (m : Int)) = true := by simp; omega
    have hne : decide (l1 = l2) = false := decide_eq_false (fun e => hnm (by rw [HN.out, HM.out, e]))
    have HNE := Lib.hid hne
    clear hP1 hP2 hA1 hA2 hn hm hne
    go_enter Tryz.func12, Tryz.ntmps12
    go_wp2
    go_ret
    exact ⟨by rw [HNE.out]; rfl, 0, rfl⟩
end Go.Proofs.YtpinpnbhbngclaaGreat

/- The document's best k: by rising places. -/
namespace Go.Proofs.YtpinpnbhbngclaaGreat
open Go.RowKit

/-- from k on x is better than each -/
def Bk (x : Int × Int) (l : List (Int × Int)) (k : Nat) : Prop := k ≤ l.length ∧ ∀ j, k ≤ j → ∀ h : j < l.length, TopM.bet x l[j] = true
/-- k is x's place -/
def Pl (x : Int × Int) (l : List (Int × Int)) (k : Nat) : Prop := Bk x l k ∧ ∀ j, k = j + 1 → ∀ h : j < l.length, TopM.bet x l[j] = false
theorem keepB {w w' : World} {B b i : Nat} {u : Value} (hb : Below B w w') (hc : w.cell? ⟨b, i, none⟩ = some u) (h : b < B) : w'.cell? ⟨b, i, none⟩ = some u := (hb.cell (p := ⟨b, i, none⟩) h).trans hc

theorem PairRow.form2 {w : World} {base : Nat} {v : Value} {l : List (Int × Int)} (h : PairRow w base v l) : (v = .slice none 0 0 ∧ l = []) ∨ ∃ g cap, v = .slice (some ⟨g, 0, none⟩) l.length cap ∧ l.length ≤ cap ∧ base ≤ g ∧ g < w.heap.size := by
  rcases h.2 with ⟨rfl, hn⟩ | ⟨g, cap, cur, rfl, hbg, hgg, hnc, rest⟩
  · exact .inl ⟨rfl, List.eq_nil_of_length_eq_zero hn⟩
  · exact .inr ⟨g, cap, rfl, by omega, hbg, (Array.getElem?_eq_some_iff.1 hgg).1⟩
theorem bel_a {U w : World} (h : Below U.heap.size U w) (o : Obj) : Below U.heap.size U (w.alloc o) := h.alloc h.size o
theorem bel_ad {U w : World} (h : Below U.heap.size U w) (o : Obj) : Below U.heap.size U (w.alloc o).drew := (h.alloc h.size o).drew
theorem sb_of {U w : World} {b o : Nat} {x1 x2 : Int} (c0 : U.cell? ⟨b, o, none⟩ = some (.int .i64 x1)) (c1 : U.cell? ⟨b, o + 1, none⟩ = some (.int .i64 x2)) (hb : b < U.heap.size) (h : Below U.heap.size U w) :
    w.cell? ⟨b, o, none⟩ = some (.int .i64 x1) ∧ w.cell? ⟨b, o + 1, none⟩ = some (.int .i64 x2) ∧ Below U.heap.size U w := ⟨keepB h c0 hb, keepB h c1 hb, h⟩
theorem row_new {U w : World} (h : Below U.heap.size U w) : PairRow (w.alloc (.cells #[] 54)) U.heap.size (.slice (some ⟨w.heap.size, 0, none⟩) 0 0) [] :=
  ⟨rfl, .inr ⟨w.heap.size, 0, #[], rfl, h.size, heap_alloc_new w _, Nat.le_refl _, by simp [maxLen], rfl, rfl⟩⟩
theorem row_newd {U w : World} (h : Below U.heap.size U w) : PairRow (w.alloc (.cells #[] 54)).drew U.heap.size (.slice (some ⟨w.heap.size, 0, none⟩) 0 0) [] := row_new h
theorem row_newd2 {U w : World} (h : Below U.heap.size U w) (o : Obj) : PairRow ((w.alloc (.cells #[] 54)).alloc o).drew U.heap.size (.slice (some ⟨w.heap.size, 0, none⟩) 0 0) [] := (row_new h).later ((Below.refl _ _).alloc (Nat.le_refl _) _).drew
theorem PairRow.wider {w : World} {base B : Nat} {v : Value} {l : List (Int × Int)} (h : PairRow w B v l) (hB : base ≤ B) : PairRow w base v l := by
  refine ⟨h.1, ?_⟩
  rcases h.2 with hn | ⟨g, cap, cur, e, hbg, rest⟩
  · exact .inl hn
  · exact .inr ⟨g, cap, cur, e, Nat.le_trans hB hbg, rest⟩
theorem PairRow.alloc {w : World} {base : Nat} {v : Value} {l : List (Int × Int)} (h : PairRow w base v l) (o : Obj) : PairRow (w.alloc o) base v l := h.later ((Below.refl _ _).alloc (Nat.le_refl _) _)
theorem pairs_new (w : World) (x1 x2 : Int) : Pairs (w.alloc (.cells #[.int .i64 x1, .int .i64 x2] 54)) (some ⟨w.heap.size, 0, none⟩) 1 [(x1, x2)] := by
  refine ⟨rfl, fun k hk => ⟨w.heap.size, 0, rfl, by simp, ?_⟩⟩
  have e : k = 0 := by simpa using hk
  subst e
  exact ⟨by go_simp, by go_simp⟩
theorem pairs_kept {w w' : World} {g o n : Nat} {l : List (Int × Int)} (h : Pairs w (some ⟨g, o, none⟩) n l) (hk : w'.heap[g]? = w.heap[g]?) (hs : w.heap.size ≤ w'.heap.size) : Pairs w' (some ⟨g, o, none⟩) n l :=
  ⟨h.1, fun k hk' => by
    obtain ⟨b, o', e, hb, c0, c1⟩ := h.2 k hk'
    injection e with e
    injection e with e1 e2 e3
    subst e1; subst e2
    exact ⟨g, o, rfl, by omega, (World.cell?_of_block (a := ⟨g, _, none⟩) hk).trans c0, (World.cell?_of_block (a := ⟨g, _, none⟩) hk).trans c1⟩⟩
theorem row_newd1 {U w : World} (h : Below U.heap.size U w) (o : Obj) : PairRow ((w.alloc o).alloc (.cells #[] 54)).drew U.heap.size (.slice (some ⟨w.heap.size + 1, 0, none⟩) 0 0) [] := by
  have := row_newd (bel_a h o)
  simpa using this
theorem pairs_new0 (w : World) (o : Obj) (x1 x2 : Int) : Pairs ((w.alloc (.cells #[.int .i64 x1, .int .i64 x2] 54)).alloc o).drew (some ⟨w.heap.size, 0, none⟩) 1 [(x1, x2)] := (pairs_new w x1 x2).later ((Below.refl _ _).alloc (Nat.le_refl _) _).drew
theorem pairs_new1 (w : World) (o : Obj) (x1 x2 : Int) : Pairs ((w.alloc o).alloc (.cells #[.int .i64 x1, .int .i64 x2] 54)).drew (some ⟨w.heap.size + 1, 0, none⟩) 1 [(x1, x2)] := by
  have : Pairs ((w.alloc o).alloc (.cells #[.int .i64 x1, .int .i64 x2] 54)).drew (some ⟨(w.alloc o).heap.size, 0, none⟩) 1 [(x1, x2)] := pairs_new (w.alloc o) x1 x2
  simpa using this
/-- append of what is read onto a row that is newer than U, as a step -/
theorem step_pairsB {U w : World} {ops : Array Oper} {o : Oper} {a : Act} {K : Act → World → Prop} {Q : Exit → Act → World → Prop} {E : Prop} (hU : Below U.heap.size U w) (hgd : o.guard = none) (s x : Operand)
    (ho : o.op = .call { callee := .builtin .append, args := #[s, x], argTypes := #[30, 30] })
    (v0 : Value) (l0 : List (Int × Int)) (hs : a.eval s = v0) (hown : PairRow w U.heap.size v0 l0)
    (A : Option Addr) (n cp : Nat) (l : List (Int × Int)) (hx : a.eval x = .slice A n cp) (hS : Pairs w A n l) (hA : A = none → cp = 0) (hn : l0.length + n ≤ 1000000000)
    (h : ∀ v' w', PairRow w' U.heap.size v' (l0 ++ l) → Below U.heap.size U w' → w.heap.size ≤ w'.heap.size → (∀ g, g < w.heap.size → some g ≠ v0.ownBlock → w'.heap[g]? = w.heap[g]?) → K (a.put o.dst v') w') :
    if Region.wanted o (yielded ops a.tmps) = true then Oper.wp Tryz.prog o a w K Q else E :=
  step_pairs hgd s x ho U.heap.size v0 l0 hs hown hU.size A n cp l hx hS hA hn fun v' w' h1 h2 => h v' w' h1 (hU.grown h2 hU.size fun k hk => (World.ownsRow.lt hown k hk).1) h2.size h2.block
set_option maxHeartbeats 8000000 in
set_option maxRecDepth 100000 in
theorem refbest_any (k : Int) (v : Value) (l : List (Int × Int)) (w : World) (h : Prd w v l) (hl : l.length ≤ 1000000) :
    Calls Tryz.prog 28 #[.int .i64 k, v] w fun e w' => ∃ v', e = .returned v' ∧ Prd w' v' (TopM.best k.toNat l) ∧ Below w.heap.size w w' ∧ ∀ b, v'.ownBlock = some b → w.heap.size ≤ b := by
  obtain ⟨A, cp, rfl, hcp, hA, hP⟩ := h
  obtain ⟨n, hn⟩ : ∃ n, n = l.length := ⟨_, rfl⟩
  rw [← hn] at hcp hP hl ⊢
  have HN := Lib.hid hn
  have HP := Lib.hid hP
  clear hn hP hA
  go_enter Tryz.func28, Tryz.ntmps28
  go_wp2
  go_loopw [5, 6] (fun y x wr => ∃ i : Nat, x = .int .i64 i ∧ i ≤ n ∧ PairRow wr w.heap.size y (TopM.srt (l.take i)) ∧ Below w.heap.size w wr) (fun _ x _ => n - (intOf x).toNat)
  case atStart => exact ⟨0, by go_num, Nat.zero_le _, by rw [List.take_zero, TopM.srt_nil]; exact PairRow.nil_ _ _, Below.refl _ _⟩
  case round =>
    obtain ⟨i, rfl, hi, row, bw⟩ := hrel
    have hsz := bw.size
    by_cases hlt : i < n
    · have hd : decide ((i : Int) < (n : Int)) = true := decide_eq_true (by omega)
      have hd2 : decide (i < n) = true := decide_eq_true hlt
      have hil : i < l.length := by rw [← HN.out]; exact hlt
      obtain ⟨ab, ao, rfl, habl, k0, k1⟩ := HP.out.2 i hil
      have a0 := keepB bw k0 habl
      have a1 := keepB bw k1 habl
      have habr : ab < wr.heap.size := by omega
      obtain ⟨⟨x1, x2⟩, hx⟩ : ∃ p, p = l[i] := ⟨_, rfl⟩
      rw [← hx] at a0 a1
      have htk : Hid (TopM.srt (l.take (i + 1)) = TopM.srt ((x1, x2) :: TopM.srt (l.take i))) := Lib.hid (by
        rw [take_more l i hil, ← hx]
        exact TopM.srt_congr ((List.perm_append_singleton _ _).trans ((TopM.srt_perm (l.take i)).symm.cons _)))
      have hss := Lib.hid (TopM.srt_srt (l.take i))
      have hsl := TopM.srt_len (l.take i)
      rw [List.length_take] at hsl
      obtain ⟨ls, hls⟩ : ∃ ls, ls = TopM.srt (l.take i) := ⟨_, rfl⟩
      rw [← hls] at row htk hss hsl
      have hi0 : (0 : Int) ≤ (i : Int) := by omega
      have hin : (i : Int) < (n : Int) := by omega
      have hm : ls.length = i := by rw [hsl, ← HN.out]; omega
      clear hx hls k0 k1 hsl
      obtain ⟨Ao, co, hvo, hco, hAo⟩ := row.form
      rw [hm] at hvo hco
      have HVO := Lib.hid hvo
      have hbet := fun y W => refbetter_any (x1, x2) y W
      unfold sv at hbet
      have HB := Lib.hid hbet
      subst hvo
      clear hbet
      go_upto_block 2 with fail
      go_cut [7] (fun x wx => ∃ a : Nat, x = .int .i64 a ∧ Pl (x1, x2) ls a ∧ Below wr.heap.size wr wx)
      case first =>
        go_wp2_with fail
        go_loopw [7] (fun x wx => ∃ a : Nat, x = .int .i64 a ∧ Bk (x1, x2) ls a ∧ Below wr.heap.size wr wx) (fun x _ => (intOf x).toNat)
        case atStart => exact ⟨i, rfl, ⟨by omega, fun j h1 h2 => by omega⟩, Below.refl _ _⟩
        case round =>
          obtain ⟨a, rfl, hbk, bx⟩ := hrel
          have hBK := Lib.hid hbk
          have hal : a ≤ i := by have := hbk.1; omega
          clear hbk
          by_cases ha0 : a = 0
          · subst ha0
            have hd3 : decide ((0 : Int) < ((0 : Nat) : Int)) = false := by simp
            have hd4 : decide (0 < 0) = false := by simp
            have hpl : Hid (Pl (x1, x2) ls 0) := Lib.hid ⟨hBK.out, fun j hj => by omega⟩
            go_wp2
            go_quiet (fail)
            go_wp2
            go_meet
            exact ⟨0, by go_num, hpl.out, bdrewN bx _⟩
          · obtain ⟨b, hb⟩ : ∃ b, a = b + 1 := ⟨a - 1, by omega⟩
            have hbe : (a : Int) - 1 = (b : Int) := by omega
            have hd3 : decide ((0 : Int) < (a : Int)) = true := decide_eq_true (by omega)
            have hd4 : decide (0 < a) = true := decide_eq_true (by omega)
            have hbl : b < ls.length := by omega
            obtain ⟨g, co2, hv2, _, hg, _, _, hcs⟩ := row.cells (by omega)
            obtain ⟨c0, c1⟩ := hcs b hbl
            injection hv2 with e1 e2 e3
            subst e1
            obtain ⟨⟨y1, y2⟩, hy⟩ : ∃ y, y = ls[b] := ⟨_, rfl⟩
            rw [← hy] at c0 c1
            have d0 := keepB bx c0 hg
            have d1 := keepB bx c1 hg
            have f0 := keepB bx a0 habr
            have f1 := keepB bx a1 habr
            have hgx := Nat.lt_of_lt_of_le hg bx.size
            have hax := Nat.lt_of_lt_of_le habr bx.size
            have hb0 : (0 : Int) ≤ (b : Int) := by omega
            have hbi : (b : Int) < (i : Int) := by omega
            have hwr : IntKind.i64.wrap ((a : Int) - 1) = (b : Int) := (IntWalk.i64_in _ (by omega)).trans hbe
            have hbet := fun W => HB.out (y1, y2) W
            obtain ⟨r, hr⟩ : ∃ r, TopM.bet (x1, x2) (y1, y2) = r := ⟨_, rfl⟩
            rw [hr] at hbet
            have HBT := Lib.hid hbet
            have HR := Lib.hid hr
            have HY := Lib.hid hy
            have HBB := Lib.hid hb
            clear hbet hr hy c0 c1 hcs a0 a1 e2 e3 hb hbe
            have hbn := fun o1 o2 => ((bx.alloc bx.size o1).alloc (Nat.le_trans bx.size (by simp)) o2).drew
            cases r with
            | true =>
              have hnx : Hid (Bk (x1, x2) ls b) := Lib.hid ⟨by omega, fun j h1 h2 => by
                by_cases e : j = b
                · subst e
                  have := HR.out
                  rw [HY.out] at this
                  exact this
                · exact hBK.out.2 j (by have := HBB.out; omega) h2⟩
              have hme : b < a := by have := HBB.out; omega
              go_wp2
              go_region_held3 (fun w' => w'.cell? ⟨ab, ao + i * 2, none⟩ = some (.int .i64 x1) ∧ w'.cell? ⟨ab, ao + i * 2 + 1, none⟩ = some (.int .i64 x2) ∧ w'.cell? ⟨g, b * 2, none⟩ = some (.int .i64 y1) ∧ w'.cell? ⟨g, b * 2 + 1, none⟩ = some (.int .i64 y2))
                (first
                  | exact ⟨keep2c f0 hax, keep2c f1 hax, keep2c d0 hgx, keep2c d1 hgx⟩
                  | go_keep)
                ((first | ((with_reducible refine (HBT.out _).mono ?_); rintro e w5 ⟨rfl, o1, o2, rfl⟩)))
              have bz := hbn o1 o2
              generalize ((wr.alloc o1).alloc o2).drew = w5 at bz ⊢
              go_wp2
              exact ⟨⟨b, rfl, hnx.out, bz⟩, by simp [intOf]; omega⟩
            | false =>
              have hpl : Hid (Pl (x1, x2) ls a) := Lib.hid ⟨hBK.out, fun j h1 h2 => by
                have e : j = b := by have := HBB.out; omega
                subst e
                have := HR.out
                rw [HY.out] at this
                exact this⟩
              go_wp2
              go_region_held3 (fun w' => w'.cell? ⟨ab, ao + i * 2, none⟩ = some (.int .i64 x1) ∧ w'.cell? ⟨ab, ao + i * 2 + 1, none⟩ = some (.int .i64 x2) ∧ w'.cell? ⟨g, b * 2, none⟩ = some (.int .i64 y1) ∧ w'.cell? ⟨g, b * 2 + 1, none⟩ = some (.int .i64 y2))
                (first
                  | exact ⟨keep2c f0 hax, keep2c f1 hax, keep2c d0 hgx, keep2c d1 hgx⟩
                  | go_keep)
                ((first | ((with_reducible refine (HBT.out _).mono ?_); rintro e w5 ⟨rfl, o1, o2, rfl⟩)))
              have bz := hbn o1 o2
              generalize ((wr.alloc o1).alloc o2).drew = w5 at bz ⊢
              go_wp2
              go_meet
              exact ⟨a, rfl, hpl.out, bz⟩
      case rest =>
        obtain ⟨a, rfl, hpl, bx⟩ := hcut
        rename_i wc
        have hal : a ≤ i := by have := hpl.1.1; omega
        have HPL := Lib.hid hpl
        clear hpl
        have f0 := keepB bx a0 habr
        have f1 := keepB bx a1 habr
        have ha0 : (0 : Int) ≤ (a : Int) := by omega
        have hai : (a : Int) ≤ (i : Int) := by omega
        have hac : (a : Int) ≤ (co : Int) := by omega
        have hic : (i : Int) ≤ (co : Int) := by omega
        rcases row.form2 with ⟨hv2, hl0⟩ | ⟨g, co2, hv2, hco2, hbg, hg⟩
        · injection hv2 with e1 e2 e3
          subst e1; subst e2; subst e3
          obtain rfl : a = 0 := by omega
          rw [Nat.zero_mul, Nat.add_zero] at a0 a1
          have p35 : Hid (∀ W, Below wr.heap.size wr W → Pairs W none 0 (ls.take 0)) := Lib.hid (fun W _ => ⟨by rw [List.length_take]; omega, fun k hk => by rw [hl0] at hk; simp at hk⟩)
          have p45 : Hid (∀ W, Below wr.heap.size wr W → Pairs W none 0 (ls.drop 0)) := Lib.hid (fun W _ => ⟨by rw [List.length_drop]; omega, fun k hk => by rw [hl0] at hk; simp at hk⟩)
          clear hl0
          have L1 : Hid (([] : List (Int × Int)).length + 0 ≤ 1000000000) := Lib.hid (by simp <;> omega)
          have L2 : Hid (([] ++ ls.take 0 : List (Int × Int)).length + 1 ≤ 1000000000) := Lib.hid (by simp <;> omega)
          have L3 : Hid (([] ++ ls.take 0 ++ [(x1, x2)] : List (Int × Int)).length + (0 - 0) ≤ 1000000000) := Lib.hid (by simp <;> omega)
          have HA0 := Lib.hid a0
          have HA1 := Lib.hid a1
          have HM := Lib.hid hm
          clear a0 a1 hm
          go_wp2
          go_region_held3 (fun w' => w'.cell? ⟨ab, ao, none⟩ = some (.int .i64 x1) ∧ w'.cell? ⟨ab, ao + 1, none⟩ = some (.int .i64 x2) ∧ Below wr.heap.size wr w')
            ((go_split_ands; refine sb_of HA0.out HA1.out habr ?_; first | assumption | (exact bel_a (by assumption) _) | (exact bel_ad (by assumption) _) | (exact Below.drew (by assumption))))
            ((first
              | (refine step_pairsB (U := wr) (by first | exact bel_ad bx _ | exact bel_ad (bel_a bx _) _) (by rfl) (.tmp 32) (.tmp 35) (by rfl) (.slice (some ⟨_, 0, none⟩) 0 0) [] (by rfl) (by first | exact row_newd bx | exact row_newd1 bx _ | exact row_newd2 bx _) none 0 _ _ (by rfl) (p35.out _ (by first | exact bel_ad bx _ | exact bel_ad (bel_a bx _) _)) (fun _ => rfl) L1.out ?_; intro v1 W1 own1 bel1 sz1 kp1; first | (have hq := pairs_kept (pairs_new0 wc _ x1 x2) (kp1 _ (by simp <;> omega) (by simp [Value.ownBlock])) sz1) | (have hq := pairs_kept (pairs_new1 wc _ x1 x2) (kp1 _ (by simp <;> omega) (by simp [Value.ownBlock])) sz1) | skip)
              | (refine step_pairsB (U := wr) (by first | assumption | exact bel_a (by assumption) _) (by rfl) (.tmp 36) (.tmp 41) (by rfl) v1 ([] ++ ls.take 0) (by rfl) (by first | exact own1 | exact own1.alloc _) (some ⟨_, 0, none⟩) 1 1 [(x1, x2)] (by rfl) (by first | assumption | exact pairs_new _ _ _) (by intro e; cases e) L2.out ?_; intro v2 W2 own2 bel2 sz2 kp2)
              | (refine step_pairsB (U := wr) (by assumption) (by rfl) (.tmp 42) (.tmp 45) (by rfl) v2 ([] ++ ls.take 0 ++ [(x1, x2)]) (by rfl) own2 none 0 _ (ls.drop 0) (by rfl) (p45.out _ (by assumption)) (fun _ => rfl) L3.out ?_; intro v3 W3 own3 bel3 sz3 kp3)))
          all_goals
            have own4 : PairRow W3 w.heap.size v3 (TopM.srt (l.take (0 + 1))) := by
              rw [htk.out, ← TopM.ins_srt (x1, x2) 0 hss.out HPL.out.1.2 HPL.out.2 HPL.out.1.1]
              have e : [] ++ ls.take 0 ++ [(x1, x2)] ++ ls.drop 0 = ls.take 0 ++ (x1, x2) :: ls.drop 0 := by simp
              rw [← e]
              exact own3.wider hsz
            have bel4 := bw.trans (bel3.mono hsz)
            clear own3 bel3 sz3 kp3 own2 bel2 sz2 kp2 own1 bel1 sz1 kp1
            go_wp2
            exact ⟨⟨0 + 1, by go_num, by omega, own4, bel4⟩, by simp [intOf]; omega⟩
        · injection hv2 with e1 e2 e3
          subst e1; subst e3
          obtain ⟨A', c', e', hrp⟩ := row.pairs
          injection e' with e4 e5 e6
          subst e4
          rw [hm] at hrp
          by_cases hca : co = a
          · have p35 := Lib.hid (fun W (hW : Below wr.heap.size wr W) => Pairs.take (hrp.later hW) a hal)
            have p45 : Hid (∀ W, Below wr.heap.size wr W → Pairs W (some ⟨g, 0, none⟩) (i - a) (ls.drop a)) := Lib.hid (fun W _ => ⟨by rw [List.length_drop, hm], fun k hk => by rw [List.length_drop] at hk; omega⟩)
            clear hrp e2 e5 e6 hco2
            have L1 : Hid (([] : List (Int × Int)).length + a ≤ 1000000000) := Lib.hid (by simp; omega)
            have L2 : Hid (([] ++ ls.take a : List (Int × Int)).length + 1 ≤ 1000000000) := Lib.hid (by simp; omega)
            have L3 : Hid (([] ++ ls.take a ++ [(x1, x2)] : List (Int × Int)).length + (i - a) ≤ 1000000000) := Lib.hid (by simp; omega)
            have HA0 := Lib.hid a0
            have HA1 := Lib.hid a1
            have HM := Lib.hid hm
            clear a0 a1 hm
            go_wp2
            go_region_held3 (fun w' => w'.cell? ⟨ab, ao + i * 2, none⟩ = some (.int .i64 x1) ∧ w'.cell? ⟨ab, ao + i * 2 + 1, none⟩ = some (.int .i64 x2) ∧ Below wr.heap.size wr w')
              ((go_split_ands; refine sb_of HA0.out HA1.out habr ?_; first | assumption | (exact bel_a (by assumption) _) | (exact bel_ad (by assumption) _) | (exact Below.drew (by assumption))))
              ((first
                | (refine step_pairsB (U := wr) (by first | exact bel_ad bx _ | exact bel_ad (bel_a bx _) _) (by rfl) (.tmp 32) (.tmp 35) (by rfl) (.slice (some ⟨_, 0, none⟩) 0 0) [] (by rfl) (by first | exact row_newd bx | exact row_newd1 bx _ | exact row_newd2 bx _) (some ⟨g, 0, none⟩) a _ _ (by rfl) (p35.out _ (by first | exact bel_ad bx _ | exact bel_ad (bel_a bx _) _)) (by intro e; cases e) L1.out ?_; intro v1 W1 own1 bel1 sz1 kp1; first | (have hq := pairs_kept (pairs_new0 wc _ x1 x2) (kp1 _ (by simp <;> omega) (by simp [Value.ownBlock])) sz1) | (have hq := pairs_kept (pairs_new1 wc _ x1 x2) (kp1 _ (by simp <;> omega) (by simp [Value.ownBlock])) sz1) | skip)
                | (refine step_pairsB (U := wr) (by first | assumption | exact bel_a (by assumption) _) (by rfl) (.tmp 36) (.tmp 41) (by rfl) v1 ([] ++ ls.take a) (by rfl) (by first | exact own1 | exact own1.alloc _) (some ⟨_, 0, none⟩) 1 1 [(x1, x2)] (by rfl) (by first | assumption | exact pairs_new _ _ _) (by intro e; cases e) L2.out ?_; intro v2 W2 own2 bel2 sz2 kp2)
                | (refine step_pairsB (U := wr) (by assumption) (by rfl) (.tmp 42) (.tmp 45) (by rfl) v2 ([] ++ ls.take a ++ [(x1, x2)]) (by rfl) own2 (some ⟨g, 0, none⟩) (i - a) _ (ls.drop a) (by rfl) (p45.out _ (by assumption)) (by intro e; cases e) L3.out ?_; intro v3 W3 own3 bel3 sz3 kp3)))
            all_goals
              have own4 : PairRow W3 w.heap.size v3 (TopM.srt (l.take (i + 1))) := by
                rw [htk.out, ← TopM.ins_srt (x1, x2) a hss.out HPL.out.1.2 HPL.out.2 HPL.out.1.1]
                have e : [] ++ ls.take a ++ [(x1, x2)] ++ ls.drop a = ls.take a ++ (x1, x2) :: ls.drop a := by simp
                rw [← e]
                exact own3.wider hsz
              have bel4 := bw.trans (bel3.mono hsz)
              clear own3 bel3 sz3 kp3 own2 bel2 sz2 kp2 own1 bel1 sz1 kp1
              go_wp2
              exact ⟨⟨i + 1, by go_num, by omega, own4, bel4⟩, by simp [intOf]; omega⟩
          · have p35 := Lib.hid (fun W (hW : Below wr.heap.size wr W) => Pairs.take (hrp.later hW) a hal)
            have p45 : Hid (∀ W, Below wr.heap.size wr W → Pairs W (some ⟨g, a * 2, none⟩) (i - a) (ls.drop a)) := Lib.hid (fun W hW => by
              have := Pairs.drop (hrp.later hW) a
              rwa [Nat.zero_add] at this)
            clear hrp e2 e5 e6 hco2
            have L1 : Hid (([] : List (Int × Int)).length + a ≤ 1000000000) := Lib.hid (by simp; omega)
            have L2 : Hid (([] ++ ls.take a : List (Int × Int)).length + 1 ≤ 1000000000) := Lib.hid (by simp; omega)
            have L3 : Hid (([] ++ ls.take a ++ [(x1, x2)] : List (Int × Int)).length + (i - a) ≤ 1000000000) := Lib.hid (by simp; omega)
            have HA0 := Lib.hid a0
            have HA1 := Lib.hid a1
            have HM := Lib.hid hm
            clear a0 a1 hm
            go_wp2
            go_region_held3 (fun w' => w'.cell? ⟨ab, ao + i * 2, none⟩ = some (.int .i64 x1) ∧ w'.cell? ⟨ab, ao + i * 2 + 1, none⟩ = some (.int .i64 x2) ∧ Below wr.heap.size wr w')
              ((go_split_ands; refine sb_of HA0.out HA1.out habr ?_; first | assumption | (exact bel_a (by assumption) _) | (exact bel_ad (by assumption) _) | (exact Below.drew (by assumption))))
              ((first
                | (refine step_pairsB (U := wr) (by first | exact bel_ad bx _ | exact bel_ad (bel_a bx _) _) (by rfl) (.tmp 32) (.tmp 35) (by rfl) (.slice (some ⟨_, 0, none⟩) 0 0) [] (by rfl) (by first | exact row_newd bx | exact row_newd1 bx _ | exact row_newd2 bx _) (some ⟨g, 0, none⟩) a _ _ (by rfl) (p35.out _ (by first | exact bel_ad bx _ | exact bel_ad (bel_a bx _) _)) (by intro e; cases e) L1.out ?_; intro v1 W1 own1 bel1 sz1 kp1; first | (have hq := pairs_kept (pairs_new0 wc _ x1 x2) (kp1 _ (by simp <;> omega) (by simp [Value.ownBlock])) sz1) | (have hq := pairs_kept (pairs_new1 wc _ x1 x2) (kp1 _ (by simp <;> omega) (by simp [Value.ownBlock])) sz1) | skip)
                | (refine step_pairsB (U := wr) (by first | assumption | exact bel_a (by assumption) _) (by rfl) (.tmp 36) (.tmp 41) (by rfl) v1 ([] ++ ls.take a) (by rfl) (by first | exact own1 | exact own1.alloc _) (some ⟨_, 0, none⟩) 1 1 [(x1, x2)] (by rfl) (by first | assumption | exact pairs_new _ _ _) (by intro e; cases e) L2.out ?_; intro v2 W2 own2 bel2 sz2 kp2)
                | (refine step_pairsB (U := wr) (by assumption) (by rfl) (.tmp 42) (.tmp 45) (by rfl) v2 ([] ++ ls.take a ++ [(x1, x2)]) (by rfl) own2 (some ⟨g, a * 2, none⟩) (i - a) _ (ls.drop a) (by rfl) (p45.out _ (by assumption)) (by intro e; cases e) L3.out ?_; intro v3 W3 own3 bel3 sz3 kp3)))
            all_goals
              have own4 : PairRow W3 w.heap.size v3 (TopM.srt (l.take (i + 1))) := by
                rw [htk.out, ← TopM.ins_srt (x1, x2) a hss.out HPL.out.1.2 HPL.out.2 HPL.out.1.1]
                have e : [] ++ ls.take a ++ [(x1, x2)] ++ ls.drop a = ls.take a ++ (x1, x2) :: ls.drop a := by simp
                rw [← e]
                exact own3.wider hsz
              have bel4 := bw.trans (bel3.mono hsz)
              clear own3 bel3 sz3 kp3 own2 bel2 sz2 kp2 own1 bel1 sz1 kp1
              go_wp2
              exact ⟨⟨i + 1, by go_num, by omega, own4, bel4⟩, by simp [intOf]; omega⟩
    · have hin : i = n := by omega
      have hd : decide ((i : Int) < (n : Int)) = false := decide_eq_false (by omega)
      have hd2 : decide (i < n) = false := decide_eq_false (by omega)
      have htk : l.take i = l := List.take_of_length_le (by rw [← HN.out]; omega)
      rw [htk] at row
      obtain ⟨Ao, co, hvo, hco, hAo⟩ := row.form
      obtain ⟨A', c', e', hrp⟩ := row.pairs
      have hsl : (TopM.srt l).length = i := by rw [TopM.srt_len, ← HN.out, hin]
      rw [hsl] at hvo hco
      rw [hvo] at e'
      injection e' with e1 e2 e3
      subst e1
      have HP := Lib.hid hrp
      have HSL := Lib.hid hsl
      subst hvo
      have hpr : ∀ K : Nat, K ≤ i → Prd wr (.slice Ao K co) (TopM.best K l) := fun K hK => by
        have hb : (TopM.best K l).length = K := by unfold TopM.best; rw [List.length_take, HSL.out]; omega
        refine ⟨Ao, co, by rw [hb], by rw [hb]; omega, hAo, ?_⟩
        rw [hb]
        unfold TopM.best
        have := HP.out
        rw [HSL.out] at this
        exact this.take K hK
      have hall : ∀ K : Nat, i ≤ K → Prd wr (.slice Ao i co) (TopM.best K l) := fun K hK => by
        rw [TopM.best_all (by rw [← HN.out, ← hin]; exact hK)]
        have := row.prd
        exact this
      have hfr : ∀ (K : Nat) (b : Nat), (Value.slice Ao K co).ownBlock = some b → w.heap.size ≤ b := fun K b hb => (World.ownsRow.lt row b (by
        cases Ao with
        | none => exact hb
        | some a => exact hb)).1
      have HFR := Lib.hid hfr
      have HPR := Lib.hid hpr
      have HALL := Lib.hid hall
      clear hfr hpr hall hrp hsl row htk e2 e3 hin
      by_cases hk0 : k < 0
      · have hdk : decide (k < 0) = true := decide_eq_true hk0
        have hkt : Hid (k.toNat = 0) := Lib.hid (by omega)
        by_cases hi0 : 0 < i
        · have hd3 : decide ((0 : Int) < (i : Int)) = true := decide_eq_true (by omega)
          have hd4 : decide (0 < i) = true := decide_eq_true hi0
          go_wp2
          go_ret
          exact ⟨_, rfl, by rw [hkt.out]; exact HPR.out 0 (Nat.zero_le _), bw, HFR.out _⟩
        · have hd3 : decide ((0 : Int) < (i : Int)) = false := decide_eq_false (by omega)
          have hd4 : decide (0 < i) = false := decide_eq_false hi0
          go_wp2
          go_ret
          exact ⟨_, rfl, by rw [hkt.out]; exact HALL.out 0 (by omega), bw, HFR.out _⟩
      · obtain ⟨K, rfl⟩ : ∃ K : Nat, k = (K : Int) := ⟨k.toNat, by omega⟩
        have hdk : decide ((K : Int) < 0) = false := decide_eq_false hk0
        have hkt : Hid ((K : Int).toNat = K) := Lib.hid (Int.toNat_natCast K)
        by_cases hik : K < i
        · have hd3 : decide ((K : Int) < (i : Int)) = true := decide_eq_true (by omega)
          have hd4 : decide (K < i) = true := decide_eq_true hik
          have hK0 : (0 : Int) ≤ (K : Int) := by omega
          have hKc : (K : Int) ≤ (co : Int) := by omega
          go_wp2
          go_ret
          exact ⟨_, rfl, by first | exact HPR.out K (by omega) | (rw [hkt.out]; exact HPR.out K (by omega)), bw, HFR.out _⟩
        · have hd3 : decide ((K : Int) < (i : Int)) = false := decide_eq_false (by omega)
          have hd4 : decide (K < i) = false := decide_eq_false hik
          go_wp2
          go_ret
          exact ⟨_, rfl, by first | exact HALL.out K (by omega) | (rw [hkt.out]; exact HALL.out K (by omega)), bw, HFR.out _⟩
end Go.Proofs.YtpinpnbhbngclaaGreat

/- The document's side: all documents of any list, rising. -/
namespace Go.Proofs.YtpinpnbhbngclaaGreat
open Go.RowKit

theorem ivrow_newd {U w : World} (h : Below U.heap.size U w) : IvRow (w.alloc (.cells #[] 3)).drew U.heap.size (.slice (some ⟨w.heap.size, 0, none⟩) 0 0) [] := ivrow_new h
theorem ivrow_newd1 {U w : World} (h : Below U.heap.size U w) (o : Obj) : IvRow ((w.alloc o).alloc (.cells #[] 3)).drew U.heap.size (.slice (some ⟨w.heap.size + 1, 0, none⟩) 0 0) [] := by
  have := ivrow_newd (bel_a h o)
  simpa using this
theorem ivrow_newd2 {U w : World} (h : Below U.heap.size U w) (o : Obj) : IvRow ((w.alloc (.cells #[] 3)).alloc o).drew U.heap.size (.slice (some ⟨w.heap.size, 0, none⟩) 0 0) [] := (ivrow_new h).later ((Below.refl _ _).alloc (Nat.le_refl _) _).drew
theorem ivs_one (w : World) (x : Int) : Ivs (w.alloc (.cells #[.int .i64 x] 3)).drew (some ⟨w.heap.size, 0, none⟩) 1 [x] := ivs_new1 w x
theorem ivs_one0 (w : World) (o : Obj) (x : Int) : Ivs ((w.alloc (.cells #[.int .i64 x] 3)).alloc o).drew (some ⟨w.heap.size, 0, none⟩) 1 [x] := (ivs_new1 w x).later ((Below.refl _ _).alloc (Nat.le_refl _) _).drew
theorem ivs_one1 (w : World) (o : Obj) (x : Int) : Ivs ((w.alloc o).alloc (.cells #[.int .i64 x] 3)).drew (some ⟨w.heap.size + 1, 0, none⟩) 1 [x] := by
  have : Ivs ((w.alloc o).alloc (.cells #[.int .i64 x] 3)).drew (some ⟨(w.alloc o).heap.size, 0, none⟩) 1 [x] := ivs_new1 (w.alloc o) x
  simpa using this

set_option maxHeartbeats 8000000 in
set_option maxRecDepth 100000 in
theorem refdocs6_any {A : Option Addr} {n cp : Nat} {rs : List (List (Int × Int) × Int)} (w : World) (h : RQ w A n rs) (hg : ∀ x ∈ rs, x.1.length ≤ 400) (hn : n ≤ 64) :
    Calls Tryz.prog 16 #[.slice A n cp] w fun e w' => ∃ v, e = .returned v ∧ IvRow w' w.heap.size v (docsR rs) ∧ Below w.heap.size w w' := by
  have H := Lib.hid h
  have HL := Lib.hid h.1
  have HG := Lib.hid hg
  clear h hg
  go_enter Tryz.func16, Tryz.ntmps16
  go_wp2
  go_loopw [4, 3] (fun x y wr => ∃ (i : Nat) (vo : Value), x = .int .i64 i ∧ i ≤ n ∧ y = vo ∧ IvRow wr w.heap.size vo (docsR (rs.take i)) ∧ Below w.heap.size w wr) (fun x _ _ => n - (intOf x).toNat)
  case atStart => exact ⟨0, _, rfl, by omega, rfl, IvRow.nil_ _ _, Below.refl _ _⟩
  case round =>
    obtain ⟨i, vo, rfl, hi, hvo, row, hb⟩ := hrel
    have hvo2 := hvo.symm
    subst hvo2
    by_cases hlt : i < n
    · have hmi : (i : Int) < (n : Int) := by omega
      have hil : i < rs.length := by rw [HL.out]; exact hlt
      have hl4 := HG.out _ (List.getElem_mem hil)
      have HDN : Hid (docsR (rs.take (i + 1)) = insAll (rs[i].1.map (·.1)) (docsR (rs.take i))) := Lib.hid (docsR_next rs i hil)
      have hol := docsR_len (rs := rs.take i) (fun x hx => HG.out x (List.mem_of_mem_take hx))
      rw [List.length_take] at hol
      have HOL : Hid ((docsR (rs.take i)).length ≤ 25600) := Lib.hid (by omega)
      clear hol
      obtain ⟨⟨l, wt⟩, hx⟩ : ∃ x, x = rs[i] := ⟨_, rfl⟩
      rw [← hx] at hl4 HDN
      have HAT : Hid (∀ W, Below w.heap.size w W → ∃ b o A2 c2, A = some ⟨b, o, none⟩ ∧ b < W.heap.size ∧ W.cell? ⟨b, o + i * 2, none⟩ = some (.slice A2 l.length c2) ∧ W.cell? ⟨b, o + i * 2 + 1, none⟩ = some (.int .i64 wt) ∧ Pairs W A2 l.length l) := Lib.hid (fun W hW => by
        obtain ⟨b, o, A2, c2, e, hl, h0, h1, h2⟩ := (H.out.later hW).2 i hil
        rw [← hx] at h0 h1 h2
        exact ⟨b, o, A2, c2, e, hl, h0, h1, h2⟩)
      simp only at hl4
      have ROW := Lib.hid row
      have HB0 := Lib.hid hb
      clear hx row hb
      go_wp2
      go_loopw [5, 3] (fun x y wr => ∃ (j : Nat) (vo : Value), x = .int .i64 j ∧ j ≤ l.length ∧ y = vo ∧ IvRow wr w.heap.size vo (insAll ((l.take j).map (·.1)) (docsR (rs.take i))) ∧ Below w.heap.size w wr) (fun x _ _ => l.length - (intOf x).toNat)
      case atStart => exact ⟨0, _, rfl, by omega, rfl, ROW.out, HB0.out⟩
      case round =>
        obtain ⟨j, vo, rfl, hj, hvo, row, hb⟩ := hrel
        have hvo2 := hvo.symm
        subst hvo2
        obtain ⟨b, o, A2, c2, rfl, hbl, hc0, hc1, hP⟩ := HAT.out _ hb
        obtain ⟨ln, hln⟩ : ∃ x, x = l.length := ⟨_, rfl⟩
        rw [← hln] at hj hc0 hP hl4 ⊢
        by_cases hjl : j < ln
        · have hmj : (j : Int) < (ln : Int) := by omega
          have hjl2 : j < l.length := by omega
          obtain ⟨b2, o2, rfl, hbl2, p0, p1⟩ := hP.2 j hjl2
          have hnx := insAll_next l (docsR (rs.take i)) j hjl2
          have hlen := insAll_len ((l.take j).map (·.1)) (docsR (rs.take i))
          rw [List.length_map, List.length_take] at hlen
          have holn := HOL.out
          obtain ⟨d, hd⟩ : ∃ x, x = l[j].1 := ⟨_, rfl⟩
          rw [← hd] at p0 hnx
          obtain ⟨O, hO⟩ : ∃ x, x = insAll ((l.take j).map (·.1)) (docsR (rs.take i)) := ⟨_, rfl⟩
          rw [← hO] at row hnx hlen
          have HNX := Lib.hid hnx
          have HB := Lib.hid hb
          have hOl : O.length ≤ 26100 := by omega
          clear hd hO hnx hP hlen hc1 p1 holn
          rcases row.form2 with ⟨rfl, hO0⟩ | ⟨g, co, rfl, hco, hbg, hgs, hI⟩
          · subst hO0
            have HIN : Hid (insD d [] = [].take 0 ++ d :: [].drop 0) := Lib.hid rfl
            have p62 : Hid (∀ W, Below wr.heap.size wr W → Ivs W none 0 (([] : List Int).take 0)) := Lib.hid (fun W _ => ivs_nil _ _)
            have p69 : Hid (∀ W, Below wr.heap.size wr W → Ivs W none 0 (([] : List Int).drop 0)) := Lib.hid (fun W _ => ivs_nil _ _)
            have L1 : Hid (([] : List Int).length + 0 ≤ 1000000000) := Lib.hid (by simp <;> omega)
            have L2 : Hid (([] ++ ([] : List Int).take 0 : List Int).length + 1 ≤ 1000000000) := Lib.hid (by simp <;> omega)
            have L3 : Hid (([] ++ ([] : List Int).take 0 ++ [d] : List Int).length + 0 ≤ 1000000000) := Lib.hid (by simp <;> omega)
            clear row hb
            go_wp2
            go_loop [7] (fun x => x = .int .i64 0) (fun _ => 0)
            case atStart => exact rfl
            case round =>
              obtain rfl := hrel
              have bx : Below wr.heap.size wr wr := Below.refl _ _
              go_wp2
              go_region_held3 (fun w' => Below wr.heap.size wr w')
                ((first | assumption | (exact bel_a (by assumption) _) | (exact bel_ad (by assumption) _) | (exact Below.drew (by assumption))))
                ((first
                  | (refine step_ivsB (U := wr) (by first | exact bel_ad bx _ | exact bel_ad (bel_a bx _) _) (by rfl) (.tmp 59) (.tmp 62) (by rfl) (.slice (some ⟨_, 0, none⟩) 0 0) [] (by rfl) (by first | exact ivrow_newd bx | exact ivrow_newd1 bx _ | exact ivrow_newd2 bx _) none 0 _ _ (by rfl) (p62.out _ (by first | exact bel_ad bx _ | exact bel_ad (bel_a bx _) _)) (fun _ => rfl) L1.out ?_; intro v1 W1 own1 bel1 sz1 kp1; first | (have hq := ivs_kept (ivs_one0 wr _ d) (kp1 _ (by simp <;> omega) (by simp [Value.ownBlock])) sz1) | (have hq := ivs_kept (ivs_one1 wr _ d) (kp1 _ (by simp <;> omega) (by simp [Value.ownBlock])) sz1) | skip)
                  | (refine step_ivsB (U := wr) (by first | assumption | exact bel_a (by assumption) _) (by rfl) (.tmp 63) (.tmp 65) (by rfl) v1 ([] ++ ([] : List Int).take 0) (by rfl) (by first | exact own1 | exact own1.alloc _) (some ⟨_, 0, none⟩) 1 1 [d] (by rfl) (by first | assumption | exact ivs_new1 _ _) (by intro e; cases e) L2.out ?_; intro v2 W2 own2 bel2 sz2 kp2)
                  | (refine step_ivsB (U := wr) (by assumption) (by rfl) (.tmp 66) (.tmp 69) (by rfl) v2 ([] ++ ([] : List Int).take 0 ++ [d]) (by rfl) own2 none 0 _ (([] : List Int).drop 0) (by rfl) (p69.out _ (by assumption)) (fun _ => rfl) L3.out ?_; intro v3 W3 own3 bel3 sz3 kp3)))
              all_goals
                have own4 : IvRow W3 w.heap.size v3 (insAll ((l.take (j + 1)).map (·.1)) (docsR (rs.take i))) := by
                  rw [HNX.out, HIN.out]
                  have e : [] ++ ([] : List Int).take 0 ++ [d] ++ ([] : List Int).drop 0 = ([] : List Int).take 0 ++ d :: ([] : List Int).drop 0 := by simp
                  rw [← e]
                  exact own3.wider HB.out.size
                have bel4 := HB.out.trans (bel3.mono HB.out.size)
                clear own3 bel3 sz3 kp3 own2 bel2 sz2 kp2 own1 bel1 sz1 kp1
                go_wp2
                exact ⟨⟨j + 1, v3, by go_num, by omega, rfl, own4, bel4⟩, by simp [intOf]; omega⟩
          · obtain ⟨m, hm⟩ : ∃ m, m = O.length := ⟨_, rfl⟩
            have HI := Lib.hid hI
            have HM := Lib.hid hm
            have HROW := Lib.hid row
            rw [← hm] at hco hOl ⊢
            clear hI row hm hb
            go_wp2
            go_loop [7] (fun x => ∃ a : Nat, x = .int .i64 a ∧ a ≤ m ∧ ∀ k (h : k < O.length), k < a → O[k] < d) (fun x => m - (intOf x).toNat)
            case atStart => exact ⟨0, rfl, by omega, fun k _ h => by omega⟩
            case round =>
              obtain ⟨a, rfl, ha, hlow⟩ := hrel
              have hac : (a : Int) ≤ (co : Int) := by omega
              have ha0 : (0 : Int) ≤ (a : Int) := by omega
              by_cases ham : a < m
              · have hma : (a : Int) < (m : Int) := by omega
                have hmd : decide ((a : Int) < (m : Int)) = true := decide_eq_true hma
                have hmd2 : decide (a < m) = true := decide_eq_true ham
                have hne : decide ((a : Int) = (m : Int)) = false := decide_eq_false (by omega)
                have hne2 : decide (a = m) = false := decide_eq_false (by omega)
                have haO : a < O.length := by have := HM.out; omega
                obtain ⟨b3, o3, e3, _, q0⟩ := HI.out.2 a haO
                injection e3 with e3
                injection e3 with e4 e5 e6
                subst e4
                subst e5
                rw [Nat.zero_add] at q0
                obtain ⟨y, hy⟩ : ∃ y, y = O[a] := ⟨_, rfl⟩
                rw [← hy] at q0
                by_cases hyd : y < d
                · have hdd : decide (y < d) = true := decide_eq_true hyd
                  have HLOW : Hid (∀ k (h : k < O.length), k < a + 1 → O[k] < d) := Lib.hid (fun k hk h => by
                    by_cases c : k = a
                    · subst c; rw [← hy]; exact hyd
                    · exact hlow k hk (by omega))
                  clear hy hlow
                  go_wp2
                  go_round
                  case rel => exact ⟨a + 1, by go_num, by omega, HLOW.out⟩
                  case measure => simp [intOf]; omega
                · have hdd : decide (y < d) = false := decide_eq_false hyd
                  by_cases hye : y = d
                  · have hde : (y != d) = false := by simpa using hye
                    have HIN : Hid (insD d O = O) := Lib.hid (insD_old d O a haO hlow (by rw [← hy]; exact hye))
                    have HRW : Hid (IvRow wr w.heap.size (.slice (some ⟨g, 0, none⟩) m co) (insAll ((l.take (j + 1)).map (·.1)) (docsR (rs.take i)))) := Lib.hid (by
                      rw [HNX.out, HIN.out]
                      have := HROW.out
                      rw [← HM.out] at this
                      exact this)
                    clear hy hlow hye
                    go_wp2
                    go_roundw
                    case rel => exact ⟨j + 1, _, by go_num, by omega, rfl, HRW.out, HB.out⟩
                    case measure => simp [intOf]; omega
                  · have hde : (y != d) = true := by simpa using hye
                    have HIN : Hid (insD d O = O.take a ++ d :: O.drop a) := Lib.hid (insD_new d O a (by omega) hlow (fun _ => by rw [← hy]; omega))
                    have p62 : Hid (∀ W, Below wr.heap.size wr W → Ivs W (some ⟨g, 0, none⟩) a (O.take a)) := Lib.hid (fun W hW => ((HI.out.later hW)).take a (by omega))
                    have p69 : Hid (∀ W, Below wr.heap.size wr W → Ivs W (some ⟨g, a, none⟩) (m - a) (O.drop a)) := Lib.hid (fun W hW => by
                      have := (HI.out.later hW).drop a
                      rw [Nat.zero_add, ← HM.out] at this
                      exact this)
                    have L1 : Hid (([] : List Int).length + a ≤ 1000000000) := Lib.hid (by simp; omega)
                    have L2 : Hid (([] ++ O.take a : List Int).length + 1 ≤ 1000000000) := Lib.hid (by simp; omega)
                    have L3 : Hid (([] ++ O.take a ++ [d] : List Int).length + (m - a) ≤ 1000000000) := Lib.hid (by simp; omega)
                    have hcoa : ¬ co = a := by omega
                    clear hy hlow hye
                    have bx : Below wr.heap.size wr wr := Below.refl _ _
                    go_wp2
                    go_region_held3 (fun w' => Below wr.heap.size wr w')
                      ((first | assumption | (exact bel_a (by assumption) _) | (exact bel_ad (by assumption) _) | (exact Below.drew (by assumption))))
                      ((first
                        | (refine step_ivsB (U := wr) (by first | exact bel_ad bx _ | exact bel_ad (bel_a bx _) _) (by rfl) (.tmp 59) (.tmp 62) (by rfl) (.slice (some ⟨_, 0, none⟩) 0 0) [] (by rfl) (by first | exact ivrow_newd bx | exact ivrow_newd1 bx _ | exact ivrow_newd2 bx _) (some ⟨g, 0, none⟩) a _ _ (by rfl) (p62.out _ (by first | exact bel_ad bx _ | exact bel_ad (bel_a bx _) _)) (by intro e; cases e) L1.out ?_; intro v1 W1 own1 bel1 sz1 kp1; first | (have hq := ivs_kept (ivs_one0 wr _ d) (kp1 _ (by simp <;> omega) (by simp [Value.ownBlock])) sz1) | (have hq := ivs_kept (ivs_one1 wr _ d) (kp1 _ (by simp <;> omega) (by simp [Value.ownBlock])) sz1) | skip)
                        | (refine step_ivsB (U := wr) (by first | assumption | exact bel_a (by assumption) _) (by rfl) (.tmp 63) (.tmp 65) (by rfl) v1 ([] ++ O.take a) (by rfl) (by first | exact own1 | exact own1.alloc _) (some ⟨_, 0, none⟩) 1 1 [d] (by rfl) (by first | assumption | exact ivs_new1 _ _) (by intro e; cases e) L2.out ?_; intro v2 W2 own2 bel2 sz2 kp2)
                        | (refine step_ivsB (U := wr) (by assumption) (by rfl) (.tmp 66) (.tmp 69) (by rfl) v2 ([] ++ O.take a ++ [d]) (by rfl) own2 (some ⟨g, a, none⟩) (m - a) _ (O.drop a) (by rfl) (p69.out _ (by assumption)) (by intro e; cases e) L3.out ?_; intro v3 W3 own3 bel3 sz3 kp3)))
                    all_goals
                      have own4 : IvRow W3 w.heap.size v3 (insAll ((l.take (j + 1)).map (·.1)) (docsR (rs.take i))) := by
                        rw [HNX.out, HIN.out]
                        have e : [] ++ O.take a ++ [d] ++ O.drop a = O.take a ++ d :: O.drop a := by simp
                        rw [← e]
                        exact own3.wider HB.out.size
                      have bel4 := HB.out.trans (bel3.mono HB.out.size)
                      clear own3 bel3 sz3 kp3 own2 bel2 sz2 kp2 own1 bel1 sz1 kp1
                      go_wp2
                      exact ⟨⟨j + 1, v3, by go_num, by omega, rfl, own4, bel4⟩, by simp [intOf]; omega⟩
              · obtain rfl : a = m := by omega
                have hmd : decide ((a : Int) < (a : Int)) = false := by simp
                have hmd2 : decide (a < a) = false := by simp
                have hne : decide ((a : Int) = (a : Int)) = true := by simp
                have hne2 : decide (a = a) = true := by simp
                have HIN : Hid (insD d O = O.take a ++ d :: O.drop a) := Lib.hid (insD_new d O a (by have := HM.out; omega) hlow (fun h => by have := HM.out; omega))
                have p62 : Hid (∀ W, Below wr.heap.size wr W → Ivs W (some ⟨g, 0, none⟩) a (O.take a)) := Lib.hid (fun W hW => ((HI.out.later hW)).take a (by have := HM.out; omega))
                have L1 : Hid (([] : List Int).length + a ≤ 1000000000) := Lib.hid (by simp; omega)
                have L2 : Hid (([] ++ O.take a : List Int).length + 1 ≤ 1000000000) := Lib.hid (by simp; omega)
                have L3 : Hid (([] ++ O.take a ++ [d] : List Int).length + 0 ≤ 1000000000) := Lib.hid (by simp; omega)
                have hdr : O.drop a = [] := List.drop_of_length_le (by have := HM.out; omega)
                clear hlow
                by_cases hca : co = a
                · subst hca
                  have p69 : Hid (∀ W, Below wr.heap.size wr W → Ivs W (some ⟨g, 0, none⟩) 0 (O.drop co)) := Lib.hid (fun W _ => by rw [hdr]; exact ivs_nil _ _)
                  clear hdr
                  have bx : Below wr.heap.size wr wr := Below.refl _ _
                  go_wp2
                  go_region_held3 (fun w' => Below wr.heap.size wr w')
                    ((first | assumption | (exact bel_a (by assumption) _) | (exact bel_ad (by assumption) _) | (exact Below.drew (by assumption))))
                    ((first
                      | (refine step_ivsB (U := wr) (by first | exact bel_ad bx _ | exact bel_ad (bel_a bx _) _) (by rfl) (.tmp 59) (.tmp 62) (by rfl) (.slice (some ⟨_, 0, none⟩) 0 0) [] (by rfl) (by first | exact ivrow_newd bx | exact ivrow_newd1 bx _ | exact ivrow_newd2 bx _) (some ⟨g, 0, none⟩) co _ _ (by rfl) (p62.out _ (by first | exact bel_ad bx _ | exact bel_ad (bel_a bx _) _)) (by intro e; cases e) L1.out ?_; intro v1 W1 own1 bel1 sz1 kp1; first | (have hq := ivs_kept (ivs_one0 wr _ d) (kp1 _ (by simp <;> omega) (by simp [Value.ownBlock])) sz1) | (have hq := ivs_kept (ivs_one1 wr _ d) (kp1 _ (by simp <;> omega) (by simp [Value.ownBlock])) sz1) | skip)
                      | (refine step_ivsB (U := wr) (by first | assumption | exact bel_a (by assumption) _) (by rfl) (.tmp 63) (.tmp 65) (by rfl) v1 ([] ++ O.take co) (by rfl) (by first | exact own1 | exact own1.alloc _) (some ⟨_, 0, none⟩) 1 1 [d] (by rfl) (by first | assumption | exact ivs_new1 _ _) (by intro e; cases e) L2.out ?_; intro v2 W2 own2 bel2 sz2 kp2)
                      | (refine step_ivsB (U := wr) (by assumption) (by rfl) (.tmp 66) (.tmp 69) (by rfl) v2 ([] ++ O.take co ++ [d]) (by rfl) own2 (some ⟨g, 0, none⟩) 0 _ (O.drop co) (by rfl) (p69.out _ (by assumption)) (by intro e; cases e) L3.out ?_; intro v3 W3 own3 bel3 sz3 kp3)))
                  all_goals
                    have own4 : IvRow W3 w.heap.size v3 (insAll ((l.take (j + 1)).map (·.1)) (docsR (rs.take i))) := by
                      rw [HNX.out, HIN.out]
                      have e : [] ++ O.take co ++ [d] ++ O.drop co = O.take co ++ d :: O.drop co := by simp
                      rw [← e]
                      exact own3.wider HB.out.size
                    have bel4 := HB.out.trans (bel3.mono HB.out.size)
                    clear own3 bel3 sz3 kp3 own2 bel2 sz2 kp2 own1 bel1 sz1 kp1
                    go_wp2
                    exact ⟨⟨j + 1, v3, by go_num, by omega, rfl, own4, bel4⟩, by simp [intOf]; omega⟩
                · have p69 : Hid (∀ W, Below wr.heap.size wr W → Ivs W (some ⟨g, a, none⟩) 0 (O.drop a)) := Lib.hid (fun W _ => by rw [hdr]; exact ivs_nil _ _)
                  clear hdr
                  have bx : Below wr.heap.size wr wr := Below.refl _ _
                  go_wp2
                  go_region_held3 (fun w' => Below wr.heap.size wr w')
                    ((first | assumption | (exact bel_a (by assumption) _) | (exact bel_ad (by assumption) _) | (exact Below.drew (by assumption))))
                    ((first
                      | (refine step_ivsB (U := wr) (by first | exact bel_ad bx _ | exact bel_ad (bel_a bx _) _) (by rfl) (.tmp 59) (.tmp 62) (by rfl) (.slice (some ⟨_, 0, none⟩) 0 0) [] (by rfl) (by first | exact ivrow_newd bx | exact ivrow_newd1 bx _ | exact ivrow_newd2 bx _) (some ⟨g, 0, none⟩) a _ _ (by rfl) (p62.out _ (by first | exact bel_ad bx _ | exact bel_ad (bel_a bx _) _)) (by intro e; cases e) L1.out ?_; intro v1 W1 own1 bel1 sz1 kp1; first | (have hq := ivs_kept (ivs_one0 wr _ d) (kp1 _ (by simp <;> omega) (by simp [Value.ownBlock])) sz1) | (have hq := ivs_kept (ivs_one1 wr _ d) (kp1 _ (by simp <;> omega) (by simp [Value.ownBlock])) sz1) | skip)
                      | (refine step_ivsB (U := wr) (by first | assumption | exact bel_a (by assumption) _) (by rfl) (.tmp 63) (.tmp 65) (by rfl) v1 ([] ++ O.take a) (by rfl) (by first | exact own1 | exact own1.alloc _) (some ⟨_, 0, none⟩) 1 1 [d] (by rfl) (by first | assumption | exact ivs_new1 _ _) (by intro e; cases e) L2.out ?_; intro v2 W2 own2 bel2 sz2 kp2)
                      | (refine step_ivsB (U := wr) (by assumption) (by rfl) (.tmp 66) (.tmp 69) (by rfl) v2 ([] ++ O.take a ++ [d]) (by rfl) own2 (some ⟨g, a, none⟩) 0 _ (O.drop a) (by rfl) (p69.out _ (by assumption)) (by intro e; cases e) L3.out ?_; intro v3 W3 own3 bel3 sz3 kp3)))
                  all_goals
                    have own4 : IvRow W3 w.heap.size v3 (insAll ((l.take (j + 1)).map (·.1)) (docsR (rs.take i))) := by
                      rw [HNX.out, HIN.out]
                      have e : [] ++ O.take a ++ [d] ++ O.drop a = O.take a ++ d :: O.drop a := by simp
                      rw [← e]
                      exact own3.wider HB.out.size
                    have bel4 := HB.out.trans (bel3.mono HB.out.size)
                    clear own3 bel3 sz3 kp3 own2 bel2 sz2 kp2 own1 bel1 sz1 kp1
                    go_wp2
                    exact ⟨⟨j + 1, v3, by go_num, by omega, rfl, own4, bel4⟩, by simp [intOf]; omega⟩
        · have hmj : ¬ (j : Int) < (ln : Int) := by omega
          have hjl : j = ln := by omega
          have HRW : Hid (IvRow wr w.heap.size vo (docsR (rs.take (i + 1)))) := Lib.hid (by
            rw [HDN.out]
            rw [List.take_of_length_le (by omega)] at row
            exact row)
          have HB := Lib.hid hb
          clear row hb hP
          go_wp2
          go_roundw
          case rel => exact ⟨i + 1, _, by go_num, by omega, rfl, HRW.out, HB.out⟩
          case measure => simp [intOf]; omega
    · have hmi : ¬ (i : Int) < (n : Int) := by omega
      obtain rfl : i = n := by omega
      rw [List.take_of_length_le (by rw [HL.out]; exact Nat.le_refl _)] at row
      have HRW := Lib.hid row
      have HB := Lib.hid hb
      clear row hb
      go_wp2
      go_ret
      exact ⟨_, rfl, HRW.out, HB.out⟩
end Go.Proofs.YtpinpnbhbngclaaGreat

/- The document's side: what is found. -/
namespace Go.Proofs.YtpinpnbhbngclaaGreat
open Go.RowKit

def rE (n : Nat) (k : Int) (rs : List (List (Int × Int) × Int)) : Int := if rrightB n k rs = true then 0 else 1
/-- what the document's side finds -/
def rF (n : Nat) (k : Int) (rs : List (List (Int × Int) × Int)) (may : Int → Bool) : List (Int × Int) := if rrightB n k rs = true then foundR k.toNat rs may else []
theorem rright_parts {n : Nat} {k : Int} {rs : List (List (Int × Int) × Int)} (h : rrightB n k rs = true) : n ≤ 64 ∧ 1 ≤ k ∧ k ≤ 1000 ∧ wtsB rs = true := by
  unfold rrightB at h
  simp only [Bool.and_eq_true, decide_eq_true_eq] at h
  exact ⟨h.1.1.2, h.1.2, h.2, h.1.1.1⟩
theorem wtsB_all : ∀ {rs : List (List (Int × Int) × Int)}, wtsB rs = true → ∀ x ∈ rs, 1 ≤ x.2 ∧ x.2 ≤ 65535
  | x :: t, h, y, hy => by
    unfold wtsB at h
    simp only [Bool.and_eq_true, decide_eq_true_eq] at h
    rcases List.mem_cons.1 hy with rfl | hy
    · exact h.1
    · exact wtsB_all h.2 y hy
theorem goodP_all {n : Nat} {k : Int} {rs : List (List (Int × Int) × Int)} (h : rrightB n k rs = true) (hr : ∀ x ∈ rs, PostM.rightL x.1 = true) (hs : ∀ x ∈ rs, x.1.length ≤ 400) : ∀ x ∈ rs, GoodP (prt x) := fun x hx =>
  ⟨hr x hx, hs x hx, (wtsB_all (rright_parts h).2.2.2 x hx).1, (wtsB_all (rright_parts h).2.2.2 x hx).2⟩
/-- what is looked at, so far -/
def seenL (rs : List (List (Int × Int) × Int)) (may : Int → Bool) (i : Nat) : List (Int × Int) := (((docsR rs).take i).filter may).map fun d => (d, scoreR rs d)
theorem seenL_next {rs : List (List (Int × Int) × Int)} {may : Int → Bool} {i : Nat} (h : i < (docsR rs).length) : seenL rs may (i + 1) = seenL rs may i ++ if may (docsR rs)[i] = true then [((docsR rs)[i], scoreR rs (docsR rs)[i])] else [] := by
  unfold seenL
  rw [List.take_succ_eq_append_getElem h, List.filter_append, List.map_append]
  congr 1
  cases c : may (docsR rs)[i] with
  | true => rw [List.filter_cons_of_pos c]; rfl
  | false => rw [List.filter_cons_of_neg (by simp [c])]; rfl
theorem seenL_len (rs : List (List (Int × Int) × Int)) (may : Int → Bool) (i : Nat) : (seenL rs may i).length ≤ i := by
  unfold seenL
  rw [List.length_map]
  exact Nat.le_trans (List.length_filter_le _ _) (by rw [List.length_take]; omega)
theorem all_next6 {nl : List Int} {d : Int} {j : Nat} (h : j < nl.length) : (nl.take (j + 1)).all (fun x => !(x == d)) = ((nl.take j).all (fun x => !(x == d)) && !(nl[j] == d)) := by
  rw [List.take_succ_eq_append_getElem h, List.all_append]
  simp
theorem keepT {S : Nat → Prop} {w w' : World} {b o : Nat} {d : Int} (h : w.cell? ⟨b, o, none⟩ = some (.int .i64 d)) (hb : b < w.heap.size) (hS : ¬ S b) (hw : Turned S w w') : w'.cell? ⟨b, o, none⟩ = some (.int .i64 d) ∧ Turned S w w' := ⟨(hw.cell (p := ⟨b, o, none⟩) hb hS).trans h, hw⟩
theorem turn_grown {u w w' : World} {r : Option Nat} (g : w.grownBy w' r) (h : Below u.heap.size u w) : Turned (fun b => r = some b) u w' :=
  (Turned.of_below h).trans ⟨g.os, g.tape, g.output, g.size, fun k hk hs => g.block k hk (fun e => hs e.symm)⟩
theorem bel_c {u w w' : World} (h : Below u.heap.size u w) (h2 : Below w.heap.size w w') : Below u.heap.size u w' := h.trans (h2.mono h.size)
theorem row_on {u w : World} {base : Nat} {v : Value} {l : List (Int × Int)} (h : PairRow u base v l) (hw : Below u.heap.size u w) : PairRow w base v l := h.later hw
theorem base_on {u w : World} {base : Nat} (h : base ≤ u.heap.size) (hw : Below u.heap.size u w) : base ≤ w.heap.size := Nat.le_trans h hw.size
set_option maxHeartbeats 1000000 in
set_option maxRecDepth 100000 in
theorem reffind6_no (A : Option Addr) (n cp : Nat) (k : Int) (v4 : Value) (rs : List (List (Int × Int) × Int)) (w : World) (h : RQ w A n rs) (hn : n ≤ 70) (hr : rrightB n k rs = false) :
    Calls Tryz.prog 9 #[.slice A n cp, .int .i64 k, v4] w fun e w' => e = .returned (.tuple #[.slice none 0 0, .int .i64 1]) ∧ Below w.heap.size w w' := by
  have hR := refright6_any A n cp k rs w h (by omega)
  rw [hr] at hR
  have HR := Lib.hid hR
  clear h hR
  go_enter Tryz.func9, Tryz.ntmps9
  go_wp2_with fail
  refine HR.out.mono ?_
  rintro e w2 ⟨rfl, hb⟩
  go_wp2
  go_ret2
  exact ⟨rfl, hb⟩
set_option maxHeartbeats 8000000 in
set_option maxRecDepth 100000 in
theorem reffind6_yes (A A4 : Option Addr) (n cp n4 c4 : Nat) (k : Int) (nl : List Int) (rs : List (List (Int × Int) × Int)) (w : World) (h : RQ w A n rs) (hnt : Ivs w A4 n4 nl) (hs : ∀ x ∈ rs, x.1.length ≤ 400) (hrl : ∀ x ∈ rs, PostM.rightL x.1 = true) (hn4 : n4 ≤ 1000000) (hr : rrightB n k rs = true) :
    Calls Tryz.prog 9 #[.slice A n cp, .int .i64 k, .slice A4 n4 c4] w fun e w' => ∃ v', e = .returned (.tuple #[v', .int .i64 0]) ∧ Prd w' v' (foundR k.toNat rs (but6 nl)) ∧ Below w.heap.size w w' := by
  obtain ⟨hn, hk1, hk2, _⟩ := rright_parts hr
  have hg := goodP_all hr hrl hs
  have hR := refright6_any A n cp k rs w h (by omega)
  rw [hr] at hR
  have HR := Lib.hid hR
  have HD := Lib.hid (fun W (hW : Below w.heap.size w W) => refdocs6_any (cp := cp) W (h.later hW) hs hn)
  have HSC := Lib.hid (fun d W (hW : Below w.heap.size w W) => refscore6_any (cp := cp) (d := d) W (h.later hW) hg hn)
  have HV := Lib.hid (vl_all hg (but6 nl))
  have hdl := docsR_len hs
  have HDL : Hid ((docsR rs).length ≤ 25600) := Lib.hid (by rw [h.1] at hdl; omega)
  have HN := Lib.hid hnt
  have HNL := Lib.hid hnt.1
  clear h hg hR hr hs hrl hdl hnt
  go_enter Tryz.func9, Tryz.ntmps9
  go_wp2_with fail
  refine HR.out.mono ?_
  rintro e w1 ⟨rfl, hb1⟩
  have HB1 := Lib.hid hb1
  clear hb1
  go_wp2_with fail
  refine (HD.out _ HB1.out).mono ?_
  rintro e w2 ⟨vd, rfl, hrow, hb2⟩
  have HB2 := Lib.hid (HB1.out.trans (hb2.mono HB1.out.size))
  obtain ⟨Ad, cd, rfl, hcd, hAd, hI⟩ := hrow.ivs
  have HI := Lib.hid hI
  obtain ⟨nd, hnd⟩ : ∃ x, x = (docsR rs).length := ⟨_, rfl⟩
  have HND := Lib.hid hnd
  have hnd2 := HDL.out
  rw [← hnd] at hcd hnd2 ⊢
  clear hrow hb2 hI hnd
  go_wp2
  go_loopw [8, 10] (fun x y wr => ∃ (i : Nat) (vr : Value), x = vr ∧ y = .int .i64 i ∧ i ≤ nd ∧ PairRow wr w2.heap.size vr (seenL rs (but6 nl) i) ∧ Below w2.heap.size w2 wr) (fun _ y _ => nd - (intOf y).toNat)
  case atStart => exact ⟨0, _, rfl, rfl, by omega, PairRow.nil_ _ _, Below.refl _ _⟩
  case round =>
    obtain ⟨i, vr, hvr, rfl, hi, row, hb⟩ := hrel
    have hvr2 := hvr.symm
    subst hvr2
    by_cases hlt : i < nd
    · have hmi : (i : Int) < (nd : Int) := by omega
      have hil : i < (docsR rs).length := by rw [← HND.out]; exact hlt
      have hsn := seenL_next (may := but6 nl) hil
      have hsl := seenL_len rs (but6 nl) i
      obtain ⟨bd, od, rfl, hbdl, q0⟩ := HI.out.2 i hil
      obtain ⟨d, hd⟩ : ∃ x, x = (docsR rs)[i] := ⟨_, rfl⟩
      rw [← hd] at q0 hsn
      have HSN := Lib.hid hsn
      have HROW := Lib.hid row
      have HB := Lib.hid hb
      have hsl2 : (seenL rs (but6 nl) i).length ≤ 26000 := by omega
      have HSL := Lib.hid hsl2
      have HQ0 := Lib.hid (fun W (hW : Below w2.heap.size w2 W) => (hW.cell (p := ⟨bd, od + i, none⟩) hbdl).trans q0)
      clear hd hsn hsl hsl2 row hb q0
      go_wp2
      go_loopw [11, 12] (fun x y wq => ∃ (j : Nat) (b : Bool), x = .bool b ∧ y = .int .i64 j ∧ j ≤ n4 ∧ b = (nl.take j).all (fun x => !(x == d)) ∧ Below wr.heap.size wr wq) (fun _ y _ => n4 - (intOf y).toNat)
      case atStart => exact ⟨0, true, rfl, rfl, by omega, rfl, Below.refl _ _⟩
      case round =>
        obtain ⟨j, b, rfl, rfl, hj, hall, hbq⟩ := hrel
        have HBQ := Lib.hid (HB.out.trans (hbq.mono HB.out.size))
        have HBQ0 := Lib.hid hbq
        by_cases hjl : j < n4
        · have hmj : (j : Int) < (n4 : Int) := by omega
          have hjn : j < nl.length := by rw [HNL.out]; exact hjl
          obtain ⟨b4, o4, rfl, hb4, p0⟩ := (HN.out.later (HB2.out.trans (HBQ.out.mono HB2.out.size))).2 j hjn
          have hnx := all_next6 (d := d) hjn
          rw [← hall] at hnx
          obtain ⟨x, hx⟩ : ∃ x, x = nl[j] := ⟨_, rfl⟩
          rw [← hx] at p0 hnx
          have q1 := HQ0.out _ HBQ.out
          have HALL := Lib.hid hall
          cases b with
          | false =>
            have HF : Hid (false = (nl.take (j + 1)).all (fun x => !(x == d))) := Lib.hid (by rw [hnx]; rfl)
            clear hall hnx hbq hx
            go_wp2
            go_quiet (fail)
            go_wp2
            go_roundw
            case rel => exact ⟨j + 1, false, rfl, by go_num, by omega, HF.out, HBQ0.out.trans ((below_drewN_p _ _).mono HBQ0.out.size)⟩
            case measure => simp [intOf]; omega
          | true =>
            by_cases hxd : x = d
            · have hde : (x != d) = false := by simpa using hxd
              have HF : Hid (false = (nl.take (j + 1)).all (fun x => !(x == d))) := Lib.hid (by rw [hnx]; simp [hxd])
              clear hall hnx hbq hx hxd
              go_wp2
              go_quiet (fail)
              go_wp2
              go_roundw
              case rel => exact ⟨j + 1, false, rfl, by go_num, by omega, HF.out, HBQ0.out.trans ((below_drewN_p _ _).mono HBQ0.out.size)⟩
              case measure => simp [intOf]; omega
            · have hde : (x != d) = true := by simpa using hxd
              have HF : Hid (true = (nl.take (j + 1)).all (fun x => !(x == d))) := Lib.hid (by rw [hnx]; simp [hxd])
              clear hall hnx hbq hx hxd
              go_wp2
              go_quiet (fail)
              go_wp2
              go_roundw
              case rel => exact ⟨j + 1, true, rfl, by go_num, by omega, HF.out, HBQ0.out.trans ((below_drewN_p _ _).mono HBQ0.out.size)⟩
              case measure => simp [intOf]; omega
        · have hmj : ¬ (j : Int) < (n4 : Int) := by omega
          obtain rfl : j = n4 := by omega
          rw [List.take_of_length_le (by rw [HNL.out]; exact Nat.le_refl _)] at hall
          have hall2 : b = but6 nl d := hall
          have hrq : PairRow wr w2.heap.size vr (seenL rs (but6 nl) i) := HROW.out.later hbq
          have HRQ := Lib.hid hrq
          cases b with
          | false =>
            have HR2 : Hid (PairRow wr w2.heap.size vr (seenL rs (but6 nl) (i + 1))) := Lib.hid (by rw [HSN.out, ← hall2, if_neg (by decide), List.append_nil]; exact hrq)
            clear hall hall2 hrq hbq
            go_wp2
            go_roundw
            case rel => exact ⟨i + 1, vr, rfl, by go_num, by omega, HR2.out, HBQ.out⟩
            case measure => simp [intOf]; omega
          | true =>
            have HS2 : Hid (seenL rs (but6 nl) (i + 1) = seenL rs (but6 nl) i ++ [(d, scoreR rs d)]) := Lib.hid (by rw [HSN.out, ← hall2, if_pos rfl])
            obtain ⟨L, hL⟩ : ∃ L, L = seenL rs (but6 nl) i := ⟨_, rfl⟩
            obtain ⟨sc, hsc⟩ : ∃ x, x = scoreR rs d := ⟨_, rfl⟩
            have HSC2 := Lib.hid (fun W (hW : Below wr.heap.size wr W) => (HSC.out d W (HB2.out.trans ((HBQ.out.trans (hW.mono HBQ.out.size)).mono HB2.out.size))).mono (fun e w' (hh : _ ∧ Below W.heap.size W w') => (⟨hh.1, bel_c hW hh.2⟩ : _ ∧ Below wr.heap.size wr w')))
            rw [← hsc] at HSC2 HS2
            rw [← hL] at HS2 HRQ
            have hLl := HSL.out
            rw [← hL] at hLl
            have q1 := HQ0.out _ HBQ.out
            have hqd : bd < wr.heap.size := Nat.lt_of_lt_of_le hbdl HBQ.out.size
            have hws : w2.heap.size ≤ wr.heap.size := HBQ.out.size
            have hqn : ¬ vr.ownBlock = some bd := fun e => by have := (World.ownsRow.lt HRQ.out bd e).1; omega
            have HQ1 := Lib.hid q1
            clear hall hall2 hrq hbq hL hsc q1
            go_wp2
            go_region_held3 (fun w' => w'.cell? ⟨bd, od + i, none⟩ = some (.int .i64 d) ∧ Turned (fun b => vr.ownBlock = some b) wr w')
              ((go_split_ands; refine keepT HQ1.out hqd hqn ?_; first | exact Turned.of_below (by first | assumption | exact (Below.refl _ _).drew | exact Below.refl _ _ | exact bel_a (by assumption) _) | exact turn_grown (by assumption) (by first | assumption | exact bel_a (by assumption) _)))
              ((first
                | (with_reducible refine (HSC2.out _ (by first | assumption | exact (Below.refl _ _).drew | exact Below.refl _ _)).mono ?_; rintro e w5 ⟨rfl, hb5⟩)
                | (refine step_pairs (by rfl) (.tmp 44) (.tmp 56) (by rfl) w2.heap.size vr L (by rfl) (row_on HRQ.out (by first | assumption | exact bel_a (by assumption) _ | exact bel_ad (by assumption) _)) (base_on hws (by first | assumption | exact bel_a (by assumption) _ | exact bel_ad (by assumption) _)) (some ⟨_, 0, none⟩) 1 1 [(d, sc)] (by rfl) (pairs_new _ _ _) (by intro e; cases e) (by simp; omega) ?_; intro v1 W1 own1 gr1)))
            all_goals
              have hba := bel_a hb5 (Obj.cells #[Value.int IntKind.i64 d, Value.int IntKind.i64 sc] 54)
              have hrw : PairRow (w5.alloc (Obj.cells #[Value.int IntKind.i64 d, Value.int IntKind.i64 sc] 54)) w2.heap.size vr L := row_on HRQ.out hba
              have hbel : Below w2.heap.size w2 W1 := (HBQ.out.trans (hba.mono HBQ.out.size)).grown gr1 (base_on hws hba) (fun k hk => (World.ownsRow.lt hrw k hk).1)
              have own2 : PairRow W1 w2.heap.size v1 (seenL rs (but6 nl) (i + 1)) := by
                rw [HS2.out]
                exact own1
              clear own1 hba hrw gr1 hb5
              go_wp2
              exact ⟨⟨i + 1, v1, rfl, by go_num, by omega, own2, hbel⟩, by simp [intOf]; omega⟩
    · have hmi : ¬ (i : Int) < (nd : Int) := by omega
      obtain rfl : i = nd := by omega
      have hse : seenL rs (but6 nl) i = vl (docsR rs) (but6 nl) (scoreR rs) 2147483648 := by
        rw [HV.out]
        unfold seenL
        rw [List.take_of_length_le (by rw [← HND.out]; exact Nat.le_refl _)]
      have hlen := seenL_len rs (but6 nl) i
      rw [hse] at row hlen
      have HBB := Lib.hid (HB2.out.trans (hb.mono HB2.out.size))
      have hbest := refbest_any k vr _ wr row.prd (by omega)
      have HBEST := Lib.hid hbest
      clear row hb hbest hse hlen
      go_wp2_with fail
      refine HBEST.out.mono ?_
      rintro e w7 ⟨v', rfl, hprd, hb7, _⟩
      have HP := Lib.hid hprd
      have HB7 := Lib.hid (HBB.out.trans (hb7.mono HBB.out.size))
      clear hprd hb7
      go_wp2
      go_ret2
      exact ⟨v', rfl, HP.out, HB7.out⟩
end Go.Proofs.YtpinpnbhbngclaaGreat

/- Posts: Build's list lies in memory that the call has made. -/
namespace Go.Proofs.YtpinpnbhbngclaaGreat
open Go.RowKit

/-- the list l, at block b, all its blocks in [B, E) -/
def PLn (B E : Nat) (w : World) (b : Nat) (l : List (Int × Int)) : Prop :=
  B ≤ b ∧ b < E ∧ ∃ vp vb, w.heap[b]? = some (.cells #[vp, vb, .int .i64 (PostM.mx l)] 105 (0, 0)) ∧ (PRow 60 w B vp l ∧ ∀ g, vp.ownBlock = some g → g < E) ∧ PRow 110 w B vb (PostM.blks l) ∧ ∀ g, vb.ownBlock = some g → g < E
theorem PLn.pl {B E : Nat} {w : World} {b : Nat} {l : List (Int × Int)} (h : PLn B E w b l) : PL w b l := by
  obtain ⟨_, _, vp, vb, h1, h2, h3⟩ := h
  exact ⟨vp, vb, h1, h2.1.prd, h3.1.prd⟩
/-- it stays where blocks outside of [B, E) turn -/
theorem PLn.stay {B E : Nat} {w w' : World} {b : Nat} {l : List (Int × Int)} (h : PLn B E w b l) (hk : ∀ k, B ≤ k → k < E → k < w.heap.size → w'.heap[k]? = w.heap[k]?) : PLn B E w' b l := by
  obtain ⟨hB, hE, vp, vb, h1, h2, h3⟩ := h
  refine ⟨hB, hE, vp, vb, (hk b hB hE (Array.getElem?_eq_some_iff.1 h1).1).trans h1, ⟨h2.1.kept fun g hg => ?_, h2.2⟩, h3.1.kept fun g hg => ?_, h3.2⟩
  · have := World.ownsRow.lt h2.1 g hg; exact hk g this.1 (h2.2 g hg) this.2
  · have := World.ownsRow.lt h3.1 g hg; exact hk g this.1 (h3.2 g hg) this.2
set_option maxHeartbeats 1000000 in
set_option maxRecDepth 100000 in
theorem build_own (v : Value) (l : List (Int × Int)) (w : World) (h : Prd w v l) (hl : l.length ≤ 1000000) (hr : PostM.rightL l = true) :
    Calls Tryz.prog 26 #[v] w fun e w' => ∃ b, e = .returned (.tuple #[.pointer (some ⟨b, 0, none⟩), .int .i64 0]) ∧ PLn w.heap.size w'.heap.size w' b l ∧ Below w.heap.size w w' := by
  have hR := fun W (hW : Below w.heap.size w W) => pright_any v l W (h.later hW) hl
  rw [hr] at hR
  have hC := fun W (hW : Below w.heap.size w W) => pclone_any v l W (h.later hW) hl
  have HR := Lib.hid hR
  have HC := Lib.hid hC
  clear hR hr h hC
  go_enter Tryz.func26, Tryz.ntmps26
  go_wp2_with fail
  refine (HR.out _ (Below.refl _ _)).mono ?_
  rintro e W1 ⟨rfl, hb⟩
  go_wp2_with fail
  refine (HC.out _ hb).mono ?_
  rintro e W2 ⟨v', rfl, hrow, hb2⟩
  have hb3 := hb.trans (hb2.mono hb.size)
  have HL := Lib.hid (listof_own v' l W2 hrow.prd hl)
  have HROW := Lib.hid (hrow.base_mono hb.size)
  clear hrow hb2
  go_wp2_with fail
  refine HL.out.mono ?_
  rintro e W3 ⟨b, rfl, hle, ⟨vb, h1, _, h3⟩, hb4⟩
  have hb5 := hb3.trans (hb4.mono hb3.size)
  have hrl := HROW.out.later hb4
  have h3l := h3.base_mono hb3.size
  have hpl : PLn w.heap.size W3.heap.size W3 b l := ⟨Nat.le_trans hb3.size hle, (Array.getElem?_eq_some_iff.1 h1).1, v', vb, h1, ⟨hrl, fun g hg => (World.ownsRow.lt hrl g hg).2⟩, h3l, fun g hg => (World.ownsRow.lt h3l g hg).2⟩
  clear hb hb3 hb4 HL HR HC h1 h3 hrl h3l
  go_wp2
  go_ret2
  exact ⟨b, rfl, hpl, hb5⟩
end Go.Proofs.YtpinpnbhbngclaaGreat

/- Posts: the document's Right. -/
namespace Go.Proofs.YtpinpnbhbngclaaGreat
open Go.RowKit

set_option maxHeartbeats 4000000 in
set_option maxRecDepth 100000 in
theorem refright5_any (v : Value) (l : List (Int × Int)) (w : World) (h : Prd w v l) (hl : l.length ≤ 1000000) :
    Calls Tryz.prog 25 #[v] w fun e w' => e = .returned (.bool (PostM.rightL l)) ∧ ∃ n, w' = w.drewN n := by
  have hP := h
  obtain ⟨A, cp, rfl, hcp⟩ := h.form
  obtain ⟨n, hn⟩ : ∃ n, n = l.length := ⟨_, rfl⟩
  rw [← hn] at hl hcp hP ⊢
  have HN := Lib.hid hn
  have HP := Lib.hid hP
  clear hn hP h
  go_enter Tryz.func25, Tryz.ntmps25
  go_wp2
  go_loopw [3] (fun x wr => ∃ k : Nat, k ≤ n ∧ x = .int .i64 k ∧ PostM.rgt (-1) (l.take k) = true ∧ ∃ q, wr = w.drewN q) (fun x _ => n - (intOf x).toNat)
  case atStart => exact ⟨0, by omega, rfl, rfl, 0, rfl⟩
  case round =>
    obtain ⟨k, hk, rfl, hr, q, rfl⟩ := hrel
    by_cases hkn : k < n
    · have hkl : k < l.length := by rw [← HN.out]; exact hkn
      obtain ⟨b, o, rfl, hbw, c0, c1⟩ := (HP.out).at_ k hkl
      have hnext := PostM.rgt_next (la := -1) k hkl
      rw [hr, Bool.true_and, PostM.rgt_one] at hnext
      have hpre : PostM.rightL l = true → PostM.rgt (-1) (l.take (k + 1)) = true := fun h => PostM.rgt_prefix (k + 1) h
      have hla : (k = 0 ∧ PostM.lastOf (-1) (l.take k) = -1) ∨ ∃ j, ∃ hj : j < l.length, k = j + 1 ∧ PostM.lastOf (-1) (l.take k) = l[j].1 ∧ 0 ≤ l[j].1 := by
        rcases k with _ | j
        · exact .inl ⟨rfl, rfl⟩
        · have hj : j < l.length := by omega
          refine .inr ⟨j, hj, rfl, PostM.lastOf_get _ _ _ hj, ?_⟩
          have := (PostM.rgt_all hr l[j] (by rw [PostM.take_snoc_p l j hj]; exact List.mem_append_right _ (List.mem_singleton.2 rfl))).1
          omega
      obtain ⟨⟨p1, p2⟩, hp⟩ : ∃ p, p = l[k] := ⟨_, rfl⟩
      rw [← hp] at c0 c1 hnext
      simp only at c0 c1 hnext
      obtain ⟨la, hlaz⟩ : ∃ la, la = PostM.lastOf (-1) (l.take k) := ⟨_, rfl⟩
      rw [← hlaz] at hnext hla
      have HNX := Lib.hid hnext
      have hno : (decide (la < p1) && decide (p1 ≤ 2147483647) && decide (1 ≤ p2) && decide (p2 ≤ 65535)) = false → PostM.rightL l = false := fun h => by
        cases hx : PostM.rightL l with
        | false => rfl
        | true => have := hpre hx; rw [HNX.out, h] at this; cases this
      have HNO := Lib.hid hno
      clear hno hnext hpre hlaz hp hr
      have q1 : (0 : Int) ≤ (k : Int) := by omega
      have q2 : (k : Int) < (n : Int) := by omega
      have q3 : decide ((k : Int) < (n : Int)) = true := decide_eq_true q2
      have q4 : decide (k < n) = true := decide_eq_true hkn
      have hlo : -1 ≤ la := by rcases hla with ⟨_, e⟩ | ⟨j, _, _, e, h0⟩ <;> omega
      have HLA := Lib.hid hla
      clear hla
      by_cases t1 : p1 < 0
      · have d1 : decide (p1 < 0) = true := decide_eq_true t1
        have HZ := Lib.hid (HNO.out (by rw [decide_eq_false (show ¬ la < p1 by omega)]; rfl))
        clear t1 hlo
        go_wp2
        go_quiet (fail)
        go_wp2
        go_ret
        exact ⟨by rw [HZ.out]; rfl, _, World.drewN_drewN _ _ _⟩
      · have d1 : decide (p1 < 0) = false := decide_eq_false t1
        by_cases t2 : p1 ≤ 2147483647
        · have d2 : decide (2147483647 < p1) = false := decide_eq_false (by omega)
          by_cases t3 : 1 ≤ p2
          · have d3 : decide (p2 < 1) = false := decide_eq_false (by omega)
            by_cases t4 : p2 ≤ 65535
            · have d4 : decide (65535 < p2) = false := decide_eq_false (by omega)
              rcases HLA.out with ⟨hk0, hl1⟩ | ⟨j, hj, hkj, hl1, hj0⟩
              · have hok : Hid (PostM.rgt (-1) (l.take (k + 1)) = true) := Lib.hid (by rw [HNX.out, decide_eq_true (show la < p1 by omega)]; simp [t2, t3, t4])
                have d5 : decide ((0 : Int) < (k : Int)) = false := decide_eq_false (by omega)
                have d6 : decide (0 < k) = false := decide_eq_false (by omega)
                have hk1 : k + 1 ≤ n := by omega
                clear t1 t2 t3 t4 hl1 hlo hk0
                go_wp2
                go_quiet (fail)
                go_wp2
                exact ⟨⟨k + 1, hk1, by go_num, hok.out, _, rfl⟩, by simp [intOf]; omega⟩
              · obtain ⟨b', o', e', hbw', c2, _⟩ := (HP.out).at_ j hj
                injection e' with e'
                injection e' with e1 e2
                subst e1; subst e2
                obtain ⟨g, hg⟩ : ∃ g, g = l[j].1 := ⟨_, rfl⟩
                rw [← hg] at c2 hl1 hj0
                have d5 : decide ((0 : Int) < (k : Int)) = true := decide_eq_true (by omega)
                have d6 : decide (0 < k) = true := decide_eq_true (by omega)
                have hwr : IntKind.i64.wrap ((k : Int) - 1) = (j : Int) := (IntWalk.i64_in _ (by omega)).trans (by omega)
                have q5 : (0 : Int) ≤ (j : Int) := by omega
                have q6 : (j : Int) < (n : Int) := by omega
                clear hg
                by_cases t5 : la < p1
                · have hok : Hid (PostM.rgt (-1) (l.take (k + 1)) = true) := Lib.hid (by rw [HNX.out, decide_eq_true t5]; simp [t2, t3, t4])
                  have d7 : decide (p1 ≤ g) = false := decide_eq_false (by omega)
                  have hk1 : k + 1 ≤ n := by omega
                  have HK := Lib.hid hkj
                  clear t1 t2 t3 t4 t5 hl1 hlo hkj hj0
                  go_wp2
                  go_quiet (fail)
                  go_wp2
                  exact ⟨⟨k + 1, hk1, by go_num, hok.out, _, rfl⟩, by simp [intOf]; omega⟩
                · have d7 : decide (p1 ≤ g) = true := decide_eq_true (by omega)
                  have HZ := Lib.hid (HNO.out (by rw [decide_eq_false t5]; rfl))
                  clear t1 t2 t3 t4 t5 hl1 hlo hkj hj0
                  go_wp2
                  go_quiet (fail)
                  go_wp2
                  go_ret
                  exact ⟨by rw [HZ.out]; rfl, _, World.drewN_drewN _ _ _⟩
            · have d4 : decide (65535 < p2) = true := decide_eq_true (by omega)
              have HZ := Lib.hid (HNO.out (by simp [t4]))
              clear t1 t2 t3 t4 hlo
              go_wp2
              go_quiet (fail)
              go_wp2
              go_ret
              exact ⟨by rw [HZ.out]; rfl, _, World.drewN_drewN _ _ _⟩
          · have d3 : decide (p2 < 1) = true := decide_eq_true (by omega)
            have HZ := Lib.hid (HNO.out (by simp [t3]))
            clear t1 t2 t3 hlo
            go_wp2
            go_quiet (fail)
            go_wp2
            go_ret
            exact ⟨by rw [HZ.out]; rfl, _, World.drewN_drewN _ _ _⟩
        · have d2 : decide (2147483647 < p1) = true := decide_eq_true (by omega)
          have HZ := Lib.hid (HNO.out (by simp [t2]))
          clear t1 t2 hlo
          go_wp2
          go_quiet (fail)
          go_wp2
          go_ret
          exact ⟨by rw [HZ.out]; rfl, _, World.drewN_drewN _ _ _⟩
    · obtain rfl : k = n := by omega
      have q3 : decide ((k : Int) < (k : Int)) = false := by simp
      have q4 : decide (k < k) = false := by simp
      have ht : l.take k = l := List.take_of_length_le (by rw [← HN.out]; exact Nat.le_refl _)
      rw [ht] at hr
      have HZ : Hid (PostM.rightL l = true) := Lib.hid hr
      clear hr
      go_wp2
      go_ret
      exact ⟨by rw [HZ.out]; rfl, q, rfl⟩
end Go.Proofs.YtpinpnbhbngclaaGreat

/- The law's Made: a query, as both sides have it. -/
namespace Go.Proofs.YtpinpnbhbngclaaGreat
open Go.RowKit

/-- the cells of the program's parts, of the document's parts -/
def qC (qs : List (Nat × List (Int × Int) × Int)) : List Value := qs.flatMap fun x => [.pointer (some ⟨x.1, 0, none⟩), .int .i64 x.2.2]
def mC (ms : List ((Option Addr × Nat) × List (Int × Int) × Int)) : List Value := ms.flatMap fun x => [.slice x.1.1 x.2.1.length x.1.2, .int .i64 x.2.2]
def rightA (rs : List (List (Int × Int) × Int)) : Bool := rs.all fun x => PostM.rightL x.1
theorem tpart_info : (Tryz.prog.info? 57).map (fun i => (i.zero, i.size, i.bytes)) = some (some (.agg #[.pointer none, .int .i64 0]), 2, 16) := by kernel_rfl
theorem rpart_info : (Tryz.prog.info? 67).map (fun i => (i.zero, i.size, i.bytes)) = some (some (.agg #[.slice none 0 0, .int .i64 0]), 2, 32) := by kernel_rfl
theorem two_new (w : World) (a b : Value) (T : TypeId) : ∀ j u, [a, b][j]? = some u → (w.alloc (.cells #[a, b] T)).cell? ((⟨w.heap.size, 0, none⟩ : Addr).add j) = some u := by
  intro j u hu
  rw [add_none, Nat.zero_add]
  match j, hu with
  | 0, hu => simp at hu; subst hu; exact cell_of_cells (i := 0) (heap_alloc_new w _) rfl
  | 1, hu => simp at hu; subst hu; exact cell_of_cells (i := 1) (heap_alloc_new w _) rfl
/-- what stands between two rounds -/
structure MadeI (w W : World) (rs : List (List (Int × Int) × Int)) (i : Nat) (vq vm : Value) (qs : List (Nat × List (Int × Int) × Int)) (ms : List ((Option Addr × Nat) × List (Int × Int) × Int)) : Prop where
  duo : Duo W w.heap.size 57 2 vq i (qC qs) 67 2 vm i (mC ms)
  qis : qs.map (·.2) = rs.take i
  mis : ms.map (·.2) = rs.take i
  pls : ∀ x ∈ qs, ∃ B E, PLn B E W x.1 x.2.1 ∧ E ≤ W.heap.size ∧ (∀ g, vq.ownBlock = some g → g < B ∨ E ≤ g) ∧ ∀ g, vm.ownBlock = some g → g < B ∨ E ≤ g
  prs : ∀ x ∈ ms, Prd w (.slice x.1.1 x.2.1.length x.1.2) x.2.1
  bel : Below w.heap.size w W
theorem MadeI.next {w W : World} {rs : List (List (Int × Int) × Int)} {i : Nat} {vq vm v1 v2 : Value} {qs : List (Nat × List (Int × Int) × Int)} {ms : List ((Option Addr × Nat) × List (Int × Int) × Int)} {l : List (Int × Int)} {wt : Int} {A2 : Option Addr} {c2 b B0 : Nat} {W3 W3a W4 W4a W5 : World}
    (h : MadeI w W rs i vq vm qs ms) (hi : rs.take (i + 1) = rs.take i ++ [(l, wt)]) (hb : Below W.heap.size W W3) (hB0 : W.heap.size ≤ B0) (hpl : PLn B0 W3.heap.size W3 b l)
    (b3 : Below W3.heap.size W3 W3a) (k4 : ∀ g, g < W3a.heap.size → some g ≠ vq.ownBlock → W4.heap[g]? = W3a.heap[g]?) (s4 : W3a.heap.size ≤ W4.heap.size) (l4 : ∀ g, v1.ownBlock = some g → vq.ownBlock = some g ∨ W3a.heap.size ≤ g)
    (b4 : Below W4.heap.size W4 W4a) (k5 : ∀ g, g < W4a.heap.size → some g ≠ vm.ownBlock → W5.heap[g]? = W4a.heap[g]?) (s5 : W4a.heap.size ≤ W5.heap.size) (l5 : ∀ g, v2.ownBlock = some g → vm.ownBlock = some g ∨ W4a.heap.size ≤ g)
    (duo : Duo W5 w.heap.size 57 2 v1 (i + 1) (qC qs ++ [.pointer (some ⟨b, 0, none⟩), .int .i64 wt]) 67 2 v2 (i + 1) (mC ms ++ [.slice A2 l.length c2, .int .i64 wt]))
    (bel : Below w.heap.size w W5) (hprd : Prd w (.slice A2 l.length c2) l) : MadeI w W5 rs (i + 1) v1 v2 (qs ++ [(b, l, wt)]) (ms ++ [((A2, c2), l, wt)]) := by
  have z3 := hb.size
  have z3a := b3.size
  have z4a := b4.size
  refine ⟨?_, ?_, ?_, ?_, ?_, bel⟩
  · unfold qC mC at duo ⊢
    rw [List.flatMap_append, List.flatMap_append]
    simpa using duo
  · rw [List.map_append, h.qis, hi]; rfl
  · rw [List.map_append, h.mis, hi]; rfl
  · intro x hx
    have keep : ∀ k, k < W3.heap.size → vq.ownBlock ≠ some k → vm.ownBlock ≠ some k → W5.heap[k]? = W3.heap[k]? := fun k hk h1 h2 => by
      rw [k5 k (by omega) (fun e => h2 e.symm), b4.block k (by omega), k4 k (by omega) (fun e => h1 e.symm), b3.block k hk]
    rcases List.mem_append.1 hx with hx | hx
    · obtain ⟨B, E, hp, hE, hq, hm⟩ := h.pls x hx
      refine ⟨B, E, hp.stay fun k h1 h2 h3 => ?_, by omega, fun g hg => ?_, fun g hg => ?_⟩
      · rw [keep k (by omega) (fun e => by have := hq k e; omega) (fun e => by have := hm k e; omega)]
        exact hb.block k h3
      · rcases l4 g hg with e | e
        · exact hq g e
        · omega
      · rcases l5 g hg with e | e
        · exact hm g e
        · omega
    · obtain rfl : x = (b, l, wt) := by simpa using hx
      have oq : ∀ g, vq.ownBlock = some g → g < W.heap.size := fun g hg => (World.ownsRow.lt h.duo.a g hg).2
      have om : ∀ g, vm.ownBlock = some g → g < W.heap.size := fun g hg => (World.ownsRow.lt h.duo.b g hg).2
      refine ⟨B0, W3.heap.size, hpl.stay fun k h1 h2 h3 => keep k h3 (fun e => by have := oq k e; omega) (fun e => by have := om k e; omega), by omega, fun g hg => ?_, fun g hg => ?_⟩
      · rcases l4 g hg with e | e
        · have := oq g e; omega
        · omega
      · rcases l5 g hg with e | e
        · have := om g e; omega
        · omega
  · intro x hx
    rcases List.mem_append.1 hx with hx | hx
    · exact h.prs x hx
    · obtain rfl : x = ((A2, c2), l, wt) := by simpa using hx
      exact hprd
theorem MadeI.start (w : World) (rs : List (List (Int × Int) × Int)) : MadeI w w rs 0 (.slice none 0 0) (.slice none 0 0) [] [] :=
  ⟨Duo.nil_ _ _ _ _ _ _, rfl, rfl, fun x hx => by simp at hx, fun x hx => by simp at hx, Below.refl _ _⟩
theorem MadeI.end_ {w W : World} {rs : List (List (Int × Int) × Int)} {i : Nat} {vq vm : Value} {qs : List (Nat × List (Int × Int) × Int)} {ms : List ((Option Addr × Nat) × List (Int × Int) × Int)} (h : MadeI w W rs i vq vm qs ms) (hi : i = rs.length) :
    ∃ A1 c1 A2 c2, vq = .slice A1 i c1 ∧ vm = .slice A2 i c2 ∧ QAt W A1 i qs ∧ RQ W A2 i rs ∧ qs.map (·.2) = rs ∧ (A1 = none → c1 = 0) := by
  subst hi
  have hq := h.qis
  have hm := h.mis
  rw [List.take_of_length_le (Nat.le_refl _)] at hq hm
  have lq : qs.length = rs.length := by rw [← hq, List.length_map]
  have lm : ms.length = rs.length := by rw [← hm, List.length_map]
  obtain ⟨A1, c1, rfl, _, hnil, g1⟩ := owns2_cells (fun x : Nat × List (Int × Int) × Int => Value.pointer (some ⟨x.1, 0, none⟩)) (fun x => .int .i64 x.2.2) h.duo.a lq
  obtain ⟨A2, c2, rfl, _, _, g2⟩ := owns2_cells (fun x : (Option Addr × Nat) × List (Int × Int) × Int => Value.slice x.1.1 x.2.1.length x.1.2) (fun x => .int .i64 x.2.2) h.duo.b lm
  refine ⟨A1, c1, A2, c2, rfl, rfl, ⟨lq, fun k hk => ?_⟩, ⟨rfl, fun k hk => ?_⟩, hq, hnil⟩
  · obtain ⟨b, e, _, hb, e0, e1⟩ := g1 k hk
    obtain ⟨_, _, hp, _⟩ := h.pls _ (List.getElem_mem hk)
    exact ⟨b, 0, e, hb, by rw [Nat.zero_add]; exact e0, by rw [Nat.zero_add]; exact e1, hp.pl⟩
  · have hk2 : k < ms.length := by omega
    obtain ⟨b, e, _, hb, e0, e1⟩ := g2 k hk2
    have hp := (h.prs _ (List.getElem_mem hk2)).later h.bel
    have hx : ms[k].2 = rs[k] := by
      have : (ms.map (·.2))[k]? = rs[k]? := by rw [hm]
      rw [List.getElem?_map, List.getElem?_eq_getElem hk2, List.getElem?_eq_getElem hk] at this
      simpa using this
    rw [hx] at e0 e1 hp
    obtain ⟨A', cp', e', _, _, hP⟩ := hp
    injection e' with e2 _ e3
    subst e2
    exact ⟨b, 0, ms[k].1.1, ms[k].1.2, e, hb, by rw [Nat.zero_add]; exact e0, by rw [Nat.zero_add]; exact e1, hP⟩
theorem rightA_take {rs : List (List (Int × Int) × Int)} {i : Nat} (h : i < rs.length) (h1 : rightA (rs.take i) = true) (h2 : PostM.rightL rs[i].1 = true) : rightA (rs.take (i + 1)) = true := by
  unfold rightA at *
  rw [List.take_succ_eq_append_getElem h, List.all_append, h1]
  simp [h2]
theorem rightA_no {rs : List (List (Int × Int) × Int)} {i : Nat} (h : i < rs.length) (h2 : PostM.rightL rs[i].1 = false) : rightA rs = false :=
  List.all_eq_false.2 ⟨_, List.getElem_mem h, by simp [h2]⟩
theorem pl1d (w : World) (o : Obj) : Below w.heap.size w (w.drew.alloc o) := (Below.refl _ _).drew.trans (pl1 w.drew o)
theorem made_b {w w4 w5 : World} {o : Obj} (h : Below w.heap.size w w4) (h5 : Below w.heap.size (w4.drew.alloc o) w5) : Below w.heap.size w w5 := (bel_a h.drew o).trans h5
theorem mk_sb {U w : World} {b o : Nat} {x1 x2 : Value} (c0 : U.cell? ⟨b, o, none⟩ = some x1) (c1 : U.cell? ⟨b, o + 1, none⟩ = some x2) (hb : b < U.heap.size) (h : Below U.heap.size U w) :
    w.cell? ⟨b, o, none⟩ = some x1 ∧ w.cell? ⟨b, o + 1, none⟩ = some x2 ∧ Below U.heap.size U w := ⟨(h.cell (p := ⟨b, o, none⟩) hb).trans c0, (h.cell (p := ⟨b, o + 1, none⟩) hb).trans c1, h⟩
set_option maxHeartbeats 8000000 in
set_option maxRecDepth 100000 in
theorem made6_any (A : Option Addr) (n cp : Nat) (rs : List (List (Int × Int) × Int)) (w : World) (h : RP w A n rs) (hs : ∀ x ∈ rs, x.1.length ≤ 400) (hn : n ≤ 70) :
    Calls Tryz.prog 8 #[.slice A n cp] w fun e w' => Below w.heap.size w w' ∧ ((rightA rs = false ∧ e = .returned (.tuple #[.slice none 0 0, .slice none 0 0, .bool false])) ∨ (rightA rs = true ∧ ∃ A1 c1 A2 c2 qs, e = .returned (.tuple #[.slice A1 n c1, .slice A2 n c2, .bool true]) ∧ QAt w' A1 n qs ∧ RQ w' A2 n rs ∧ qs.map (·.2) = rs ∧ (A1 = none → c1 = 0))) := by
  obtain ⟨i0, hi, hz0, hz1, hz2⟩ := info_parts tpart_info
  obtain ⟨j0, hj, hy0, hy1, hy2⟩ := info_parts rpart_info
  have H := Lib.hid h
  have HL := Lib.hid h.1
  have HS := Lib.hid hs
  clear h hs
  go_enter Tryz.func8, Tryz.ntmps8
  go_wp2
  go_loopw [5, 6, 7] (fun x y z wr => ∃ (i : Nat) (vq vm : Value) (qs : List (Nat × List (Int × Int) × Int)) (ms : List ((Option Addr × Nat) × List (Int × Int) × Int)), x = vq ∧ y = vm ∧ z = .int .i64 i ∧ i ≤ n ∧ MadeI w wr rs i vq vm qs ms ∧ rightA (rs.take i) = true) (fun _ _ z _ => n - (intOf z).toNat)
  case atStart => exact ⟨0, _, _, [], [], rfl, rfl, rfl, by omega, MadeI.start w rs, rfl⟩
  case round =>
    obtain ⟨i, vq, vm, qs, ms, hvq, hvm, rfl, hin, hI, hra⟩ := hrel
    have hvq2 := hvq.symm
    subst hvq2
    have hvm2 := hvm.symm
    subst hvm2
    by_cases hlt : i < n
    · have hmi : (i : Int) < (n : Int) := by omega
      have hil : i < rs.length := by rw [HL.out]; exact hlt
      have hl4 := HS.out _ (List.getElem_mem hil)
      obtain ⟨b0, o0, A2, c2, rfl, hbl, hc0, hc1, hP⟩ := H.out.2 i hil
      have hno := rightA_no hil
      have hyes := rightA_take hil hra
      have htk : rs.take (i + 1) = rs.take i ++ [rs[i]] := List.take_succ_eq_append_getElem hil
      obtain ⟨⟨l, wt⟩, hx⟩ : ∃ x, x = rs[i] := ⟨_, rfl⟩
      rw [← hx] at hl4 hc0 hc1 hP hno hyes htk
      simp only at hl4 hc0 hc1 hP hno hyes
      have hbr := hI.bel
      have hP2 := hP.later hbr
      have HR := Lib.hid (refright5_any _ l wr hP2 (by omega))
      have HB := Lib.hid (fun W (hW : Below wr.heap.size wr W) (hr : PostM.rightL l = true) => build_own _ l W (hP2.later hW) (by omega) hr)
      obtain ⟨ll, hll⟩ : ∃ x, x = l.length := ⟨_, rfl⟩
      obtain ⟨rb, hrb⟩ : ∃ x, x = PostM.rightL l := ⟨_, rfl⟩
      rw [← hrb] at HR HB hno hyes
      rw [← hll] at hc0 HR HB
      have HC0 := Lib.hid hc0
      have HC1 := Lib.hid hc1
      have k0 := (hbr.cell (p := ⟨b0, o0 + i * 2, none⟩) hbl).trans hc0
      have k1 := (hbr.cell (p := ⟨b0, o0 + i * 2 + 1, none⟩) hbl).trans hc1
      have hblr : b0 < wr.heap.size := Nat.lt_of_lt_of_le hbl hbr.size
      have HI := Lib.hid hI
      have HP := Lib.hid hP
      have HNO := Lib.hid hno
      have HYES := Lib.hid hyes
      have HTK := Lib.hid htk
      have HLL := Lib.hid hll
      clear hx hI hra hno hyes htk hP hP2 hbr hc0 hc1 hll hrb
      cases rb with
      | false =>
        go_wp2_with fail
        refine HR.out.mono ?_
        rintro e w2 ⟨rfl, m, rfl⟩
        go_wp2
        go_ret3
        exact ⟨HI.out.bel.trans ((below_drewN_p _ _).mono HI.out.bel.size), .inl ⟨HNO.out trivial, rfl⟩⟩
      | true =>
        go_wp2_with fail
        refine HR.out.mono ?_
        rintro e w2 ⟨rfl, m, hw2⟩
        have HB2 : Hid (Below wr.heap.size wr w2) := Lib.hid (by rw [hw2]; exact below_drewN_p _ _)
        have k2 := (HB2.out.cell (p := ⟨b0, o0 + i * 2, none⟩) hblr).trans k0
        clear hw2 k0
        go_wp2_with fail
        refine (HB.out w2 HB2.out trivial).mono ?_
        rintro e w3 ⟨b, rfl, hpl, hb3⟩
        have HB3 := Lib.hid (HB2.out.trans (hb3.mono HB2.out.size))
        have HBW := Lib.hid (HI.out.bel.trans (HB3.out.mono HI.out.bel.size))
        have HPL := Lib.hid hpl
        have HZ2 := Lib.hid HB2.out.size
        have k3 := (HB3.out.cell (p := ⟨b0, o0 + i * 2 + 1, none⟩) hblr).trans k1
        have HDUO := Lib.hid ((HI.out.duo.later HB3.out).later (pl1 w3 (.cells #[.pointer (some ⟨b, 0, none⟩), .int .i64 wt] 57)))
        have hbase : w.heap.size ≤ (w3.alloc (.cells #[.pointer (some ⟨b, 0, none⟩), .int .i64 wt] 57)).heap.size := Nat.le_trans HBW.out.size (pl1 _ _).size
        have hq : ∀ w, (binOp .eql 55 (.pointer (some ⟨b, 0, none⟩)) (.pointer none)).run Tryz.prog w = .ok (.bool false) w := fun w => by kernel_rfl
        clear hpl hb3 k1 k2
        go_wp2_with (at_builtin; refine wpList_append_duo rfl _ _ 26 rfl Tryz.underlying26 i0 _ 16 hi hz0 hz1 hz2 rfl (by omega) (by omega) rfl HDUO.out ⟨w3.heap.size, 0, none⟩ 1 [.pointer (some ⟨b, 0, none⟩), .int .i64 wt] rfl rfl (two_new _ _ _ _) (by intro u hu; simp at hu; rcases hu with rfl | rfl <;> rfl) hbase (by omega) ?_; intro v1 w4 hduo4 hbel4 hkeep4 hsz4 hloc4)
        have HB4 : Hid (Below w.heap.size w w4) := Lib.hid ((HBW.out.trans ((pl1 w3 (.cells #[.pointer (some ⟨b, 0, none⟩), .int .i64 wt] 57)).mono HBW.out.size)).trans hbel4)
        have HD4 := Lib.hid hduo4
        have HK4 := Lib.hid hkeep4
        have HS4 := Lib.hid hsz4
        have HL4 := Lib.hid hloc4
        have hw4 := HB4.out.size
        have p0 := (HB4.out.cell (p := ⟨b0, o0 + i * 2, none⟩) hbl).trans HC0.out
        have p1 := (HB4.out.cell (p := ⟨b0, o0 + i * 2 + 1, none⟩) hbl).trans HC1.out
        have HP0 := Lib.hid p0
        have HP1 := Lib.hid p1
        clear hduo4 hbel4 hkeep4 hsz4 hloc4 p0 p1 k3 hbase hq
        go_wp2
        go_region_held3 (fun w' => w'.cell? ⟨b0, o0 + i * 2, none⟩ = some (.slice A2 ll c2) ∧ w'.cell? ⟨b0, o0 + i * 2 + 1, none⟩ = some (.int .i64 wt) ∧ Below w.heap.size w w')
          ((go_split_ands; refine mk_sb HC0.out HC1.out hbl ?_; first | assumption | (exact made_b HB4.out (by assumption)) | (exact Below.drew (by first | assumption | exact HB4.out)) | (exact bel_a (by first | assumption | exact HB4.out | exact Below.drew HB4.out) _)))
          ((first
            | (refine step_append_duo rfl (.tmp 48) (.tmp 60) 27 rfl Tryz.underlying27 j0 _ 32 hj hy0 hy1 hy2 rfl (by omega) (by omega) rfl (HD4.out.symm.later (pl1d w4 _)) ⟨w4.heap.size, 0, none⟩ 1 [.slice A2 ll c2, .int .i64 wt] rfl rfl (two_new _ _ _ _) (by intro u hu; simp at hu; rcases hu with rfl | rfl <;> rfl) (Nat.le_trans hw4 (pl1d w4 _).size) (by omega) ?_; intro v2 w5 hduo5 hbel5 hkeep5 hsz5 hloc5)))
        all_goals
          have hnx := HI.out.next HTK.out HB3.out HZ2.out HPL.out (pl1 w3 _) HK4.out HS4.out HL4.out (pl1d w4 _) hkeep5 hsz5 hloc5 (by rw [← HLL.out]; exact hduo5.symm) (made_b HB4.out hbel5) HP.out
          have hra2 := HYES.out trivial
          clear hduo5 hbel5 hkeep5 hsz5 hloc5
          go_wp2
          exact ⟨⟨i + 1, v1, v2, _, _, rfl, rfl, by go_num, by omega, hnx, hra2⟩, by simp [intOf]; omega⟩
    · have hmi : ¬ (i : Int) < (n : Int) := by omega
      obtain rfl : i = n := by omega
      obtain ⟨A1, c1, A2, c2, rfl, rfl, hQ, hR, hqr, hnil⟩ := hI.end_ HL.out.symm
      rw [List.take_of_length_le (by rw [HL.out]; exact Nat.le_refl _)] at hra
      have HQ := Lib.hid hQ
      have HR := Lib.hid hR
      have HB := Lib.hid hI.bel
      have HRA := Lib.hid hra
      have HQR := Lib.hid hqr
      have HNIL := Lib.hid hnil
      clear hI hra hQ hR hqr hnil
      go_wp2
      go_ret3
      refine ⟨HB.out, .inr ⟨HRA.out, ?_⟩⟩
      exact ⟨A1, c1, A2, ⟨c2, rfl⟩, qs, HQ.out, HR.out, HQR.out, HNIL.out⟩
end Go.Proofs.YtpinpnbhbngclaaGreat

/- Count.Find by the first way: just as many are scored as may be. -/
namespace Go.Proofs.YtpinpnbhbngclaaGreat
open Go.RowKit

set_option maxHeartbeats 4000000 in
set_option maxRecDepth 100000 in
theorem cfind6_all {A : Option Addr} {n cp sc k c0 : Nat} {mayv : Value} {may : Int → Bool} {qs : List (Nat × List (Int × Int) × Int)} (w1 w : World) (h : QAt w1 A n qs) (hb : Below w1.heap.size w1 w) (hg : ∀ x ∈ qs, GoodQ x) (hn : n ≤ 64) (h1 : 1 ≤ k) (h2 : k ≤ 1000) (hc : w.heap[sc]? = some (.cells #[.int .i64 (c0 : Int)] 49 (0, 0))) (hsc : w1.heap.size ≤ sc) (hc0 : c0 ≤ 500000) (hm : MayC w sc mayv may) :
    Calls Tryz.prog 15 #[.pointer (some ⟨sc, 0, none⟩), .int .i64 0, .slice A n cp, .int .i64 k, mayv] w fun e w' => ∃ v', e = .returned (.tuple #[v', .int .i64 0]) ∧ Prd w' v' (foundR k (qs.map (·.2)) may) ∧ w'.heap[sc]? = some (.cells #[.int .i64 ((c0 + (vl (docsR (qs.map (·.2))) may (scoreR (qs.map (·.2))) 2147483648).length : Nat) : Int)] 49 (0, 0)) ∧ Turned (fun b => b = sc) w w' := by
  have hr := tright_any A n cp k _ w (h.later hb).qn (by omega) (by omega) (by omega)
  have ht : trightB n k (qs.map fun x => (some x.1, x.2.2)) = true := by
    unfold trightB
    rw [partsB_good qs hg, decide_eq_true hn, decide_eq_true (show (1 : Int) ≤ (k : Int) by omega), decide_eq_true (show (k : Int) ≤ 1000 by omega)]
    rfl
  rw [ht] at hr
  have HR := Lib.hid hr
  have HMAY : Hid (∀ w', Below w.heap.size w w' → MayC w' sc mayv may) := Lib.hid (fun w' hw => by
    obtain ⟨F, B, e, eg, hc⟩ := hm
    exact ⟨F, B, e, eg, fun W' hT d => hc W' ((Turned.of_below hw).trans hT) d⟩)
  obtain ⟨F, B, rfl, _⟩ := hm
  have HNS := Lib.hid (fun w2 (hw : Below w.heap.size w w2) => newsearch6_any (cp := cp) (f := .func F) (a := #[]) (c := B) w1 w2 h (hb.trans (hw.mono hb.size)) hg hn h2 (blk_stay hw hc) hsc)
  have e7 : (1 : Int) ≤ (k : Int) := by omega
  clear h hb hg hr ht hc
  have e9 : decide ((0 : Int) < 0) = false := rfl
  have e8 : decide ((3 : Int) < 0) = false := rfl
  go_enter Tryz.func15, Tryz.ntmps15
  go_wp2_with fail
  refine HR.out.mono ?_
  rintro e w2 ⟨rfl, hb2⟩
  have HB2 := Lib.hid hb2
  clear hb2
  go_wp2_with fail
  refine (HNS.out w2 HB2.out).mono ?_
  rintro e w3 ⟨s, g, tb, ps, rfl, hss, hat, hps, hb3⟩
  have HSS := Lib.hid hss
  have HAT := Lib.hid hat
  have HPS := Lib.hid hps
  have HB3 := Lib.hid hb3
  clear hss hat hps hb3
  go_wp2_with fail
  refine (ways_any s w3).mono ?_
  rintro e w4 ⟨b, rfl, hbx, hb4⟩
  have HBX := Lib.hid hbx
  have HB4 := Lib.hid hb4
  have HS4 := Lib.hid (HSS.out.below hb4)
  have HA4 : Hid (∀ x ∈ ps, AtD x (atM w4 x.c) 0) := Lib.hid (fun x hx => by
    have e1 := ((HSS.out.pts x hx).below hb4).at_is
    rw [e1]
    exact HAT.out x hx)
  have hdl := docsQ_len HSS.out.good (by rw [HSS.out.row.len]; exact hn)
  have HM4 := Lib.hid (HMAY.out w2 HB2.out)
  clear hbx hb4
  have hix := way_at0 s b
  unfold wayV at hix ⊢
  go_wp2_with fail
  refine (sall_any HS4.out hn hc0 hdl HA4.out HM4.out).mono ?_
  rintro e w5 ⟨rfl, hs5⟩
  have HS5 := Lib.hid hs5
  have k2 := cell_of_cells (i := 2) hs5.obj rfl
  simp only [List.getElem_toArray, List.getElem_cons_zero, List.getElem_cons_succ] at k2
  obtain ⟨v, hh, ht, hbn⟩ := hs5.top
  have HBN := Lib.hid hbn
  have hvl := vl_len (docsQ ps) may (scoreQ ps) 2147483648
  have hhl := TopM.bnd_len hbn
  have HL := Lib.hid (list_any tb tb k v hh w5 ht (by omega))
  clear hs5 ht hbn hdl hvl hhl
  go_wp2_with fail
  refine HL.out.mono ?_
  rintro e w6 ⟨v', rfl, hprd, hb6⟩
  have HPRD := Lib.hid hprd
  have HB6 := Lib.hid hb6
  clear hprd hb6
  go_wp2
  go_ret2
  refine ⟨v', rfl, ?_, ?_, (Turned.of_below HB2.out).trans (HS5.out.kept.on HB6.out)⟩
  · have e1 := TopM.bnd_srt HBN.out
    unfold foundR
    rw [← docsQ_is HPS.out, ← scoreQ_is HPS.out, ← e1]
    exact HPRD.out
  · rw [← docsQ_is HPS.out, ← scoreQ_is HPS.out]
    exact blk_stay HB6.out HS5.out.cnt
end Go.Proofs.YtpinpnbhbngclaaGreat

/- The answers that the document fixes first. -/
namespace Go.Proofs.YtpinpnbhbngclaaGreat
open Go.RowKit

abbrev rsA : List (List (Int × Int) × Int) := [([(1, 5), (2, 3)], 2), ([(2, 9)], 1)]
theorem aw6_vl : vl (docsR rsA) (fun _ => true) (scoreR rsA) 2147483648 = [(1, 10), (2, 15)] := by decide
theorem aw6_vl2 : vl (docsR rsA) (notB 2) (scoreR rsA) 2147483648 = [(1, 10)] := by decide
theorem aw6_a : foundR 9 rsA (fun _ => true) = [(2, 15), (1, 10)] := by
  unfold foundR TopM.best
  rw [aw6_vl, TopM.srt_is (a := [(2, 15), (1, 10)]) (by unfold TopM.Srt; simp; decide) (List.Perm.swap _ _ _)]
  rfl
theorem aw6_b : foundR 1 rsA (notB 2) = [(1, 10)] := by
  unfold foundR TopM.best
  rw [aw6_vl2, TopM.srt_is (a := [(1, 10)]) (by unfold TopM.Srt; simp) (List.Perm.refl _)]
  rfl
theorem aw6_sc : scoreR rsA 2 = 15 := by decide
theorem aw6_good {qs : List (Nat × List (Int × Int) × Int)} (h : qs.map (·.2) = rsA) : ∀ x ∈ qs, GoodQ x := by
  intro x hx
  have hm : x.2 ∈ rsA := by rw [← h]; exact List.mem_map.2 ⟨x, hx, rfl⟩
  obtain ⟨b, l, wt⟩ := x
  simp only [List.mem_cons, List.not_mem_nil, or_false] at hm
  rcases hm with e | e
  · injection e with e1 e2
    subst e1
    subst e2
    exact ⟨show PostM.rightL [(1, 5), (2, 3)] = true by decide, show [((1 : Int), (5 : Int)), (2, 3)].length ≤ 400 by decide, show (1 : Int) ≤ 2 by decide, show (2 : Int) ≤ 65535 by decide⟩
  · injection e with e1 e2
    subst e1
    subst e2
    exact ⟨show PostM.rightL [(2, 9)] = true by decide, show [((2 : Int), (9 : Int))].length ≤ 400 by decide, show (1 : Int) ≤ 1 by decide, show (1 : Int) ≤ 65535 by decide⟩
theorem prd_cells6 {W : World} {g : Nat} {t : TypeId} {fr : Nat × Nat} {l : List (Int × Int)} (h : W.heap[g]? = some (.cells (l.flatMap enc2).toArray t fr)) : Prd W (.slice (some ⟨g, 0, none⟩) l.length l.length) l := by
  refine ⟨some ⟨g, 0, none⟩, l.length, rfl, Nat.le_refl _, (fun e => by cases e), rfl, fun k hk => ⟨g, 0, rfl, (Array.getElem?_eq_some_iff.1 h).1, ?_⟩⟩
  obtain ⟨a, b⟩ := flat_get l k hk
  unfold World.cell?
  simp only [Nat.zero_add, h, List.getElem?_toArray]
  exact ⟨a, b⟩
theorem yes6_any (d : Int) (w : World) : Calls Tryz.prog 21 #[.int .i64 d] w fun e w' => e = .returned (.bool true) ∧ w = w' := by
  go_enter Tryz.func21, Tryz.ntmps21
  go_wp2
  go_ret
  exact ⟨rfl, rfl⟩
theorem yes6_may (w : World) : MayIs w (.func (.func 21) #[] #[]) (fun _ => true) :=
  ⟨_, _, rfl, enters_of Tryz.func21 (by kernel_rfl) rfl, fun W _ d => (yes6_any d W).mono (fun _ _ ⟨he, hw⟩ => ⟨he, by rw [← hw]; exact Below.refl _ _⟩)⟩
theorem not6_any (d : Int) (w : World) : Calls Tryz.prog 22 #[.int .i64 d] w fun e w' => e = .returned (.bool (notB 2 d)) ∧ w = w' := by
  by_cases h : d = 2
  · have e : (d != 2) = false := by simpa using h
    have e2 : notB 2 d = false := by unfold notB; simp [h]
    rw [e2]
    clear h e2
    go_enter Tryz.func22, Tryz.ntmps22
    go_wp2
    go_ret
    exact ⟨rfl, rfl⟩
  · have e : (d != 2) = true := by simpa using h
    have e2 : notB 2 d = true := by unfold notB; simp [h]
    rw [e2]
    clear h e2
    go_enter Tryz.func22, Tryz.ntmps22
    go_wp2
    go_ret
    exact ⟨rfl, rfl⟩
theorem not6_may (w : World) : MayIs w (.func (.func 22) #[] #[]) (notB 2) :=
  ⟨_, _, rfl, enters_of Tryz.func22 (by kernel_rfl) rfl, fun W _ d => (not6_any d W).mono (fun _ _ ⟨he, hw⟩ => ⟨he, by rw [← hw]; exact Below.refl _ _⟩)⟩
set_option maxHeartbeats 8000000 in
set_option maxRecDepth 100000 in
theorem awake6_any (w : World) :
    Calls Tryz.prog 6 #[] w fun e w' => e = .returned (.bool true) ∧ Below w.heap.size w w' := by
  obtain ⟨U, hU⟩ : ∃ U, U = ((w.alloc (.cells #[.int .i64 1, .int .i64 5, .int .i64 2, .int .i64 3] 60)).alloc (.cells #[.int .i64 2, .int .i64 9] 60)).alloc (.cells #[.slice (some ⟨w.heap.size, 0, none⟩) 2 2, .int .i64 2, .slice (some ⟨w.heap.size + 1, 0, none⟩) 1 1, .int .i64 1] 63) := ⟨_, rfl⟩
  have hB : Below w.heap.size w U := by rw [hU]; exact (pl1 _ _).trans (((pl1 _ _).mono (by simp)).trans ((pl1 _ _).mono (by simp; omega)))
  have hR : RP U (some ⟨w.heap.size + 2, 0, none⟩) 2 rsA := by
    have h1 := prd_cells6 (l := [(1, 5), (2, 3)]) (heap_alloc_new w (.cells #[.int .i64 1, .int .i64 5, .int .i64 2, .int .i64 3] 60))
    have h2 := prd_cells6 (l := [(2, 9)]) (heap_alloc_new (w.alloc (.cells #[.int .i64 1, .int .i64 5, .int .i64 2, .int .i64 3] 60)) (.cells #[.int .i64 2, .int .i64 9] 60))
    have h3 := heap_alloc_new ((w.alloc (.cells #[.int .i64 1, .int .i64 5, .int .i64 2, .int .i64 3] 60)).alloc (.cells #[.int .i64 2, .int .i64 9] 60)) (.cells #[.slice (some ⟨w.heap.size, 0, none⟩) 2 2, .int .i64 2, .slice (some ⟨w.heap.size + 1, 0, none⟩) 1 1, .int .i64 1] 63)
    have h1' := (h1.later (pl1 _ (.cells #[.int .i64 2, .int .i64 9] 60))).later (pl1 _ (.cells #[.slice (some ⟨w.heap.size, 0, none⟩) 2 2, .int .i64 2, .slice (some ⟨w.heap.size + 1, 0, none⟩) 1 1, .int .i64 1] 63))
    have h2' := h2.later (pl1 _ (.cells #[.slice (some ⟨w.heap.size, 0, none⟩) 2 2, .int .i64 2, .slice (some ⟨w.heap.size + 1, 0, none⟩) 1 1, .int .i64 1] 63))
    rw [← hU] at h1' h2' h3
    rw [show ((w.alloc (.cells #[.int .i64 1, .int .i64 5, .int .i64 2, .int .i64 3] 60)).alloc (.cells #[.int .i64 2, .int .i64 9] 60)).heap.size = w.heap.size + 2 by simp] at h3
    rw [show (w.alloc (.cells #[.int .i64 1, .int .i64 5, .int .i64 2, .int .i64 3] 60)).heap.size = w.heap.size + 1 by simp] at h2'
    have hsz := (Array.getElem?_eq_some_iff.1 h3).1
    refine ⟨rfl, fun k hk => ?_⟩
    match k, hk with
    | 0, _ => exact ⟨_, 0, some ⟨w.heap.size, 0, none⟩, 2, rfl, hsz, cell_of_cells (i := 0) h3 rfl, cell_of_cells (i := 1) h3 rfl, h1'⟩
    | 1, _ => exact ⟨_, 0, some ⟨w.heap.size + 1, 0, none⟩, 1, rfl, hsz, cell_of_cells (i := 2) h3 rfl, cell_of_cells (i := 3) h3 rfl, h2'⟩
  have HM := Lib.hid (made6_any (some ⟨w.heap.size + 2, 0, none⟩) 2 2 rsA U hR (by decide) (by decide))
  have HB := Lib.hid hB
  clear hR hB
  go_enter Tryz.func6, Tryz.ntmps6
  go_wp2_with fail
  rw [← hU]
  clear hU
  refine HM.out.mono ?_
  rintro e w1 ⟨hb1, hcase⟩
  obtain ⟨A1, c1, A2, c2, qs, rfl, hQ, _, hqs, _⟩ : ∃ A1 c1 A2 c2 qs, e = .returned (.tuple #[.slice A1 2 c1, .slice A2 2 c2, .bool true]) ∧ QAt w1 A1 2 qs ∧ RQ w1 A2 2 rsA ∧ qs.map (·.2) = rsA ∧ (A1 = none → c1 = 0) := by
    rcases hcase with ⟨h, _⟩ | ⟨_, h⟩
    · exact absurd h (by decide)
    · exact h
  have HB1 := Lib.hid (HB.out.trans (hb1.mono HB.out.size))
  have HQ := Lib.hid hQ
  have HQS := Lib.hid hqs
  have HG := Lib.hid (aw6_good hqs)
  clear hb1 hcase hQ hqs
  have hT1 : ∀ k : Int, trightB 2 k (qs.map fun x => (some x.1, x.2.2)) = (decide (1 ≤ k) && decide (k ≤ 1000)) := fun k => by
    unfold trightB
    rw [partsB_good qs HG.out]
    simp
  have HF1 := Lib.hid (cfind6_all (cp := c1) (k := 9) (c0 := 0) (sc := w1.heap.size) w1 (w1.alloc (.cells #[.int .i64 0] 49)) HQ.out (pl1 _ _) HG.out (by omega) (by omega) (by omega) (heap_alloc_new _ _) (Nat.le_refl _) (by omega) ((yes6_may w1).mayc (pl1 _ _) (Nat.le_refl _)))
  have HF2 := Lib.hid (fun W (hW : Below w1.heap.size w1 W) => find6_ok (cp := c1) (k := 1) (wi := 3) w1 W HQ.out hW HG.out (by omega) (by omega) (by omega) (not6_may w1) (.inr (.inr (.inr rfl))))
  have HF3 := Lib.hid (fun W (hW : Below w1.heap.size w1 W) (mayv : Value) => find6_no (cp := c1) (k := 1) (wi := 4) (mayv := mayv) W (HQ.out.later hW).qn (by omega) (by omega) (by omega) (.inr (.inl (by omega))))
  have HF4 := Lib.hid (fun W (hW : Below w1.heap.size w1 W) (mayv : Value) => find6_no (cp := c1) (k := 0) (wi := 2) (mayv := mayv) W (HQ.out.later hW).qn (by omega) (by omega) (by omega) (.inr (.inr (by rw [hT1]; rfl))))
  have HS := Lib.hid (fun W (hW : Below w1.heap.size w1 W) => score6_any (cp := c1) (d := 2) w1 W HQ.out hW HG.out (by omega))
  have HR := Lib.hid (fun W (hW : Below w1.heap.size w1 W) => tright_any A1 2 c1 1 _ W (HQ.out.later hW).qn (by omega) (by omega) (by omega))
  rw [hT1] at HR
  rw [HQS.out] at HF1 HF2 HS
  rw [aw6_a, aw6_vl] at HF1
  rw [aw6_b] at HF2
  rw [aw6_sc] at HS
  clear hT1
  go_wp2_with fail
  refine HF1.out.mono ?_
  rintro e w2 ⟨v2, rfl, hp2, hc2, ht2⟩
  have HB2 : Hid (Below w1.heap.size w1 w2) := Lib.hid (ht2.below (pl1 _ _) (fun k hk => Nat.le_of_eq hk.symm))
  have HP2 := Lib.hid hp2
  have HC2 := Lib.hid hc2
  clear hp2 hc2 ht2
  go_wp2_with fail
  refine (HF2.out w2 HB2.out).mono ?_
  rintro e w3 ⟨v3, rfl, hp3, hb3⟩
  have HB3 := Lib.hid (HB2.out.trans (hb3.mono HB2.out.size))
  have HP23 := Lib.hid (HP2.out.later hb3)
  have HC3 := Lib.hid (blk_stay hb3 HC2.out)
  have HP3 := Lib.hid hp3
  clear hp3 hb3
  go_wp2_with fail
  refine (HF3.out w3 HB3.out _).mono ?_
  rintro e w4 ⟨rfl, hb4⟩
  have HB4 := Lib.hid (HB3.out.trans (hb4.mono HB3.out.size))
  have HP24 := Lib.hid (HP23.out.later hb4)
  have HC4 := Lib.hid (blk_stay hb4 HC3.out)
  have HP34 := Lib.hid (HP3.out.later hb4)
  clear hb4
  go_wp2_with fail
  refine (HF4.out w4 HB4.out _).mono ?_
  rintro e w5 ⟨rfl, hb5⟩
  have HB5 := Lib.hid (HB4.out.trans (hb5.mono HB4.out.size))
  have hp25 := HP24.out.later hb5
  have hc5 := cell_of_cells (i := 0) (blk_stay hb5 HC4.out) rfl
  have hp35 := HP34.out.later hb5
  obtain ⟨A, ca, rfl, hca, hA, hP⟩ := hp25
  obtain ⟨b, o, rfl, hbl, q0, q1⟩ := hP.2 0 (by simp)
  obtain ⟨b', o', e', _, q2, q3⟩ := hP.2 1 (by simp)
  injection e' with e'
  injection e' with e1 e2 _
  subst e1
  subst e2
  obtain ⟨A', ca', rfl, hca', hA', hP'⟩ := hp35
  obtain ⟨b3, o3, rfl, hbl3, r0, r1⟩ := hP'.2 0 (by simp)
  simp only [List.length_cons, List.length_nil] at hca hca' hc5 ⊢
  simp only [List.getElem_cons_zero, List.getElem_cons_succ] at q0 q1 q2 q3 r0 r1
  rw [Nat.zero_mul, Nat.add_zero] at q0 q1 r0 r1
  rw [Nat.one_mul] at q2 q3
  have HSD := Lib.hid (scored6_any w1.heap.size 2 w5 hc5)
  clear hP hP' hb5 hA hA'
  go_wp2_with (first | (refine HSD.out.mono ?_; rintro e w6 ⟨rfl, rfl⟩) | (refine (HS.out _ HB5.out).mono ?_; rintro e w7 ⟨rfl, hb7⟩; have HB7 := Lib.hid (HB5.out.trans (hb7.mono HB5.out.size)); clear hb7) | (refine (HR.out _ HB7.out).mono ?_; rintro e w8 ⟨rfl, hb8⟩))
  go_ret
  exact ⟨rfl, HB1.out.trans ((HB7.out.trans (hb8.mono HB7.out.size)).mono HB1.out.size)⟩
end Go.Proofs.YtpinpnbhbngclaaGreat

/- TraverseTells, walked. -/
namespace Go.Proofs.YtpinpnbhbngclaaGreat
open Go.RowKit

theorem wtsB_parts : ∀ qs : List (Nat × List (Int × Int) × Int), partsB (qs.map fun x => (some x.1, x.2.2)) = wtsB (qs.map (·.2))
  | [] => rfl
  | x :: t => by
    have ih := wtsB_parts t
    simp only [List.map_cons, partsB, wtsB, ih, Option.isSome_some, Bool.true_and]
theorem right_both (n : Nat) (k : Int) {qs : List (Nat × List (Int × Int) × Int)} {rs : List (List (Int × Int) × Int)} (h : qs.map (·.2) = rs) : trightB n k (qs.map fun x => (some x.1, x.2.2)) = rrightB n k rs := by
  subst h
  unfold trightB rrightB
  rw [wtsB_parts, Bool.and_comm, ← Bool.and_assoc, ← Bool.and_assoc]
theorem goodQ_all {n : Nat} {k : Int} {qs : List (Nat × List (Int × Int) × Int)} {rs : List (List (Int × Int) × Int)} (h : qs.map (·.2) = rs) (hr : rrightB n k rs = true) (hra : rightA rs = true) (hs : ∀ x ∈ rs, x.1.length ≤ 400) : ∀ x ∈ qs, GoodQ x := by
  intro x hx
  have hm : x.2 ∈ rs := by rw [← h]; exact List.mem_map.2 ⟨x, hx, rfl⟩
  have hw := wtsB_all (rright_parts hr).2.2.2 _ hm
  exact ⟨List.all_eq_true.1 hra _ hm, hs _ hm, hw.1, hw.2⟩
set_option maxHeartbeats 4000000 in
set_option maxRecDepth 100000 in
theorem ttells_out (A A4 : Option Addr) (n cp n4 c4 : Nat) (k : Int) (rs : List (List (Int × Int) × Int)) (w : World) (h : RP w A n rs) (hsh : ∀ x ∈ rs, x.1.length ≤ 9000000000000000000) (hno : ¬ (few6 rs = true ∧ n4 ≤ 40)) :
    Calls Tryz.prog 3 #[.slice A n cp, .int .i64 k, .slice A4 n4 c4] w fun e w' => e = .returned (.bool true) ∧ Below w.heap.size w w' := by
  have HA := Lib.hid (awake6_any w)
  have HF := Lib.hid (fun W (hW : Below w.heap.size w W) => few6_any A n cp rs W (h.later hW) hsh)
  obtain ⟨fb, hfb⟩ : ∃ b, b = few6 rs := ⟨_, rfl⟩
  rw [← hfb] at HF hno
  clear h hfb hsh
  cases fb with
  | false =>
    clear hno
    go_enter Tryz.func3, Tryz.ntmps3
    go_wp2_with fail
    refine HA.out.mono ?_
    rintro e w1 ⟨rfl, hb⟩
    have HB := Lib.hid hb
    clear hb
    go_wp2_with fail
    refine (HF.out _ HB.out).mono ?_
    rintro e w2 ⟨rfl, rfl⟩
    go_wp2
    go_ret
    exact ⟨rfl, HB.out⟩
  | true =>
    have g4 : 40 < n4 := by
      by_cases c : 40 < n4
      · exact c
      · exact absurd ⟨rfl, by omega⟩ hno
    have d4 : decide ((40 : Int) < (n4 : Int)) = true := decide_eq_true (by omega)
    clear hno
    go_enter Tryz.func3, Tryz.ntmps3
    go_wp2_with fail
    refine HA.out.mono ?_
    rintro e w1 ⟨rfl, hb⟩
    have HB := Lib.hid hb
    clear hb
    go_wp2_with fail
    refine (HF.out _ HB.out).mono ?_
    rintro e w2 ⟨rfl, rfl⟩
    go_wp2
    go_ret
    exact ⟨rfl, HB.out⟩
set_option maxHeartbeats 8000000 in
set_option maxRecDepth 100000 in
theorem ttells_main (A A4 : Option Addr) (n cp n4 c4 : Nat) (k : Int) (nl : List Int) (rs : List (List (Int × Int) × Int)) (w : World) (h : RP w A n rs) (hk1 : -9223372036854775808 ≤ k) (hk2 : k ≤ 9223372036854775807) (h4 : Ivs w A4 n4 nl) (hfew : few6 rs = true) (hn4 : n4 ≤ 40) :
    Calls Tryz.prog 3 #[.slice A n cp, .int .i64 k, .slice A4 n4 c4] w fun e w' => e = .returned (.bool true) ∧ Below w.heap.size w w' := by
  obtain ⟨hl, hs⟩ := few6_parts hfew
  have hn : n ≤ 70 := by rw [← h.1]; exact hl
  have HA := Lib.hid (awake6_any w)
  have hff := fun W (hW : Below w.heap.size w W) => few6_any A n cp rs W (h.later hW) (fun x hx => by have := hs x hx; omega)
  rw [hfew] at hff
  have HF := Lib.hid hff
  have HM := Lib.hid (fun W (hW : Below w.heap.size w W) => made6_any A n cp rs W (h.later hW) hs hn)
  have H4 := Lib.hid h4
  have HS := Lib.hid hs
  have d4 : decide ((40 : Int) < (n4 : Int)) = false := decide_eq_false (by omega)
  clear h hfew hff h4 hl hs
  go_enter Tryz.func3, Tryz.ntmps3
  go_wp2_with fail
  refine HA.out.mono ?_
  rintro e w1 ⟨rfl, hb⟩
  have HB := Lib.hid hb
  clear hb
  go_wp2_with fail
  refine (HF.out _ HB.out).mono ?_
  rintro e w2 ⟨rfl, rfl⟩
  go_wp2_with fail
  refine (HM.out _ HB.out).mono ?_
  rintro e w3 ⟨hb3, hcase⟩
  have HB3 := Lib.hid (HB.out.trans (hb3.mono HB.out.size))
  clear hb3
  rcases hcase with ⟨_, rfl⟩ | ⟨hra, A1, c1, A2, c2, qs, rfl, hQ, hR, hqs, _⟩
  · go_wp2
    go_ret
    exact ⟨rfl, HB3.out⟩
  · have hrb := right_both n k hqs
    have HTR := Lib.hid (fun W (hW : Below w3.heap.size w3 W) => tright_any A1 n c1 k _ W (hQ.later hW).qn hk1 hk2 (by omega))
    have HRR := Lib.hid (fun W (hW : Below w3.heap.size w3 W) => refright6_any A2 n c2 k rs W (hR.later hW) (by omega))
    rw [hrb] at HTR
    have HBT := Lib.hid (fun W (hW : Below w3.heap.size w3 W) => but6_any A4 n4 c4 nl W ((H4.out.later HB3.out).later hW) (by omega))
    have hgq := fun hr => goodQ_all (n := n) (k := k) hqs hr hra HS.out
    have hF := fun (hr : rrightB n k rs = true) (wi : Int) (hwi : wi = 0 ∨ wi = 1 ∨ wi = 2 ∨ wi = 3) W (mayv : Value) (hW : Below w3.heap.size w3 W) (hm : MayIs W mayv (but6 nl)) => find6_ok (cp := c1) (k := k.toNat) (wi := wi) W W (hQ.later hW) (Below.refl _ _) (hgq hr) (rright_parts hr).1 (by have := (rright_parts hr).2.1; omega) (by have := (rright_parts hr).2.2.1; omega) hm hwi
    rw [hqs] at hF
    have HFN := Lib.hid (fun (hr : rrightB n k rs = false) (wi : Int) W (mayv : Value) (hW : Below w3.heap.size w3 W) => find6_no (cp := c1) (k := k) (wi := wi) (mayv := mayv) W (hQ.later hW).qn hk1 hk2 (by omega) (.inr (.inr (hrb.trans hr))))
    have hI4 := H4.out.later HB3.out
    have hRA : ∀ x ∈ rs, PostM.rightL x.1 = true := fun x hx => List.all_eq_true.1 hra x hx
    have HFY := Lib.hid hF
    cases hr : rrightB n k rs with
    | false =>
      have HRF := Lib.hid (reffind6_no A2 n c2 k (.slice A4 n4 c4) rs w3 hR hn hr)
      rw [hr] at HTR HRR
      have HFN2 := Lib.hid (HFN.out hr)
      clear hQ hR hqs hrb hgq hF hI4 hRA hr HFN HFY
      go_wp2_with fail
      refine HRF.out.mono ?_
      rintro e w4 ⟨rfl, hb4⟩
      have HB4 := Lib.hid hb4
      clear hb4
      go_wp2
      go_loopw [12] (fun x wr => ∃ i : Nat, x = .int .i64 i ∧ i ≤ 4 ∧ Below w3.heap.size w3 wr) (fun x _ => 4 - (intOf x).toNat)
      case atStart => exact ⟨0, rfl, by omega, HB4.out⟩
      case round =>
        obtain ⟨i, rfl, hi, hb⟩ := hrel
        have HBR := Lib.hid hb
        clear hb
        by_cases hlt : i ≤ 3
        · have hmi : (i : Int) ≤ 3 := by omega
          go_wp2_with fail
          refine (HBT.out _ HBR.out).mono ?_
          rintro e w5 ⟨v, rfl, hm, hb5⟩
          have HB5 := Lib.hid (HBR.out.trans (hb5.mono HBR.out.size))
          clear hb5
          go_wp2_with fail
          refine (HFN2.out i w5 v HB5.out).mono ?_
          rintro e w6 ⟨rfl, hb6⟩
          have HB6 := Lib.hid (HB5.out.trans (hb6.mono HB5.out.size))
          have HSM := Lib.hid (same_any (.slice none 0 0) (.slice none 0 0) [] [] w6 ⟨none, 0, rfl, Nat.le_refl _, (fun _ => rfl), rfl, fun k hk => by simp at hk⟩ ⟨none, 0, rfl, Nat.le_refl _, (fun _ => rfl), rfl, fun k hk => by simp at hk⟩ (by simp) (by simp))
          clear hb6
          go_wp2_with fail
          refine HSM.out.mono ?_
          rintro e w7 ⟨rfl, m, hw7⟩
          have HB7 : Hid (Below w3.heap.size w3 w7) := Lib.hid (HB6.out.trans (by rw [hw7]; exact (below_drewN_p _ _).mono HB6.out.size))
          clear hw7
          go_wp2
          go_roundw
          case rel => exact ⟨i + 1, by go_num, by omega, HB7.out⟩
          case measure => simp [intOf]; omega
        · have hmi : ¬ (i : Int) ≤ 3 := by omega
          go_wp2_with fail
          refine (HTR.out _ HBR.out).mono ?_
          rintro e w5 ⟨rfl, hb5⟩
          have HB5 := Lib.hid (HBR.out.trans (hb5.mono HBR.out.size))
          clear hb5
          go_wp2_with fail
          refine (HRR.out _ HB5.out).mono ?_
          rintro e w6 ⟨rfl, hb6⟩
          have HB6 := Lib.hid (HB5.out.trans (hb6.mono HB5.out.size))
          clear hb6
          go_wp2
          go_ret
          exact ⟨rfl, HB3.out.trans (HB6.out.mono HB3.out.size)⟩
    | true =>
      have HRF := Lib.hid (reffind6_yes A2 A4 n c2 n4 c4 k nl rs w3 hR hI4 HS.out hRA (by omega) hr)
      have hlen := found_len k.toNat rs (but6 nl)
      have hkk := (rright_parts hr).2.2.1
      rw [hr] at HTR HRR
      have HFY2 := Lib.hid (HFY.out hr)
      have hkt : (k.toNat : Int) = k := by have := (rright_parts hr).2.1; omega
      rw [hkt] at HFY2
      obtain ⟨L, hL⟩ : ∃ L, L = foundR k.toNat rs (but6 nl) := ⟨_, rfl⟩
      rw [← hL] at HRF HFY2 hlen
      have HLN : Hid (L.length ≤ 1000) := Lib.hid (by omega)
      clear hQ hR hqs hrb hgq hF hI4 hRA hr HFN HFY hlen hkk hL hkt
      go_wp2_with fail
      refine HRF.out.mono ?_
      rintro e w4 ⟨vw, rfl, hpw, hb4⟩
      have HB4 := Lib.hid hb4
      have HPW := Lib.hid hpw
      clear hb4 hpw
      go_wp2
      go_loopw [12] (fun x wr => ∃ i : Nat, x = .int .i64 i ∧ i ≤ 4 ∧ Below w4.heap.size w4 wr) (fun x _ => 4 - (intOf x).toNat)
      case atStart => exact ⟨0, rfl, by omega, Below.refl _ _⟩
      case round =>
        obtain ⟨i, rfl, hi, hb⟩ := hrel
        have HBQ := Lib.hid hb
        have HBR := Lib.hid (HB4.out.trans (hb.mono HB4.out.size))
        clear hb
        by_cases hlt : i ≤ 3
        · have hmi : (i : Int) ≤ 3 := by omega
          go_wp2_with fail
          refine (HBT.out _ HBR.out).mono ?_
          rintro e w5 ⟨v, rfl, hm, hb5⟩
          have HB5 := Lib.hid (HBR.out.trans (hb5.mono HBR.out.size))
          have HBQ5 := Lib.hid (HBQ.out.trans (hb5.mono HBQ.out.size))
          have HM5 := Lib.hid hm
          clear hb5 hm
          go_wp2_with fail
          refine (HFY2.out i (by omega) w5 v HB5.out HM5.out).mono ?_
          rintro e w6 ⟨v6, rfl, hp6, hb6⟩
          have HBQ6 := Lib.hid (HBQ5.out.trans (hb6.mono HBQ5.out.size))
          have hsm := same_any v6 vw L L w6 hp6 (HPW.out.later HBQ6.out) (by have := HLN.out; omega) (by have := HLN.out; omega)
          rw [decide_eq_true rfl] at hsm
          have HSM := Lib.hid hsm
          clear hb6 hsm hp6
          go_wp2_with fail
          refine HSM.out.mono ?_
          rintro e w7 ⟨rfl, m, hw7⟩
          have HB7 : Hid (Below w4.heap.size w4 w7) := Lib.hid (HBQ6.out.trans (by rw [hw7]; exact (below_drewN_p _ _).mono HBQ6.out.size))
          clear hw7
          go_wp2
          go_roundw
          case rel => exact ⟨i + 1, by go_num, by omega, HB7.out⟩
          case measure => simp [intOf]; omega
        · have hmi : ¬ (i : Int) ≤ 3 := by omega
          go_wp2_with fail
          refine (HTR.out _ HBR.out).mono ?_
          rintro e w5 ⟨rfl, hb5⟩
          have HB5 := Lib.hid (HBR.out.trans (hb5.mono HBR.out.size))
          clear hb5
          go_wp2_with fail
          refine (HRR.out _ HB5.out).mono ?_
          rintro e w6 ⟨rfl, hb6⟩
          have HB6 := Lib.hid (HB5.out.trans (hb6.mono HB5.out.size))
          clear hb6
          go_wp2
          go_ret
          exact ⟨rfl, HB3.out.trans (HB6.out.mono HB3.out.size)⟩
end Go.Proofs.YtpinpnbhbngclaaGreat
