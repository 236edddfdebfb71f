
/- Acts that came in, as the walks take them; how long their strings may be. -/
import Derived.Test.YteigkmeenokfoaaLawPost
import Derived.Test.YteigkmeenokfoaaVdQ
import Derived.SizedLaws
import Derived.Deep.Slices
namespace Go.Proofs.Yteigkmeenokfoaa.Vd
open Go.ChangeShapes Go.WideShapes Go.ChangeAt Go.RowKit Go.Proofs.Yteigkmeenokfoaa

theorem cells_act9 : Try.prog.cellsOf 32 = 6 := by kernel_rfl
theorem cells_int9 : Try.prog.cellsOf 3 = 1 := by kernel_rfl
theorem cells_str9 : Try.prog.cellsOf 9 = 1 := by kernel_rfl
theorem len5 {α : Type} {l : List α} (h : l.length = 5) : ∃ a b c d e, l = [a, b, c, d, e] := by
  match l, h with
  | [a, b, c, d, e], _ => exact ⟨a, b, c, d, e, rfl⟩
theorem len6 {α : Type} {l : List α} (h : l.length = 6) : ∃ a b c d e f, l = [a, b, c, d, e, f] := by
  match l, h with
  | [a, b, c, d, e, f], _ => exact ⟨a, b, c, d, e, f, rfl⟩
set_option maxRecDepth 100000 in
theorem act9_of_trod {H : Type} {enc : TypeId × Value → H} {W : World} {fuel : Nat} {cs : List Value} {x : DataW H × List MemPlace} (h : DataW.trod enc Try.prog W 0 (fun _ => true) true fuel 32 cs = some x) :
    ∃ (a : ActT) (v3 v4 v5 : Value), cs = [.int .i64 a.kind, .string a.name, .string a.s, v3, v4, v5] ∧ ∃ y0 y3 y4, x.1 = .agg [y0, .lit (.string a.name.data.toList), .lit (.string a.s.data.toList), y3, y4] := by
  obtain ⟨xs, n, _, hx, hlen, hxl, hf⟩ := DataW.trod_struct Try.underlying32 h
  rw [cells_act9] at hlen
  obtain ⟨v0, v1, v2, v3, v4, v5, rfl⟩ := len6 hlen
  obtain ⟨y0, y1, y2, y3, y4, rfl⟩ := len5 hxl
  have f0 : DataW.trod enc Try.prog W 0 (fun _ => true) true n 3 (([v0, v1, v2, v3, v4, v5].drop 0).take (Try.prog.cellsOf 3)) = some y0 := hf 0 _ rfl
  have f1 : DataW.trod enc Try.prog W 0 (fun _ => true) true n 9 (([v0, v1, v2, v3, v4, v5].drop 1).take (Try.prog.cellsOf 9)) = some y1 := hf 1 _ rfl
  have f2 : DataW.trod enc Try.prog W 0 (fun _ => true) true n 9 (([v0, v1, v2, v3, v4, v5].drop 2).take (Try.prog.cellsOf 9)) = some y2 := hf 2 _ rfl
  rw [cells_int9] at f0
  rw [cells_str9] at f1 f2
  obtain ⟨a, ea, _⟩ := DataW.trod_int Try.underlying3 f0
  obtain ⟨b, eb, eb2, _⟩ := DataW.trod_string Try.underlying9 f1
  obtain ⟨c, ec, ec2, _⟩ := DataW.trod_string Try.underlying9 f2
  simp at ea eb ec
  refine ⟨⟨a, b, c⟩, v3, v4, v5, by rw [ea, eb, ec], y0.1, y3.1, y4.1, ?_⟩
  rw [hx, eb2, ec2]
  simp
set_option maxRecDepth 100000 in
theorem acts9_of_trod {H : Type} {enc : TypeId × Value → H} {W : World} {v : Value} {d : DataW H} {ps : List MemPlace} {base : Nat} (hv : Value.okWide Try.prog W .any base 22 v)
    (h : DataW.Trod enc Try.prog W 0 (fun _ => true) true 22 v d ps) : ∃ A n cp l, v = .slice A n cp ∧ ActsR W A n l ∧ (l = [] ∨ ∃ elems spare, d = .slice elems spare ∧ elems.length = n ∧ ∀ a ∈ l, ∃ y0 y3 y4, DataW.agg [y0, .lit (.string a.name.data.toList), .lit (.string a.s.data.toList), y3, y4] ∈ elems) := by
  obtain ⟨a0, len, cap, rfl⟩ := okWide_slice Try.underlying22 hv
  obtain ⟨fuel, hf⟩ := h
  rcases Go.Deep.open_slice Try.underlying22 hf with ⟨hcs, _⟩ | ⟨a, len', cap', m, n, D, Pl, hcs, _, hl, _, hm, hx, hcell⟩
  · have e : a0 = none ∧ len = 0 ∧ cap = 0 := by simpa [Value.cells] using hcs
    obtain ⟨rfl, rfl, rfl⟩ := e
    exact ⟨none, 0, 0, [], rfl, ⟨rfl, fun k hk => by simp at hk⟩, .inl rfl⟩
  · have e : a0 = some a ∧ len = len' ∧ cap = cap' := by simpa [Value.cells] using hcs
    obtain ⟨rfl, rfl, rfl⟩ := e
    simp only [if_true] at hm
    rw [cells_act9] at hcell
    have hone : ∀ i, i < len → ∃ t : ActT, (W.cell? (a.add (i * 6)) = some (.int .i64 t.kind) ∧ W.cell? (a.add (i * 6 + 1)) = some (.string t.name) ∧ W.cell? (a.add (i * 6 + 2)) = some (.string t.s)) ∧ ∃ y0 y3 y4, D i = .agg [y0, .lit (.string t.name.data.toList), .lit (.string t.s.data.toList), y3, y4] := by
      intro i hi
      obtain ⟨cs', hc, ht⟩ := hcell i (by omega)
      obtain ⟨t, v3, v4, v5, rfl, hz⟩ := act9_of_trod ht
      obtain ⟨_, _, hat⟩ := World.cells?_some hc
      have c0 := hat 0 (by omega)
      have c1 := hat 1 (by omega)
      have c2 := hat 2 (by omega)
      rw [Go.Deep.add_add] at c0 c1 c2
      exact ⟨t, ⟨c0, c1, c2⟩, hz⟩
    obtain ⟨f, hfE⟩ : ∃ f : Nat → ActT, ∀ i, i < len → (W.cell? (a.add (i * 6)) = some (.int .i64 (f i).kind) ∧ W.cell? (a.add (i * 6 + 1)) = some (.string (f i).name) ∧ W.cell? (a.add (i * 6 + 2)) = some (.string (f i).s)) ∧ ∃ y0 y3 y4, D i = .agg [y0, .lit (.string (f i).name.data.toList), .lit (.string (f i).s.data.toList), y3, y4] :=
      ⟨fun i => if h : i < len then (hone i h).choose else ⟨0, ⟨#[]⟩, ⟨#[]⟩⟩, fun i hi => by simp only [hi, dif_pos]; exact (hone i hi).choose_spec⟩
    refine ⟨some a, len, cap, (List.range len).map f, rfl, ⟨by simp, fun k hk => ?_⟩, .inr ⟨(List.range len).map D, (List.range (m - len)).map fun j => D (len + j), by injection hx, by simp, fun x hx2 => ?_⟩⟩
    · have hk' : k < len := by simpa using hk
      obtain ⟨⟨c0, c1, c2⟩, _⟩ := hfE k hk'
      obtain ⟨⟨c00, _, _⟩, _⟩ := hfE 0 (by omega)
      obtain ⟨b, o, spot⟩ := a
      have hspot : spot = none := by simpa [Addr.add] using World.cell?_spot c00
      subst hspot
      rw [add_none] at c0 c1 c2
      simp only [List.getElem_map, List.getElem_range]
      exact ⟨b, o, rfl, World.block_lt_of_cell? W _ c0, c0, c1, c2⟩
    · obtain ⟨i, hi, rfl⟩ := List.mem_map.1 hx2
      have hi' : i < len := by simpa using hi
      obtain ⟨y0, y3, y4, e⟩ := (hfE i hi').2
      exact ⟨y0, y3, y4, List.mem_map.2 ⟨i, hi, e⟩⟩
theorem weightsAll_mem9 {H : Type} {P : Program} {e : TypeId} : ∀ {l : List (DataW H)} {d : DataW H}, d ∈ l → ∀ n ∈ d.weights P e, n ∈ DataW.weightsAll P e l
  | d' :: r, d, hd, n, hn => by
    simp only [DataW.weightsAll, List.mem_append]
    rcases List.mem_cons.1 hd with rfl | h
    · exact Or.inl hn
    · exact Or.inr (weightsAll_mem9 h n hn)
theorem bytes_act9 : 1 ≤ Try.prog.bytesOf 32 := by decide +kernel
/-- neither the acts nor their strings are longer than memory reaches -/
theorem acts9_short {H : Type} {ts : List TypeId} {ds : List (DataW H)} (h : (DataW.weightsEach Try.prog ts ds).all (· ≤ reachBytes) = true) {j : Nat} {d : DataW H} {n : Nat} {l : List ActT} (ht : ts[j]? = some 22) (hd : ds[j]? = some d) (hl : l.length = n)
    (hz : l = [] ∨ ∃ elems spare, d = .slice elems spare ∧ elems.length = n ∧ ∀ a ∈ l, ∃ y0 y3 y4, DataW.agg [y0, .lit (.string a.name.data.toList), .lit (.string a.s.data.toList), y3, y4] ∈ elems) : Short l ∧ n ≤ 140737488355328 := by
  have hr := reachBytes_lt
  rcases hz with rfl | ⟨elems, spare, rfl, hel, hz⟩
  · exact ⟨fun a ha => by simp at ha, by simp at hl; omega⟩
  · refine ⟨fun a ha => ?_, ?_⟩
    · obtain ⟨y0, y3, y4, hm⟩ := hz a ha
      have hw : ∀ x ∈ DataW.weights Try.prog 32 (DataW.agg [y0, .lit (.string a.name.data.toList), .lit (.string a.s.data.toList), y3, y4]), x ≤ reachBytes := fun x hx => by
        refine of_decide_eq_true (List.all_eq_true.1 h _ (DataW.weights_mem_each ht hd _ ?_))
        simp only [DataW.weights, Try.underlying22, List.mem_cons, List.mem_append]
        exact Or.inr (Or.inl (weightsAll_mem9 hm _ hx))
      have h1 := hw a.name.data.toList.length (by simp [DataW.weights, DataW.weightsEach, Try.underlying32])
      have h2 := hw a.s.data.toList.length (by simp [DataW.weights, DataW.weightsEach, Try.underlying32])
      rw [size_list] at h1 h2
      omega
    · have hw : (elems.length + spare.length) * Try.prog.bytesOf 32 ≤ reachBytes := by
        refine of_decide_eq_true (List.all_eq_true.1 h _ (DataW.weights_mem_each ht hd _ ?_))
        simp only [DataW.weights, Try.underlying22, List.mem_cons]
        exact Or.inl trivial
      have hb := bytes_act9
      have h3 : (elems.length + spare.length) * 1 ≤ (elems.length + spare.length) * Try.prog.bytesOf 32 := Nat.mul_le_mul_left _ hb
      omega
end Go.Proofs.Yteigkmeenokfoaa.Vd
