
/- How many bytes there are: a range over the map; is there room. -/
import Derived.Test.YteigkmeenokfoaaVdD
import Derived.Sort.MapsRangeIn
namespace Go.Proofs.Yteigkmeenokfoaa.Vd
open Go.RowKit Go.Proofs.Yteigkmeenokfoaa VdM Go.Maps

abbrev Rng (w : World) (b r n : Nat) (D : MD) (left : Lit → Bool) (cnt : Nat) : Prop := w.ranges Try.prog 9 fileElem b r n D left cnt
theorem Rng.stay {w w' : World} {b r n cnt : Nat} {D : MD} {left : Lit → Bool} (h : Rng w b r n D left cnt) (hb : w'.heap[b]? = w.heap[b]?) (hr : w'.heap[r]? = w.heap[r]?) : Rng w' b r n D left cnt := by
  obtain ⟨es, clock, since, seen, c0, h1, h2, h3, h4, h5, h6⟩ := h
  exact ⟨es, clock, since, seen, c0, hb.trans h1, h2, h3, h4, hr.trans h5, h6⟩
theorem Rng.later {w w' : World} {b r n cnt : Nat} {D : MD} {left : Lit → Bool} (h : Rng w b r n D left cnt) (hb : Below w.heap.size w w') : Rng w' b r n D left cnt :=
  Rng.stay h (hb.block b (World.ownsMap.lt (World.ranges.owns h))) (hb.block r (World.ranges.lt h))
theorem us_append (a b : Fils) : usF (a ++ b) = usF a + usF b := by
  induction a with
  | nil => simp [usF]
  | cons x t ih => rw [List.cons_append, usF, usF, ih]; omega
theorem us_perm {a b : Fils} (h : a.Perm b) : usF a = usF b := by
  induction h with
  | nil => rfl
  | cons x _ ih => rw [usF, usF, ih]
  | swap x y t => simp only [usF]; omega
  | trans _ _ h1 h2 => exact h1.trans h2
/-- off are the files that have come -/
structure Come (fs : Fils) (left : Lit → Bool) (off : Fils) : Prop where
  nod : off.Nodup
  mem : ∀ x : Name × Fil, x ∈ off ↔ lkF fs x.1 = some x.2 ∧ left (keyS x.1) = false
theorem Come.start {D : MD} {V : Name → Value} {fs : Fils} (h : Rep D V fs) : Come fs (Maps.has D) [] :=
  ⟨List.nodup_nil, fun x => ⟨fun h => by simp at h, fun ⟨h1, h2⟩ => by rw [h.has, h1] at h2; cases h2⟩⟩
theorem Come.next {fs : Fils} {left : Lit → Bool} {off : Fils} (h : Come fs left off) (z : Name × Fil) (hz : lkF fs z.1 = some z.2) (hl : left (keyS z.1) = true) : Come fs (fun k => left k && !k.sameKey (keyS z.1)) (off ++ [z]) := by
  refine ⟨?_, fun x => ?_⟩
  · rw [List.nodup_append]
    refine ⟨h.nod, by simp, fun a ha b hb e => ?_⟩
    obtain rfl : b = z := by simpa using hb
    subst e
    have := ((h.mem a).1 ha).2
    rw [hl] at this
    cases this
  · rw [List.mem_append, h.mem]
    by_cases e : x.1 = z.1
    · rw [e, sameKey_s]
      simp only [decide_true, Bool.not_true, Bool.and_false]
      constructor
      · rintro (⟨h1, _⟩ | h1)
        · exact ⟨h1, trivial⟩
        · obtain rfl : x = z := by simpa using h1
          exact ⟨hz, trivial⟩
      · rintro ⟨h1, _⟩
        right
        rw [hz] at h1
        injection h1 with h1
        have : x = z := Prod.ext e h1.symm
        simp [this]
    · rw [sameKey_s, decide_eq_false e]
      simp only [Bool.not_false, Bool.and_true]
      constructor
      · rintro (h1 | h1)
        · exact h1
        · obtain rfl : x = z := by simpa using h1
          exact absurd rfl e
      · exact fun h1 => .inl h1
theorem Come.all {fs : Fils} {left : Lit → Bool} {off : Fils} (h : Come fs left off) (hr : Rising fs) (hl : ∀ kl, left kl = false) : off.Perm fs := by
  have hnd : fs.Nodup := hr.imp fun hlt e => by
    rw [e] at hlt
    exact lt_irr _ hlt
  refine (List.perm_ext_iff_of_nodup h.nod hnd).2 fun x => ?_
  rw [h.mem]
  exact ⟨fun ⟨h1, _⟩ => look_some h1, fun h1 => ⟨look_of_mem hr h1, hl _⟩⟩
theorem Come.us {fs : Fils} {left : Lit → Bool} {off : Fils} (h : Come fs left off) {q : Nat} (hq : ∀ n f, lkF fs n = some f → f.bytes.length ≤ q) : usF off ≤ off.length * q := by
  have : ∀ l : Fils, (∀ x ∈ l, x.2.bytes.length ≤ q) → usF l ≤ l.length * q := by
    intro l
    induction l with
    | nil => intro _; simp [usF]
    | cons x t ih =>
      intro hx
      have h1 := ih fun y hy => hx y (List.mem_cons_of_mem _ hy)
      have h2 := hx x List.mem_cons_self
      rw [usF, List.length_cons, Nat.succ_mul]
      omega
  exact this off fun x hx => hq x.1 x.2 ((h.mem x).1 hx).1
theorem wpList_next_file {w : World} {ops : Array Oper} {rest : List Oper} {o : Oper} {a : Act} {Q : Exit → Act → World → Prop} (hg : o.guard = none) (it : Operand) (hop : o.op = Op.next it false)
    (b r n : Nat) (D : MD) (V : Name → Value) (fs : Fils) (left : Lit → Bool) (cnt : Nat) (hit : a.eval it = .pointer (some ⟨r, 0, none⟩)) (h : Rng w b r n D left cnt) (hr : Rep D V fs)
    (hDone : cnt = 0 → (∀ kl, left kl = false) → wpList Try.prog ops Q rest (a.put o.dst (.tuple #[.bool false])) w)
    (hMore : ∀ (nm : ByteArray) (f : Fil) (p : Option Addr) (k c : Nat) (w' : World) (cnt' : Nat), nm.size ≤ maxLen → lkF fs nm.data.toList = some f → left (keyS nm.data.toList) = true → V nm.data.toList = .slice p k c → Rng w' b r n D (fun z => left z && !z.sameKey (keyS nm.data.toList)) cnt' → cnt' < cnt →
      w.grownBy w' (some r) → w'.heap.size = w.heap.size → (Instr.entry (.pointer (some ⟨r, 0, none⟩))).run Try.prog w' = .ok (.tuple #[.string nm, fileV (.slice p k c) f.syn]) w' → wpList Try.prog ops Q rest (a.put o.dst (.tuple #[.bool true, .string nm, fileV (.slice p k c) f.syn])) w') :
    wpList Try.prog ops Q (o :: rest) a w := by
  refine wpList_next_ranges w hg it hop 9 key_law fileElem Value.string (fun x : Option Addr × Nat × Nat × Int => fileV (.slice x.1 x.2.1 x.2.2.1) x.2.2.2) (fun key kl hkey => ?_) (fun v y hv => ?_) b r n D left cnt hit h hDone ?_
  · obtain ⟨x, e, _, _⟩ := Maps.keyOf_str Try.underlying9 hkey
    exact ⟨_, e⟩
  · obtain ⟨p, k, c, s, e, _⟩ := fileElem_inv hv
    exact ⟨(p, k, c, s), e⟩
  · rintro nm ⟨p, k, c, sy⟩ kl y w' cnt' hkey hlk hv hat hrg hlt hgr hsz hen
    have hsize : nm.size ≤ maxLen ∧ kl = keyS nm.data.toList := by
      simp [keyOf, Try.underlying9, mapKey] at hkey
      exact ⟨hkey.1, hkey.2.symm⟩
    obtain ⟨hsize, rfl⟩ := hsize
    have hh := has_true_of_atKey hat
    rw [hr.has] at hh
    obtain ⟨f, hf⟩ := Option.isSome_iff_exists.1 hh
    have e1 := (hat (.held (fileV nilS 0))).symm.trans (hr.at_ _ f hf _)
    obtain ⟨p', k', c', s', e2, e3⟩ := fileElem_inv hv
    rw [e3, ← e2] at e1
    have e4 := held_inj e1
    simp only [fileV] at e4
    injection e4 with e4
    have e5 : V nm.data.toList = .slice p k c ∧ sy = f.syn := by
      simp only [Array.mk.injEq, List.cons.injEq, Value.int.injEq] at e4
      exact ⟨e4.1.symm, e4.2.1.2⟩
    obtain ⟨e5, rfl⟩ := e5
    exact hMore nm f p k c w' cnt' hsize hf hlk e5 hrg hlt hgr hsz hen
set_option maxHeartbeats 4000000 in
set_option maxRecDepth 100000 in
theorem used_any (w : World) (F : Nat → Prop) (d : Nat) (s : Dsk) (h : Is w F d s) :
    Calls Try.prog 15 #[.pointer (some ⟨d, 0, none⟩)] w fun e w' => e = .returned (.int .i64 (usF s.fs : Int)) ∧ Below w.heap.size w w' := by
  obtain ⟨m, D, V, h⟩ := h
  have c1 := h.cells.2.1
  have hown := h.own
  have hml := hown.lt
  have hsz := size_rep h.own h.rep h.ok.rise
  have hmo := h.ok.most
  have HS := Lib.hid (show Maps.size D ≤ 64 by omega)
  have HR := Lib.hid h.rep
  have HRI := Lib.hid h.ok.rise
  have HW := Lib.hid (fun n f hl => h.row n f hl)
  have HON := Lib.hid (fun n f hl => (h.ok.one (n := n) (f := f) hl).2.1)
  obtain ⟨nn, hnn⟩ : ∃ n, n = s.fs.length := ⟨_, rfl⟩
  rw [← hnn] at hown
  clear h hsz hmo hnn
  go_enter Try.func15, Try.ntmps15
  go_wp2_with (at_range; refine wpList_range_own _ rfl _ 44 rfl 9 56 key_law Try.underlying44 _ m nn _ rfl hown ?_; intro w0 hrg0 hg0 hs0)
  have HB0 : Hid (Below w.heap.size w w0) := Lib.hid ((Below.refl _ _).grown hg0 (Nat.le_refl _) (fun q hq => by cases hq))
  obtain ⟨r, hrE⟩ : ∃ r, r = w.heap.size := ⟨_, rfl⟩
  rw [← hrE]
  rw [← hrE] at hrg0
  have HRE := Lib.hid hrE
  clear hown hg0 hs0 hrE
  go_frame
  go_loopw [3] (fun x wr => ∃ (left : Lit → Bool) (cnt : Nat) (off : Fils), x = .int .i64 (usF off : Int) ∧ Rng wr m r nn D left cnt ∧ Come s.fs left off ∧ off.length + cnt ≤ 64 ∧ Below w.heap.size w wr) (fun _ wr => wr.rangeLeft m r)
  case atStart => exact ⟨_, _, [], rfl, hrg0, Come.start HR.out, by simp; exact HS.out, HB0.out⟩
  case round =>
    obtain ⟨left, cnt, off, rfl, hrg, hcm, hlen, hb⟩ := hrel
    have hub := hcm.us HON.out
    have hub2 : usF off ≤ 67108864 := Nat.le_trans hub (by have : off.length ≤ 64 := by omega
                                                           omega)
    obtain ⟨u, hu⟩ : ∃ u, u = usF off := ⟨_, rfl⟩
    rw [← hu] at hub2
    rw [← hu]
    have HU := Lib.hid hu
    have HCM := Lib.hid hcm
    have HB := Lib.hid hb
    have HRG := Lib.hid hrg
    have hwz : w.heap.size ≤ wr.heap.size := hb.size
    clear hcm hub hu hb
    go_wp2_with (at_next; refine wpList_next_file rfl _ rfl m r nn D V s.fs left cnt rfl hrg HR.out ?_ ?_)
    · intro hc0 hl0
      have HL := Lib.hid hl0
      clear hl0 hc0 hrg
      go_wp2
      go_ret
      exact ⟨ret_int (by rw [HU.out, us_perm (HCM.out.all HRI.out HL.out)]), HB.out⟩
    · intro nm f p k c w1 cnt1 hnm hlk hlf hV hrg1 hlt hg1 hs1 hen
      have hrow := HW.out _ f hlk
      rw [hV] at hrow
      have hk : k = f.bytes.length := by
        obtain ⟨p', c', e⟩ := hrow.shape
        injection e
      have hbd := HON.out _ f hlk
      rw [← hk] at hbd
      obtain ⟨sy, hsy⟩ : ∃ x : Int, x = (f.syn : Int) := ⟨_, rfl⟩
      rw [← hsy] at hen ⊢
      have HN1 := Lib.hid (HCM.out.next (nm.data.toList, f) hlk hlf)
      have HU1 : Hid (u + k = usF (off ++ [(nm.data.toList, f)])) := Lib.hid (by rw [us_append, ← HU.out, hk]; simp [usF])
      have HBw : Hid (Below w.heap.size w w1) := Lib.hid (HB.out.grown hg1 hwz (fun q hq => by injection hq with hq; rw [← hq, HRE.out]; exact Nat.le_refl _))
      have HG1 := Lib.hid hrg1
      have HLT := Lib.hid hlt
      clear hrow hk hsy hlk hlf hrg1 hlt hg1 hs1 hrg hV hnm
      have hen2 := hen
      go_wp2
      go_roundw
      case rel => exact ⟨_, cnt1, off ++ [(nm.data.toList, f)], by rw [← HU1.out]; go_num, Rng.later HG1.out (pl1 _ _), HN1.out, by have := HLT.out; simp; omega, HBw.out.trans ((pl1 _ _).mono HBw.out.size)⟩
      case measure =>
        rw [World.ranges.left_eq (Rng.later HG1.out (pl1 _ _)), World.ranges.left_eq HRG.out]
        exact HLT.out
end Go.Proofs.Yteigkmeenokfoaa.Vd
