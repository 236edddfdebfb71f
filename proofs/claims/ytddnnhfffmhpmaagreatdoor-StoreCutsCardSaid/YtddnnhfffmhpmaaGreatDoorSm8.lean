/- Own texts, merged (8 of 42). -/
import Derived.Test.YtddnnhfffmhpmaaGreatDoorSm7
import Derived.Sort.MapsRangeIn
import Derived.Deep.RegionWith

/- How many bytes there are: a range over the map; is there room. -/
namespace Go.Proofs.YtddnnhfffmhpmaaGreatDoor.Vd
open Go.RowKit Go.Proofs.YtddnnhfffmhpmaaGreatDoor VdM Go.Maps

abbrev Rng (w : World) (b r n : Nat) (D : MD) (left : Lit → Bool) (cnt : Nat) : Prop := w.ranges Tryz.prog 9 fileElem b r n D left cnt
theorem Rng.stay {w w' : World} {b r n cnt : Nat} {D : MD} {left : Lit → Bool} (h : Rng w b r n D left cnt) (hb : w'.heap[b]? = w.heap[b]?) (hr : w'.heap[r]? = w.heap[r]?) : Rng w' b r n D left cnt := by
  obtain ⟨es, clock, since, seen, c0, h1, h2, h3, h4, h5, h6⟩ := h
  exact ⟨es, clock, since, seen, c0, hb.trans h1, h2, h3, h4, hr.trans h5, h6⟩
theorem Rng.later {w w' : World} {b r n cnt : Nat} {D : MD} {left : Lit → Bool} (h : Rng w b r n D left cnt) (hb : Below w.heap.size w w') : Rng w' b r n D left cnt :=
  Rng.stay h (hb.block b (World.ownsMap.lt (World.ranges.owns h))) (hb.block r (World.ranges.lt h))
theorem us_append (a b : Fils) : usF (a ++ b) = usF a + usF b := by
  induction a with
  | nil => simp [usF]
  | cons x t ih => rw [List.cons_append, usF, usF, ih]; omega
theorem us_perm {a b : Fils} (h : a.Perm b) : usF a = usF b := by
  induction h with
  | nil => rfl
  | cons x _ ih => rw [usF, usF, ih]
  | swap x y t => simp only [usF]; omega
  | trans _ _ h1 h2 => exact h1.trans h2
/-- off are the files that have come -/
structure Come (fs : Fils) (left : Lit → Bool) (off : Fils) : Prop where
  nod : off.Nodup
  mem : ∀ x : Name × Fil, x ∈ off ↔ lkF fs x.1 = some x.2 ∧ left (keyS x.1) = false
theorem Come.start {D : MD} {V : Name → Value} {fs : Fils} (h : Rep D V fs) : Come fs (Maps.has D) [] :=
  ⟨List.nodup_nil, fun x => ⟨fun h => by simp at h, fun ⟨h1, h2⟩ => by rw [h.has, h1] at h2; cases h2⟩⟩
theorem Come.next {fs : Fils} {left : Lit → Bool} {off : Fils} (h : Come fs left off) (z : Name × Fil) (hz : lkF fs z.1 = some z.2) (hl : left (keyS z.1) = true) : Come fs (fun k => left k && !k.sameKey (keyS z.1)) (off ++ [z]) := by
  refine ⟨?_, fun x => ?_⟩
  · rw [List.nodup_append]
    refine ⟨h.nod, by simp, fun a ha b hb e => ?_⟩
    obtain rfl : b = z := by simpa using hb
    subst e
    have := ((h.mem a).1 ha).2
    rw [hl] at this
    cases this
  · rw [List.mem_append, h.mem]
    by_cases e : x.1 = z.1
    · rw [e, sameKey_s]
      simp only [decide_true, Bool.not_true, Bool.and_false]
      constructor
      · rintro (⟨h1, _⟩ | h1)
        · exact ⟨h1, trivial⟩
        · obtain rfl : x = z := by simpa using h1
          exact ⟨hz, trivial⟩
      · rintro ⟨h1, _⟩
        right
        rw [hz] at h1
        injection h1 with h1
        have : x = z := Prod.ext e h1.symm
        simp [this]
    · rw [sameKey_s, decide_eq_false e]
      simp only [Bool.not_false, Bool.and_true]
      constructor
      · rintro (h1 | h1)
        · exact h1
        · obtain rfl : x = z := by simpa using h1
          exact absurd rfl e
      · exact fun h1 => .inl h1
theorem Come.all {fs : Fils} {left : Lit → Bool} {off : Fils} (h : Come fs left off) (hr : Rising fs) (hl : ∀ kl, left kl = false) : off.Perm fs := by
  have hnd : fs.Nodup := hr.imp fun hlt e => by
    rw [e] at hlt
    exact lt_irr _ hlt
  refine (List.perm_ext_iff_of_nodup h.nod hnd).2 fun x => ?_
  rw [h.mem]
  exact ⟨fun ⟨h1, _⟩ => look_some h1, fun h1 => ⟨look_of_mem hr h1, hl _⟩⟩
theorem Come.us {fs : Fils} {left : Lit → Bool} {off : Fils} (h : Come fs left off) {q : Nat} (hq : ∀ n f, lkF fs n = some f → f.bytes.length ≤ q) : usF off ≤ off.length * q := by
  have : ∀ l : Fils, (∀ x ∈ l, x.2.bytes.length ≤ q) → usF l ≤ l.length * q := by
    intro l
    induction l with
    | nil => intro _; simp [usF]
    | cons x t ih =>
      intro hx
      have h1 := ih fun y hy => hx y (List.mem_cons_of_mem _ hy)
      have h2 := hx x List.mem_cons_self
      rw [usF, List.length_cons, Nat.succ_mul]
      omega
  exact this off fun x hx => hq x.1 x.2 ((h.mem x).1 hx).1
theorem wpList_next_file {w : World} {ops : Array Oper} {rest : List Oper} {o : Oper} {a : Act} {Q : Exit → Act → World → Prop} (hg : o.guard = none) (it : Operand) (hop : o.op = Op.next it false)
    (b r n : Nat) (D : MD) (V : Name → Value) (fs : Fils) (left : Lit → Bool) (cnt : Nat) (hit : a.eval it = .pointer (some ⟨r, 0, none⟩)) (h : Rng w b r n D left cnt) (hr : Rep D V fs)
    (hDone : cnt = 0 → (∀ kl, left kl = false) → wpList Tryz.prog ops Q rest (a.put o.dst (.tuple #[.bool false])) w)
    (hMore : ∀ (nm : ByteArray) (f : Fil) (p : Option Addr) (k c : Nat) (w' : World) (cnt' : Nat), nm.size ≤ maxLen → lkF fs nm.data.toList = some f → left (keyS nm.data.toList) = true → V nm.data.toList = .slice p k c → Rng w' b r n D (fun z => left z && !z.sameKey (keyS nm.data.toList)) cnt' → cnt' < cnt →
      w.grownBy w' (some r) → w'.heap.size = w.heap.size → (Instr.entry (.pointer (some ⟨r, 0, none⟩))).run Tryz.prog w' = .ok (.tuple #[.string nm, fileV (.slice p k c) f.syn]) w' → wpList Tryz.prog ops Q rest (a.put o.dst (.tuple #[.bool true, .string nm, fileV (.slice p k c) f.syn])) w') :
    wpList Tryz.prog ops Q (o :: rest) a w := by
  refine wpList_next_ranges w hg it hop 9 key_law fileElem Value.string (fun x : Option Addr × Nat × Nat × Int => fileV (.slice x.1 x.2.1 x.2.2.1) x.2.2.2) (fun key kl hkey => ?_) (fun v y hv => ?_) b r n D left cnt hit h hDone ?_
  · obtain ⟨x, e, _, _⟩ := Maps.keyOf_str Tryz.underlying9 hkey
    exact ⟨_, e⟩
  · obtain ⟨p, k, c, s, e, _⟩ := fileElem_inv hv
    exact ⟨(p, k, c, s), e⟩
  · rintro nm ⟨p, k, c, sy⟩ kl y w' cnt' hkey hlk hv hat hrg hlt hgr hsz hen
    have hsize : nm.size ≤ maxLen ∧ kl = keyS nm.data.toList := by
      simp [keyOf, Tryz.underlying9, mapKey] at hkey
      exact ⟨hkey.1, hkey.2.symm⟩
    obtain ⟨hsize, rfl⟩ := hsize
    have hh := has_true_of_atKey hat
    rw [hr.has] at hh
    obtain ⟨f, hf⟩ := Option.isSome_iff_exists.1 hh
    have e1 := (hat (.held (fileV nilS 0))).symm.trans (hr.at_ _ f hf _)
    obtain ⟨p', k', c', s', e2, e3⟩ := fileElem_inv hv
    rw [e3, ← e2] at e1
    have e4 := held_inj e1
    simp only [fileV] at e4
    injection e4 with e4
    have e5 : V nm.data.toList = .slice p k c ∧ sy = f.syn := by
      simp only [Array.mk.injEq, List.cons.injEq, Value.int.injEq] at e4
      exact ⟨e4.1.symm, e4.2.1.2⟩
    obtain ⟨e5, rfl⟩ := e5
    exact hMore nm f p k c w' cnt' hsize hf hlk e5 hrg hlt hgr hsz hen
set_option maxHeartbeats 4000000 in
set_option maxRecDepth 100000 in
theorem used_any (w : World) (F : Nat → Prop) (d : Nat) (s : Dsk) (h : Is w F d s) :
    Calls Tryz.prog 168 #[.pointer (some ⟨d, 0, none⟩)] w fun e w' => e = .returned (.int .i64 (usF s.fs : Int)) ∧ Below w.heap.size w w' := by
  obtain ⟨m, D, V, h⟩ := h
  have c1 := h.cells.2.1
  have hown := h.own
  have hml := hown.lt
  have hsz := size_rep h.own h.rep h.ok.rise
  have hmo := h.ok.most
  have HS := Lib.hid (show Maps.size D ≤ 64 by omega)
  have HR := Lib.hid h.rep
  have HRI := Lib.hid h.ok.rise
  have HW := Lib.hid (fun n f hl => h.row n f hl)
  have HON := Lib.hid (fun n f hl => (h.ok.one (n := n) (f := f) hl).2.1)
  obtain ⟨nn, hnn⟩ : ∃ n, n = s.fs.length := ⟨_, rfl⟩
  rw [← hnn] at hown
  clear h hsz hmo hnn
  go_enter Tryz.func168, Tryz.ntmps168
  go_wp2_with (at_range; refine wpList_range_own _ rfl _ 62 rfl 9 72 key_law Tryz.underlying62 _ m nn _ rfl hown ?_; intro w0 hrg0 hg0 hs0)
  have HB0 : Hid (Below w.heap.size w w0) := Lib.hid ((Below.refl _ _).grown hg0 (Nat.le_refl _) (fun q hq => by cases hq))
  obtain ⟨r, hrE⟩ : ∃ r, r = w.heap.size := ⟨_, rfl⟩
  rw [← hrE]
  rw [← hrE] at hrg0
  have HRE := Lib.hid hrE
  clear hown hg0 hs0 hrE
  go_frame
  go_loopw [3] (fun x wr => ∃ (left : Lit → Bool) (cnt : Nat) (off : Fils), x = .int .i64 (usF off : Int) ∧ Rng wr m r nn D left cnt ∧ Come s.fs left off ∧ off.length + cnt ≤ 64 ∧ Below w.heap.size w wr) (fun _ wr => wr.rangeLeft m r)
  case atStart => exact ⟨_, _, [], rfl, hrg0, Come.start HR.out, by simp; exact HS.out, HB0.out⟩
  case round =>
    obtain ⟨left, cnt, off, rfl, hrg, hcm, hlen, hb⟩ := hrel
    have hub := hcm.us HON.out
    have hub2 : usF off ≤ 67108864 := Nat.le_trans hub (by have : off.length ≤ 64 := by omega
                                                           omega)
    obtain ⟨u, hu⟩ : ∃ u, u = usF off := ⟨_, rfl⟩
    rw [← hu] at hub2
    rw [← hu]
    have HU := Lib.hid hu
    have HCM := Lib.hid hcm
    have HB := Lib.hid hb
    have HRG := Lib.hid hrg
    have hwz : w.heap.size ≤ wr.heap.size := hb.size
    clear hcm hub hu hb
    go_wp2_with (at_next; refine wpList_next_file rfl _ rfl m r nn D V s.fs left cnt rfl hrg HR.out ?_ ?_)
    · intro hc0 hl0
      have HL := Lib.hid hl0
      clear hl0 hc0 hrg
      go_wp2
      go_ret
      exact ⟨ret_int (by rw [HU.out, us_perm (HCM.out.all HRI.out HL.out)]), HB.out⟩
    · intro nm f p k c w1 cnt1 hnm hlk hlf hV hrg1 hlt hg1 hs1 hen
      have hrow := HW.out _ f hlk
      rw [hV] at hrow
      have hk : k = f.bytes.length := by
        obtain ⟨p', c', e⟩ := hrow.shape
        injection e
      have hbd := HON.out _ f hlk
      rw [← hk] at hbd
      obtain ⟨sy, hsy⟩ : ∃ x : Int, x = (f.syn : Int) := ⟨_, rfl⟩
      rw [← hsy] at hen ⊢
      have HN1 := Lib.hid (HCM.out.next (nm.data.toList, f) hlk hlf)
      have HU1 : Hid (u + k = usF (off ++ [(nm.data.toList, f)])) := Lib.hid (by rw [us_append, ← HU.out, hk]; simp [usF])
      have HBw : Hid (Below w.heap.size w w1) := Lib.hid (HB.out.grown hg1 hwz (fun q hq => by injection hq with hq; rw [← hq, HRE.out]; exact Nat.le_refl _))
      have HG1 := Lib.hid hrg1
      have HLT := Lib.hid hlt
      clear hrow hk hsy hlk hlf hrg1 hlt hg1 hs1 hrg hV hnm
      have hen2 := hen
      go_wp2
      go_roundw
      case rel => exact ⟨_, cnt1, off ++ [(nm.data.toList, f)], by rw [← HU1.out]; go_num, Rng.later HG1.out (pl1 _ _), HN1.out, by have := HLT.out; simp; omega, HBw.out.trans ((pl1 _ _).mono HBw.out.size)⟩
      case measure =>
        rw [World.ranges.left_eq (Rng.later HG1.out (pl1 _ _)), World.ranges.left_eq HRG.out]
        exact HLT.out
end Go.Proofs.YtddnnhfffmhpmaaGreatDoor.Vd

/- Is there room. -/
namespace Go.Proofs.YtddnnhfffmhpmaaGreatDoor.Vd
open Go.RowKit Go.Proofs.YtddnnhfffmhpmaaGreatDoor VdM Go.Maps

theorem len_run {w : World} {m nn : Nat} {D : MD} {V : Name → Value} {fs : Fils} (hown : Own w m nn D) (hr : Rep D V fs) (hri : Rising fs) : (Builtin.len_ #[62] 3 #[.map (some m)]).run Tryz.prog w = .ok (.int .i64 (fs.length : Int)) w := by
  have h := hown.len Tryz.underlying62 3
  rw [size_rep hown hr hri] at h
  exact h
set_option maxHeartbeats 4000000 in
set_option maxRecDepth 100000 in
theorem hasroom_any (w : World) (F : Nat → Prop) (d : Nat) (s : Dsk) (h : Is w F d s) (nm : ByteArray) (k : Nat) (hn : nm.size ≤ 1000000000) :
    Calls Tryz.prog 118 #[.pointer (some ⟨d, 0, none⟩), .string nm, .int .i64 (k : Int)] w fun e w' => e = .returned (.bool (roomB s nm.data.toList k)) ∧ Below w.heap.size w w' := by
  have hIs := h
  obtain ⟨m, D, V, h⟩ := h
  obtain ⟨c0, c1, c2, c3, c4, c5⟩ := h.cells
  have hdl := h.dlt
  have hfit := h.ok.fits
  have hq1 := h.ok.q2
  have hmo := h.ok.most
  obtain ⟨sp, sn, sc, hsh⟩ := h.shape nm.data.toList
  obtain ⟨q, hq⟩ : ∃ q, lkF s.fs nm.data.toList = q := ⟨_, rfl⟩
  rw [hq] at hsh
  have hrn := look_run_ok h.own h.rep nm (key_is nm hn) q hq
  rw [hsh] at hrn
  obtain ⟨sy, hsy⟩ : ∃ x, x = synOf q := ⟨_, rfl⟩
  rw [← hsy] at hrn
  have HU := Lib.hid (fun W (hW : Below w.heap.size w W) => used_any W F d s (hIs.later hW))
  obtain ⟨u, hu⟩ : ∃ u, u = usF s.fs := ⟨_, rfl⟩
  rw [← hu] at hfit HU
  obtain ⟨qt, hqt⟩ : ∃ x, x = s.quota := ⟨_, rfl⟩
  rw [← hqt] at hfit hq1 c0
  obtain ⟨ok, hok⟩ : ∃ x, x = q.isSome := ⟨_, rfl⟩
  rw [← hok] at hrn
  obtain ⟨b2, hb2⟩ : ∃ b, decide ((k : Int) ≤ (qt : Int) - (u : Int)) = b := ⟨_, rfl⟩
  have HBE := Lib.hid hb2
  have hw1 : IntKind.i64.wrap ((qt : Int) - (u : Int)) = (qt : Int) - (u : Int) := by rw [IntKind.wrap_i64]; omega
  have hle : decide (u + k ≤ qt) = b2 := by rw [← hb2]; exact decide_eq_decide.2 (by omega)
  have hres : roomB s nm.data.toList k = ((ok || decide (s.fs.length < 64)) && b2) := by
    unfold roomB
    rw [hq, ← hu, ← hqt, hle, hok]
    cases q <;> simp
  have hB1 := pl1 w (.cells #[.slice sp sn sc, .int .i64 sy] 72)
  have hlen := len_run (h.later hB1).own h.rep h.ok.rise
  have y0 := (hB1.cell (p := ⟨d, 0, none⟩) hdl).trans c0
  have y1 := (hB1.cell (p := ⟨d, 1, none⟩) hdl).trans c1
  obtain ⟨L, hL⟩ : ∃ x, x = s.fs.length := ⟨_, rfl⟩
  rw [← hL] at hlen hmo hres
  have HUD0 := Lib.hid ((HU.out _ hB1.drew).mono fun e w' (h : _ ∧ _) => (⟨h.1, (Below.refl _ _).drew.trans h.2⟩ : _ ∧ _))
  have HB1 := Lib.hid hB1
  rw [hres]
  clear hIs h c2 c3 c4 c5 hfit hq1 hsh hq hsy hu hqt hok hb2 hle hres hB1 hL HU
  have HUD : Hid (Calls Tryz.prog 168 #[.pointer (some ⟨d, 0, none⟩)] (w.alloc (.cells #[.slice sp sn sc, .int .i64 sy] 72)).drew fun e w' => e = .returned (.int .i64 (u : Int)) ∧ Below (w.alloc (.cells #[.slice sp sn sc, .int .i64 sy] 72)).heap.size (w.alloc (.cells #[.slice sp sn sc, .int .i64 sy] 72)) w') := HUD0
  have hdl1 : d < (w.alloc (.cells #[.slice sp sn sc, .int .i64 sy] 72)).heap.size := by simp; omega
  clear hdl
  cases ok with
  | true =>
    rw [Bool.true_or, Bool.true_and]
    clear hlen hmo
    go_enter Tryz.func118, Tryz.ntmps118
    go_wp2
    go_region_with ((with_reducible refine HUD.out.mono ?_); rintro e w2 ⟨rfl, hb2⟩; have z0 := (hb2.cell (p := ⟨d, 0, none⟩) hdl1).trans y0)
    all_goals
      go_wp2
      go_ret
      exact ⟨by rw [← HBE.out]; rfl, HB1.out.trans (hb2.mono HB1.out.size)⟩
  | false =>
    rw [Bool.false_or]
    by_cases h64 : L < 64
    · have d64 : decide ((64 : Int) ≤ (L : Int)) = false := decide_eq_false (by omega)
      have e64 : decide (64 ≤ L) = false := decide_eq_false (by omega)
      rw [decide_eq_true h64, Bool.true_and]
      clear h64 hmo
      go_enter Tryz.func118, Tryz.ntmps118
      go_wp2
      go_region_with ((with_reducible refine HUD.out.mono ?_); rintro e w2 ⟨rfl, hb2⟩; have z0 := (hb2.cell (p := ⟨d, 0, none⟩) hdl1).trans y0)
      all_goals
        go_wp2
        go_ret
        exact ⟨by rw [← HBE.out]; rfl, HB1.out.trans (hb2.mono HB1.out.size)⟩
    · have d64 : decide ((64 : Int) ≤ (L : Int)) = true := decide_eq_true (by omega)
      have e64 : decide (64 ≤ L) = true := decide_eq_true (by omega)
      rw [decide_eq_false h64, Bool.false_and]
      clear h64 hmo
      go_enter Tryz.func118, Tryz.ntmps118
      go_wp2
      go_ret
      exact ⟨rfl, HB1.out⟩
end Go.Proofs.YtddnnhfffmhpmaaGreatDoor.Vd

/- Bytes come behind a file's; a file comes into the map. -/
namespace Go.Proofs.YtddnnhfffmhpmaaGreatDoor.Vd
open Go.RowKit Go.Proofs.YtddnnhfffmhpmaaGreatDoor VdM Go.Maps

set_option maxRecDepth 100000 in
theorem append_bytes (ty : TypeId) (w : World) (v : Value) (l : List UInt8) (s : ByteArray) (h : ByteRow w v l) (hlen : l.length + s.size ≤ 1000000000) :
    ∃ v' w', (Builtin.append_ #[70, 9] ty #[v, .string s]).run Tryz.prog w = .ok v' w' ∧ ByteRow w' v' (l ++ s.data.toList) ∧ w.grownBy w' v.ownBlock ∧ (v'.ownBlock = v.ownBlock ∨ v'.ownBlock = some w.heap.size) ∧ ByteRow w' v l := by
  obtain ⟨i0, hi, hz0, hz1, hz2⟩ := info_parts byte_info
  have hm : l.length + s.size ≤ maxLen := by unfold maxLen; omega
  obtain ⟨v', w', hr, hown', hg, hnil⟩ := Lib.run_append_own_string (P := Tryz.prog) w 0 70 9 ty 5 i0 Tryz.underlying70 Tryz.underlying9 hi hz0 hz1 hz2 v l.length (l.map byteV) h s hm (by omega) (Nat.zero_le _)
  refine ⟨v', w', hr, ?_, hg, ?_⟩
  · unfold ByteRow
    rw [List.length_append, List.map_append, size_list]
    exact hown'
  · rcases h.2 with ⟨rfl, hn⟩ | ⟨g, cap, cur, rfl, hbg, hgg, hnc, hcm, hcs, htake⟩
    · by_cases h0 : s.size = 0
      · refine ⟨.inl (by rw [hnil.2 ⟨rfl, h0⟩]), ?_⟩
        rw [List.eq_nil_of_length_eq_zero hn]
        exact ByteRow.nil_ _
      · have hl0 : l = [] := List.eq_nil_of_length_eq_zero hn
        have hr2 := run_append_nil_string (P := Tryz.prog) w 70 9 ty 5 i0 (.int .u8 0) Tryz.underlying70 Tryz.underlying9 hi hz0 s (by omega) (by omega) (by rw [hz2]; omega)
        rw [hr] at hr2
        injection hr2 with e1 _
        rw [e1, hl0]
        exact ⟨.inr rfl, ByteRow.nil_ _⟩
    · by_cases hroom : l.length + s.size ≤ cap
      · have hr2 := Lib.run_append_room_string (P := Tryz.prog) w 70 9 ty 5 i0 Tryz.underlying70 Tryz.underlying9 hi hz1 g l.length cap cur hgg s hroom (by omega)
        rw [hr] at hr2
        injection hr2 with e1 e2
        rw [e1, e2]
        refine ⟨.inl rfl, h.1, .inr ⟨g, cap, _, rfl, hbg, setRow_heap w g cur _ 5 _ hgg, hnc, hcm, ?_, ?_⟩⟩
        · simp only [List.size_toArray, List.length_append, List.length_take, List.length_drop, Array.length_toList, Lib.strCells_length]
          omega
        · rw [List.append_assoc, List.take_append_of_le_length (by simp; omega), List.take_take]
          rw [← htake]
          congr 1
          omega
      · have hr2 := Lib.run_append_grow_string (P := Tryz.prog) w 70 9 ty 5 i0 (.int .u8 0) Tryz.underlying70 Tryz.underlying9 hi hz0 ⟨g, 0, none⟩ l.length cap (l.map byteV) (by rw [hz1]; simp) (World.ownsRow.cells h rfl) s (by omega) (by omega) (by rw [hz2]; exact growslice_fits (by omega) (by omega))
        rw [hr] at hr2
        injection hr2 with e1 e2
        rw [e1, e2]
        exact ⟨.inr rfl, h.stay fun g' hg' => heap_alloc_old w.drew _ (h.lt hg')⟩
theorem wpList_append_bytes {w : World} {ops : Array Oper} {rest : List Oper} {o : Oper} {a : Act} {Q : Exit → Act → World → Prop} (hgd : o.guard = none) (sl x : Operand)
    (ho : o.op = .call { callee := .builtin .append, args := #[sl, x], argTypes := #[70, 9] })
    (v : Value) (l : List UInt8) (s : ByteArray) (hs : a.eval sl = v) (hx : a.eval x = .string s) (hown : ByteRow w v l) (hlen : l.length + s.size ≤ 1000000000)
    (h : ∀ p' n' c' w', ByteRow w' (.slice p' n' c') (l ++ s.data.toList) → w.grownBy w' v.ownBlock → ((Value.slice p' n' c').ownBlock = v.ownBlock ∨ (Value.slice p' n' c').ownBlock = some w.heap.size) → ByteRow w' v l → wpList Tryz.prog ops Q rest (a.put o.dst (.slice p' n' c')) w') : wpList Tryz.prog ops Q (o :: rest) a w := by
  refine wpList_plain hgd fun K hK => ?_
  obtain ⟨v', w', hr, h2, h3, h4, h5⟩ := append_bytes o.type w v l s hown hlen
  unfold Oper.wp execOp
  simp only [ho, resolve, invoke, builtin, Sem.run_bind, Sem.run_pure, Result.andThen_ok, List.map_toArray, List.map_cons, List.map_nil, hs, hx, hr]
  obtain ⟨p', c', rfl⟩ := h2.shape
  exact hK _ _ (h p' _ c' w' h2 h3 h4 h5)
/-- a file's block -/
abbrev FileAt (w : World) (R : Nat) (sl : Value) (sy : Int) : Prop := w.heap[R]? = some (.cells #[sl, .int .i64 sy] 72 (0, 0))
theorem file_cells {w : World} {R : Nat} {sl : Value} {sy : Int} (h : FileAt w R sl sy) : w.cell? ⟨R, 0, none⟩ = some sl ∧ w.cell? ⟨R, 1, none⟩ = some (.int .i64 sy) ∧ w.frozen? ⟨R, 0, none⟩ = false ∧ w.frozen? ⟨R, 1, none⟩ = false :=
  ⟨cell_of_cells h rfl, cell_of_cells h rfl, frozen_of_cells h, frozen_of_cells h⟩
theorem file_apart {w : World} {R : Nat} {sl sl' : Value} {sy : Int} {l : List UInt8} (hR : FileAt w R sl' sy) (hrow : ByteRow w sl l) : sl.ownBlock ≠ some R := fun e => by
  obtain ⟨cur, hc⟩ := hrow.blk e
  unfold FileAt at hR
  rw [hR] at hc
  injection hc with hc
  injection hc with _ hc
  cases hc
set_option maxHeartbeats 1000000 in
set_option maxRecDepth 100000 in
theorem add_any (w : World) (R : Nat) (p : Option Addr) (n c : Nat) (sy : Int) (l : List UInt8) (x : ByteArray) (hR : FileAt w R (.slice p n c) sy) (hrow : ByteRow w (.slice p n c) l) (hlen : l.length + x.size ≤ 1000000000) :
    Calls Tryz.prog 120 #[.pointer (some ⟨R, 0, none⟩), .string x] w fun e w' => e = .returned (.tuple #[]) ∧ ∃ p' n' c', FileAt w' R (.slice p' n' c') sy ∧ ByteRow w' (.slice p' n' c') (l ++ x.data.toList) ∧ ByteRow w' (.slice p n c) l ∧ Turned (fun b => b = R ∨ (Value.slice p n c).ownBlock = some b) w w' ∧ ((Value.slice p' n' c').ownBlock = (Value.slice p n c).ownBlock ∨ (Value.slice p' n' c').ownBlock = some w.heap.size) := by
  have hRl : R < w.heap.size := (Array.getElem?_eq_some_iff.1 hR).1
  obtain ⟨c0, -, -, -⟩ := file_cells hR
  have hap := file_apart hR hrow
  have HAP := Lib.hid hap
  have HR := Lib.hid hR
  have HROW := Lib.hid hrow
  clear hap hR hrow
  go_enter Tryz.func120, Tryz.ntmps120
  have HST : Hid (∀ W, w.grownBy W (Value.slice p n c).ownBlock → FileAt W R (.slice p n c) sy) := Lib.hid (fun W hg => (hg.block R hRl (fun e => HAP.out e.symm)).trans HR.out)
  go_wp2_with (at_builtin; refine wpList_append_bytes rfl _ _ rfl (.slice p n c) l x rfl rfl HROW.out hlen ?_; intro p' n' c' w1 hrow1 hg1 hat1 hold1; have HOLD1 := Lib.hid hold1; have hR1 := HST.out w1 hg1; obtain ⟨d0, -, f0, -⟩ := file_cells hR1; have HAP1 := Lib.hid (file_apart hR1 hrow1); have HROW1 := Lib.hid hrow1; have HG1 := Lib.hid hg1; have HAT1 := Lib.hid hat1; have HR1 := Lib.hid hR1; clear hrow1 hg1 hat1 hR1 hold1)
  go_end0
  refine ⟨rfl, p', n', c', ?_, HROW1.out.stay fun g hg => ?_, HOLD1.out.stay fun g hg => ?_, ?_, HAT1.out⟩
  · have := heap_setCell_row HR1.out 0 (.slice p' n' c')
    simpa using this
  · exact Below.heap_setCell w1 _ _ g (fun e => HAP1.out (by rw [hg, e]))
  · exact Below.heap_setCell w1 _ _ g (fun e => HAP.out (by rw [hg, e]))
  · refine Turned.set_ ?_ (.inl rfl) 0 _
    have hg := HG1.out
    exact ⟨hg.os, hg.tape, hg.output, hg.size, fun k hk hS => hg.block k hk (fun e => hS (.inr e.symm))⟩
end Go.Proofs.YtddnnhfffmhpmaaGreatDoor.Vd

/- A file comes into the map, or goes. -/
namespace Go.Proofs.YtddnnhfffmhpmaaGreatDoor.Vd
open Go.RowKit Go.Proofs.YtddnnhfffmhpmaaGreatDoor VdM Go.Maps

section
variable {w w' : World} {F : Nat → Prop} {d m : Nat} {D : MD} {V : Name → Value} {s : Dsk}
/-- the map's datum, behind a file that has come -/
def putD (D : MD) (n : Name) (v : Value) (f : Fil) : MD := D.put (keyS n) (.held (fileV v f.syn))
theorem At.stored (h : At w F d m D V s) {n : Name} {f : Fil} {v : Value} {nn : Nat} (hrow : ByteRow w v f.bytes) (hap : ∀ n' f', n' ≠ n → lkF s.fs n' = some f' → ∀ g, v.ownBlock = some g → (V n').ownBlock ≠ some g)
    (hok : Ok { s with fs := ptF n f s.fs }) (hg : w.grownBy w' (some m)) (ho : Own w' m nn (putD D n v f)) :
    At w' (fun b => F b ∨ v.ownBlock = some b) d m (putD D n v f) (updV V n v) { s with fs := ptF n f s.fs } := by
  have hrep := h.rep.put n v f
  have hm : m < w.heap.size := h.lt m h.fm
  have hmv : v.ownBlock ≠ some m := fun e => by
    obtain ⟨cur, hc⟩ := hrow.blk e
    obtain ⟨es, clock, hb, _⟩ := h.own
    rw [hb] at hc
    cases hc
  have hst : ∀ (u : Value) (l : List UInt8), ByteRow w u l → u.ownBlock ≠ some m → ByteRow w' u l := fun u l hu hne => hu.stay fun g hgu => hg.block g (hu.lt hgu) (fun e => hne (by rw [hgu, e]))
  refine ⟨(hg.block d h.dlt (fun e => h.md (by injection e with e; exact e.symm))).trans h.ob, ?_, hrep, fun n' f' hl => ?_, fun n1 f1 n2 f2 hl1 hl2 hne g hg1 => ?_, .inl h.fd, .inl h.fm, fun n' f' hl g hgg => ?_, fun b hb => ?_, hok⟩
  · have := own_exact ho
    rw [size_rep ho hrep hok.rise] at this
    exact this
  · by_cases e : n' = n
    · subst e
      rw [look_put_same] at hl
      injection hl with hl
      subst hl
      rw [updV_same]
      exact hst v _ hrow hmv
    · have hl' : lkF s.fs n' = some f' := by rw [← look_put_other f e]; exact hl
      rw [updV_other V v e]
      exact hst _ _ (h.row n' f' hl') (fun e2 => (h.gd hl' e2).2 rfl)
  · by_cases e1 : n1 = n
    · subst e1
      have hne2 : n2 ≠ n1 := fun e => hne e.symm
      have hl2' : lkF s.fs n2 = some f2 := by rw [← look_put_other f hne2]; exact hl2
      rw [updV_same] at hg1
      rw [updV_other V v hne2]
      exact hap n2 f2 hne2 hl2' g hg1
    · have hl1' : lkF s.fs n1 = some f1 := by rw [← look_put_other f e1]; exact hl1
      rw [updV_other V v e1] at hg1
      by_cases e2 : n2 = n
      · subst e2
        rw [updV_same]
        exact fun hv => hap n1 f1 e1 hl1' g hv hg1
      · have hl2' : lkF s.fs n2 = some f2 := by rw [← look_put_other f e2]; exact hl2
        rw [updV_other V v e2]
        exact h.apart n1 f1 n2 f2 hl1' hl2' hne g hg1
  · by_cases e : n' = n
    · subst e
      rw [updV_same] at hgg
      exact .inr hgg
    · have hl' : lkF s.fs n' = some f' := by rw [← look_put_other f e]; exact hl
      rw [updV_other V v e] at hgg
      exact .inl (h.fv n' f' hl' g hgg)
  · refine Nat.lt_of_lt_of_le ?_ hg.size
    rcases hb with hb | hb
    · exact h.lt b hb
    · exact hrow.lt hb
theorem At.dropped (h : At w F d m D V s) {n : Name} {nn : Nat} (hok : Ok { s with fs := dlF n s.fs }) (hg : w.grownBy w' (some m)) (ho : Own w' m nn (D.del (keyS n))) :
    At w' F d m (D.del (keyS n)) V { s with fs := dlF n s.fs } := by
  have hrep := h.rep.del n
  have hsub : ∀ n' f', lkF (dlF n s.fs) n' = some f' → lkF s.fs n' = some f' := fun n' f' hl => by
    by_cases e : n' = n
    · subst e
      rw [look_del_same] at hl
      cases hl
    · rw [← look_del_other e]
      exact hl
  refine ⟨(hg.block d h.dlt (fun e => h.md (by injection e with e; exact e.symm))).trans h.ob, ?_, hrep, fun n' f' hl => ?_, fun n1 f1 n2 f2 hl1 hl2 => h.apart n1 f1 n2 f2 (hsub _ _ hl1) (hsub _ _ hl2), h.fd, h.fm, fun n' f' hl => h.fv n' f' (hsub _ _ hl), fun b hb => Nat.lt_of_lt_of_le (h.lt b hb) hg.size, hok⟩
  · have := own_exact ho
    rw [size_rep ho hrep hok.rise] at this
    exact this
  · have hl' := hsub n' f' hl
    have hr := h.row n' f' hl'
    exact hr.stay fun g hgu => hg.block g (hr.lt hgu) (fun e => by injection e with e; exact (h.gd hl' hgu).2 e)
end
theorem put_run {w : World} {F : Nat → Prop} {d m : Nat} {D : MD} {V : Name → Value} {s : Dsk} (h : At w F d m D V s) (nm : ByteArray) (hn : nm.size ≤ 1000000000) (p : Option Addr) (n c : Nat) (f : Fil) :
    ∃ w' nn, (Instr.mapUpdate 62 (.map (some m)) (.string nm) (fileV (.slice p n c) f.syn)).run Tryz.prog w = .ok () w' ∧ Own w' m nn (putD D nm.data.toList (.slice p n c) f) ∧ w.grownBy w' (some m) := by
  have hm := h.ok.most
  obtain ⟨w', h1, h2, h3⟩ := World.ownsMap.store h.own key_law Tryz.underlying62 (by unfold maxLen; omega) (key_is nm hn) (fileElem_mk p n c f.syn)
  exact ⟨w', _, h1, h2, h3.grown⟩
set_option maxHeartbeats 2000000 in
set_option maxRecDepth 100000 in
theorem put_any (w : World) (F : Nat → Prop) (d m : Nat) (D : MD) (V : Name → Value) (s : Dsk) (h : At w F d m D V s) (nm : ByteArray) (hn : nm.size ≤ 1000000) (p : Option Addr) (n c : Nat) (f : Fil) (hrow : ByteRow w (.slice p n c) f.bytes)
    (hap : ∀ n' f', n' ≠ nm.data.toList → lkF s.fs n' = some f' → ∀ g, (Value.slice p n c).ownBlock = some g → (V n').ownBlock ≠ some g) (hok : Ok { s with fs := ptF nm.data.toList f s.fs }) :
    Calls Tryz.prog 121 #[.pointer (some ⟨d, 0, none⟩), .string nm, fileV (.slice p n c) f.syn] w fun e w' => e = .returned (.tuple #[]) ∧ Turned (fun b => b = m) w w' ∧ At w' (fun b => F b ∨ (Value.slice p n c).ownBlock = some b) d m (putD D nm.data.toList (.slice p n c) f) (updV V nm.data.toList (.slice p n c)) { s with fs := ptF nm.data.toList f s.fs } := by
  obtain ⟨c0, c1, c2, c3, c4, c5⟩ := h.cells
  have hdl := h.dlt
  obtain ⟨sy, hsy⟩ : ∃ x : Int, x = (f.syn : Int) := ⟨_, rfl⟩
  have hBX := pl1 w (.cells #[.slice p n c, .int .i64 sy] 72)
  have hX : FileAt (w.alloc (.cells #[.slice p n c, .int .i64 sy] 72)) w.heap.size (.slice p n c) sy := heap_alloc_new w (.cells #[.slice p n c, .int .i64 sy] 72)
  have y1 := (hBX.cell (p := ⟨d, 1, none⟩) hdl).trans c1
  have hAt := h.later hBX
  have hrow1 := hrow.stay (w' := w.alloc (.cells #[.slice p n c, .int .i64 sy] 72)) fun g hg => hBX.block g (hrow.lt hg)
  have hds : d < (w.alloc (.cells #[.slice p n c, .int .i64 sy] 72)).heap.size := by simp; omega
  have hxs : w.heap.size < (w.alloc (.cells #[.slice p n c, .int .i64 sy] 72)).heap.size := by simp
  rw [← hsy]
  obtain ⟨X, hXE⟩ : ∃ X, X = w.heap.size := ⟨_, rfl⟩
  have HBX := Lib.hid hBX
  have HSY := Lib.hid hsy
  clear c0 c1 c2 c3 c4 c5 h hdl hrow hBX hsy
  go_enter Tryz.func121, Tryz.ntmps121
  go_wp2
  rw [← hXE] at hX hxs ⊢
  generalize w.alloc (.cells #[.slice p n c, .int .i64 sy] 72) = U at hX hds hxs y1 hAt hrow1 HBX ⊢
  obtain ⟨x0, x1, e0, e1⟩ := file_cells hX
  have HC := Lib.hid (clone_any nm U.drew (by omega))
  have HAT := Lib.hid hAt
  have HROW := Lib.hid hrow1
  have HAP := Lib.hid hap
  have HOK := Lib.hid hok
  have HXE := Lib.hid hXE
  clear hAt hrow1 hap hok hX e0 e1 hXE
  go_region_with (go_at_call 127; ((with_reducible refine HC.out.mono ?_); rintro e w2 ⟨rfl, hb2⟩; have hb3 := (Below.refl U.heap.size U).drew.trans hb2; have z1 := (hb3.cell (p := ⟨d, 1, none⟩) hds).trans y1; have z2 := (hb3.cell (p := ⟨X, 0, none⟩) hxs).trans x0; have z3 := (hb3.cell (p := ⟨X, 1, none⟩) hxs).trans x1; have HB3 := Lib.hid hb3; have hA2 := HAT.out.later hb3; obtain ⟨w5, nn, hrun, hown5, hg5⟩ := put_run hA2 nm (by omega) p n c f; rw [← HSY.out] at hrun; have HO5 := Lib.hid hown5; have HG5 := Lib.hid hg5; have HA2 := Lib.hid hA2; clear hb2 hb3 hA2 hown5 hg5))
  all_goals
    go_wp2
    go_end0
    exact ⟨rfl, (Turned.of_below (HBX.out.trans (HB3.out.mono HBX.out.size))).trans (Turned.of_grown HG5.out rfl), HA2.out.stored (HROW.out.stay fun g hg => HB3.out.block g (HROW.out.lt hg)) HAP.out HOK.out HG5.out HO5.out⟩
end Go.Proofs.YtddnnhfffmhpmaaGreatDoor.Vd
