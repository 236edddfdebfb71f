/- Own texts, merged (19 of 42). -/
import Derived.Test.YtddnnhfffmhpmaaGreatDoorSm6
import Derived.Test.YtddnnhfffmhpmaaGreatDoorSm15
import Derived.Test.YtddnnhfffmhpmaaGreatDoorSm18
import Derived.StillTailTactics

/- Steps over a disk; text that lasts; the manifest swapped. -/
namespace Go.Proofs.YtddnnhfffmhpmaaGreatDoor.St
open Go.RowKit Go.Proofs.YtddnnhfffmhpmaaGreatDoor StoM
open VdM

def chainK : List (Dsk → Dsk × Int) → Dsk → Dsk × Int
  | [], k => (k, 0)
  | f :: r, k => if (f k).2 = 0 then chainK r (f k).1 else f k
theorem chain_last (f : Dsk → Dsk × Int) (k : Dsk) : chainK [f] k = f k := by
  unfold chainK
  by_cases h : (f k).2 = 0
  · rw [if_pos h]
    show ((f k).1, 0) = f k
    rw [← h]
  · rw [if_neg h]
theorem chain_wr (k : Dsk) (n : Name) (x : List UInt8) : chainK [fun k => VdM.append k n x, fun k => VdM.sync k n] k = wr k n x := by
  unfold wr
  rw [chainK, chain_last]
theorem chain_swp (k : Dsk) (x : List UInt8) : chainK [fun k => wr k newN x, fun k => VdM.rename k newN manN] k = swp k x := by
  unfold swp
  rw [chainK, chain_last]
theorem chain_rem : ∀ (l : List Name) (k : Dsk), chainK (l.map fun n k => VdM.remove k n) k = remAll l k
  | [], k => rfl
  | n :: r, k => by
    rw [List.map_cons, chainK, chain_rem r]
    rfl
/-- the disk's block is d, it is k now: behind U nothing but its own has turned -/
abbrev Dk (U : World) (Fd : Nat → Prop) (d : Nat) (k : Dsk) (W : World) : Prop := Vd.Went U W Fd d k
theorem dk_on {U W W' : World} {Fd F' : Nat → Prop} {d : Nat} {k : Dsk} (hT : Turned Fd U W) (hF : ∀ b, F' b → Fd b ∨ U.heap.size ≤ b) (hw : Vd.Went W W' F' d k) : Dk U Fd d k W' := by
  obtain ⟨hT', F'', hI', hF'⟩ := hw
  exact ⟨hT.from_new (hT'.wide hF), F'', hI', fun b hb => (hF' b hb).elim (hF b) (fun h => .inr (Nat.le_trans hT.size h))⟩
theorem Dk.cell {U W : World} {Fd : Nat → Prop} {d : Nat} {k : Dsk} (h : Dk U Fd d k W) {a : Addr} {v : Value} (hc : U.cell? a = some v) (hn : ¬ Fd a.block) : W.cell? a = some v := (h.1.cell (World.block_lt_of_cell? U _ hc) hn).trans hc
/-- what a step of a chain does -/
def DoesK (U : World) (Fd : Nat → Prop) (d : Nat) (k : Dsk) (f : Dsk → Dsk × Int) (e : Ending) (W' : World) : Prop := e = .returned (.int .i64 (f k).2) ∧ Dk U Fd d (f k).1 W'
set_option maxHeartbeats 400000 in
theorem chain_any (U w : World) (Fd : Nat → Prop) (d g n cp m : Nat) (k : Dsk) (fs : List (Dsk → Dsk × Int)) (vs : List Value) (hv : vs.length = n) (hf : fs.length = n) (hn9 : n ≤ 1000000000) (h0 : Dk U Fd d k w) (hg : ¬ Fd g) (hcell : ∀ j (h : j < vs.length), U.cell? ⟨g, j, none⟩ = some vs[j])
    (heff : ∀ i (h : i < fs.length) k1, (fs[i] k1).1.eff ≤ k1.eff + m)
    (hstep : ∀ i (h1 : i < fs.length) (h2 : i < vs.length) k1 W, k1.eff ≤ k.eff + m * i → Dk U Fd d k1 W → Stp vs[i] W (DoesK U Fd d k1 fs[i])) :
    Calls Tryz.prog 29 #[.slice (some ⟨g, 0, none⟩) n cp] w (DoesK U Fd d k (chainK fs)) := by
  have hc := inorder_any w g n cp vs hv hn9 (fun i W => ∃ k1, Dk U Fd d k1 W ∧ k1.eff ≤ k.eff + m * i ∧ chainK fs k = chainK (fs.drop i) k1) (fun W c => (chainK fs k).2 = c ∧ Dk U Fd d (chainK fs k).1 W) ⟨k, h0, by omega, rfl⟩
    (fun i W ⟨k1, h1, _⟩ j hj => h1.cell (hcell j hj) hg) (fun i hi W ⟨k1, h1, h2, h3⟩ => by
      have hif : i < fs.length := by omega
      obtain ⟨f, bd, cp', e1, e2, e3⟩ := hstep i hif hi k1 W h2 h1
      refine ⟨f, bd, cp', e1, e2, e3.mono ?_⟩
      rintro e W' ⟨rfl, hW'⟩
      have hd : fs.drop i = fs[i] :: fs.drop (i + 1) := List.drop_eq_getElem_cons hif
      rw [hd, chainK] at h3
      by_cases hz : (fs[i] k1).2 = 0
      · rw [if_pos hz] at h3
        refine .inl ⟨by rw [hz], (fs[i] k1).1, hW', ?_, h3⟩
        have := heff i hif k1
        rw [Nat.mul_succ]
        omega
      · rw [if_neg hz] at h3
        exact .inr ⟨_, hz, rfl, by rw [h3], by rw [h3]; exact hW'⟩)
  refine hc.mono ?_
  rintro e w' (⟨rfl, k1, h1, _, h3⟩ | ⟨c, _, rfl, h1, h2⟩)
  · rw [← hf, List.drop_length, chainK] at h3
    unfold DoesK
    rw [h3]
    exact ⟨rfl, h1⟩
  · exact ⟨by rw [h1], h2⟩
/-! ### the closures of write -/
set_option maxHeartbeats 2000000 in
set_option maxRecDepth 100000 in
theorem write1_any (W : World) (Fd : Nat → Prop) (B0 B1 B2 s d : Nat) (k : Dsk) (nm x : ByteArray) (b0 : W.cell? ⟨B0, 0, none⟩ = some (.pointer (some ⟨s, 0, none⟩))) (b1 : W.cell? ⟨B1, 0, none⟩ = some (.string nm)) (b2 : W.cell? ⟨B2, 0, none⟩ = some (.string x)) (s0 : W.cell? ⟨s, 0, none⟩ = some (.pointer (some ⟨d, 0, none⟩)))
    (h : Vd.Is W Fd d k) (he : k.eff + 1 ≤ 1000000000) :
    Calls Tryz.prog 80 #[.pointer (some ⟨B0, 0, none⟩), .pointer (some ⟨B1, 0, none⟩), .pointer (some ⟨B2, 0, none⟩)] W fun e w' => e = .returned (.int .i64 (VdM.append k nm.data.toList x.data.toList).2) ∧ Vd.Went W w' Fd d (VdM.append k nm.data.toList x.data.toList).1 := by
  have hI := h.later (Below.refl W.heap.size W).drew
  have HA := Lib.hid (Vd.append_any W.drew Fd d k hI nm x he)
  have HW : Hid (∀ w' k', Vd.Went W.drew w' Fd d k' → Vd.Went W w' Fd d k') := Lib.hid (fun w' k' hw => Vd.Went.on (Turned.of_below (Below.refl W.heap.size W).drew) hw)
  clear h hI he
  go_enter Tryz.func80, Tryz.ntmps80
  go_wp2
  go_still_tail 6, (by kernel_rfl)
  change wpList _ _ _ _ _ W.drew
  generalize W.drew = w2 at HA HW ⊢
  go_wp2_with fail
  refine HA.out.mono ?_
  rintro e w3 ⟨rfl, hw⟩
  have HR := Lib.hid (HW.out _ _ hw)
  clear hw
  go_wp2
  go_ret
  exact ⟨rfl, HR.out⟩
set_option maxHeartbeats 2000000 in
set_option maxRecDepth 100000 in
theorem write2_any (W : World) (Fd : Nat → Prop) (B0 B1 s d : Nat) (k : Dsk) (nm : ByteArray) (b0 : W.cell? ⟨B0, 0, none⟩ = some (.pointer (some ⟨s, 0, none⟩))) (b1 : W.cell? ⟨B1, 0, none⟩ = some (.string nm)) (s0 : W.cell? ⟨s, 0, none⟩ = some (.pointer (some ⟨d, 0, none⟩)))
    (h : Vd.Is W Fd d k) (hn : nm.size ≤ 1000000) (he : k.eff + 1 ≤ 1000000000) :
    Calls Tryz.prog 82 #[.pointer (some ⟨B0, 0, none⟩), .pointer (some ⟨B1, 0, none⟩)] W fun e w' => e = .returned (.int .i64 (VdM.sync k nm.data.toList).2) ∧ Vd.Went W w' Fd d (VdM.sync k nm.data.toList).1 := by
  have hI := h.later (Below.refl W.heap.size W).drew
  have HA := Lib.hid (Vd.sync_any W.drew Fd d k hI nm hn he)
  have HW : Hid (∀ w' k', Vd.Went W.drew w' Fd d k' → Vd.Went W w' Fd d k') := Lib.hid (fun w' k' hw => Vd.Went.on (Turned.of_below (Below.refl W.heap.size W).drew) hw)
  clear h hI he
  go_enter Tryz.func82, Tryz.ntmps82
  go_wp2
  go_still_tail 5, (by kernel_rfl)
  change wpList _ _ _ _ _ W.drew
  generalize W.drew = w2 at HA HW ⊢
  go_wp2_with fail
  refine HA.out.mono ?_
  rintro e w3 ⟨rfl, hw⟩
  have HR := Lib.hid (HW.out _ _ hw)
  clear hw
  go_wp2
  go_ret
  exact ⟨rfl, HR.out⟩
end Go.Proofs.YtddnnhfffmhpmaaGreatDoor.St

/- A flush's four steps as one row: plain. -/
namespace Go.Proofs.YtddnnhfffmhpmaaGreatDoor.StoM
open DocM VdM St

/-! ### what holds of each act, whatever the disk -/
theorem remove_no6 (k : Dsk) (n : Name) : (remove k n).2 ≠ 6 := by
  unfold remove
  split
  · show effE k ≠ 6
    unfold effE
    split <;> omega
  · show findE k n ≠ 6
    unfold findE
    split
    · omega
    · split <;> omega
theorem remAll_no6 : ∀ (l : List Name) (k : Dsk), (remAll l k).2 ≠ 6
  | [], k => by show (0 : Int) ≠ 6; omega
  | n :: r, k => by
    unfold remAll
    split
    · exact remAll_no6 r _
    · exact remove_no6 k n
theorem clr_no6 (k : Dsk) (f : Nat) (segs : List Nat) : (clr k f segs).2 ≠ 6 := remAll_no6 _ _
theorem remAll_eff : ∀ (l : List Name) (k : Dsk), (remAll l k).1.eff ≤ k.eff + l.length
  | [], k => Nat.le_refl _
  | n :: r, k => by
    have h1 := remove_eff k n
    have h2 := remAll_eff r (remove k n).1
    unfold remAll
    rw [List.length_cons]
    split <;> omega
theorem clr_eff (k : Dsk) (f : Nat) (segs : List Nat) : (clr k f segs).1.eff ≤ k.eff + k.fs.length := by
  have h1 := remAll_eff (dropped k.fs f segs) k
  have h2 := List.length_filter_le (dropB f segs) (k.fs.map (·.1))
  rw [List.length_map] at h2
  unfold clr
  unfold dropped at h1 ⊢
  omega
theorem swp_eff (k : Dsk) (x : List UInt8) : (swp k x).1.eff ≤ k.eff + 3 := by
  have h1 := wr_eff k newN x
  have h2 := rename_eff (wr k newN x).1 newN manN
  unfold swp
  split <;> omega
section
variable {L S : Nat} {k : Dsk}
theorem nm_crash (h : Nm L S k.fs) (keep : Int) : Nm L S (crash k keep).fs := by
  unfold crash
  split
  · exact h
  · exact h.cut keep
theorem nm_eff {a b : Dsk} (ha : Nm L S a.fs) (hb : Nm L S b.fs) : Nm L S (VdM.eff k a b).fs := by
  unfold VdM.eff
  split
  · exact nm_crash hb _
  · exact ha
theorem nm_append (h : Nm L S k.fs) {n : Name} (hn : Known L S n) (x : List UInt8) : Nm L S (append k n x).1.fs := by
  unfold append
  split
  · exact h
  · split
    · exact h
    · split
      · exact h
      · exact nm_eff (h.put hn _) (h.put hn _)
theorem nm_sync (h : Nm L S k.fs) {n : Name} (hn : Known L S n) : Nm L S (sync k n).1.fs := by
  unfold sync
  split
  · exact nm_eff (h.put hn _) h
  · exact h
theorem nm_rename (h : Nm L S k.fs) (n : Name) {m : Name} (hm : Known L S m) : Nm L S (rename k n m).1.fs := by
  unfold rename
  split
  · split
    · exact nm_eff ((h.del n).put hm _) h
    · exact h
  · exact h
theorem nm_remove (h : Nm L S k.fs) (n : Name) : Nm L S (remove k n).1.fs := by
  unfold remove
  split
  · exact nm_eff (h.del n) h
  · exact h
theorem nm_wr (h : Nm L S k.fs) {n : Name} (hn : Known L S n) (x : List UInt8) : Nm L S (wr k n x).1.fs := by
  unfold wr
  split
  · exact nm_sync (nm_append h hn x) hn
  · exact nm_append h hn x
theorem nm_swp (h : Nm L S k.fs) (x : List UInt8) : Nm L S (swp k x).1.fs := by
  unfold swp
  split
  · exact nm_rename (nm_wr h (.inr (.inl rfl)) x) _ (.inl rfl)
  · exact nm_wr h (.inr (.inl rfl)) x
end
theorem nm_remAll {L S : Nat} : ∀ (l : List Name) (k : Dsk), Nm L S k.fs → Nm L S (remAll l k).1.fs
  | [], k, h => h
  | n :: r, k, h => by
    unfold remAll
    split
    · exact nm_remAll r _ (nm_remove h n)
    · exact nm_remove h n
theorem nm_clr {L S : Nat} {k : Dsk} (h : Nm L S k.fs) (f : Nat) (segs : List Nat) : Nm L S (clr k f segs).1.fs := nm_remAll _ _ h
/-- the four steps -/
def replR (f : Nat) (segs : List Nat) (f' : Nat) (segs' : List Nat) (x : Nat) (l : Chs) : List (Dsk → Dsk × Int) :=
  [fun k => clr k f segs, fun k => wr k (segN x) (segB l), fun k => swp k (manB f' segs'), fun k => clr k f' segs']
theorem repl_chain (k : Dsk) (g g' : Gst) (n : Nat) (l : Chs) : replK k g g' n l = chainK (replR g.first (segNos g) g'.first (segNos g') n l) k := by
  unfold replK replR
  rw [chainK, chainK, chainK, chain_last]
/-- it goes on behind step i -/
theorem chain_step {fs : List (Dsk → Dsk × Int)} {i : Nat} (h : i < fs.length) (k k1 : Dsk) (hk : chainK fs k = chainK (fs.drop i) k1) :
    ((fs[i] k1).2 = 0 ∧ chainK fs k = chainK (fs.drop (i + 1)) (fs[i] k1).1) ∨ ((fs[i] k1).2 ≠ 0 ∧ chainK fs k = fs[i] k1) := by
  rw [List.drop_eq_getElem_cons h, chainK] at hk
  by_cases hz : (fs[i] k1).2 = 0
  · rw [if_pos hz] at hk
    exact .inl ⟨hz, hk⟩
  · rw [if_neg hz] at hk
    exact .inr ⟨hz, hk⟩
end Go.Proofs.YtddnnhfffmhpmaaGreatDoor.StoM

/- write, swap. -/
namespace Go.Proofs.YtddnnhfffmhpmaaGreatDoor.St
open Go.RowKit Go.Proofs.YtddnnhfffmhpmaaGreatDoor StoM
open VdM

theorem DoesK.on {w U w' : World} {Fd : Nat → Prop} {d : Nat} {k : Dsk} {f : Dsk → Dsk × Int} {e : Ending} (h : DoesK U Fd d k f e w') (hb : Below w.heap.size w U) : DoesK w Fd d k f e w' := ⟨h.1, Vd.Went.on (Turned.of_below hb) h.2⟩
theorem enters_w1 : ∀ args w, (callFunc 80 args).run Tryz.prog w = .ok (.enter 80 args) w := enters_of Tryz.func80 (by kernel_rfl) rfl
theorem enters_w2 : ∀ args w, (callFunc 82 args).run Tryz.prog w = .ok (.enter 82 args) w := enters_of Tryz.func82 (by kernel_rfl) rfl
theorem write_in (U : World) (Fd : Nat → Prop) (B0 B1 B2 g s d : Nat) (k : Dsk) (nm x : ByteArray) (b0 : U.cell? ⟨B0, 0, none⟩ = some (.pointer (some ⟨s, 0, none⟩))) (b1 : U.cell? ⟨B1, 0, none⟩ = some (.string nm)) (b2 : U.cell? ⟨B2, 0, none⟩ = some (.string x)) (s0 : U.cell? ⟨s, 0, none⟩ = some (.pointer (some ⟨d, 0, none⟩)))
    (g0 : U.cell? ⟨g, 0, none⟩ = some (.func (.func 80) #[] #[.pointer (some ⟨B0, 0, none⟩), .pointer (some ⟨B1, 0, none⟩), .pointer (some ⟨B2, 0, none⟩)])) (g1 : U.cell? ⟨g, 1, none⟩ = some (.func (.func 82) #[] #[.pointer (some ⟨B0, 0, none⟩), .pointer (some ⟨B1, 0, none⟩)]))
    (n0 : ¬ Fd B0) (n1 : ¬ Fd B1) (n2 : ¬ Fd B2) (ng : ¬ Fd g) (ns : ¬ Fd s) (h : Vd.Is U Fd d k) (hn : nm.size ≤ 1000000) (he : k.eff + 2 ≤ 1000000000) :
    Calls Tryz.prog 29 #[.slice (some ⟨g, 0, none⟩) 2 2] U (DoesK U Fd d k fun k => wr k nm.data.toList x.data.toList) := by
  have hc := chain_any U U Fd d g 2 2 1 k [fun k => VdM.append k nm.data.toList x.data.toList, fun k => VdM.sync k nm.data.toList] [.func (.func 80) #[] #[.pointer (some ⟨B0, 0, none⟩), .pointer (some ⟨B1, 0, none⟩), .pointer (some ⟨B2, 0, none⟩)], .func (.func 82) #[] #[.pointer (some ⟨B0, 0, none⟩), .pointer (some ⟨B1, 0, none⟩)]] rfl rfl (by omega) (Vd.Went.same h (Below.refl _ _)) ng
    (fun j hj => by
      match j, hj with
      | 0, _ => exact g0
      | 1, _ => exact g1)
    (fun i hi k1 => by
      match i, hi with
      | 0, _ => exact append_eff k1 _ _
      | 1, _ => exact sync_eff k1 _)
    (fun i h1 h2 k1 W hk hD => by
      match i, h1, h2 with
      | 0, _, _ =>
        refine ⟨_, _, _, rfl, enters_w1, ?_⟩
        obtain ⟨hT, F', hI, hF⟩ := id hD
        refine (write1_any W F' B0 B1 B2 s d k1 nm x (hD.cell b0 n0) (hD.cell b1 n1) (hD.cell b2 n2) (hD.cell s0 ns) hI (by omega)).mono ?_
        rintro e W' ⟨rfl, hw⟩
        exact ⟨rfl, dk_on hT hF hw⟩
      | 1, _, _ =>
        refine ⟨_, _, _, rfl, enters_w2, ?_⟩
        obtain ⟨hT, F', hI, hF⟩ := id hD
        refine (write2_any W F' B0 B1 s d k1 nm (hD.cell b0 n0) (hD.cell b1 n1) (hD.cell s0 ns) hI hn (by omega)).mono ?_
        rintro e W' ⟨rfl, hw⟩
        exact ⟨rfl, dk_on hT hF hw⟩)
  unfold DoesK at hc ⊢
  rw [chain_wr] at hc
  exact hc
set_option maxHeartbeats 2000000 in
set_option maxRecDepth 100000 in
theorem write_any (w : World) (Fd : Nat → Prop) (s d : Nat) (k : Dsk) (nm x : ByteArray) (s0 : w.cell? ⟨s, 0, none⟩ = some (.pointer (some ⟨d, 0, none⟩))) (hs : ¬ Fd s) (h : Vd.Is w Fd d k) (hn : nm.size ≤ 1000000) (he : k.eff + 2 ≤ 1000000000) :
    Calls Tryz.prog 49 #[.pointer (some ⟨s, 0, none⟩), .string nm, .string x] w (DoesK w Fd d k fun k => wr k nm.data.toList x.data.toList) := by
  obtain ⟨o0, ho0⟩ : ∃ o : Obj, o = .cells #[.pointer (some ⟨s, 0, none⟩)] 26 := ⟨_, rfl⟩
  obtain ⟨o1, ho1⟩ : ∃ o : Obj, o = .cells #[.string nm] 9 := ⟨_, rfl⟩
  obtain ⟨o2, ho2⟩ : ∃ o : Obj, o = .cells #[.string x] 9 := ⟨_, rfl⟩
  obtain ⟨o3, ho3⟩ : ∃ o : Obj, o = .cells #[.func (.func 80) #[] #[.pointer (some ⟨w.heap.size, 0, none⟩), .pointer (some ⟨w.heap.size + 1, 0, none⟩), .pointer (some ⟨w.heap.size + 1 + 1, 0, none⟩)], .func (.func 82) #[] #[.pointer (some ⟨w.heap.size, 0, none⟩), .pointer (some ⟨w.heap.size + 1, 0, none⟩)]] 57 := ⟨_, rfl⟩
  have hb := als_below [o0, o1, o2, o3] w
  have h0 := als_at [o0, o1, o2, o3] w 0 (by simp)
  have h1 := als_at [o0, o1, o2, o3] w 1 (by simp)
  have h2 := als_at [o0, o1, o2, o3] w 2 (by simp)
  have h3 := als_at [o0, o1, o2, o3] w 3 (by simp)
  obtain ⟨U, hU⟩ : ∃ U, U = als w [o0, o1, o2, o3] := ⟨_, rfl⟩
  rw [← hU] at hb h0 h1 h2 h3
  simp only [List.getElem_cons_zero, List.getElem_cons_succ, ho0, ho1, ho2, ho3] at h0 h1 h2 h3
  have hnF : ∀ b, w.heap.size ≤ b → ¬ Fd b := fun b hb hF => by have := h.lt b hF; omega
  have hc := ((write_in U Fd (w.heap.size + 0) (w.heap.size + 1) (w.heap.size + 2) (w.heap.size + 3) s d k nm x (cell_of_cells h0 rfl) (cell_of_cells h1 rfl) (cell_of_cells h2 rfl) ((hb.cell (p := ⟨s, 0, none⟩) (World.block_lt_of_cell? w _ s0)).trans s0) (cell_of_cells h3 rfl) (cell_of_cells h3 rfl) (hnF _ (by omega)) (hnF _ (by omega)) (hnF _ (by omega)) (hnF _ (by omega)) hs (h.later hb) hn he).mono fun e w' hd => hd.on hb)
  simp only [als] at hU
  rw [hU, ho0, ho1, ho2, ho3] at hc
  have HC := Lib.hid hc
  clear hc hU ho0 ho1 ho2 ho3 h0 h1 h2 h3 hb hnF h s0 hn he hs
  go_enter Tryz.func49, Tryz.ntmps49
  go_wp2_with fail
  refine HC.out.mono ?_
  rintro e w1 ⟨rfl, hd⟩
  have HD := Lib.hid hd
  clear hd
  go_wp2
  go_ret
  exact ⟨rfl, HD.out⟩
end Go.Proofs.YtddnnhfffmhpmaaGreatDoor.St

/- The manifest is swapped. -/
namespace Go.Proofs.YtddnnhfffmhpmaaGreatDoor.St
open Go.RowKit Go.Proofs.YtddnnhfffmhpmaaGreatDoor StoM
open VdM

def newS : ByteArray := ⟨#[109, 97, 110, 46, 110, 101, 119]⟩
def manS : ByteArray := ⟨#[109, 97, 110]⟩
set_option maxHeartbeats 2000000 in
set_option maxRecDepth 100000 in
theorem swap1_any (W : World) (Fd : Nat → Prop) (B0 B1 s d : Nat) (k : Dsk) (x : ByteArray) (b0 : W.cell? ⟨B0, 0, none⟩ = some (.pointer (some ⟨s, 0, none⟩))) (b1 : W.cell? ⟨B1, 0, none⟩ = some (.string x)) (s0 : W.cell? ⟨s, 0, none⟩ = some (.pointer (some ⟨d, 0, none⟩))) (hs : ¬ Fd s)
    (h : Vd.Is W Fd d k) (he : k.eff + 2 ≤ 1000000000) :
    Calls Tryz.prog 104 #[.pointer (some ⟨B0, 0, none⟩), .pointer (some ⟨B1, 0, none⟩)] W (DoesK W Fd d k fun k => wr k newN x.data.toList) := by
  have HA := Lib.hid (write_any W Fd s d k newS x s0 hs h (by decide) he)
  clear h he hs s0
  unfold newS at HA
  go_enter Tryz.func104, Tryz.ntmps104
  go_wp2_with fail
  refine HA.out.mono ?_
  rintro e w3 ⟨rfl, hw⟩
  have HR := Lib.hid hw
  clear hw
  go_wp2
  go_ret
  exact ⟨rfl, HR.out⟩
set_option maxHeartbeats 2000000 in
set_option maxRecDepth 100000 in
theorem swap2_any (W : World) (Fd : Nat → Prop) (B0 s d : Nat) (k : Dsk) (b0 : W.cell? ⟨B0, 0, none⟩ = some (.pointer (some ⟨s, 0, none⟩))) (s0 : W.cell? ⟨s, 0, none⟩ = some (.pointer (some ⟨d, 0, none⟩)))
    (h : Vd.Is W Fd d k) (he : k.eff + 1 ≤ 1000000000) :
    Calls Tryz.prog 105 #[.pointer (some ⟨B0, 0, none⟩)] W (DoesK W Fd d k fun k => VdM.rename k newN manN) := by
  have HA := Lib.hid (Vd.rename_any W Fd d k h newS manS (by decide) he)
  clear h he
  unfold newS manS at HA
  go_enter Tryz.func105, Tryz.ntmps105
  go_wp2_with fail
  refine HA.out.mono ?_
  rintro e w3 ⟨rfl, hw⟩
  have HR := Lib.hid hw
  clear hw
  go_wp2
  go_ret
  exact ⟨rfl, HR.out⟩
theorem enters_s1 : ∀ args w, (callFunc 104 args).run Tryz.prog w = .ok (.enter 104 args) w := enters_of Tryz.func104 (by kernel_rfl) rfl
theorem enters_s2 : ∀ args w, (callFunc 105 args).run Tryz.prog w = .ok (.enter 105 args) w := enters_of Tryz.func105 (by kernel_rfl) rfl
theorem swap_in (U : World) (Fd : Nat → Prop) (B0 B1 g s d : Nat) (k : Dsk) (x : ByteArray) (b0 : U.cell? ⟨B0, 0, none⟩ = some (.pointer (some ⟨s, 0, none⟩))) (b1 : U.cell? ⟨B1, 0, none⟩ = some (.string x)) (s0 : U.cell? ⟨s, 0, none⟩ = some (.pointer (some ⟨d, 0, none⟩)))
    (g0 : U.cell? ⟨g, 0, none⟩ = some (.func (.func 104) #[] #[.pointer (some ⟨B0, 0, none⟩), .pointer (some ⟨B1, 0, none⟩)])) (g1 : U.cell? ⟨g, 1, none⟩ = some (.func (.func 105) #[] #[.pointer (some ⟨B0, 0, none⟩)]))
    (n0 : ¬ Fd B0) (n1 : ¬ Fd B1) (ng : ¬ Fd g) (ns : ¬ Fd s) (hsU : s < U.heap.size) (h : Vd.Is U Fd d k) (he : k.eff + 4 ≤ 1000000000) :
    Calls Tryz.prog 29 #[.slice (some ⟨g, 0, none⟩) 2 2] U (DoesK U Fd d k fun k => swp k x.data.toList) := by
  have hc := chain_any U U Fd d g 2 2 2 k [fun k => wr k newN x.data.toList, fun k => VdM.rename k newN manN] [.func (.func 104) #[] #[.pointer (some ⟨B0, 0, none⟩), .pointer (some ⟨B1, 0, none⟩)], .func (.func 105) #[] #[.pointer (some ⟨B0, 0, none⟩)]] rfl rfl (by omega) (Vd.Went.same h (Below.refl _ _)) ng
    (fun j hj => by
      match j, hj with
      | 0, _ => exact g0
      | 1, _ => exact g1)
    (fun i hi k1 => by
      match i, hi with
      | 0, _ => exact wr_eff k1 _ _
      | 1, _ => exact Nat.le_trans (rename_eff k1 _ _) (Nat.le_succ _))
    (fun i h1 h2 k1 W hk hD => by
      match i, h1, h2 with
      | 0, _, _ =>
        refine ⟨_, _, _, rfl, enters_s1, ?_⟩
        obtain ⟨hT, F', hI, hF⟩ := id hD
        refine (swap1_any W F' B0 B1 s d k1 x (hD.cell b0 n0) (hD.cell b1 n1) (hD.cell s0 ns) (fun hb => (hF s hb).elim ns (fun h => by omega)) hI (by omega)).mono ?_
        rintro e W' ⟨rfl, hw⟩
        exact ⟨rfl, dk_on hT hF hw⟩
      | 1, _, _ =>
        refine ⟨_, _, _, rfl, enters_s2, ?_⟩
        obtain ⟨hT, F', hI, hF⟩ := id hD
        refine (swap2_any W F' B0 s d k1 (hD.cell b0 n0) (hD.cell s0 ns) hI (by omega)).mono ?_
        rintro e W' ⟨rfl, hw⟩
        exact ⟨rfl, dk_on hT hF hw⟩)
  unfold DoesK at hc ⊢
  rw [chain_swp] at hc
  exact hc
set_option maxHeartbeats 2000000 in
set_option maxRecDepth 100000 in
theorem swap_any (w : World) (Fd : Nat → Prop) (s d : Nat) (k : Dsk) (x : ByteArray) (s0 : w.cell? ⟨s, 0, none⟩ = some (.pointer (some ⟨d, 0, none⟩))) (hs : ¬ Fd s) (h : Vd.Is w Fd d k) (he : k.eff + 4 ≤ 1000000000) :
    Calls Tryz.prog 72 #[.pointer (some ⟨s, 0, none⟩), .string x] w (DoesK w Fd d k fun k => swp k x.data.toList) := by
  obtain ⟨o0, ho0⟩ : ∃ o : Obj, o = .cells #[.pointer (some ⟨s, 0, none⟩)] 26 := ⟨_, rfl⟩
  obtain ⟨o2, ho2⟩ : ∃ o : Obj, o = .cells #[.string x] 9 := ⟨_, rfl⟩
  obtain ⟨o3, ho3⟩ : ∃ o : Obj, o = .cells #[.func (.func 104) #[] #[.pointer (some ⟨w.heap.size, 0, none⟩), .pointer (some ⟨w.heap.size + 1, 0, none⟩)], .func (.func 105) #[] #[.pointer (some ⟨w.heap.size, 0, none⟩)]] 57 := ⟨_, rfl⟩
  have hb := als_below [o0, o2, o3] w
  have h0 := als_at [o0, o2, o3] w 0 (by simp)
  have h1 := als_at [o0, o2, o3] w 1 (by simp)
  have h2 := als_at [o0, o2, o3] w 2 (by simp)
  have hsl := World.block_lt_of_cell? w _ s0
  obtain ⟨U, hU⟩ : ∃ U, U = als w [o0, o2, o3] := ⟨_, rfl⟩
  rw [← hU] at hb h0 h1 h2
  simp only [List.getElem_cons_zero, List.getElem_cons_succ, ho0, ho2, ho3] at h0 h1 h2
  have hnF : ∀ b, w.heap.size ≤ b → ¬ Fd b := fun b hb hF => by have := h.lt b hF; omega
  have hc := ((swap_in U Fd (w.heap.size + 0) (w.heap.size + 1) (w.heap.size + 2) s d k x (cell_of_cells h0 rfl) (cell_of_cells h1 rfl) ((hb.cell (p := ⟨s, 0, none⟩) hsl).trans s0) (cell_of_cells h2 rfl) (cell_of_cells h2 rfl) (hnF _ (by omega)) (hnF _ (by omega)) (hnF _ (by omega)) hs (Nat.lt_of_lt_of_le hsl hb.size) (h.later hb) he).mono fun e w' hd => hd.on hb)
  simp only [als] at hU
  rw [hU, ho0, ho2, ho3] at hc
  have HC := Lib.hid hc
  clear hc hU ho0 ho2 ho3 h0 h1 h2 hb hnF h s0 he hs hsl
  go_enter Tryz.func72, Tryz.ntmps72
  go_wp2_with fail
  refine HC.out.mono ?_
  rintro e w1 ⟨rfl, hd⟩
  have HD := Lib.hid hd
  clear hd
  go_wp2
  go_ret
  exact ⟨rfl, HD.out⟩
end Go.Proofs.YtddnnhfffmhpmaaGreatDoor.St
