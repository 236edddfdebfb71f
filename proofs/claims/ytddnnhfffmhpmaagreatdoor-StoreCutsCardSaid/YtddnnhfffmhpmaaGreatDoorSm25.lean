/- Own texts, merged (25 of 42). -/
import Derived.Test.YtddnnhfffmhpmaaGreatDoorSm20
import Derived.Test.YtddnnhfffmhpmaaGreatDoorSm24
import Derived.Test.YtddnnhfffmhpmaaGreatDoorSm22
import Derived.Deep.QuietTactic
import Derived.BigQuiet
import Derived.WalkLawsBesides
import Derived.Test.YtddnnhfffmhpmaaGreatDoorSm13
import Derived.CallsIn

/- Names: numbers behind a prefix. -/
namespace Go.Proofs.YtddnnhfffmhpmaaGreatDoor.St
open Go.RowKit Go.Proofs.YtddnnhfffmhpmaaGreatDoor StoM

theorem dec_lib {i : Nat} (h : i < 100) : Lib.decDigits i = dec i := (by decide +kernel : ∀ a : Fin 100, Lib.decDigits a.val = dec a.val) ⟨i, h⟩
theorem itoa_any (i : Nat) (hi : i < 100) (w : World) : Calls Tryz.prog 84 #[.int .i64 (i : Int)] w fun e w' => e = .returned (.string (ofBytes (dec i))) ∧ w = w' := by
  have h : Calls Tryz.prog 84 #[.int .i64 (i : Int)] w fun e w' => e = .returned (.string ⟨(Lib.decDigits i).toArray⟩) ∧ w' = w := Any.strconv_Itoa_small itoaL i hi w
  rw [dec_lib hi] at h
  exact h.mono fun e w' ⟨h1, h2⟩ => ⟨h1, h2.symm⟩
set_option maxRecDepth 100000 in
theorem logname_any (i : Nat) (hi : i < 100) (w : World) : Calls Tryz.prog 50 #[.int .i64 (i : Int)] w fun e w' => e = .returned (.string (ofBytes (logN i))) ∧ w = w' := by
  have HI := Lib.hid (itoa_any i hi w)
  have ha : ∀ W : World, (Op.stringOp .add (⟨#[108, 111, 103, 46]⟩ : ByteArray) (ofBytes (dec i))).run Tryz.prog W = .ok (.string (ofBytes (logN i))) W := fun W => Do.str_add (P := Tryz.prog) logP (dec i) (by decide) (by have := dec_len i; omega) W
  clear hi
  generalize ofBytes (dec i) = q at HI ha
  generalize ofBytes (logN i) = r at ha ⊢
  go_enter Tryz.func50, Tryz.ntmps50
  go_wp2_with fail
  refine HI.out.mono ?_
  rintro e w' ⟨rfl, rfl⟩
  go_wp2
  go_ret
  exact ⟨rfl, rfl⟩
set_option maxRecDepth 100000 in
theorem segname_any (i : Nat) (hi : i < 100) (w : World) : Calls Tryz.prog 56 #[.int .i64 (i : Int)] w fun e w' => e = .returned (.string (ofBytes (segN i))) ∧ w = w' := by
  have HI := Lib.hid (itoa_any i hi w)
  have ha : ∀ W : World, (Op.stringOp .add (⟨#[115, 101, 103, 46]⟩ : ByteArray) (ofBytes (dec i))).run Tryz.prog W = .ok (.string (ofBytes (segN i))) W := fun W => Do.str_add (P := Tryz.prog) segP (dec i) (by decide) (by have := dec_len i; omega) W
  clear hi
  generalize ofBytes (dec i) = q at HI ha
  generalize ofBytes (segN i) = r at ha ⊢
  go_enter Tryz.func56, Tryz.ntmps56
  go_wp2_with fail
  refine HI.out.mono ?_
  rintro e w' ⟨rfl, rfl⟩
  go_wp2
  go_ret
  exact ⟨rfl, rfl⟩
end Go.Proofs.YtddnnhfffmhpmaaGreatDoor.St

/- Is a number below another? what stands behind a prefix? -/
namespace Go.Proofs.YtddnnhfffmhpmaaGreatDoor.St
open Go.RowKit Go.Proofs.YtddnnhfffmhpmaaGreatDoor StoM

def cmpS (a b : ByteArray) : Int := if Op.bytesLess a.toList b.toList = true then -1 else if (a.toList == b.toList) = true then 0 else 1
set_option maxRecDepth 100000 in
theorem isnanS_any (a : ByteArray) (w : World) : Calls Tryz.prog 214 #[.string a] w fun e w' => e = .returned (.bool false) ∧ w = w' := by
  go_enter Tryz.func214, Tryz.ntmps214
  go_wp2
  go_ret
  exact ⟨by simp, rfl⟩
set_option maxRecDepth 100000 in
theorem compareS_any (a b : ByteArray) (w : World) : Calls Tryz.prog 188 #[.string a, .string b] w fun e w' => e = .returned (.int .i64 (cmpS a b)) ∧ w = w' := by
  unfold cmpS
  obtain ⟨x, hx⟩ : ∃ x, Op.bytesLess a.toList b.toList = x := ⟨_, rfl⟩
  obtain ⟨y, hy⟩ : ∃ y, (a.toList == b.toList) = y := ⟨_, rfl⟩
  rw [hx, hy]
  go_enter Tryz.func188, Tryz.ntmps188
  go_wp2_with fail
  refine (isnanS_any a w).mono ?_
  rintro e w' ⟨rfl, rfl⟩
  go_wp2_with fail
  refine (isnanS_any b _).mono ?_
  rintro e w' ⟨rfl, rfl⟩
  cases x with
  | true =>
    go_wp2
    go_ret
    exact ⟨rfl, rfl⟩
  | false =>
    cases y with
    | true =>
      go_wp2
      go_ret
      exact ⟨rfl, rfl⟩
    | false =>
      go_wp2
      go_ret
      exact ⟨rfl, rfl⟩
set_option maxHeartbeats 800000 in
set_option maxRecDepth 100000 in
theorem or_any (g : Nat) (x y : Int) (w : World) (c0 : w.cell? ⟨g, 0, none⟩ = some (.int .i64 x)) (c1 : w.cell? ⟨g, 1, none⟩ = some (.int .i64 y)) : Calls Tryz.prog 187 #[.slice (some ⟨g, 0, none⟩) 2 2] w fun e w' => e = .returned (.int .i64 (if x = 0 then y else x)) ∧ w = w' := by
  by_cases hx : x = 0
  · subst hx
    rw [if_pos rfl]
    by_cases hy : y = 0
    · subst hy
      go_enter Tryz.func187, Tryz.ntmps187
      go_wp2
      refine wp_loop_rounds 3 ?_
      rw [rounds_succ]
      go_wp2
      rw [rounds_succ]
      go_wp2
      rw [rounds_succ]
      go_wp2
      go_ret
      exact ⟨rfl, rfl⟩
    · have hb2 : ((y : Int) != 0) = true := by simpa using hy
      clear hy
      go_enter Tryz.func187, Tryz.ntmps187
      go_wp2
      refine wp_loop_rounds 2 ?_
      rw [rounds_succ]
      go_wp2
      rw [rounds_succ]
      go_wp2
      go_ret
      exact ⟨rfl, rfl⟩
  · have hb : ((x : Int) != 0) = true := by simpa using hx
    rw [if_neg hx]
    clear hx
    go_enter Tryz.func187, Tryz.ntmps187
    go_wp2
    refine wp_loop_rounds 1 ?_
    rw [rounds_succ]
    go_wp2
    go_ret
    exact ⟨rfl, rfl⟩
def belowB (a b : ByteArray) : Bool := decide ((if Do.cmpZ (a.size : Int) (b.size : Int) = 0 then cmpS a b else Do.cmpZ (a.size : Int) (b.size : Int)) < 0)
set_option maxHeartbeats 800000 in
set_option maxRecDepth 100000 in
theorem isbelow_any (a b : ByteArray) (w : World) : Calls Tryz.prog 151 #[.string a, .string b] w fun e w' => e = .returned (.bool (belowB a b)) ∧ Below w.heap.size w w' := by
  unfold belowB
  obtain ⟨x, hx⟩ : ∃ x, x = Do.cmpZ (a.size : Int) (b.size : Int) := ⟨_, rfl⟩
  obtain ⟨y, hy⟩ : ∃ y, y = cmpS a b := ⟨_, rfl⟩
  have H1 := Lib.hid (fun W => Do.compare_any (a.size : Int) (b.size : Int) W)
  have H2 := Lib.hid (fun W => compareS_any a b W)
  rw [← hx] at H1 ⊢
  rw [← hy] at H2 ⊢
  clear hx hy
  obtain ⟨z, hz⟩ : ∃ z : Int, z = if x = 0 then y else x := ⟨_, rfl⟩
  have H3 := Lib.hid (or_any w.heap.size x y (w.alloc (.cells #[.int .i64 x, .int .i64 y] 3)) (cell_of_cells (heap_alloc_new w _) rfl) (cell_of_cells (heap_alloc_new w _) rfl))
  rw [← hz] at H3 ⊢
  clear hz
  have HB := Lib.hid (pl1 w (.cells #[.int .i64 x, .int .i64 y] 3))
  go_enter Tryz.func151, Tryz.ntmps151
  go_wp2_with fail
  refine (H1.out w).mono ?_
  rintro e w' ⟨rfl, rfl⟩
  go_wp2_with fail
  refine (H2.out _).mono ?_
  rintro e w' ⟨rfl, rfl⟩
  go_wp2_with fail
  refine H3.out.mono ?_
  rintro e w' ⟨rfl, rfl⟩
  go_wp2
  go_ret
  exact ⟨rfl, HB.out⟩
theorem below_dec {i j : Nat} (hi : i < 100) (hj : j < 100) : belowB (ofBytes (dec i)) (ofBytes (dec j)) = decide (i < j) := by
  have h : belowB (ofBytes (dec i)) (ofBytes (dec j)) = decide ((if Do.cmpZ ((dec i).length : Int) ((dec j).length : Int) = 0 then (if Op.bytesLess (dec i) (dec j) = true then -1 else if (dec i == dec j) = true then 0 else 1) else Do.cmpZ ((dec i).length : Int) ((dec j).length : Int)) < 0) := by
    unfold belowB cmpS
    rw [size_ofBytes, size_ofBytes, Lib.toList_data, Lib.toList_data, ofBytes_list, ofBytes_list]
  rw [h]
  exact (by decide +kernel : ∀ a : Fin 100, ∀ b : Fin 100, decide ((if Do.cmpZ ((dec a.val).length : Int) ((dec b.val).length : Int) = 0 then (if Op.bytesLess (dec a.val) (dec b.val) = true then -1 else if (dec a.val == dec b.val) = true then 0 else 1) else Do.cmpZ ((dec a.val).length : Int) ((dec b.val).length : Int)) < (0 : Int)) = decide (a.val < b.val)) ⟨i, hi⟩ ⟨j, hj⟩
end Go.Proofs.YtddnnhfffmhpmaaGreatDoor.St

/- A map's documents, sorted. -/
namespace Go.Proofs.YtddnnhfffmhpmaaGreatDoor.St
open Go.RowKit Go.Proofs.YtddnnhfffmhpmaaGreatDoor DocM StoM Go.Maps Go.Sort Go.Shelf

theorem sorts_docs (m : Nat) : AnyZI.SortsIn Tryz.prog sortedI_ren Fence.wide m :=
  ⟨fun blk off cap ss W hH hblk hsz => callsIn_wide.2 (AnyM.slices_Sort_int sortI blk off cap ss W hH hblk hsz),
   fun p cap W => callsIn_wide.2 (AnyM.slices_Sort_int_none sortI p cap W)⟩
theorem dkeys_any (mb : Option Nat) (W : World) : Calls Tryz.prog 38 #[.map mb] W fun e w' => e = .returned (.func (.func 65) #[] #[.pointer (some ⟨W.heap.size, 0, none⟩)]) ∧ w' = W.alloc (.cells #[.map mb] 74) :=
  (callsIn_wide (n := 5)).1 (AnyZI.keys_in keysI Fence.wide 5 trivial rfl mb W)
set_option maxHeartbeats 1000000 in
theorem dsorted_any (b nn : Nat) (D0 : SD) (w : World) (hown : Own w b nn D0) (hmax : Maps.size D0 ≤ maxLen) (hbytes : Maps.size D0 * 8 ≤ 140737488355328) :
    Calls Tryz.prog 37 #[.func (.func 65) #[] #[.pointer (some ⟨w.heap.size, 0, none⟩)]] (w.alloc (.cells #[.map (some b)] 74)) fun e w' => ∃ (v : Value) (ss : List Int), e = .returned v ∧ ss.Perm (intKeys D0) ∧
      w'.ownsRow (w.alloc (.cells #[.map (some b)] 74)).heap.size 3 1 v ss.length ((ss.mergeSort (fun x y => decide (x ≤ y))).map encZ) ∧ (v = .slice none 0 0 ↔ ss = []) ∧ Below (w.alloc (.cells #[.map (some b)] 74)).heap.size (w.alloc (.cells #[.map (some b)] 74)) w' := by
  have hbl := World.ownsMap.lt hown
  have hseq : SeqGives Fence.wide 2 Tryz.prog 65 #[.pointer (some ⟨w.heap.size, 0, none⟩)] encZ (fun ss => ss.Perm (intKeys D0)) (Maps.size D0) (w.alloc (.cells #[.map (some b)] 74)) :=
    AnyZI.keys_gives (ρ := keysI_ren) { keysI with } Fence.wide _ trivial rfl (by omega) w.heap.size b nn D0 _ (by simp) (by simp) (by
      obtain ⟨es, clock, hb, Ft, hs, hD⟩ := hown
      exact ⟨es, clock, (Below.heap_alloc _ _ b hbl).trans hb, Ft, hs, hD⟩)
  exact (callsIn_wide (n := 5)).1 (AnyZI.sorted_in sortedI Fence.wide 5 trivial trivial trivial trivial rfl (by omega) (sorts_docs _) (enters_of Tryz.func64 (by kernel_rfl) rfl) 65 #[.pointer (some ⟨w.heap.size, 0, none⟩)] trivial (enters_of Tryz.func65 (by kernel_rfl) rfl) _ _ hmax hbytes _ hseq)
theorem dsorted_map (w : World) (F : Nat → Prop) (b : Nat) (l : Chs) (h : MapAt w F b l) (hl : l.length ≤ 1000000) :
    Calls Tryz.prog 37 #[.func (.func 65) #[] #[.pointer (some ⟨w.heap.size, 0, none⟩)]] (w.alloc (.cells #[.map (some b)] 74)) fun e w' => ∃ A cp, e = .returned (.slice A l.length cp) ∧ IvRow w' w.heap.size (.slice A l.length cp) (l.map (·.doc)) ∧ Below w.heap.size w w' := by
  obtain ⟨D, T, ho, hr, hri, _⟩ := h
  have hsz := size_rep ho hr hri
  refine (dsorted_any b l.length D w ho (by unfold maxLen; omega) (by omega)).mono ?_
  rintro e w' ⟨v, ss, rfl, hp, hrow, _, hb⟩
  have hperm := hp.trans (docs_perm ho hr hri).symm
  rw [docs_sorted hri hperm, hperm.length_eq] at hrow
  obtain ⟨A, cp, hv⟩ := row_shape hrow
  rw [List.length_map] at hv
  subst hv
  exact ⟨_, _, rfl, (by
    unfold IvRow
    exact ownsRow_base_a hrow (by simp)), ((Below.refl _ w).alloc (Nat.le_refl _) _).trans (hb.mono (by simp))⟩
end Go.Proofs.YtddnnhfffmhpmaaGreatDoor.St
