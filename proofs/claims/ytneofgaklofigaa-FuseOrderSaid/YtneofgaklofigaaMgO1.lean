/- Own texts, merged (1 of 5). -/
import Derived.Test.YtneofgaklofigaaRows
import Derived.WalkKit
import Derived.ProofKit
import Derived.OpenShut
import Derived.ShutString
import Derived.WalkSpells
import Derived.WalkLawsBesides
import Derived.Lib.Hide
import Derived.KernelRfl
import Derived.Lib.Mul64
import Derived.Laws.Bits64b
import Derived.Deep.QuietTactic
import Derived.BigQuiet
import Derived.Deep.RegionWith
import Derived.Laws.StructEq
import Derived.Shelf.Spec.BitsCarry
import Derived.Lib.Strings
import Derived.Lib.Slices
import Derived.Lib.Small
import Derived.Lib.Walk
import Derived.Lib.BitFns
import Derived.Deep.CutBlock
import Derived.Deep.DeepCutAuto
import Derived.Deep.RegionHeld3

/- A law's last step, where of the world behind the call it is known that nothing that was there has turned ('Below'). No condition beyond those of the row. -/
namespace Go.Proofs.Ytneofgaklofigaa
open Go.ChangeShapes Go.WideShapes Go.ChangeAt Go.RowKit

theorem knob : ownKnob Try.prog.godebug = none := by kernel_rfl

theorem post_still {H : Type} {enc : TypeId × Value → H} {P : Program} {f : Func} {s : ChangeSpec} {apart fresh handsOn again : Bool} {W W' : World} {args : Array Value} {v : Value} {ds gs : List (DataW H)} {before pa pv : List MemPlace}
    (hW : DataW.Whole enc P f.params.toList s.vars apart W args.toList ds gs before)
    (hres : ∀ (b : Nat) (sp : Nat → Bool) (hd : Bool), DataW.TrodAll enc P W' b sp hd f.resultTypes.toList (v.resultList f.resultTypes.size) (s.fn H (ds ++ gs)).results [])
    (hargs : ∀ sp : Nat → Bool, (∀ p ∈ before, sp p.block = true) → DataW.TrodAll enc P W' 0 sp true f.params.toList args.toList (s.fn H (ds ++ gs)).args pa)
    (hvars : ∀ sp : Nat → Bool, (∀ p ∈ before, sp p.block = true) → DataW.TrodVars enc P W' sp s.vars (s.fn H (ds ++ gs)).vars pv)
    (hps : before = pa ++ pv) (hb : Below W.heap.size W W')
    (hok : ∀ (j : Nat) (t : TypeId) (r : Value), f.resultTypes[j]? = some t → (v.resultList f.resultTypes.size)[j]? = some r → Value.okWide P W' .any 0 t r) :
    s.post enc P f apart fresh handsOn again W args v W' := by
  have old : ∀ p ∈ before, p.block < W.heap.size := fun p hp => hW.lt p hp
  have oldB : ∀ p ∈ before, (fun b => decide (b < W.heap.size)) p.block = true := fun p hp => by simpa using old p hp
  have e0 : [] ++ pa ++ pv = before := by rw [hps]; simp
  refine ⟨ds, gs, before, [], pa, pv, hW, hres _ _ _, hargs _ oldB, hvars _ oldB, World.keptBut_mono (fun p hp => ⟨hp, .inr ?_⟩) (hb.frame (· ∈ before)), fun _ => ?_⟩
  · rw [hps, List.mem_append] at hp
    exact hp
  obtain ⟨_, _, _, _, _, hz, hn⟩ := hW
  refine ⟨hok, _, _, ([] ++ pa) ++ pv, ⟨[] ++ pa, pv, trodAll_append (hargs _ (fun _ _ => rfl)) (hres _ _ _), hvars _ (fun _ _ => rfl), rfl, fun b off hp => ?_, fun ha => ?_⟩, fun p hp _ => ?_⟩
  · rw [e0] at hp
    rw [hb.frozen (old _ hp)]
    exact hz b off hp
  · have := hn ha
    rw [hps] at this
    simpa using this
  · rw [e0] at hp
    exact hp

theorem laid_out : laidOutB Try.prog = true := by kernel_rfl

/-- what was read of the arguments is read again, where nothing that was there has turned -/
theorem trodAll_still {H : Type} {enc : TypeId × Value → H} {P : Program} (hl : laidOutB P = true) {W W' : World} (hb : Below W.heap.size W W') {sp : Nat → Bool} :
    ∀ (ts : List TypeId) (vs : List Value) (ds : List (DataW H)) (ps : List MemPlace), (ts.all fun t => P.readableRec t && decide (t < P.types.size)) = true → (∀ x ∈ ps, x.block < W.heap.size) → (∀ x ∈ ps, sp x.block = true) →
      DataW.TrodAll enc P W 0 (fun _ => true) true ts vs ds ps → DataW.TrodAll enc P W' 0 sp true ts vs ds ps
  | [], vs, ds, ps, _, _, _, h => by
    obtain ⟨rfl, rfl, rfl⟩ := trodAll_nil h
    exact trodAll_mk0
  | t :: ts, vs, ds, ps, hr, hlt, hsp, h => by
    obtain ⟨v, vs', d, ds', p, q, rfl, rfl, rfl, h0, h1⟩ := trodAll_cons h
    rw [List.all_cons, Bool.and_eq_true, Bool.and_eq_true] at hr
    have h0' := WideElems.Trod_stays hl hr.1.1 (of_decide_eq_true hr.1.2) h0 (fun x hx => hb.same (hlt x (List.mem_append_left _ hx))) (sp' := sp) (fun x hx => hsp x (List.mem_append_left _ hx))
    exact trodAll_cons_mk h0' (trodAll_still hl hb ts vs' ds' q hr.2 (fun x hx => hlt x (List.mem_append_right _ hx)) (fun x hx => hsp x (List.mem_append_right _ hx)) h1)

set_option maxRecDepth 100000 in
/-- A LAW's last step: it has answered true, and nothing that was there has turned. -/
theorem law_post {H : Type} {enc : TypeId × Value → H} {f : Func} {s : ChangeSpec} {W W' : World} {args : Array Value} {ds : List (DataW H)} {before : List MemPlace}
    (hW : DataW.Whole enc Try.prog f.params.toList s.vars false W args.toList ds [] before) (hv : s.vars = [])
    (hres : (s.fn H (ds ++ [])).results = [.lit (.bool true)]) (hargs : (s.fn H (ds ++ [])).args = ds) (hvars : (s.fn H (ds ++ [])).vars = [])
    (hr : (f.params.toList.all fun t => Try.prog.readableRec t && decide (t < Try.prog.types.size)) = true) (hrt : f.resultTypes = #[4])
    (hb : Below W.heap.size W W') : s.post enc Try.prog f false true false false W args (.bool true) W' := by
  have hW0 := hW
  obtain ⟨p, q, hA, hV, rfl, hfz, hnd⟩ := hW
  rw [hv] at hV
  have hq : q = [] := hV
  subst hq
  refine post_still (pa := p) (pv := []) hW0 (fun b sp hd => ?_) (fun sp hsp => ?_) (fun sp hsp => ?_) rfl hb ?_
  · rw [hres, hrt]
    exact trodAll_mk1 (shut_bool Try.underlying4 true)
  · rw [hargs]
    exact trodAll_still laid_out hb _ _ _ _ hr (fun x hx => hW0.lt x (by simpa using hx)) (fun x hx => hsp x (by simpa using hx)) hA
  · rw [hvars, hv]
    rfl
  · exact ok_one hrt rfl (okWide_bool_mk Try.underlying4 true)
end Go.Proofs.Ytneofgaklofigaa

/- What every layer's walks use, whatever functions the seat holds: what turns of the world. -/
namespace Go.Proofs.Ytneofgaklofigaa
open Go.RowKit

theorem ret_int {k : IntKind} {a b : Int} (h : a = b) : Ending.returned (.int k a) = .returned (.int k b) := by rw [h]
theorem heap_setCell_row {w : World} {g : Nat} {t : TypeId} {cs : Array Value} (h : w.heap[g]? = some (.cells cs t (0, 0))) (i : Nat) (u : Value) :
    (w.setCell ⟨g, i, none⟩ u).heap[g]? = some (.cells (cs.setIfInBounds i u) t (0, 0)) := by
  simp [World.setCell, Array.getElem?_modify, h]
/-- nothing that was there has turned but block b -/
theorem only_set {a w : World} {b : Nat} (h : a.grownBy w (some b)) (i : Nat) (u : Value) : a.grownBy (w.setCell ⟨b, i, none⟩ u) (some b) :=
  ⟨h.os, h.tape, h.output, by simpa [World.setCell] using h.size, fun j hj hne => (Below.heap_setCell w _ u j (fun e => hne (by rw [e]))).trans (h.block j hj hne)⟩
theorem only_draw {a w : World} {r : Option Nat} (h : a.grownBy w r) : a.grownBy w.drew r := ⟨h.os, h.tape, h.output, h.size, h.block⟩
theorem only_new {a w : World} {r : Option Nat} (h : a.grownBy w r) (o : Obj) : a.grownBy (w.alloc o) r :=
  ⟨h.os, h.tape, h.output, Nat.le_trans h.size (by simp), fun i hi hne => (Below.heap_alloc w o i (Nat.lt_of_lt_of_le hi h.size)).trans (h.block i hi hne)⟩
theorem only_row {a w : World} {b : Nat} (h : a.grownBy w (some b)) (cs : Array Value) : a.grownBy (w.setRow b cs) (some b) :=
  ⟨h.os, h.tape, h.output, by simpa using h.size, fun j hj hne => by
    have e : b ≠ j := fun e => hne (by rw [e])
    have : (w.setRow b cs).heap[j]? = w.heap[j]? := by simp [World.setRow, Array.getElem?_modify, e]
    exact this.trans (h.block j hj hne)⟩
theorem cell_of_grown {a w : World} {r : Option Nat} (h : a.grownBy w r) {p : Addr} (hp : p.block < a.heap.size) (hr : some p.block ≠ r) : w.cell? p = a.cell? p := World.cell?_of_block (w := a) (h.block p.block hp hr)
theorem below_of_new {w w' : World} {o : Obj} (h : (w.alloc o).grownBy w' (some w.heap.size)) : Below w.heap.size w w' :=
  ⟨h.os, h.tape, h.output, Nat.le_trans (by simp) h.size, fun k hk => (h.block k (by simp; omega) (by simp; omega)).trans (Below.heap_alloc w o k hk)⟩
theorem add_none (b o j : Nat) : (⟨b, o, none⟩ : Addr).add j = ⟨b, o + j, none⟩ := by unfold Addr.add; split <;> simp_all
theorem int_info : (Try.prog.info? 3).map (fun i => (i.zero, i.size, i.bytes)) = some (some (.int .i64 0), 1, 8) := by kernel_rfl
end Go.Proofs.Ytneofgaklofigaa

/- exact's small functions: a size, comparing, the greatest common divisor, the product of two words. -/
namespace Go.Proofs.Ytneofgaklofigaa
open Go.RowKit

theorem bl1 (w : World) (a : Obj) : Below w.heap.size w (w.alloc a) := (Below.refl _ _).alloc (Nat.le_refl _) _
theorem bl2 (w : World) (a b : Obj) : Below w.heap.size w ((w.alloc a).alloc b) := (bl1 w a).alloc (by simp) _
theorem bl3 (w : World) (a b c : Obj) : Below w.heap.size w (((w.alloc a).alloc b).alloc c) := (bl2 w a b).alloc (by simp; omega) _
theorem bl4 (w : World) (a b c d : Obj) : Below w.heap.size w ((((w.alloc a).alloc b).alloc c).alloc d) := (bl3 w a b c).alloc (by simp; omega) _
def cmpI (x y : Int) : Int := if x < y then -1 else if y < x then 1 else 0
def W64 : Nat := 18446744073709551616

set_option maxHeartbeats 1000000 in
set_option maxRecDepth 100000 in
theorem cmp64_any (x y : Int) (w : World) : Calls Try.prog 29 #[.int .i64 x, .int .i64 y] w fun e w' => e = .returned (.int .i64 (cmpI x y)) ∧ w = w' := by
  go_enter Try.func29, Try.ntmps29
  go_wp2
  all_goals (go_ret; refine ⟨?_, rfl⟩; unfold cmpI; (repeat' split) <;> first | rfl | (exfalso; omega))
set_option maxHeartbeats 1000000 in
set_option maxRecDepth 100000 in
theorem cmpint_any (x y : Int) (w : World) : Calls Try.prog 31 #[.int .i64 x, .int .i64 y] w fun e w' => e = .returned (.int .i64 (cmpI x y)) ∧ w = w' := by
  go_enter Try.func31, Try.ntmps31
  go_wp2
  all_goals (go_ret; refine ⟨?_, rfl⟩; unfold cmpI; (repeat' split) <;> first | rfl | (exfalso; omega))
set_option maxHeartbeats 1000000 in
set_option maxRecDepth 100000 in
theorem cmpu64_any (x y : Int) (w : World) : Calls Try.prog 45 #[.int .u64 x, .int .u64 y] w fun e w' => e = .returned (.int .i64 (cmpI x y)) ∧ w = w' := by
  go_enter Try.func45, Try.ntmps45
  go_wp2
  all_goals (go_ret; refine ⟨?_, rfl⟩; unfold cmpI; (repeat' split) <;> first | rfl | (exfalso; omega))

def I64n (v : Int) : Prop := -9223372036854775808 ≤ v ∧ v ≤ 9223372036854775807
set_option maxHeartbeats 400000 in
set_option maxRecDepth 100000 in
theorem size_any (v : Int) (w : World) (h : I64n v) : Calls Try.prog 22 #[.int .i64 v] w fun e w' => e = .returned (.int .u64 (v.natAbs : Int)) ∧ w = w' := by
  obtain ⟨h1, h2⟩ := h
  by_cases h0 : v < 0
  · go_enter Try.func22, Try.ntmps22
    go_wp2
    go_ret
    exact ⟨ret_int (by rw [IntKind.wrap_u64, IntKind.wrap_u64]; omega), rfl⟩
  · go_enter Try.func22, Try.ntmps22
    go_wp2
    go_ret
    exact ⟨ret_int (by omega), rfl⟩

set_option maxHeartbeats 400000 in
set_option maxRecDepth 100000 in
theorem divisor_any (a b : Nat) (w : World) (ha : a < 18446744073709551616) (hb : b < 18446744073709551616) :
    Calls Try.prog 21 #[.int .u64 a, .int .u64 b] w fun e w' => e = .returned (.int .u64 (Nat.gcd a b : Int)) ∧ w = w' := by
  go_enter Try.func21, Try.ntmps21
  go_wp2
  go_loop [0, 1] (fun x y => ∃ p q : Nat, x = .int .u64 p ∧ y = .int .u64 q ∧ p < 18446744073709551616 ∧ q < 18446744073709551616 ∧ Nat.gcd a b = Nat.gcd p q) (fun x _ => (intOf x).toNat)
  case atStart => exact ⟨a, b, rfl, rfl, ha, hb, rfl⟩
  case round =>
    clear ha hb
    obtain ⟨p, q, rfl, rfl, hp, hq, he⟩ := hrel
    have HE := Lib.hid he
    clear he
    by_cases h0 : p = 0
    · subst h0
      have hd : ((((0 : Nat) : Int)) != 0) = false := by simp
      go_wp2
      go_ret
      exact ⟨ret_int (by rw [HE.out, Nat.gcd_zero_left]), rfl⟩
    · have hd : ((p : Int) != 0) = true := by simp; omega
      have hp0 : 0 < p := by omega
      have hlt := Nat.mod_lt q hp0
      have hg : Nat.gcd p q = Nat.gcd (q % p) p := Nat.gcd_rec p q
      have HG := Lib.hid hg
      clear hg
      go_wp2
      go_round
      case rel => exact ⟨q % p, p, by go_num, rfl, by omega, by omega, by rw [HE.out, HG.out]⟩
      case measure => simp [intOf]; omega
end Go.Proofs.Ytneofgaklofigaa

/- exact's numbers of two words: products, comparing, sums, differences. -/
namespace Go.Proofs.Ytneofgaklofigaa
open Go.RowKit

theorem maskN32 (a : Nat) (ha : a < 18446744073709551616) : bits .and .u64 (a : Int) 4294967295 = ((a % 4294967296 : Nat) : Int) := by
  have h := bits_and_u64_nat a 4294967295 ha (by omega)
  have e : a &&& 4294967295 = a % 4294967296 := Nat.and_two_pow_sub_one_eq_mod a 32
  rw [e] at h
  exact h
theorem div32N (a : Nat) : (a : Int) / 4294967296 = ((a / 4294967296 : Nat) : Int) := by omega
theorem mulNN (a b : Nat) : (a : Int) * (b : Int) = ((a * b : Nat) : Int) := (Int.natCast_mul a b).symm
theorem addNN (a b : Nat) : (a : Int) + (b : Int) = ((a + b : Nat) : Int) := (Int.natCast_add a b).symm
theorem wrapNN (a : Nat) (ha : a < 18446744073709551616) : IntKind.u64.wrap (a : Int) = (a : Int) := by rw [IntKind.wrap_u64]; omega
theorem wrapMM (a : Nat) : IntKind.u64.wrap (a : Int) = ((a % 18446744073709551616 : Nat) : Int) := by rw [IntKind.wrap_u64]; omega

set_option maxHeartbeats 1000000 in
set_option maxRecDepth 100000 in
theorem mul64_any (x y : Nat) (w : World) (hx : x < 18446744073709551616) (hy : y < 18446744073709551616) :
    Calls Try.prog 54 #[.int .u64 x, .int .u64 y] w fun e w' => e = .returned (.tuple #[.int .u64 ((x * y / 18446744073709551616 : Nat) : Int), .int .u64 ((x * y % 18446744073709551616 : Nat) : Int)]) ∧ w = w' := by
  obtain ⟨bd, bt, bw, hhi⟩ := Lib.mul64_hi x y hx hy
  have ba := Lib.half_mul_le (a := x / 4294967296) (b := y / 4294967296) (by omega) (by omega)
  have bb := Lib.half_mul_le (a := x / 4294967296) (b := y % 4294967296) (by omega) (by omega)
  have bc := Lib.half_mul_le (a := x % 4294967296) (b := y / 4294967296) (by omega) (by omega)
  have ba' : x / 4294967296 * (y / 4294967296) < 18446744073709551616 := by omega
  have bb' : x / 4294967296 * (y % 4294967296) < 18446744073709551616 := by omega
  have bc' : x % 4294967296 * (y / 4294967296) < 18446744073709551616 := by omega
  have bh1 : x / 4294967296 * (y / 4294967296) + (x / 4294967296 * (y % 4294967296) + x % 4294967296 * (y % 4294967296) / 4294967296) / 4294967296 < 18446744073709551616 := by omega
  have bh : x / 4294967296 * (y / 4294967296) + (x / 4294967296 * (y % 4294967296) + x % 4294967296 * (y % 4294967296) / 4294967296) / 4294967296 + ((x / 4294967296 * (y % 4294967296) + x % 4294967296 * (y % 4294967296) / 4294967296) % 4294967296 + x % 4294967296 * (y / 4294967296)) / 4294967296 < 18446744073709551616 := by omega
  go_enter Try.func54, Try.ntmps54
  go_wp2
  simp only [maskN32 x hx, maskN32 y hy, div32N, mulNN, addNN, wrapNN _ bd, wrapNN _ bb', wrapNN _ bt, maskN32 _ bt, wrapNN _ bc', wrapNN _ bw, wrapNN _ ba', wrapNN _ bh1, wrapNN _ bh, wrapMM (x * y)]
  rw [hhi]
  go_ret2
  exact ⟨rfl, rfl⟩
set_option maxRecDepth 100000 in
theorem wide_any (x y : Nat) (w : World) (hx : x < 18446744073709551616) (hy : y < 18446744073709551616) :
    Calls Try.prog 43 #[.int .u64 x, .int .u64 y] w fun e w' => e = .returned (.tuple #[.int .u64 ((x * y / 18446744073709551616 : Nat) : Int), .int .u64 ((x * y % 18446744073709551616 : Nat) : Int)]) ∧ w = w' := by
  go_enter Try.func43, Try.ntmps43
  go_wp2_with fail
  refine (mul64_any x y _ hx hy).mono ?_
  rintro e w' ⟨rfl, rfl⟩
  obtain ⟨p, hp⟩ : ∃ p, p = x * y / 18446744073709551616 := ⟨_, rfl⟩
  obtain ⟨q, hq⟩ : ∃ q, q = x * y % 18446744073709551616 := ⟨_, rfl⟩
  rw [← hp, ← hq]
  go_wp2
  go_ret2
  exact ⟨rfl, rfl⟩
/-- a number of two words -/
def wv (n : Nat) : Value := .agg #[.int .u64 ((n / 18446744073709551616 : Nat) : Int), .int .u64 ((n % 18446744073709551616 : Nat) : Int)]
set_option maxHeartbeats 400000 in
set_option maxRecDepth 100000 in
theorem product_any (x y : Nat) (w : World) (hx : x < 18446744073709551616) (hy : y < 18446744073709551616) :
    Calls Try.prog 28 #[.int .u64 x, .int .u64 y] w fun e w' => e = .returned (wv (x * y)) ∧ Below w.heap.size w w' := by
  unfold wv
  have hw := wide_any x y (w.alloc (.cells #[.int .u64 0, .int .u64 0] 68)) hx hy
  generalize x * y / 18446744073709551616 = p at hw ⊢
  generalize x * y % 18446744073709551616 = q at hw ⊢
  go_enter Try.func28, Try.ntmps28
  go_wp2_with fail
  refine hw.mono ?_
  rintro e w' ⟨rfl, rfl⟩
  go_wp2
  exact bodyPost_ret (v := .agg #[.int .u64 (p : Int), .int .u64 (q : Int)]) (by simp [results, Try.results28, go_sem]) rfl ⟨rfl, bl1 _ _⟩
/-- comparing two words by two words -/
theorem cmp_words (m n : Nat) : cmpI m n = if m / 18446744073709551616 = n / 18446744073709551616 then cmpI ((m % 18446744073709551616 : Nat) : Int) ((n % 18446744073709551616 : Nat) : Int) else cmpI ((m / 18446744073709551616 : Nat) : Int) ((n / 18446744073709551616 : Nat) : Int) := by
  unfold cmpI
  (repeat' split) <;> omega
set_option maxHeartbeats 1000000 in
set_option maxRecDepth 100000 in
theorem order_any (m n : Nat) (w : World) :
    Calls Try.prog 30 #[wv m, wv n] w fun e w' => e = .returned (.int .i64 (cmpI m n)) ∧ Below w.heap.size w w' := by
  have hc := cmp_words m n
  unfold wv
  obtain ⟨a, ha⟩ : ∃ p, p = m / 18446744073709551616 := ⟨_, rfl⟩
  obtain ⟨b, hb⟩ : ∃ p, p = m % 18446744073709551616 := ⟨_, rfl⟩
  obtain ⟨c, hc'⟩ : ∃ p, p = n / 18446744073709551616 := ⟨_, rfl⟩
  obtain ⟨d, hd⟩ : ∃ p, p = n % 18446744073709551616 := ⟨_, rfl⟩
  rw [← ha, ← hb, ← hc', ← hd] at hc ⊢
  rw [hc]
  clear ha hb hc' hd hc
  by_cases h1 : a = c
  · subst h1
    rw [if_pos rfl]
    by_cases h2 : b = d
    · subst h2
      rw [show cmpI b b = 0 by unfold cmpI; (repeat' split) <;> omega]
      go_enter Try.func30, Try.ntmps30
      go_wp2
      go_ret
      exact ⟨rfl, bl2 _ _ _⟩
    · have hbd : ((b : Int) == (d : Int)) = false := by simpa using (fun e => h2 (by omega))
      go_enter Try.func30, Try.ntmps30
      go_wp2_with (go_at_call 45; refine (cmpu64_any _ _ _).mono ?_; rintro e w' ⟨rfl, rfl⟩)
      go_ret
      exact ⟨rfl, bl2 _ _ _⟩
  · rw [if_neg h1]
    have hac : ((a : Int) == (c : Int)) = false := by simpa using (fun e => h1 (by omega))
    go_enter Try.func30, Try.ntmps30
    go_wp2_with (go_at_call 45; refine (cmpu64_any _ _ _).mono ?_; rintro e w' ⟨rfl, rfl⟩)
    go_ret
    exact ⟨rfl, bl2 _ _ _⟩

theorem add64_run (x y c : Nat) (hc : c ≤ 1) (w : World) : (callFunc 56 #[.int .u64 x, .int .u64 y, .int .u64 c]).run Try.prog w =
    .ok (.value (.tuple #[.int .u64 (((x + y + c) % 18446744073709551616 : Nat) : Int), .int .u64 (((x + y + c) / 18446744073709551616 : Nat) : Int)])) w := by
  rw [run_callFunc_extern Try.func56 (by kernel_rfl) (by kernel_rfl) (by kernel_rfl) (e := add64Entry) (by kernel_rfl), run_add64 x y c (by omega) (by omega) (by omega) (by omega)]
  simp only [Result.andThen]
  congr 5 <;> omega
theorem sub64_run (x y b : Nat) (hb : b ≤ 1) (w : World) : (callFunc 57 #[.int .u64 x, .int .u64 y, .int .u64 b]).run Try.prog w =
    .ok (.value (.tuple #[.int .u64 (((x + 18446744073709551616 - y - b) % 18446744073709551616 : Nat) : Int), .int .u64 ((if x < y + b then 1 else 0 : Nat) : Int)])) w := by
  rw [run_callFunc_extern Try.func57 (by kernel_rfl) (by kernel_rfl) (by kernel_rfl) (e := sub64Entry) (by kernel_rfl), run_sub64 x y b hb]
  rfl

set_option maxHeartbeats 1000000 in
set_option maxRecDepth 100000 in
theorem wplus_any (m n : Nat) (w : World) (h : m + n < 340282366920938463463374607431768211456) :
    Calls Try.prog 47 #[wv m, wv n] w fun e w' => e = .returned (wv (m + n)) ∧ Below w.heap.size w w' := by
  unfold wv
  obtain ⟨l, hl⟩ : ∃ l, l = (m % 18446744073709551616 + n % 18446744073709551616 + 0) % 18446744073709551616 := ⟨_, rfl⟩
  obtain ⟨c, hc⟩ : ∃ c, c = (m % 18446744073709551616 + n % 18446744073709551616 + 0) / 18446744073709551616 := ⟨_, rfl⟩
  obtain ⟨u, hu⟩ : ∃ u, u = (m / 18446744073709551616 + n / 18446744073709551616 + c) % 18446744073709551616 := ⟨_, rfl⟩
  obtain ⟨k, hk⟩ : ∃ k, k = (m / 18446744073709551616 + n / 18446744073709551616 + c) / 18446744073709551616 := ⟨_, rfl⟩
  have e1 : (m + n) / 18446744073709551616 = u := by omega
  have e2 : (m + n) % 18446744073709551616 = l := by omega
  rw [e1, e2]
  have r1 := fun w => add64_run (m % 18446744073709551616) (n % 18446744073709551616) 0 (by omega) w
  have r2 := fun w => add64_run (m / 18446744073709551616) (n / 18446744073709551616) c (by omega) w
  rw [← hl, ← hc] at r1
  rw [← hu, ← hk] at r2
  clear e1 e2 hl hc hu hk h
  generalize m % 18446744073709551616 = a at *
  generalize n % 18446744073709551616 = b at *
  generalize m / 18446744073709551616 = d at *
  generalize n / 18446744073709551616 = f at *
  have r1' : ∀ w, (callFunc 56 #[.int .u64 a, .int .u64 b, .int .u64 0]).run Try.prog w = .ok (.value (.tuple #[.int .u64 (l : Int), .int .u64 (c : Int)])) w := r1
  clear r1
  go_enter Try.func47, Try.ntmps47
  go_wp2_with (first | simp only [r1'] | simp only [r2])
  exact bodyPost_ret (v := .agg #[.int .u64 (u : Int), .int .u64 (l : Int)]) (by simp [results, Try.results47, go_sem]) rfl ⟨rfl, bl3 _ _ _ _⟩
set_option maxHeartbeats 1000000 in
set_option maxRecDepth 100000 in
theorem wminus_any (m n : Nat) (w : World) (hle : n ≤ m) (h : m < 340282366920938463463374607431768211456) :
    Calls Try.prog 48 #[wv m, wv n] w fun e w' => e = .returned (wv (m - n)) ∧ Below w.heap.size w w' := by
  unfold wv
  obtain ⟨l, hl⟩ : ∃ l, l = (m % 18446744073709551616 + 18446744073709551616 - n % 18446744073709551616 - 0) % 18446744073709551616 := ⟨_, rfl⟩
  obtain ⟨c, hc⟩ : ∃ c : Nat, c = if m % 18446744073709551616 < n % 18446744073709551616 + 0 then 1 else 0 := ⟨_, rfl⟩
  have hc1 : c ≤ 1 := by rw [hc]; split <;> omega
  obtain ⟨u, hu⟩ : ∃ u, u = (m / 18446744073709551616 + 18446744073709551616 - n / 18446744073709551616 - c) % 18446744073709551616 := ⟨_, rfl⟩
  obtain ⟨k, hk⟩ : ∃ k : Nat, k = if m / 18446744073709551616 < n / 18446744073709551616 + c then 1 else 0 := ⟨_, rfl⟩
  have e1 : (m - n) / 18446744073709551616 = u := by split at hc <;> omega
  have e2 : (m - n) % 18446744073709551616 = l := by omega
  rw [e1, e2]
  have r1 := fun w => sub64_run (m % 18446744073709551616) (n % 18446744073709551616) 0 (by omega) w
  have r2 := fun w => sub64_run (m / 18446744073709551616) (n / 18446744073709551616) c (by omega) w
  rw [← hl, ← hc] at r1
  rw [← hu, ← hk] at r2
  clear e1 e2 hl hc hu hk h hle hc1
  generalize m % 18446744073709551616 = a at *
  generalize n % 18446744073709551616 = b at *
  generalize m / 18446744073709551616 = d at *
  generalize n / 18446744073709551616 = f at *
  have r1' : ∀ w, (callFunc 57 #[.int .u64 a, .int .u64 b, .int .u64 0]).run Try.prog w = .ok (.value (.tuple #[.int .u64 (l : Int), .int .u64 (c : Int)])) w := r1
  clear r1
  go_enter Try.func48, Try.ntmps48
  go_wp2_with (first | simp only [r1'] | simp only [r2])
  exact bodyPost_ret (v := .agg #[.int .u64 (u : Int), .int .u64 (l : Int)]) (by simp [results, Try.results48, go_sem]) rfl ⟨rfl, bl3 _ _ _ _⟩
end Go.Proofs.Ytneofgaklofigaa

/- Two words by one, digit by digit of 32 bits: the guess of a digit and its mending. Plain numbers; nothing of the program. -/
namespace ExactM

/-- a guess q of a digit, with what it leaves of the upper word -/
def KI (u u1 y1 y0 q r : Nat) : Prop := u = q * y1 + r ∧ q ≤ 4294967297 ∧ r < 4294967296 ∧ u * 4294967296 + u1 < (q + 1) * (y1 * 4294967296 + y0)
/-- the digit -/
def KE (u u1 Y q : Nat) : Prop := q * Y ≤ u * 4294967296 + u1 ∧ u * 4294967296 + u1 < (q + 1) * Y
theorem ki_start (u u1 y1 y0 Y q p r : Nat) (hY : Y = y1 * 4294967296 + y0) (h0 : y0 < 4294967296) (h1 : 2147483648 ≤ y1) (h2 : y1 < 4294967296) (hu : u < Y) (hu1 : u1 < 4294967296) (hq : q = u / y1) (hp : p = q * y1) (hr : r = u - p) : p ≤ u ∧ KI u u1 y1 y0 q r := by
  have hm := Nat.div_add_mod u y1
  have hl := Nat.mod_lt u (show 0 < y1 by omega)
  rw [← hq, Nat.mul_comm, ← hp] at hm
  have hr' : r = u % y1 := by omega
  refine ⟨by omega, by omega, ?_, by omega, ?_⟩
  · have : u < 4294967298 * y1 := by omega
    have h3 : q < 4294967298 := by rw [hq]; exact Nat.div_lt_of_lt_mul (by omega)
    omega
  · have e1 : (q + 1) * (y1 * 4294967296 + y0) = (p + y1) * 4294967296 + (q + 1) * y0 := by rw [hp]; grind
    have e2 : (u + 1) * 4294967296 ≤ (p + y1) * 4294967296 := Nat.mul_le_mul_right _ (by omega)
    omega
theorem ki_more (u u1 y1 y0 Y q r p : Nat) (hY : Y = y1 * 4294967296 + y0) (hu : u < Y) (hu1 : u1 < 4294967296) (hp : p = q * y0) (h : KI u u1 y1 y0 q r) (hc : 4294967296 ≤ q ∨ 4294967296 * r + u1 < p) :
    1 ≤ q ∧ u = (q - 1) * y1 + (r + y1) ∧ u * 4294967296 + u1 < (q - 1 + 1) * Y := by
  obtain ⟨h1, h2, h3, h4⟩ := h
  have hlt : u * 4294967296 + u1 < q * Y := by
    rcases hc with hc | hc
    · have e : (u + 1) * 4294967296 ≤ Y * 4294967296 := Nat.mul_le_mul_right _ (by omega)
      have e2 : Y * 4294967296 ≤ Y * q := Nat.mul_le_mul_left _ hc
      have e3 : Y * q = q * Y := Nat.mul_comm _ _
      omega
    · have e : q * Y = q * y1 * 4294967296 + p := by rw [hY, hp]; grind
      omega
  have hq : 1 ≤ q := by
    rcases Nat.eq_zero_or_pos q with e | e
    · subst e; omega
    · exact e
  obtain ⟨k, rfl⟩ : ∃ k, q = k + 1 := ⟨q - 1, by omega⟩
  refine ⟨hq, ?_, by simpa using hlt⟩
  have e : (k + 1) * y1 = k * y1 + y1 := by grind
  simp only [Nat.add_sub_cancel]
  omega
theorem ki_on (u u1 y1 y0 Y q r : Nat) (hY : Y = y1 * 4294967296 + y0) (hu : u = (q - 1) * y1 + (r + y1)) (hq : q ≤ 4294967297) (hlt : u * 4294967296 + u1 < (q - 1 + 1) * Y) (hr : r + y1 < 4294967296) : KI u u1 y1 y0 (q - 1) (r + y1) :=
  ⟨hu, by omega, hr, by rw [← hY]; exact hlt⟩
theorem ki_break (u u1 y1 y0 Y q r : Nat) (hY : Y = y1 * 4294967296 + y0) (h0 : y0 < 4294967296) (hu : u = (q - 1) * y1 + (r + y1)) (hq : q ≤ 4294967297) (hlt : u * 4294967296 + u1 < (q - 1 + 1) * Y) (hr : 4294967296 ≤ r + y1) : KE u u1 Y (q - 1) := by
  refine ⟨?_, hlt⟩
  have e1 : (q - 1) * Y = (q - 1) * y1 * 4294967296 + (q - 1) * y0 := by rw [hY]; grind
  have e2 : (q - 1) * y0 ≤ 4294967296 * y0 := Nat.mul_le_mul_right _ (by omega)
  omega
theorem ki_end (u u1 y1 y0 Y q r p : Nat) (hY : Y = y1 * 4294967296 + y0) (hp : p = q * y0) (h : KI u u1 y1 y0 q r) (hc : ¬ 4294967296 * r + u1 < p) : KE u u1 Y q := by
  obtain ⟨h1, h2, h3, h4⟩ := h
  refine ⟨?_, by rw [hY]; exact h4⟩
  have e : q * Y = q * y1 * 4294967296 + p := by rw [hY, hp]; grind
  omega
theorem ke_rest {u u1 Y q : Nat} (h : KE u u1 Y q) : u * 4294967296 + u1 - q * Y < Y ∧ q * Y ≤ u * 4294967296 + u1 := by
  obtain ⟨h1, h2⟩ := h
  rw [Nat.add_mul, Nat.one_mul] at h2
  exact ⟨by omega, h1⟩
theorem ke_small {u u1 Y q : Nat} (h : KE u u1 Y q) (hu : u < Y) (hu1 : u1 < 4294967296) : q < 4294967296 := by
  obtain ⟨h1, _⟩ := h
  have e : (u + 1) * 4294967296 ≤ Y * 4294967296 := Nat.mul_le_mul_right _ (by omega)
  rcases Nat.lt_or_ge q 4294967296 with hq | hq
  · exact hq
  · have e2 : Y * 4294967296 ≤ Y * q := Nat.mul_le_mul_left _ hq
    have e3 : Y * q = q * Y := Nat.mul_comm _ _
    omega
/-- two digits make the quotient -/
theorem ke_two (u u1 u0 Y q1 t q0 : Nat) (h : KE u u1 Y q1) (ht : t = u * 4294967296 + u1 - q1 * Y) (h0 : KE t u0 Y q0) (hY : 0 < Y) :
    (u * 18446744073709551616 + (u1 * 4294967296 + u0)) / Y = q1 * 4294967296 + q0 ∧ (u * 18446744073709551616 + (u1 * 4294967296 + u0)) % Y = t * 4294967296 + u0 - q0 * Y := by
  obtain ⟨h1, h2⟩ := ke_rest h
  obtain ⟨h3, h4⟩ := ke_rest h0
  have e : u * 18446744073709551616 + (u1 * 4294967296 + u0) = (t * 4294967296 + u0 - q0 * Y) + Y * (q1 * 4294967296 + q0) := by
    have e1 : Y * (q1 * 4294967296 + q0) = q1 * Y * 4294967296 + q0 * Y := by grind
    omega
  rw [e, Nat.add_mul_div_left _ _ hY, Nat.div_eq_of_lt h3, Nat.add_mul_mod_self_left, Nat.mod_eq_of_lt h3]
  exact ⟨by omega, rfl⟩
/-- both multiplied by a power of two -/
theorem div_scaled (n y k : Nat) (hk : 0 < k) : n * k / (y * k) = n / y ∧ n * k % (y * k) = (n % y) * k := by
  rw [Nat.mul_comm n k, Nat.mul_comm y k, Nat.mul_div_mul_left _ _ hk, Nat.mul_mod_mul_left, Nat.mul_comm k]
  exact ⟨rfl, rfl⟩
/-- the upper word, shifted, with what comes up out of the lower one -/
theorem shifted (hi lo s y : Nat) (hs : s ≤ 63) (hlo : lo < 18446744073709551616) (hhi : hi < y) :
    (hi * 2 ^ s + lo / 2 ^ (64 - s)) * 18446744073709551616 + lo * 2 ^ s % 18446744073709551616 = (hi * 18446744073709551616 + lo) * 2 ^ s ∧ hi * 2 ^ s + lo / 2 ^ (64 - s) < y * 2 ^ s := by
  have hp : (18446744073709551616 : Nat) = 2 ^ (64 - s) * 2 ^ s := by rw [← Nat.pow_add, show 64 - s + s = 64 by omega]
  have e1 : lo * 2 ^ s % 18446744073709551616 = (lo % 2 ^ (64 - s)) * 2 ^ s := by rw [hp, Nat.mul_comm lo, Nat.mul_comm (2 ^ (64 - s)), Nat.mul_mod_mul_left, Nat.mul_comm]
  have e2 := Nat.div_add_mod lo (2 ^ (64 - s))
  have e3 : lo / 2 ^ (64 - s) < 2 ^ s := Nat.div_lt_of_lt_mul (by rw [← hp]; exact hlo)
  constructor
  · rw [e1, Nat.add_mul, Nat.add_mul, Nat.add_assoc]
    congr 1
    · grind
    · have : lo / 2 ^ (64 - s) * 18446744073709551616 = 2 ^ (64 - s) * (lo / 2 ^ (64 - s)) * 2 ^ s := by rw [hp]; grind
      rw [this, ← Nat.add_mul, e2]
  · have : (hi + 1) * 2 ^ s ≤ y * 2 ^ s := Nat.mul_le_mul_right _ (by omega)
    rw [Nat.add_mul, Nat.one_mul] at this
    omega
end ExactM

/- Two words by one: math/bits.Len64, LeadingZeros64, Div64, Rem64. -/
namespace Go.Proofs.Ytneofgaklofigaa
open Go.RowKit

theorem len_spec : ∀ x : Nat, 0 < x → x < 18446744073709551616 → 1 ≤ Lib.bitLen x ∧ Lib.bitLen x ≤ 64 ∧ 2 ^ (Lib.bitLen x - 1) ≤ x ∧ x < 2 ^ Lib.bitLen x := by
  intro x h0 hx
  have main : ∀ k x : Nat, 0 < x → x < 2 ^ k → k ≤ 64 → 1 ≤ Lib.bitLen x ∧ Lib.bitLen x ≤ k ∧ 2 ^ (Lib.bitLen x - 1) ≤ x ∧ x < 2 ^ Lib.bitLen x := by
    intro k
    induction k with
    | zero => intro x h0 h1; simp at h1; omega
    | succ k ih =>
      intro x h0 h1 hk
      have h64 : x < 2 ^ 64 := Nat.lt_of_lt_of_le h1 (Nat.pow_le_pow_right (by decide) hk)
      have hh := Lib.bitLen_half x (by omega) h64
      by_cases h2 : x / 2 = 0
      · rw [h2, show Lib.bitLen 0 = 0 from rfl] at hh
        rw [hh]
        exact ⟨by omega, by omega, by simp; omega, by simp; omega⟩
      · obtain ⟨a, b, c, d⟩ := ih (x / 2) (by omega) (by rw [Nat.pow_succ] at h1; omega) (by omega)
        rw [hh]
        generalize Lib.bitLen (x / 2) = n at *
        obtain ⟨m, rfl⟩ : ∃ m, n = m + 1 := ⟨n - 1, by omega⟩
        rw [show 1 + (m + 1) - 1 = m + 1 by omega, show 1 + (m + 1) = (m + 1) + 1 by omega, Nat.pow_succ, Nat.pow_succ]
        rw [show m + 1 - 1 = m by omega] at c
        rw [Nat.pow_succ] at d
        exact ⟨by omega, by omega, by omega, by omega⟩
  exact main 64 x h0 hx (by omega)
theorem len_part (x k d : Nat) (e : Int) (hd : d = 2 ^ k) (hx : x < 18446744073709551616) (h : d ≤ x ∨ k = 0) (h8 : x / d < 256) (he : e = ((x / d : Nat) : Int)) : Lib.len8 e = (Lib.bitLen x : Int) - (k : Int) ∧ 0 ≤ Lib.len8 e ∧ Lib.len8 e ≤ 8 := by
  have h1 := Lib.len8_of e (by rw [he]; exact Int.natCast_nonneg _) (by rw [he]; generalize x / d = t at *; omega)
  have h2 := Lib.bitLen_le8' e (by rw [he]; exact Int.natCast_nonneg _) (by rw [he]; generalize x / d = t at *; omega)
  rw [he] at h1 h2 ⊢
  rw [Int.toNat_natCast] at h1 h2
  rw [h1]
  refine ⟨?_, by omega, by omega⟩
  rcases h with h | h
  · have := Lib.bitLen_shift k x (by omega) hx
    rw [← hd] at this
    omega
  · subst h
    simp at hd
    subst hd
    simp
set_option maxHeartbeats 4000000 in
set_option maxRecDepth 100000 in
theorem len64_int (z : Int) (w : World) (h0 : 0 ≤ z) (h1 : z ≤ 18446744073709551615) :
    Calls Try.prog 68 #[.int .u64 z] w fun e w' => e = .returned (.int .i64 (Lib.bitLen z.toNat)) ∧ w = w' := by
  obtain ⟨x, hz⟩ : ∃ x : Nat, x = z.toNat := ⟨_, rfl⟩
  have HZ := Lib.hid hz
  have hx : x < 18446744073709551616 := by omega
  rw [← hz]
  clear hz
  by_cases c32 : 4294967296 ≤ z
  · by_cases c16 : 65536 ≤ z / 4294967296
    · by_cases c8 : 256 ≤ z / 4294967296 / 65536
      · have k0 : 0 ≤ z / 4294967296 / 65536 / 256 := by omega
        have k1 : z / 4294967296 / 65536 / 256 ≤ 255 := by omega
        have hz := HZ.out
        obtain ⟨p, q, r⟩ := len_part x 56 72057594037927936 (z / 4294967296 / 65536 / 256) (by decide) hx (by omega) (by omega) (by omega)
        clear hz
        have HP := Lib.hid p
        clear p
        go_enter Try.func68, Try.ntmps68
        go_wp2
        go_ret
        exact ⟨ret_int (by have := HP.out; omega), rfl⟩
      · have k0 : 0 ≤ z / 4294967296 / 65536 := by omega
        have k1 : z / 4294967296 / 65536 ≤ 255 := by omega
        have hz := HZ.out
        obtain ⟨p, q, r⟩ := len_part x 48 281474976710656 (z / 4294967296 / 65536) (by decide) hx (by omega) (by omega) (by omega)
        clear hz
        have HP := Lib.hid p
        clear p
        go_enter Try.func68, Try.ntmps68
        go_wp2
        go_ret
        exact ⟨ret_int (by have := HP.out; omega), rfl⟩
    · by_cases c8 : 256 ≤ z / 4294967296
      · have k0 : 0 ≤ z / 4294967296 / 256 := by omega
        have k1 : z / 4294967296 / 256 ≤ 255 := by omega
        have hz := HZ.out
        obtain ⟨p, q, r⟩ := len_part x 40 1099511627776 (z / 4294967296 / 256) (by decide) hx (by omega) (by omega) (by omega)
        clear hz
        have HP := Lib.hid p
        clear p
        go_enter Try.func68, Try.ntmps68
        go_wp2
        go_ret
        exact ⟨ret_int (by have := HP.out; omega), rfl⟩
      · have k0 : 0 ≤ z / 4294967296 := by omega
        have k1 : z / 4294967296 ≤ 255 := by omega
        have hz := HZ.out
        obtain ⟨p, q, r⟩ := len_part x 32 4294967296 (z / 4294967296) (by decide) hx (by omega) (by omega) (by omega)
        clear hz
        have HP := Lib.hid p
        clear p
        go_enter Try.func68, Try.ntmps68
        go_wp2
        go_ret
        exact ⟨ret_int (by have := HP.out; omega), rfl⟩
  · by_cases c16 : 65536 ≤ z
    · by_cases c8 : 256 ≤ z / 65536
      · have k0 : 0 ≤ z / 65536 / 256 := by omega
        have k1 : z / 65536 / 256 ≤ 255 := by omega
        have hz := HZ.out
        obtain ⟨p, q, r⟩ := len_part x 24 16777216 (z / 65536 / 256) (by decide) hx (by omega) (by omega) (by omega)
        clear hz
        have HP := Lib.hid p
        clear p
        go_enter Try.func68, Try.ntmps68
        go_wp2
        go_ret
        exact ⟨ret_int (by have := HP.out; omega), rfl⟩
      · have k0 : 0 ≤ z / 65536 := by omega
        have k1 : z / 65536 ≤ 255 := by omega
        have hz := HZ.out
        obtain ⟨p, q, r⟩ := len_part x 16 65536 (z / 65536) (by decide) hx (by omega) (by omega) (by omega)
        clear hz
        have HP := Lib.hid p
        clear p
        go_enter Try.func68, Try.ntmps68
        go_wp2
        go_ret
        exact ⟨ret_int (by have := HP.out; omega), rfl⟩
    · by_cases c8 : 256 ≤ z
      · have k0 : 0 ≤ z / 256 := by omega
        have k1 : z / 256 ≤ 255 := by omega
        have hz := HZ.out
        obtain ⟨p, q, r⟩ := len_part x 8 256 (z / 256) (by decide) hx (by omega) (by omega) (by omega)
        clear hz
        have HP := Lib.hid p
        clear p
        go_enter Try.func68, Try.ntmps68
        go_wp2
        go_ret
        exact ⟨ret_int (by have := HP.out; omega), rfl⟩
      · have k0 : 0 ≤ z := by omega
        have k1 : z ≤ 255 := by omega
        have hz := HZ.out
        obtain ⟨p, q, r⟩ := len_part x 0 1 (z) (by decide) hx (by omega) (by omega) (by omega)
        clear hz
        have HP := Lib.hid p
        clear p
        go_enter Try.func68, Try.ntmps68
        go_wp2
        go_ret
        exact ⟨ret_int (by have := HP.out; omega), rfl⟩
theorem len64_any (x : Nat) (w : World) (hx : x < 18446744073709551616) :
    Calls Try.prog 68 #[.int .u64 x] w fun e w' => e = .returned (.int .i64 (Lib.bitLen x)) ∧ w = w' := len64_int (x : Int) w (by omega) (by omega)
set_option maxRecDepth 100000 in
theorem lead64_any (x : Nat) (w : World) (h0 : 0 < x) (hx : x < 18446744073709551616) :
    Calls Try.prog 58 #[.int .u64 x] w fun e w' => e = .returned (.int .i64 ((64 - Lib.bitLen x : Nat) : Int)) ∧ w = w' := by
  obtain ⟨h1, h2, _, _⟩ := len_spec x h0 hx
  have hl := len64_any x w hx
  generalize Lib.bitLen x = n at *
  go_enter Try.func58, Try.ntmps58
  go_wp2_with fail
  refine hl.mono ?_
  rintro e w' ⟨rfl, rfl⟩
  go_wp2
  go_ret
  exact ⟨ret_int (by omega), rfl⟩
end Go.Proofs.Ytneofgaklofigaa

/- Two words by one: math/bits.Div64, Rem64. -/
namespace Go.Proofs.Ytneofgaklofigaa
open Go.RowKit

set_option maxHeartbeats 2000000 in
set_option maxRecDepth 100000 in
theorem div64_small (lo y : Nat) (w : World) (h0 : 0 < y) (hy : y < 18446744073709551616) (hlo : lo < 18446744073709551616) :
    Calls Try.prog 50 #[.int .u64 0, .int .u64 lo, .int .u64 y] w fun e w' => e = .returned (.tuple #[.int .u64 ((lo / y : Nat) : Int), .int .u64 ((lo % y : Nat) : Int)]) ∧ ∃ m, w' = w.drewN m := by
  have d0 : ((y : Int) == 0) = false := by simp; omega
  have d1 : decide ((y : Int) ≤ 0) = false := by simp; omega
  have b1 := Nat.div_le_self lo y
  have b2 := Nat.mod_lt lo h0
  have e1 : (lo : Int) / (y : Int) = ((lo / y : Nat) : Int) := by omega
  have e2 : (lo : Int) % (y : Int) = ((lo % y : Nat) : Int) := by omega
  generalize lo / y = q at *
  generalize lo % y = r at *
  have hq : q < 18446744073709551616 := by omega
  go_enter Try.func50, Try.ntmps50
  go_wp2
  go_region
  go_wp2
  go_ret2
  exact ⟨by show Ending.returned (.tuple #[.int .u64 (q : Int), .int .u64 ((lo : Int) % (y : Int))]) = _; rw [e2], 1, rfl⟩

theorem drewN_below (w : World) (m : Nat) : Below w.heap.size w (w.drewN m) := ⟨rfl, rfl, rfl, Nat.le_refl _, fun _ _ => rfl⟩
theorem or_parts (a b s : Nat) (hb : b < 2 ^ s) (h : a * 2 ^ s + b < 18446744073709551616) : bits .or .u64 ((a * 2 ^ s : Nat) : Int) (b : Int) = ((a * 2 ^ s + b : Nat) : Int) := by
  have h1 := u64_or_nat (a * 2 ^ s) b (by omega) (by omega)
  have e := Nat.shiftLeft_add_eq_or_of_lt (i := s) hb a
  rw [Nat.shiftLeft_eq] at e
  rw [← e] at h1
  exact h1
/-- what the digits start from -/
structure D64 (hi lo y s Y y1 y0 A B u t u1 u0 : Nat) : Prop where
  eY : (y : Int) * 2 ^ s = (Y : Int)
  e1 : (Y : Int) / 4294967296 = (y1 : Int)
  e2 : bits .and .u64 (Y : Int) 4294967295 = (y0 : Int)
  e3 : (hi : Int) * 2 ^ s = (A : Int)
  e4 : (lo : Int) / 2 ^ (64 - s) = (B : Int)
  e5 : bits .or .u64 (A : Int) (B : Int) = (u : Int)
  e6 : IntKind.u64.wrap ((lo : Int) * 2 ^ s) = (t : Int)
  e7 : (t : Int) / 4294967296 = (u1 : Int)
  e8 : bits .and .u64 (t : Int) 4294967295 = (u0 : Int)
  hY : Y = y1 * 4294967296 + y0
  hYl : Y < 18446744073709551616
  hA : A < 18446744073709551616
  ht : t < 18446744073709551616
  h0 : y0 < 4294967296
  h1 : 2147483648 ≤ y1
  h2 : y1 < 4294967296
  hu1 : u1 < 4294967296
  hu0 : u0 < 4294967296
  hu : u < Y
  hU : u * 18446744073709551616 + (u1 * 4294967296 + u0) = (hi * 18446744073709551616 + lo) * 2 ^ s
  hYs : Y = y * 2 ^ s
theorem d64 (hi lo y s : Nat) (hhi : hi < y) (hy : y < 18446744073709551616) (hlo : lo < 18446744073709551616) (hs : s = 64 - Lib.bitLen y) : ∃ Y y1 y0 A B u t u1 u0, D64 hi lo y s Y y1 y0 A B u t u1 u0 := by
  obtain ⟨s1, s2, s3, s4⟩ := len_spec y (by omega) hy
  have hs63 : s ≤ 63 := by omega
  have hYlt : y * 2 ^ s < 18446744073709551616 := by
    have : y * 2 ^ s < 2 ^ Lib.bitLen y * 2 ^ s := Nat.mul_lt_mul_of_pos_right s4 (Nat.two_pow_pos s)
    rw [← Nat.pow_add, show Lib.bitLen y + s = 64 by omega] at this
    exact this
  have hYge : 9223372036854775808 ≤ y * 2 ^ s := by
    have : 2 ^ (Lib.bitLen y - 1) * 2 ^ s ≤ y * 2 ^ s := Nat.mul_le_mul_right _ s3
    rw [← Nat.pow_add, show Lib.bitLen y - 1 + s = 63 by omega] at this
    exact this
  obtain ⟨hsh, hul⟩ := ExactM.shifted hi lo s y hs63 hlo hhi
  have hBs : lo / 2 ^ (64 - s) < 2 ^ s := Nat.div_lt_of_lt_mul (by rw [← Nat.pow_add, show 64 - s + s = 64 by omega]; exact hlo)
  refine ⟨y * 2 ^ s, y * 2 ^ s / 4294967296, y * 2 ^ s % 4294967296, hi * 2 ^ s, lo / 2 ^ (64 - s), hi * 2 ^ s + lo / 2 ^ (64 - s), lo * 2 ^ s % 18446744073709551616, lo * 2 ^ s % 18446744073709551616 / 4294967296, lo * 2 ^ s % 18446744073709551616 % 4294967296, ?_⟩
  constructor
  · simp
  · rw [div32N]
  · exact maskN32 _ hYlt
  · simp
  · simp
  · exact or_parts hi _ s hBs (by omega)
  · rw [IntKind.wrap_u64]; simp
  · rw [div32N]
  · exact maskN32 _ (by omega)
  · omega
  · exact hYlt
  · exact Nat.lt_of_le_of_lt (Nat.le_add_right _ _) (Nat.lt_trans hul hYlt)
  · omega
  · omega
  · omega
  · omega
  · omega
  · omega
  · exact hul
  · rw [← hsh]; omega
  · rfl
theorem d64_end {hi lo y s Y y1 y0 A B u t u1 u0 q1 t1 q0 r0 : Nat} (D : D64 hi lo y s Y y1 y0 A B u t u1 u0) (h1 : ExactM.KE u u1 Y q1) (ht : t1 = u * 4294967296 + u1 - q1 * Y) (h0 : ExactM.KE t1 u0 Y q0) (hr : r0 = t1 * 4294967296 + u0 - q0 * Y) :
    q1 * 4294967296 + q0 = (hi * 18446744073709551616 + lo) / y ∧ r0 / 2 ^ s = (hi * 18446744073709551616 + lo) % y := by
  have hY0 : 0 < Y := by have := D.hY; have := D.h1; omega
  obtain ⟨e1, e2⟩ := ExactM.ke_two u u1 u0 Y q1 t1 q0 h1 ht h0 hY0
  obtain ⟨f1, f2⟩ := ExactM.div_scaled (hi * 18446744073709551616 + lo) y (2 ^ s) (Nat.two_pow_pos s)
  rw [D.hU, D.hYs] at e1 e2
  rw [f1] at e1
  rw [f2, ← D.hYs, ← hr] at e2
  exact ⟨e1.symm, by rw [← e2, Nat.mul_div_cancel _ (Nat.two_pow_pos s)]⟩
/-- what a digit leaves, in words that go round -/
theorem left_wrap (u u1 q Y p t : Nat) (h : ExactM.KE u u1 Y q) (hp : p = q * Y) (ht : t = u * 4294967296 + u1 - p) (hl : t < 18446744073709551616) :
    IntKind.u64.wrap (IntKind.u64.wrap (IntKind.u64.wrap ((u : Int) * 4294967296) + (u1 : Int)) - IntKind.u64.wrap ((q : Int) * (Y : Int))) = (t : Int) := by
  have h1 := (ExactM.ke_rest h).2
  rw [mulNN, ← hp]
  rw [← hp] at h1
  simp only [IntKind.wrap_u64]
  omega

set_option maxHeartbeats 4000000 in
set_option maxRecDepth 100000 in
theorem div64_big (hi lo y : Nat) (w : World) (h0 : 0 < hi) (hhi : hi < y) (hy : y < 18446744073709551616) (hlo : lo < 18446744073709551616) :
    Calls Try.prog 50 #[.int .u64 hi, .int .u64 lo, .int .u64 y] w fun e w' => e = .returned (.tuple #[.int .u64 (((hi * 18446744073709551616 + lo) / y : Nat) : Int), .int .u64 (((hi * 18446744073709551616 + lo) % y : Nat) : Int)]) ∧ ∃ m, w' = w.drewN m := by
  have d0 : ((y : Int) == 0) = false := by simp; omega
  have d1 : decide (y ≤ hi) = false := by simp; omega
  have d2 : ((hi : Int) == 0) = false := by simp; omega
  have hl := fun w => lead64_any y w (by omega) hy
  obtain ⟨s1, s2, _, _⟩ := len_spec y (by omega) hy
  obtain ⟨s, hs⟩ : ∃ s, s = 64 - Lib.bitLen y := ⟨_, rfl⟩
  rw [← hs] at hl
  have hs63 : s ≤ 63 := by omega
  obtain ⟨Y, y1, y0, A, B, u, t, u1, u0, D⟩ := d64 hi lo y s hhi hy hlo hs
  clear hs s1 s2
  have eY := D.eY
  have e1 := D.e1
  have e2 := D.e2
  have e3 := D.e3
  have e4 := D.e4
  have e5 := D.e5
  have e6 := D.e6
  have e7 := D.e7
  have e8 := D.e8
  have hYl := D.hYl
  have hA := D.hA
  have ht := D.ht
  have b0 := D.h0
  have b1 := D.h1
  have b2 := D.h2
  have bu1 := D.hu1
  have bu0 := D.hu0
  have bu := D.hu
  have hn : ¬ y1 = 0 := by omega
  obtain ⟨q, hq⟩ : ∃ q, q = u / y1 := ⟨_, rfl⟩
  obtain ⟨p, hp⟩ : ∃ p, p = q * y1 := ⟨_, rfl⟩
  obtain ⟨r, hr⟩ : ∃ r, r = u - p := ⟨_, rfl⟩
  obtain ⟨hpu, hK⟩ := ExactM.ki_start u u1 y1 y0 Y q p r D.hY D.h0 D.h1 D.h2 D.hu D.hu1 hq hp hr
  have e9 : (u : Int) / (y1 : Int) = (q : Int) := by rw [hq]; simp
  have e10 : (q : Int) * (y1 : Int) = (p : Int) := by rw [hp]; simp
  have e11 : (u : Int) - (p : Int) = (r : Int) := by omega
  have hql : q ≤ 4294967297 := hK.2.1
  have HK := Lib.hid hK
  clear hq hp hr hK
  go_enter Try.func50, Try.ntmps50
  go_upto_block 0 with ((go_at_call 58; refine (hl _).mono ?_; rintro e w' ⟨rfl, rfl⟩))
  clear eY e1 e2 e3 e4 e5 e6 e7 e8 e9 e10 e11
  go_cut [15] (fun x wx => ∃ q : Nat, x = .int .u64 q ∧ ExactM.KE u u1 Y q ∧ w = wx)
  case first =>
    go_wp2_with fail
    go_loop [15, 16] (fun x z => ∃ q r : Nat, x = .int .u64 q ∧ z = .int .u64 r ∧ ExactM.KI u u1 y1 y0 q r) (fun x _ => (intOf x).toNat)
    case atStart => exact ⟨q, r, rfl, rfl, HK.out⟩
    case round =>
      clear HK hql hpu
      obtain ⟨q, r, rfl, rfl, hK⟩ := hrel
      have hql := hK.2.1
      have hrl := hK.2.2.1
      obtain ⟨p, hp⟩ : ∃ p, p = q * y0 := ⟨_, rfl⟩
      have HP := Lib.hid hp
      have HK := Lib.hid hK
      clear hK
      by_cases hq : 4294967296 ≤ q
      · have hd1 : decide ((4294967296 : Int) ≤ (q : Int)) = true := by simp; omega
        have hc : 4294967296 ≤ q ∨ 4294967296 * r + u1 < p := .inl hq
        clear hp
        obtain ⟨m1, m2, m3⟩ := ExactM.ki_more u u1 y1 y0 Y q r p D.hY bu bu1 HP.out HK.out hc
        have HM2 := Lib.hid m2
        have HM3 := Lib.hid m3
        have eq1 : (q : Int) - 1 = ((q - 1 : Nat) : Int) := by omega
        by_cases hb : 4294967296 ≤ r + y1
        · have hdb : decide ((4294967296 : Int) ≤ (r : Int) + (y1 : Int)) = true := by simp; omega
          have hE := Lib.hid (ExactM.ki_break u u1 y1 y0 Y q r D.hY b0 HM2.out hql HM3.out hb)
          clear m2 m3 hc
          go_wp2_with fail
          go_meet
          exact ⟨q - 1, rfl, hE.out, rfl⟩
        · have hdb : decide ((4294967296 : Int) ≤ (r : Int) + (y1 : Int)) = false := by simp; omega
          have hE := Lib.hid (ExactM.ki_on u u1 y1 y0 Y q r D.hY HM2.out hql HM3.out (by omega))
          clear m2 m3 hc
          go_wp2_with fail
          go_round
          case rel => exact ⟨q - 1, r + y1, rfl, by go_num, hE.out⟩
          case measure => simp [intOf]; omega
      · have hd1 : decide ((4294967296 : Int) ≤ (q : Int)) = false := by simp; omega
        have e10 : (q : Int) * (y0 : Int) = (p : Int) := by rw [hp]; simp
        have hpl : p ≤ 18446744073709551615 := by
          rw [hp]
          have := Nat.mul_le_mul (show q ≤ 4294967295 by omega) (show y0 ≤ 4294967295 by omega)
          omega
        clear hp
        by_cases hcc : 4294967296 * r + u1 < p
        · have hd2 : decide ((4294967296 : Int) * (r : Int) + (u1 : Int) < (p : Int)) = true := by simp; omega
          have hc : 4294967296 ≤ q ∨ 4294967296 * r + u1 < p := .inr hcc
          obtain ⟨m1, m2, m3⟩ := ExactM.ki_more u u1 y1 y0 Y q r p D.hY bu bu1 HP.out HK.out hc
          have HM2 := Lib.hid m2
          have HM3 := Lib.hid m3
          have eq1 : (q : Int) - 1 = ((q - 1 : Nat) : Int) := by omega
          by_cases hb : 4294967296 ≤ r + y1
          · have hdb : decide ((4294967296 : Int) ≤ (r : Int) + (y1 : Int)) = true := by simp; omega
            have hE := Lib.hid (ExactM.ki_break u u1 y1 y0 Y q r D.hY b0 HM2.out hql HM3.out hb)
            clear m2 m3 hc
            go_wp2_with fail
            go_meet
            exact ⟨q - 1, rfl, hE.out, rfl⟩
          · have hdb : decide ((4294967296 : Int) ≤ (r : Int) + (y1 : Int)) = false := by simp; omega
            have hE := Lib.hid (ExactM.ki_on u u1 y1 y0 Y q r D.hY HM2.out hql HM3.out (by omega))
            clear m2 m3 hc
            go_wp2_with fail
            go_round
            case rel => exact ⟨q - 1, r + y1, rfl, by go_num, hE.out⟩
            case measure => simp [intOf]; omega
        · have hd2 : decide ((4294967296 : Int) * (r : Int) + (u1 : Int) < (p : Int)) = false := by simp; omega
          have hE := Lib.hid (ExactM.ki_end u u1 y1 y0 Y q r p D.hY HP.out HK.out hcc)
          go_wp2_with fail
          go_meet
          exact ⟨q, rfl, hE.out, rfl⟩
  case rest =>
    clear HK hql hpu
    obtain ⟨q1, rfl, hE1, rfl⟩ := hcut
    obtain ⟨t1l, t1le⟩ := ExactM.ke_rest hE1
    have hq1 := ExactM.ke_small hE1 bu bu1
    obtain ⟨p1, hp1⟩ : ∃ p1, p1 = q1 * Y := ⟨_, rfl⟩
    rw [← hp1] at t1l t1le
    obtain ⟨t1, ht1⟩ : ∃ t1, t1 = u * 4294967296 + u1 - p1 := ⟨_, rfl⟩
    have bt1 : t1 < Y := by omega
    have f1 := left_wrap u u1 q1 Y p1 t1 hE1 hp1 ht1 (by omega)
    obtain ⟨q, hq⟩ : ∃ q, q = t1 / y1 := ⟨_, rfl⟩
    obtain ⟨p, hp⟩ : ∃ p, p = q * y1 := ⟨_, rfl⟩
    obtain ⟨r, hr⟩ : ∃ r, r = t1 - p := ⟨_, rfl⟩
    obtain ⟨hpu, hK⟩ := ExactM.ki_start t1 u0 y1 y0 Y q p r D.hY D.h0 D.h1 D.h2 bt1 D.hu0 hq hp hr
    have e9 : (t1 : Int) / (y1 : Int) = (q : Int) := by rw [hq]; simp
    have e10 : (q : Int) * (y1 : Int) = (p : Int) := by rw [hp]; simp
    have e11 : (t1 : Int) - (p : Int) = (r : Int) := by omega
    have hql : q ≤ 4294967297 := hK.2.1
    have HK := Lib.hid hK
    have HE1 := Lib.hid hE1
    have HT1 : Hid (t1 = u * 4294967296 + u1 - q1 * Y) := Lib.hid (by rw [ht1, hp1])
    clear hq hp hr hK hE1 hp1 ht1 t1l t1le
    go_upto_block 2 with fail
    clear f1 e9 e10 e11
    go_cut [18] (fun x wx => ∃ q : Nat, x = .int .u64 q ∧ ExactM.KE t1 u0 Y q ∧ w = wx)
    case first =>
      go_wp2_with fail
      go_loop [18, 16] (fun x z => ∃ q r : Nat, x = .int .u64 q ∧ z = .int .u64 r ∧ ExactM.KI t1 u0 y1 y0 q r) (fun x _ => (intOf x).toNat)
      case atStart => exact ⟨q, r, rfl, rfl, HK.out⟩
      case round =>
        clear HK hql hpu
        obtain ⟨q, r, rfl, rfl, hK⟩ := hrel
        have hql := hK.2.1
        have hrl := hK.2.2.1
        obtain ⟨p, hp⟩ : ∃ p, p = q * y0 := ⟨_, rfl⟩
        have HP := Lib.hid hp
        have HK := Lib.hid hK
        clear hK
        by_cases hq : 4294967296 ≤ q
        · have hd1 : decide ((4294967296 : Int) ≤ (q : Int)) = true := by simp; omega
          have hc : 4294967296 ≤ q ∨ 4294967296 * r + u0 < p := .inl hq
          clear hp
          obtain ⟨m1, m2, m3⟩ := ExactM.ki_more t1 u0 y1 y0 Y q r p D.hY bt1 bu0 HP.out HK.out hc
          have HM2 := Lib.hid m2
          have HM3 := Lib.hid m3
          have eq1 : (q : Int) - 1 = ((q - 1 : Nat) : Int) := by omega
          by_cases hb : 4294967296 ≤ r + y1
          · have hdb : decide ((4294967296 : Int) ≤ (r : Int) + (y1 : Int)) = true := by simp; omega
            have hE := Lib.hid (ExactM.ki_break t1 u0 y1 y0 Y q r D.hY b0 HM2.out hql HM3.out hb)
            clear m2 m3 hc
            go_wp2_with fail
            go_meet
            exact ⟨q - 1, rfl, hE.out, rfl⟩
          · have hdb : decide ((4294967296 : Int) ≤ (r : Int) + (y1 : Int)) = false := by simp; omega
            have hE := Lib.hid (ExactM.ki_on t1 u0 y1 y0 Y q r D.hY HM2.out hql HM3.out (by omega))
            clear m2 m3 hc
            go_wp2_with fail
            go_round
            case rel => exact ⟨q - 1, r + y1, rfl, by go_num, hE.out⟩
            case measure => simp [intOf]; omega
        · have hd1 : decide ((4294967296 : Int) ≤ (q : Int)) = false := by simp; omega
          have e10 : (q : Int) * (y0 : Int) = (p : Int) := by rw [hp]; simp
          have hpl : p ≤ 18446744073709551615 := by
            rw [hp]
            have := Nat.mul_le_mul (show q ≤ 4294967295 by omega) (show y0 ≤ 4294967295 by omega)
            omega
          clear hp
          by_cases hcc : 4294967296 * r + u0 < p
          · have hd2 : decide ((4294967296 : Int) * (r : Int) + (u0 : Int) < (p : Int)) = true := by simp; omega
            have hc : 4294967296 ≤ q ∨ 4294967296 * r + u0 < p := .inr hcc
            obtain ⟨m1, m2, m3⟩ := ExactM.ki_more t1 u0 y1 y0 Y q r p D.hY bt1 bu0 HP.out HK.out hc
            have HM2 := Lib.hid m2
            have HM3 := Lib.hid m3
            have eq1 : (q : Int) - 1 = ((q - 1 : Nat) : Int) := by omega
            by_cases hb : 4294967296 ≤ r + y1
            · have hdb : decide ((4294967296 : Int) ≤ (r : Int) + (y1 : Int)) = true := by simp; omega
              have hE := Lib.hid (ExactM.ki_break t1 u0 y1 y0 Y q r D.hY b0 HM2.out hql HM3.out hb)
              clear m2 m3 hc
              go_wp2_with fail
              go_meet
              exact ⟨q - 1, rfl, hE.out, rfl⟩
            · have hdb : decide ((4294967296 : Int) ≤ (r : Int) + (y1 : Int)) = false := by simp; omega
              have hE := Lib.hid (ExactM.ki_on t1 u0 y1 y0 Y q r D.hY HM2.out hql HM3.out (by omega))
              clear m2 m3 hc
              go_wp2_with fail
              go_round
              case rel => exact ⟨q - 1, r + y1, rfl, by go_num, hE.out⟩
              case measure => simp [intOf]; omega
          · have hd2 : decide ((4294967296 : Int) * (r : Int) + (u0 : Int) < (p : Int)) = false := by simp; omega
            have hE := Lib.hid (ExactM.ki_end t1 u0 y1 y0 Y q r p D.hY HP.out HK.out hcc)
            go_wp2_with fail
            go_meet
            exact ⟨q, rfl, hE.out, rfl⟩
    case rest =>
      clear HK hql hpu
      obtain ⟨q0, rfl, hE0, rfl⟩ := hcut
      obtain ⟨t0l, t0le⟩ := ExactM.ke_rest hE0
      have hq0 := ExactM.ke_small hE0 bt1 bu0
      obtain ⟨p0, hp0⟩ : ∃ p0, p0 = q0 * Y := ⟨_, rfl⟩
      rw [← hp0] at t0l t0le
      obtain ⟨r0, hr0⟩ : ∃ r0, r0 = t1 * 4294967296 + u0 - p0 := ⟨_, rfl⟩
      have br0 : r0 < Y := by omega
      have f1 := left_wrap t1 u0 q0 Y p0 r0 hE0 hp0 hr0 (by omega)
      obtain ⟨g1, g2⟩ := d64_end (r0 := r0) D HE1.out HT1.out hE0 (by rw [hr0, hp0])
      have G1 := Lib.hid g1
      have G2 := Lib.hid g2
      have e12 : (r0 : Int) / 2 ^ s = ((r0 / 2 ^ s : Nat) : Int) := by simp
      obtain ⟨R, hR⟩ : ∃ R, R = r0 / 2 ^ s := ⟨_, rfl⟩
      rw [← hR] at e12
      have HR := Lib.hid hR
      clear g1 g2 hE0 hp0 hr0 t0l t0le hR
      go_wp2_with fail
      go_ret2
      refine ⟨?_, 0, rfl⟩
      rw [← G1.out, ← G2.out, ← HR.out]
      first | rfl | (congr 5; omega) | trace_state
theorem div64_any (hi lo y : Nat) (w : World) (hhi : hi < y) (hy : y < 18446744073709551616) (hlo : lo < 18446744073709551616) :
    Calls Try.prog 50 #[.int .u64 hi, .int .u64 lo, .int .u64 y] w fun e w' => e = .returned (.tuple #[.int .u64 (((hi * 18446744073709551616 + lo) / y : Nat) : Int), .int .u64 (((hi * 18446744073709551616 + lo) % y : Nat) : Int)]) ∧ ∃ m, w' = w.drewN m := by
  by_cases h : hi = 0
  · subst h
    rw [Nat.zero_mul, Nat.zero_add]
    exact div64_small lo y w hhi hy hlo
  · exact div64_big hi lo y w (by omega) hhi hy hlo
set_option maxHeartbeats 400000 in
set_option maxRecDepth 100000 in
theorem rem64_any (hi lo y : Nat) (w : World) (h0 : 0 < y) (hy : y < 18446744073709551616) (hlo : lo < 18446744073709551616) (hhi : hi < 18446744073709551616) :
    Calls Try.prog 49 #[.int .u64 hi, .int .u64 lo, .int .u64 y] w fun e w' => e = .returned (.int .u64 (((hi * 18446744073709551616 + lo) % y : Nat) : Int)) ∧ ∃ m, w' = w.drewN m := by
  have hm := Nat.mod_lt hi h0
  have e1 : (hi : Int) % (y : Int) = ((hi % y : Nat) : Int) := by simp
  obtain ⟨m, hM⟩ : ∃ m, m = hi % y := ⟨_, rfl⟩
  obtain ⟨r, hR⟩ : ∃ r, r = (hi * 18446744073709551616 + lo) % y := ⟨_, rfl⟩
  have hD : ∃ q : Nat, ∀ w, Calls Try.prog 50 #[.int .u64 m, .int .u64 lo, .int .u64 y] w fun e w' => e = .returned (.tuple #[.int .u64 (q : Int), .int .u64 (r : Int)]) ∧ ∃ m, w' = w.drewN m := by
    refine ⟨(m * 18446744073709551616 + lo) / y, fun w => ?_⟩
    have h := div64_any m lo y w (by omega) hy hlo
    have e : (m * 18446744073709551616 + lo) % y = r := by
      rw [hR, hM, Nat.add_mod, Nat.mul_mod, Nat.mod_mod, ← Nat.mul_mod, ← Nat.add_mod]
    rw [e] at h
    exact h
  obtain ⟨q, hD⟩ := hD
  rw [← hM] at e1
  rw [← hR]
  clear hR hM hm
  have d0 : ¬ y = 0 := by omega
  go_enter Try.func49, Try.ntmps49
  go_wp2_with fail
  refine (hD _).mono ?_
  rintro e w' ⟨rfl, k, rfl⟩
  go_wp2
  go_ret
  exact ⟨rfl, k, rfl⟩
end Go.Proofs.Ytneofgaklofigaa

/- exact's wide numbers: divided, what is left; a sum with signs; back to a number; Add, Mul. -/
namespace Go.Proofs.Ytneofgaklofigaa
open Go.RowKit

/-- two words by one, word by word -/
theorem over_words (n d : Nat) (hd : 0 < d) : (n / 18446744073709551616 % d * 18446744073709551616 + n % 18446744073709551616) / d = n / d % 18446744073709551616 ∧ n / 18446744073709551616 / d = n / d / 18446744073709551616 ∧ n / 18446744073709551616 % d < d := by
  have hl := Nat.mod_lt (n / 18446744073709551616) hd
  refine ⟨?_, by rw [Nat.div_div_eq_div_mul, Nat.div_div_eq_div_mul, Nat.mul_comm], hl⟩
  have h1 := Nat.div_add_mod n 18446744073709551616
  have h2 := Nat.div_add_mod (n / 18446744073709551616) d
  have hll := Nat.mod_lt n (show 0 < 18446744073709551616 by decide)
  obtain ⟨h, eh⟩ : ∃ h, h = n / 18446744073709551616 := ⟨_, rfl⟩
  obtain ⟨l, el⟩ : ∃ l, l = n % 18446744073709551616 := ⟨_, rfl⟩
  rw [← eh] at hl h2
  rw [← eh, ← el] at h1 ⊢
  rw [← el] at hll
  obtain ⟨q, eq⟩ : ∃ q, q = h / d := ⟨_, rfl⟩
  obtain ⟨r, er⟩ : ∃ r, r = h % d := ⟨_, rfl⟩
  rw [← er] at hl ⊢
  rw [← er, ← eq] at h2
  have e : n = (r * 18446744073709551616 + l) + d * (q * 18446744073709551616) := by rw [← h1, ← h2]; grind
  rw [e, Nat.add_mul_div_left _ _ hd, Nat.add_mul_mod_self_right]
  symm
  apply Nat.mod_eq_of_lt
  apply Nat.div_lt_of_lt_mul
  have : (r + 1) * 18446744073709551616 ≤ d * 18446744073709551616 := Nat.mul_le_mul_right _ (by omega)
  omega
set_option maxHeartbeats 1000000 in
set_option maxRecDepth 100000 in
theorem wover_any (n d : Nat) (w : World) (hd : 0 < d) (hd6 : d < 18446744073709551616) (hn : n < 340282366920938463463374607431768211456) :
    Calls Try.prog 35 #[wv n, .int .u64 d] w fun e w' => e = .returned (wv (n / d)) ∧ Below w.heap.size w w' := by
  obtain ⟨o1, o2, o3⟩ := over_words n d hd
  unfold wv
  rw [← o1, ← o2]
  obtain ⟨h, eh⟩ : ∃ h, h = n / 18446744073709551616 := ⟨_, rfl⟩
  obtain ⟨l, el⟩ : ∃ l, l = n % 18446744073709551616 := ⟨_, rfl⟩
  have hh : h < 18446744073709551616 := by omega
  have hl : l < 18446744073709551616 := by omega
  rw [← eh] at o3
  rw [← eh, ← el]
  obtain ⟨m, em⟩ : ∃ m, m = h % d := ⟨_, rfl⟩
  obtain ⟨t, et⟩ : ∃ t, t = h / d := ⟨_, rfl⟩
  have htl : t ≤ h := by rw [et]; exact Nat.div_le_self _ _
  rw [← em] at o3
  rw [← em, ← et]
  obtain ⟨q, hq⟩ : ∃ q, q = (m * 18446744073709551616 + l) / d := ⟨_, rfl⟩
  obtain ⟨r, hr⟩ : ∃ r, r = (m * 18446744073709551616 + l) % d := ⟨_, rfl⟩
  have hD := fun w => div64_any m l d w o3 hd6 hl
  rw [← hq, ← hr] at hD
  rw [← hq]
  have e1 : (h : Int) % (d : Int) = (m : Int) := by rw [em]; simp
  have e2 : (h : Int) / (d : Int) = (t : Int) := by rw [et]; simp
  have d0 : ¬ d = 0 := by omega
  have d1 : ((d : Int) == 0) = false := by simp; omega
  clear o1 o2 eh el em et hq hr hn
  go_enter Try.func35, Try.ntmps35
  go_wp2
  go_quiet ((go_at_call 50; exact Calls.quiet_of (hD _)))
  go_wp2
  exact bodyPost_ret (v := .agg #[.int .u64 (t : Int), .int .u64 (q : Int)]) (by simp [results, Try.results35, go_sem]) rfl ⟨rfl, ((((bl2 _ _ _).trans ((drewN_below _ _).mono (by simp; omega))).setCell (by simp) _).setCell (by simp) _)⟩
set_option maxHeartbeats 1000000 in
set_option maxRecDepth 100000 in
theorem wrest_any (n d : Nat) (w : World) (hd : 0 < d) (hd6 : d < 18446744073709551616) (hn : n < 340282366920938463463374607431768211456) :
    Calls Try.prog 33 #[wv n, .int .u64 d] w fun e w' => e = .returned (.int .u64 ((n % d : Nat) : Int)) ∧ Below w.heap.size w w' := by
  have h1 := Nat.div_add_mod' n 18446744073709551616
  have hD := fun w => rem64_any (n / 18446744073709551616) (n % 18446744073709551616) d w hd hd6 (by omega) (by omega)
  rw [h1] at hD
  unfold wv
  obtain ⟨h, eh⟩ : ∃ h, h = n / 18446744073709551616 := ⟨_, rfl⟩
  obtain ⟨l, el⟩ : ∃ l, l = n % 18446744073709551616 := ⟨_, rfl⟩
  obtain ⟨r, er⟩ : ∃ r, r = n % d := ⟨_, rfl⟩
  rw [← eh, ← el, ← er] at hD
  rw [← eh, ← el, ← er]
  clear h1 eh el er hn
  go_enter Try.func33, Try.ntmps33
  go_wp2_with fail
  refine (hD _).mono ?_
  rintro e w' ⟨rfl, k, rfl⟩
  go_wp2
  go_ret
  exact ⟨rfl, (bl1 _ _).trans ((drewN_below _ _).mono (by simp))⟩

/-- a number of 64 bits with a sign, of a sign and a size -/
def numV (m : Bool) (n : Nat) : Int := if m then -(n : Int) else (n : Int)
def fitB (v : Int) : Bool := decide (-9223372036854775808 ≤ v) && decide (v ≤ 9223372036854775807)
def fitV (v : Int) : Int := if fitB v then v else 0
theorem fitB_true {v : Int} (h : I64n v) : fitB v = true := by unfold fitB; unfold I64n at h; simp; omega
theorem fitB_false {v : Int} (h : ¬ I64n v) : fitB v = false := by unfold fitB; unfold I64n at h; simp; omega
theorem fitV_true {v : Int} (h : I64n v) : fitV v = v := by unfold fitV; rw [fitB_true h]; rfl
theorem fitV_false {v : Int} (h : ¬ I64n v) : fitV v = 0 := by unfold fitV; rw [fitB_false h]; rfl
set_option maxHeartbeats 1000000 in
set_option maxRecDepth 100000 in
theorem number_neg (n : Nat) (w : World) (hn : n < 340282366920938463463374607431768211456) :
    Calls Try.prog 34 #[.bool true, wv n] w fun e w' => e = .returned (.tuple #[.int .i64 (fitV (-(n : Int))), .bool (fitB (-(n : Int)))]) ∧ Below w.heap.size w w' := by
  have hO := fun w => order_any n 9223372036854775808 w
  have hwM : wv 9223372036854775808 = .agg #[.int .u64 0, .int .u64 9223372036854775808] := rfl
  rw [hwM] at hO
  obtain ⟨c, ec⟩ : ∃ c, c = cmpI n (9223372036854775808 : Nat) := ⟨_, rfl⟩
  rw [← ec] at hO
  unfold wv at hO ⊢
  obtain ⟨h, eh⟩ : ∃ h, h = n / 18446744073709551616 := ⟨_, rfl⟩
  obtain ⟨l, el⟩ : ∃ l, l = n % 18446744073709551616 := ⟨_, rfl⟩
  rw [← eh, ← el] at hO ⊢
  have hl : l < 18446744073709551616 := by omega
  by_cases hc : n ≤ 9223372036854775808
  · have hd : decide ((0 : Int) < c) = false := by rw [ec]; unfold cmpI; (repeat' split) <;> first | rfl | (exfalso; omega)
    have hfit : I64n (-(n : Int)) := by unfold I64n; omega
    have hln : l = n := by omega
    rw [fitV_true hfit, fitB_true hfit]
    subst hln
    have e64 : wrap64 (IntKind.u64.wrap (-(l : Int))) = -(l : Int) := by rw [IntKind.wrap_u64]; unfold wrap64; omega
    clear ec eh el hfit hn hwM
    go_enter Try.func34, Try.ntmps34
    go_wp2_with fail
    refine (hO _).mono ?_
    rintro e w1 ⟨rfl, hb⟩
    have c1 : w1.cell? ⟨w.heap.size, 1, none⟩ = some (.int .u64 (l : Int)) := by rw [hb.cell (p := ⟨w.heap.size, 1, none⟩) (by simp)]; simp [go_sem]
    go_wp2
    go_ret2
    exact ⟨by show Ending.returned (.tuple #[.int .i64 (wrap64 (IntKind.u64.wrap (-(l : Int)))), .bool true]) = _; rw [e64], (bl1 _ _).trans (hb.mono (by simp))⟩
  · have hd : decide ((0 : Int) < c) = true := by rw [ec]; unfold cmpI; (repeat' split) <;> first | rfl | (exfalso; omega)
    have hfit : ¬ I64n (-(n : Int)) := by unfold I64n; omega
    rw [fitV_false hfit, fitB_false hfit]
    clear ec eh el hfit hn hwM
    go_enter Try.func34, Try.ntmps34
    go_wp2_with fail
    refine (hO _).mono ?_
    rintro e w1 ⟨rfl, hb⟩
    go_wp2
    go_ret2
    exact ⟨rfl, (bl1 _ _).trans (hb.mono (by simp))⟩
set_option maxHeartbeats 1000000 in
set_option maxRecDepth 100000 in
theorem number_pos (n : Nat) (w : World) (hn : n < 340282366920938463463374607431768211456) :
    Calls Try.prog 34 #[.bool false, wv n] w fun e w' => e = .returned (.tuple #[.int .i64 (fitV ((n : Int))), .bool (fitB ((n : Int)))]) ∧ Below w.heap.size w w' := by
  have hO := fun w => order_any n 9223372036854775807 w
  have hwM : wv 9223372036854775807 = .agg #[.int .u64 0, .int .u64 9223372036854775807] := rfl
  rw [hwM] at hO
  obtain ⟨c, ec⟩ : ∃ c, c = cmpI n (9223372036854775807 : Nat) := ⟨_, rfl⟩
  rw [← ec] at hO
  unfold wv at hO ⊢
  obtain ⟨h, eh⟩ : ∃ h, h = n / 18446744073709551616 := ⟨_, rfl⟩
  obtain ⟨l, el⟩ : ∃ l, l = n % 18446744073709551616 := ⟨_, rfl⟩
  rw [← eh, ← el] at hO ⊢
  have hl : l < 18446744073709551616 := by omega
  by_cases hc : n ≤ 9223372036854775807
  · have hd : decide ((0 : Int) < c) = false := by rw [ec]; unfold cmpI; (repeat' split) <;> first | rfl | (exfalso; omega)
    have hfit : I64n ((n : Int)) := by unfold I64n; omega
    have hln : l = n := by omega
    rw [fitV_true hfit, fitB_true hfit]
    subst hln
    clear ec eh el hfit hn hwM
    go_enter Try.func34, Try.ntmps34
    go_wp2_with fail
    refine (hO _).mono ?_
    rintro e w1 ⟨rfl, hb⟩
    have c1 : w1.cell? ⟨w.heap.size, 1, none⟩ = some (.int .u64 (l : Int)) := by rw [hb.cell (p := ⟨w.heap.size, 1, none⟩) (by simp)]; simp [go_sem]
    go_wp2
    go_ret2
    exact ⟨rfl, (bl1 _ _).trans (hb.mono (by simp))⟩
  · have hd : decide ((0 : Int) < c) = true := by rw [ec]; unfold cmpI; (repeat' split) <;> first | rfl | (exfalso; omega)
    have hfit : ¬ I64n ((n : Int)) := by unfold I64n; omega
    rw [fitV_false hfit, fitB_false hfit]
    clear ec eh el hfit hn hwM
    go_enter Try.func34, Try.ntmps34
    go_wp2_with fail
    refine (hO _).mono ?_
    rintro e w1 ⟨rfl, hb⟩
    go_wp2
    go_ret2
    exact ⟨rfl, (bl1 _ _).trans (hb.mono (by simp))⟩
theorem number_any (m : Bool) (n : Nat) (w : World) (hn : n < 340282366920938463463374607431768211456) :
    Calls Try.prog 34 #[.bool m, wv n] w fun e w' => e = .returned (.tuple #[.int .i64 (fitV (numV m n)), .bool (fitB (numV m n))]) ∧ Below w.heap.size w w' := by
  cases m with
  | true => exact number_neg n w hn
  | false => exact number_pos n w hn
end Go.Proofs.Ytneofgaklofigaa

/- exact: a sum with signs; Add, Mul. -/
namespace Go.Proofs.Ytneofgaklofigaa
open Go.RowKit

def totS (a b : Bool) (x y : Nat) : Bool := if a = b then a else if x < y then b else a
def totN (a b : Bool) (x y : Nat) : Nat := if a = b then x + y else if x < y then y - x else x - y
theorem tot_is (a b : Bool) (x y : Nat) : numV (totS a b x y) (totN a b x y) = numV a x + numV b y := by
  unfold totS totN numV
  by_cases h : x < y <;> cases a <;> cases b <;> simp [h] <;> omega
theorem cell_pair {w : World} {g : Nat} {t : TypeId} {a b : Value} {k : Nat × Nat} (h : w.heap[g]? = some (.cells #[a, b] t k)) : w.cell? ⟨g, 0, none⟩ = some a ∧ w.cell? ⟨g, 1, none⟩ = some b :=
  ⟨cell_of_row w g 0 _ _ k h, cell_of_row w g 1 _ _ k h⟩
/-- four new blocks -/
theorem four (w : World) (a b c d : Obj) : ∃ W, W = (((w.alloc a).alloc b).alloc c).alloc d ∧ W.heap.size = w.heap.size + 4 ∧ Below w.heap.size w W ∧ W.heap[w.heap.size]? = some a ∧ W.heap[w.heap.size + 1]? = some b ∧ W.heap[w.heap.size + 2]? = some c ∧ W.heap[w.heap.size + 3]? = some d := by
  refine ⟨_, rfl, by simp, bl4 _ _ _ _ _, ?_, ?_, ?_, ?_⟩
  · rw [Below.heap_alloc _ _ _ (by simp; omega), Below.heap_alloc _ _ _ (by simp; omega), Below.heap_alloc _ _ _ (by simp)]; exact heap_alloc_new _ _
  · rw [Below.heap_alloc _ _ _ (by simp), Below.heap_alloc _ _ _ (by simp)]; have := heap_alloc_new (w.alloc a) b; simpa using this
  · rw [Below.heap_alloc _ _ _ (by simp)]; have := heap_alloc_new ((w.alloc a).alloc b) c; simpa using this
  · have := heap_alloc_new (((w.alloc a).alloc b).alloc c) d; simpa using this
set_option maxHeartbeats 1000000 in
set_option maxRecDepth 100000 in
theorem total_same (a : Bool) (x y : Nat) (w : World) (h : x + y < 340282366920938463463374607431768211456) :
    Calls Try.prog 32 #[.agg #[.bool a, .bool a], wv x, wv y] w fun e w' => e = .returned (.tuple #[.bool a, wv (x + y)]) ∧ Below w.heap.size w w' := by
  have hP := fun w => wplus_any x y w h
  unfold wv at hP ⊢
  obtain ⟨x1, ex1⟩ : ∃ h, h = x / 18446744073709551616 := ⟨_, rfl⟩
  obtain ⟨x0, ex0⟩ : ∃ h, h = x % 18446744073709551616 := ⟨_, rfl⟩
  obtain ⟨y1, ey1⟩ : ∃ h, h = y / 18446744073709551616 := ⟨_, rfl⟩
  obtain ⟨y0, ey0⟩ : ∃ h, h = y % 18446744073709551616 := ⟨_, rfl⟩
  obtain ⟨z1, ez1⟩ : ∃ h, h = (x + y) / 18446744073709551616 := ⟨_, rfl⟩
  obtain ⟨z0, ez0⟩ : ∃ h, h = (x + y) % 18446744073709551616 := ⟨_, rfl⟩
  rw [← ex1, ← ex0, ← ey1, ← ey0, ← ez1, ← ez0] at hP ⊢
  clear ex1 ex0 ey1 ey0 ez1 ez0 h
  go_enter Try.func32, Try.ntmps32
  go_wp2
  obtain ⟨W, hW, hsz, hbW, g0, g1, g2, g3⟩ := four w (.cells #[.bool a, .bool a] 76) (.cells #[.int .u64 (x1 : Int), .int .u64 (x0 : Int)] 68) (.cells #[.int .u64 (y1 : Int), .int .u64 (y0 : Int)] 68) (.cells #[.int .u64 0, .int .u64 0] 68)
  rw [← hW]
  obtain ⟨c0, c1⟩ := cell_pair g0
  obtain ⟨c2, c3⟩ := cell_pair g1
  obtain ⟨c4, c5⟩ := cell_pair g2
  clear hW
  have HZ := Lib.hid hsz
  have hsz' : w.heap.size + 4 ≤ W.heap.size := by omega
  clear hsz
  have HG := Lib.hid g3
  clear g0 g1 g2 g3
  go_region_with (go_at_call 47; refine (hP _).mono ?_; rintro e w1 ⟨rfl, hb⟩; have k0 := (hb.cell (p := ⟨w.heap.size, 0, none⟩) (by simp; omega)).trans c0; have kg : w1.heap[w.heap.size + 3]? = _ := (hb.block (w.heap.size + 3) (by simp; omega)).trans HG.out; obtain ⟨k1, k2⟩ := cell_pair kg; have k3 : w1.frozen? ⟨w.heap.size + 3, 0, none⟩ = false := (by simp [World.frozen?, kg]); have k4 : w1.frozen? ⟨w.heap.size + 3, 1, none⟩ = false := (by simp [World.frozen?, kg]); clear kg)
  all_goals
    go_wp2
    exact bodyPost_ret (v := .tuple #[.bool a, .agg #[.int .u64 (z1 : Int), .int .u64 (z0 : Int)]]) (by simp [results, Try.results32, go_sem, k1, k2]) rfl ⟨rfl, (((hbW.trans ((Below.refl _ W).drew)).trans (hb.mono (by simp; omega))).setCell (by simp; omega) _).setCell (by simp; omega) _⟩
end Go.Proofs.Ytneofgaklofigaa

/- exact: a sum of numbers with unlike signs; Add, Mul. -/
namespace Go.Proofs.Ytneofgaklofigaa
open Go.RowKit

set_option maxHeartbeats 1000000 in
set_option maxRecDepth 100000 in
theorem total_less (a b : Bool) (hab : a ≠ b) (x y : Nat) (w : World) (hle : x < y) (h : y < 340282366920938463463374607431768211456) :
    Calls Try.prog 32 #[.agg #[.bool a, .bool b], wv x, wv y] w fun e w' => e = .returned (.tuple #[.bool b, wv (y - x)]) ∧ Below w.heap.size w w' := by
  have hP := fun w => wminus_any y x w (by omega) h
  have hO := fun w => order_any x y w
  obtain ⟨c, ec⟩ : ∃ c, c = cmpI x y := ⟨_, rfl⟩
  rw [← ec] at hO
  have hd : decide (c < 0) = true := by rw [ec]; unfold cmpI; (repeat' split) <;> first | rfl | (exfalso; omega)
  have hd0 : (a == b) = false := by simpa using hab
  have hd1 : ¬ a = b := hab
  unfold wv at hP hO ⊢
  obtain ⟨x1, ex1⟩ : ∃ h, h = x / 18446744073709551616 := ⟨_, rfl⟩
  obtain ⟨x0, ex0⟩ : ∃ h, h = x % 18446744073709551616 := ⟨_, rfl⟩
  obtain ⟨y1, ey1⟩ : ∃ h, h = y / 18446744073709551616 := ⟨_, rfl⟩
  obtain ⟨y0, ey0⟩ : ∃ h, h = y % 18446744073709551616 := ⟨_, rfl⟩
  obtain ⟨z1, ez1⟩ : ∃ h, h = (y - x) / 18446744073709551616 := ⟨_, rfl⟩
  obtain ⟨z0, ez0⟩ : ∃ h, h = (y - x) % 18446744073709551616 := ⟨_, rfl⟩
  rw [← ex1, ← ex0, ← ey1, ← ey0, ← ez1, ← ez0] at hP ⊢
  rw [← ex1, ← ex0, ← ey1, ← ey0] at hO
  clear ex1 ex0 ey1 ey0 ez1 ez0 h hle ec hab
  go_enter Try.func32, Try.ntmps32
  go_wp2_with fail
  obtain ⟨W, hW, hsz, hbW, g0, g1, g2, g3⟩ := four w (.cells #[.bool a, .bool b] 76) (.cells #[.int .u64 (x1 : Int), .int .u64 (x0 : Int)] 68) (.cells #[.int .u64 (y1 : Int), .int .u64 (y0 : Int)] 68) (.cells #[.int .u64 0, .int .u64 0] 68)
  rw [← hW]
  refine (hO _).mono ?_
  rintro e V ⟨rfl, hV⟩
  have hsz' : w.heap.size + 4 ≤ V.heap.size := Nat.le_trans (by omega) hV.size
  have v0 := (hV.block w.heap.size (by omega)).trans g0
  have v1 := (hV.block (w.heap.size + 1) (by omega)).trans g1
  have v2 := (hV.block (w.heap.size + 2) (by omega)).trans g2
  have v3 := (hV.block (w.heap.size + 3) (by omega)).trans g3
  have hbV : Below w.heap.size w V := hbW.trans (hV.mono (by omega))
  clear hW g0 g1 g2 g3 hsz hV hbW
  obtain ⟨c0, c1⟩ := cell_pair v0
  obtain ⟨c2, c3⟩ := cell_pair v1
  obtain ⟨c4, c5⟩ := cell_pair v2
  have HG := Lib.hid v3
  clear v0 v1 v2 v3
  go_wp2
  go_region_with (go_at_call 48; refine (hP _).mono ?_; rintro e w1 ⟨rfl, hb⟩; have k0 := (hb.cell (p := ⟨w.heap.size, 1, none⟩) (by simp; omega)).trans c1; have kg : w1.heap[w.heap.size + 3]? = _ := (hb.block (w.heap.size + 3) (by simp; omega)).trans HG.out; obtain ⟨k1, k2⟩ := cell_pair kg; have k3 : w1.frozen? ⟨w.heap.size + 3, 0, none⟩ = false := (by simp [World.frozen?, kg]); have k4 : w1.frozen? ⟨w.heap.size + 3, 1, none⟩ = false := (by simp [World.frozen?, kg]); clear kg)
  all_goals
    go_wp2
    exact bodyPost_ret (v := .tuple #[.bool b, .agg #[.int .u64 (z1 : Int), .int .u64 (z0 : Int)]]) (by simp [results, Try.results32, go_sem, k1, k2]) rfl ⟨rfl, (((hbV.trans ((Below.refl _ V).drew)).trans (hb.mono (by simp; omega))).setCell (by simp; omega) _).setCell (by simp; omega) _⟩
set_option maxHeartbeats 1000000 in
set_option maxRecDepth 100000 in
theorem total_more (a b : Bool) (hab : a ≠ b) (x y : Nat) (w : World) (hle : y ≤ x) (h : x < 340282366920938463463374607431768211456) :
    Calls Try.prog 32 #[.agg #[.bool a, .bool b], wv x, wv y] w fun e w' => e = .returned (.tuple #[.bool a, wv (x - y)]) ∧ Below w.heap.size w w' := by
  have hP := fun w => wminus_any x y w hle h
  have hO := fun w => order_any x y w
  obtain ⟨c, ec⟩ : ∃ c, c = cmpI x y := ⟨_, rfl⟩
  rw [← ec] at hO
  have hd : decide (c < 0) = false := by rw [ec]; unfold cmpI; (repeat' split) <;> first | rfl | (exfalso; omega)
  have hd0 : (a == b) = false := by simpa using hab
  have hd1 : ¬ a = b := hab
  unfold wv at hP hO ⊢
  obtain ⟨x1, ex1⟩ : ∃ h, h = x / 18446744073709551616 := ⟨_, rfl⟩
  obtain ⟨x0, ex0⟩ : ∃ h, h = x % 18446744073709551616 := ⟨_, rfl⟩
  obtain ⟨y1, ey1⟩ : ∃ h, h = y / 18446744073709551616 := ⟨_, rfl⟩
  obtain ⟨y0, ey0⟩ : ∃ h, h = y % 18446744073709551616 := ⟨_, rfl⟩
  obtain ⟨z1, ez1⟩ : ∃ h, h = (x - y) / 18446744073709551616 := ⟨_, rfl⟩
  obtain ⟨z0, ez0⟩ : ∃ h, h = (x - y) % 18446744073709551616 := ⟨_, rfl⟩
  rw [← ex1, ← ex0, ← ey1, ← ey0, ← ez1, ← ez0] at hP ⊢
  rw [← ex1, ← ex0, ← ey1, ← ey0] at hO
  clear ex1 ex0 ey1 ey0 ez1 ez0 h hle ec hab
  go_enter Try.func32, Try.ntmps32
  go_wp2_with fail
  obtain ⟨W, hW, hsz, hbW, g0, g1, g2, g3⟩ := four w (.cells #[.bool a, .bool b] 76) (.cells #[.int .u64 (x1 : Int), .int .u64 (x0 : Int)] 68) (.cells #[.int .u64 (y1 : Int), .int .u64 (y0 : Int)] 68) (.cells #[.int .u64 0, .int .u64 0] 68)
  rw [← hW]
  refine (hO _).mono ?_
  rintro e V ⟨rfl, hV⟩
  have hsz' : w.heap.size + 4 ≤ V.heap.size := Nat.le_trans (by omega) hV.size
  have v0 := (hV.block w.heap.size (by omega)).trans g0
  have v1 := (hV.block (w.heap.size + 1) (by omega)).trans g1
  have v2 := (hV.block (w.heap.size + 2) (by omega)).trans g2
  have v3 := (hV.block (w.heap.size + 3) (by omega)).trans g3
  have hbV : Below w.heap.size w V := hbW.trans (hV.mono (by omega))
  clear hW g0 g1 g2 g3 hsz hV hbW
  obtain ⟨c0, c1⟩ := cell_pair v0
  obtain ⟨c2, c3⟩ := cell_pair v1
  obtain ⟨c4, c5⟩ := cell_pair v2
  have HG := Lib.hid v3
  clear v0 v1 v2 v3
  go_wp2
  go_region_with (go_at_call 48; refine (hP _).mono ?_; rintro e w1 ⟨rfl, hb⟩; have k0 := (hb.cell (p := ⟨w.heap.size, 0, none⟩) (by simp; omega)).trans c0; have kg : w1.heap[w.heap.size + 3]? = _ := (hb.block (w.heap.size + 3) (by simp; omega)).trans HG.out; obtain ⟨k1, k2⟩ := cell_pair kg; have k3 : w1.frozen? ⟨w.heap.size + 3, 0, none⟩ = false := (by simp [World.frozen?, kg]); have k4 : w1.frozen? ⟨w.heap.size + 3, 1, none⟩ = false := (by simp [World.frozen?, kg]); clear kg)
  all_goals
    go_wp2
    exact bodyPost_ret (v := .tuple #[.bool a, .agg #[.int .u64 (z1 : Int), .int .u64 (z0 : Int)]]) (by simp [results, Try.results32, go_sem, k1, k2]) rfl ⟨rfl, (((hbV.trans ((Below.refl _ V).drew)).trans (hb.mono (by simp; omega))).setCell (by simp; omega) _).setCell (by simp; omega) _⟩
theorem total_any (a b : Bool) (x y : Nat) (w : World) (h : x + y < 340282366920938463463374607431768211456) :
    Calls Try.prog 32 #[.agg #[.bool a, .bool b], wv x, wv y] w fun e w' => e = .returned (.tuple #[.bool (totS a b x y), wv (totN a b x y)]) ∧ Below w.heap.size w w' := by
  unfold totS totN
  by_cases hab : a = b
  · subst hab
    rw [if_pos rfl, if_pos rfl]
    exact total_same a x y w h
  · rw [if_neg hab, if_neg hab]
    by_cases hl : x < y
    · rw [if_pos hl, if_pos hl]
      exact total_less a b hab x y w hl (by omega)
    · rw [if_neg hl, if_neg hl]
      exact total_more a b hab x y w (by omega) (by omega)
end Go.Proofs.Ytneofgaklofigaa

/- Rationals of two whole numbers: lowest terms, sums, comparing; that comparing is an order. Plain numbers; nothing of the program. -/
namespace ExactM

def Rt (a : Int × Int) : Prop := 0 < a.2 ∧ Int.gcd a.1 a.2 = 1
/-- lowest terms of n / d -/
def low (n d : Int) : Int × Int := (n / (Int.gcd n d : Int), d / (Int.gcd n d : Int))
def cmp (a b : Int × Int) : Int := if a.1 * b.2 < b.1 * a.2 then -1 else if a.1 * b.2 = b.1 * a.2 then 0 else 1
def add (a b : Int × Int) : Int × Int := low (a.1 * b.2 + b.1 * a.2) (a.2 * b.2)

theorem gcd_pos {n d : Int} (h : 0 < d) : 0 < (Int.gcd n d : Int) := by
  have : 0 < Int.gcd n d := Int.gcd_pos_of_ne_zero_right n (by omega)
  omega
theorem low_num {n d : Int} : (Int.gcd n d : Int) * (low n d).1 = n := Int.mul_ediv_cancel' (Int.gcd_dvd_left ..)
theorem low_den {n d : Int} : (Int.gcd n d : Int) * (low n d).2 = d := Int.mul_ediv_cancel' (Int.gcd_dvd_right ..)
theorem low_rt {n d : Int} (h : 0 < d) : Rt (low n d) := by
  have hg := gcd_pos (n := n) h
  refine ⟨?_, ?_⟩
  · have := low_den (n := n) (d := d)
    rcases Int.lt_or_le 0 (low n d).2 with h1 | h1
    · exact h1
    · have := Int.mul_nonpos_of_nonneg_of_nonpos (Int.le_of_lt hg) h1
      omega
  · have : 0 < Int.gcd n d := by omega
    exact Int.gcd_ediv_gcd_ediv_gcd this

theorem cmp_turn (a b : Int × Int) : cmp a b = -cmp b a := by
  unfold cmp
  split <;> split <;> (try split) <;> (try split) <;> omega
theorem cmp_lt {a b : Int × Int} : cmp a b < 0 ↔ a.1 * b.2 < b.1 * a.2 := by
  unfold cmp
  split
  · exact ⟨fun _ => by assumption, fun _ => by omega⟩
  · split <;> omega
theorem cmp_eq {a b : Int × Int} : cmp a b = 0 ↔ a.1 * b.2 = b.1 * a.2 := by
  unfold cmp
  split
  · omega
  · split <;> omega
theorem den_dvd {a b : Int × Int} (ha : Rt a) (h : a.1 * b.2 = b.1 * a.2) : a.2 ∣ b.2 := by
  rw [← Int.natAbs_dvd_natAbs]
  have hc : Nat.Coprime a.2.natAbs a.1.natAbs := by
    have := ha.2
    rw [Int.gcd_eq_natAbs_gcd_natAbs] at this
    rw [Nat.coprime_comm]
    exact this
  refine hc.dvd_of_dvd_mul_left ?_
  rw [← Int.natAbs_mul, h, Int.natAbs_mul]
  exact Nat.dvd_mul_left _ _
/-- only the same ones are the same -/
theorem rt_same {a b : Int × Int} (ha : Rt a) (hb : Rt b) : cmp a b = 0 ↔ a = b := by
  rw [cmp_eq]
  constructor
  · intro h
    have d1 := den_dvd ha h
    have d2 := den_dvd hb h.symm
    have e2 : a.2 = b.2 := Int.dvd_antisymm (Int.le_of_lt ha.1) (Int.le_of_lt hb.1) d1 d2
    have e1 : a.1 = b.1 := by
      rw [← e2] at h
      exact Int.eq_of_mul_eq_mul_right (by have := ha.1; omega) h
    exact Prod.ext e1 e2
  · rintro rfl; rfl
/-- what is less than a less one is less -/
theorem cmp_trans {a b c : Int × Int} (ha : 0 < a.2) (hb : 0 < b.2) (hc : 0 < c.2) (h1 : cmp a b < 0) (h2 : cmp b c < 0) : cmp a c < 0 := by
  rw [cmp_lt] at *
  have k1 : a.1 * b.2 * c.2 < b.1 * a.2 * c.2 := Int.mul_lt_mul_of_pos_right h1 hc
  have k2 : b.1 * c.2 * a.2 < c.1 * b.2 * a.2 := Int.mul_lt_mul_of_pos_right h2 ha
  have e1 : b.1 * a.2 * c.2 = b.1 * c.2 * a.2 := by grind
  have k3 : a.1 * c.2 * b.2 < c.1 * a.2 * b.2 := by
    have e2 : a.1 * c.2 * b.2 = a.1 * b.2 * c.2 := by grind
    have e3 : c.1 * a.2 * b.2 = c.1 * b.2 * a.2 := by grind
    omega
  exact Int.lt_of_mul_lt_mul_right k3 (Int.le_of_lt hb)
/-- what both are multiplied by, above 0, plays no part -/
theorem cmp_scale {x y : Int} {p : Int} (hp : 0 < p) : (p * x < p * y ↔ x < y) ∧ (p * x = p * y ↔ x = y) :=
  ⟨⟨fun h => Int.lt_of_mul_lt_mul_left h (Int.le_of_lt hp), fun h => Int.mul_lt_mul_of_pos_left h hp⟩, ⟨fun h => Int.eq_of_mul_eq_mul_left (by omega) h, fun h => by rw [h]⟩⟩
theorem cmp_low {n1 d1 n2 d2 : Int} (h1 : 0 < d1) (h2 : 0 < d2) : cmp (low n1 d1) (low n2 d2) = cmp (n1, d1) (n2, d2) := by
  have g1 := gcd_pos (n := n1) h1
  have g2 := gcd_pos (n := n2) h2
  have a1 := low_num (n := n1) (d := d1)
  have a2 := low_den (n := n1) (d := d1)
  have b1 := low_num (n := n2) (d := d2)
  have b2 := low_den (n := n2) (d := d2)
  generalize (Int.gcd n1 d1 : Int) = g at *
  generalize (Int.gcd n2 d2 : Int) = k at *
  generalize (low n1 d1) = x at *
  generalize (low n2 d2) = y at *
  have hs := cmp_scale (x := x.1 * y.2) (y := y.1 * x.2) (p := g * k) (Int.mul_pos g1 g2)
  have e1 : n1 * d2 = g * k * (x.1 * y.2) := by rw [← a1, ← b2]; grind
  have e2 : n2 * d1 = g * k * (y.1 * x.2) := by rw [← a2, ← b1]; grind
  unfold cmp
  simp only [e1, e2, hs.1, hs.2]
/-- what is added leaves the order as it was -/
theorem cmp_add {a b c : Int × Int} (ha : 0 < a.2) (hb : 0 < b.2) (hc : 0 < c.2) : cmp (add a c) (add b c) = cmp a b := by
  unfold add
  rw [cmp_low (Int.mul_pos ha hc) (Int.mul_pos hb hc)]
  unfold cmp
  simp only
  have e : (a.1 * c.2 + c.1 * a.2) * (b.2 * c.2) - (b.1 * c.2 + c.1 * b.2) * (a.2 * c.2) = c.2 * c.2 * (a.1 * b.2 - b.1 * a.2) := by grind
  have hp := Int.mul_pos hc hc
  have hs := cmp_scale (x := a.1 * b.2 - b.1 * a.2) (y := 0) (p := c.2 * c.2) hp
  rw [Int.mul_zero, ← e] at hs
  have i1 : (a.1 * c.2 + c.1 * a.2) * (b.2 * c.2) < (b.1 * c.2 + c.1 * b.2) * (a.2 * c.2) ↔ a.1 * b.2 < b.1 * a.2 := by
    have := hs.1
    constructor
    · intro h; have := this.1 (by omega); omega
    · intro h; have := this.2 (by omega); omega
  have i2 : (a.1 * c.2 + c.1 * a.2) * (b.2 * c.2) = (b.1 * c.2 + c.1 * b.2) * (a.2 * c.2) ↔ a.1 * b.2 = b.1 * a.2 := by
    have := hs.2
    constructor
    · intro h; have := this.1 (by omega); omega
    · intro h; have := this.2 (by omega); omega
  simp only [i1, i2]
theorem add_turn (a b : Int × Int) : add a b = add b a := by
  unfold add
  rw [Int.add_comm, Int.mul_comm a.2 b.2]
theorem add_rt {a b : Int × Int} (ha : 0 < a.2) (hb : 0 < b.2) : Rt (add a b) := low_rt (Int.mul_pos ha hb)
end ExactM

/- Sums and products of rationals in lowest terms by the greatest common divisor of the lower numbers. Plain numbers; nothing of the program. -/
namespace ExactM

theorem natAbs_gcd (n d : Int) : Int.gcd n d = Nat.gcd n.natAbs d.natAbs := rfl
theorem nat_dvd {k : Nat} {z : Int} : (k : Int) ∣ z ↔ k ∣ z.natAbs := by
  rw [← Int.natAbs_dvd_natAbs, Int.natAbs_natCast]
/-- what both are multiplied by falls away -/
theorem low_scale (k n d : Int) (hk : 0 < k) : low (k * n) (k * d) = low n d := by
  unfold low
  have e : (Int.gcd (k * n) (k * d) : Int) = k * (Int.gcd n d : Int) := by
    rw [Int.gcd_mul_left, Int.natCast_mul]
    congr 1
    omega
  rw [e, Int.mul_ediv_mul_of_pos _ _ hk, Int.mul_ediv_mul_of_pos _ _ hk]
theorem cop_part (n1 n2 : Int) (d1 e1 e2 : Nat) (hr : Nat.gcd n1.natAbs d1 = 1) (hd : e1 ∣ d1) (hc : Nat.gcd e1 e2 = 1) : Nat.Coprime e1 (n1 * e2 + n2 * e1).natAbs := by
  have k1 : Nat.gcd e1 (n1 * e2 + n2 * e1).natAbs ∣ e1 := Nat.gcd_dvd_left _ _
  have k2 : Nat.gcd e1 (n1 * e2 + n2 * e1).natAbs ∣ (n1 * e2 + n2 * e1).natAbs := Nat.gcd_dvd_right _ _
  generalize hk : Nat.gcd e1 (n1 * e2 + n2 * e1).natAbs = k at *
  have k3 : (k : Int) ∣ n1 * e2 + n2 * e1 := nat_dvd.2 k2
  have k4 : (k : Int) ∣ n2 * e1 := Int.dvd_trans (Int.natCast_dvd_natCast.2 k1) (Int.dvd_mul_left _ _)
  have k5 : (k : Int) ∣ n1 * e2 := (Int.dvd_iff_dvd_of_dvd_add k3).2 k4
  have k6 : k ∣ n1.natAbs * e2 := by
    have := nat_dvd.1 k5
    rw [Int.natAbs_mul] at this
    simpa using this
  have k7 : Nat.Coprime k e2 := Nat.Coprime.coprime_dvd_left k1 hc
  have k8 : k ∣ n1.natAbs := k7.dvd_of_dvd_mul_right k6
  have k9 : k ∣ Nat.gcd n1.natAbs d1 := Nat.dvd_gcd k8 (Nat.dvd_trans k1 hd)
  rw [hr] at k9
  have : k = 1 := Nat.dvd_one.1 k9
  show Nat.gcd e1 (n1 * e2 + n2 * e1).natAbs = 1
  rw [hk]; exact this
/-- a sum's lowest terms -/
theorem sum_low (n1 n2 : Int) (d1 d2 g e1 e2 s : Nat) (h1 : 0 < d1) (r1 : Nat.gcd n1.natAbs d1 = 1) (r2 : Nat.gcd n2.natAbs d2 = 1) (hg : g = Nat.gcd d1 d2) (he1 : e1 = d1 / g) (he2 : e2 = d2 / g) (hs : s = Nat.gcd ((n1 * e2 + n2 * e1).natAbs % g) g) :
    low (n1 * d2 + n2 * d1) ((d1 : Int) * d2) = ((n1 * e2 + n2 * e1) / s, (e1 : Int) * ((d2 / s : Nat) : Int)) ∧ 0 < s ∧ 0 < g ∧ s ∣ (n1 * e2 + n2 * e1).natAbs ∧ s ≤ g := by
  have g0 : 0 < g := by rw [hg]; exact Nat.gcd_pos_of_pos_left _ h1
  have g1 : g ∣ d1 := by rw [hg]; exact Nat.gcd_dvd_left _ _
  have g2 : g ∣ d2 := by rw [hg]; exact Nat.gcd_dvd_right _ _
  have f1 : d1 = g * e1 := by rw [he1]; exact (Nat.mul_div_cancel' g1).symm
  have f2 : d2 = g * e2 := by rw [he2]; exact (Nat.mul_div_cancel' g2).symm
  have c12 : Nat.gcd e1 e2 = 1 := by rw [he1, he2, hg]; exact Nat.coprime_div_gcd_div_gcd (by rw [← hg]; exact g0)
  have hs' : s = Nat.gcd (n1 * e2 + n2 * e1).natAbs g := by rw [hs, ← Nat.gcd_rec, Nat.gcd_comm]
  have s0 : 0 < s := by rw [hs']; exact Nat.gcd_pos_of_pos_right _ g0
  have sT : s ∣ (n1 * e2 + n2 * e1).natAbs := by rw [hs']; exact Nat.gcd_dvd_left _ _
  have sg : s ∣ g := by rw [hs']; exact Nat.gcd_dvd_right _ _
  have p1 := cop_part n1 n2 d1 e1 e2 r1 (by rw [f1]; exact Nat.dvd_mul_left _ _) c12
  have p2 := cop_part n2 n1 d2 e2 e1 r2 (by rw [f2]; exact Nat.dvd_mul_left _ _) (by rw [Nat.gcd_comm]; exact c12)
  rw [Int.add_comm] at p2
  refine ⟨?_, s0, g0, sT, Nat.le_of_dvd g0 sg⟩
  have eN : n1 * d2 + n2 * d1 = (g : Int) * (n1 * e2 + n2 * e1) := by rw [f1, f2]; simp only [Int.natCast_mul]; grind
  have eD : (d1 : Int) * d2 = (g : Int) * ((e1 : Int) * d2) := by rw [f1]; simp only [Int.natCast_mul]; grind
  rw [eN, eD, low_scale _ _ _ (by omega)]
  have hgc : Int.gcd (n1 * e2 + n2 * e1) ((e1 : Int) * d2) = s := by
    rw [natAbs_gcd, Int.natAbs_mul, Int.natAbs_natCast, Int.natAbs_natCast, Nat.Coprime.gcd_mul_left_cancel_right _ p1, f2, Nat.mul_comm g, Nat.Coprime.gcd_mul_left_cancel_right _ p2]
    exact hs'.symm
  unfold low
  rw [hgc]
  refine Prod.ext rfl ?_
  show (e1 : Int) * d2 / s = _
  have sd : s ∣ d2 := Nat.dvd_trans sg g2
  rw [Int.mul_ediv_assoc _ (Int.natCast_dvd_natCast.2 sd)]
  simp
/-- a product's lowest terms -/
theorem times_low (n m : Int) (d g : Nat) (hd : 0 < d) (r : Nat.gcd n.natAbs d = 1) (hg : g = Nat.gcd m.natAbs d) : low (n * m) (d : Int) = (n * (m / (g : Int)), ((d / g : Nat) : Int)) ∧ 0 < g ∧ (g : Int) ∣ m ∧ g ∣ d := by
  have g0 : 0 < g := by rw [hg]; exact Nat.gcd_pos_of_pos_right _ hd
  have gm : (g : Int) ∣ m := nat_dvd.2 (by rw [hg]; exact Nat.gcd_dvd_left _ _)
  have gd : g ∣ d := by rw [hg]; exact Nat.gcd_dvd_right _ _
  refine ⟨?_, g0, gm, gd⟩
  have hgc : Int.gcd (n * m) (d : Int) = g := by
    rw [natAbs_gcd, Int.natAbs_mul, Int.natAbs_natCast, Nat.Coprime.gcd_mul_left_cancel _ r, hg]
  unfold low
  rw [hgc, Int.mul_ediv_assoc _ gm]
  simp
end ExactM
