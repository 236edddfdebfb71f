/- Own texts, merged (2 of 5). -/
import Derived.Deep.DeepCutAuto
import Derived.ChangeKeysEq
import Derived.Sort.Grow
import Derived.Deep.RegionHeld3
import Derived.RangeFuncCalls
import Derived.OrdersIn
import Derived.OwnWalkIn
import Derived.Laws.AppendOwnNone
import Derived.Laws.OwnMore
import Derived.BigRegion
import Derived.StillTailTactics
import Derived.Test.YtneofgaklofigaaMgO1

/- exact: Add, Mul, Right, Ratio. -/
namespace Go.Proofs.Ytneofgaklofigaa
open Go.RowKit

theorem abs_lt (a : Int) (h : I64n a) : a.natAbs ≤ 9223372036854775808 := by unfold I64n at h; omega
theorem mul_small (x y : Nat) (hx : x ≤ 9223372036854775808) (hy : y ≤ 9223372036854775808) : x * y < 340282366920938463463374607431768211456 :=
  Nat.lt_of_le_of_lt (Nat.mul_le_mul hx hy) (by decide)
theorem mul_sign (a b : Int) : numV (decide (a < 0) != decide (b < 0)) (a.natAbs * b.natAbs) = a * b := by
  unfold numV
  rw [Int.natCast_mul]
  by_cases h1 : a < 0 <;> by_cases h2 : b < 0
  · rw [show (a.natAbs : Int) = -a by omega, show (b.natAbs : Int) = -b by omega]; simp [h1, h2, Int.neg_mul, Int.mul_neg]
  · rw [show (a.natAbs : Int) = -a by omega, show (b.natAbs : Int) = b by omega]; simp [h1, h2, Int.neg_mul]
  · rw [show (a.natAbs : Int) = a by omega, show (b.natAbs : Int) = -b by omega]; simp [h1, h2, Int.mul_neg]
  · rw [show (a.natAbs : Int) = a by omega, show (b.natAbs : Int) = b by omega]; simp [h1, h2]
/-- a rational, as the program holds it -/
def rv (p : Int × Int) : Value := .agg #[.int .i64 p.1, .int .i64 p.2]
def rtB (p : Int × Int) : Bool := decide (0 < p.2) && (Nat.gcd p.1.natAbs p.2.natAbs == 1)
def R64 (p : Int × Int) : Prop := I64n p.1 ∧ I64n p.2
theorem rtB_iff (p : Int × Int) : rtB p = true ↔ ExactM.Rt p := by
  unfold rtB ExactM.Rt
  rw [ExactM.natAbs_gcd]
  simp
set_option maxHeartbeats 1000000 in
set_option maxRecDepth 100000 in
theorem right_any (p : Int × Int) (w : World) (h : R64 p) :
    Calls Try.prog 10 #[rv p] w fun e w' => e = .returned (.bool (rtB p)) ∧ Below w.heap.size w w' := by
  obtain ⟨n, d⟩ := p
  obtain ⟨h1, h2⟩ := h
  simp only at h1 h2
  have hrt : rtB (n, d) = (decide (0 < d) && (Nat.gcd n.natAbs d.natAbs == 1)) := rfl
  rw [hrt]
  clear hrt
  unfold rv
  simp only
  have l1 := abs_lt n h1
  by_cases h0 : 0 < d
  · have hd : decide ((0 : Int) < d) = true := decide_eq_true h0
    rw [hd]
    obtain ⟨D, hD⟩ : ∃ D : Nat, D = d.natAbs := ⟨_, rfl⟩
    have hDd : d = (D : Int) := by omega
    rw [← hD]
    clear hD
    subst hDd
    have hdN : decide (0 < D) = true := by simpa using h0
    have hD2 : D ≤ 9223372036854775807 := by unfold I64n at h2; omega
    have hS := fun w => (size_any n w h1).mono (R' := fun e w' => e = .returned (.int .u64 (n.natAbs : Int)) ∧ w' = w) (fun _ _ h => ⟨h.1, h.2.symm⟩)
    have hG := fun w => (divisor_any n.natAbs D w (by omega) (by omega)).mono (R' := fun e w' => e = .returned (.int .u64 (Nat.gcd n.natAbs D : Int)) ∧ w' = w) (fun _ _ h => ⟨h.1, h.2.symm⟩)
    obtain ⟨N, hN⟩ : ∃ N : Nat, N = n.natAbs := ⟨_, rfl⟩
    rw [← hN] at hS hG ⊢
    obtain ⟨g, hg⟩ : ∃ g, g = Nat.gcd N D := ⟨_, rfl⟩
    rw [← hg] at hG ⊢
    clear hN hg l1
    go_enter Try.func10, Try.ntmps10
    go_wp2
    go_quiet (first | (go_at_call 22; exact Calls.quiet_of_same (hS _)) | (go_at_call 21; exact Calls.quiet_of_same (hG _)))
    have hg1 : ((g : Int) == 1) = (g == 1) := by rw [Bool.eq_iff_iff]; simp; omega
    have HG1 := Lib.hid hg1
    clear hg1
    go_wp2
    go_ret
    exact ⟨by show Ending.returned (.bool ((g : Int) == 1)) = _; rw [HG1.out]; rfl, (bl1 _ _).trans ((drewN_below _ _).mono (by simp))⟩
  · have hd : decide ((0 : Int) < d) = false := decide_eq_false h0
    rw [hd]
    go_enter Try.func10, Try.ntmps10
    go_wp2
    go_quiet (fail)
    go_wp2
    go_ret
    exact ⟨rfl, (bl1 _ _).trans ((drewN_below _ _).mono (by simp))⟩

theorem cell_kept {X w1 : World} {p : Addr} {v : Value} (hb : Below X.heap.size X w1) (h : X.cell? p = some v) : w1.cell? p = some v := (hb.cell (World.block_lt_of_cell? X p h)).trans h
theorem keep2 {X w1 : World} {p1 p2 : Addr} {v1 v2 : Value} (hb : Below X.heap.size X w1) (h : X.cell? p1 = some v1 ∧ X.cell? p2 = some v2) : w1.cell? p1 = some v1 ∧ w1.cell? p2 = some v2 := ⟨cell_kept hb h.1, cell_kept hb h.2⟩
theorem keep4 {X w1 : World} {p1 p2 p3 p4 : Addr} {v1 v2 v3 v4 : Value} (hb : Below X.heap.size X w1) (h : X.cell? p1 = some v1 ∧ X.cell? p2 = some v2 ∧ X.cell? p3 = some v3 ∧ X.cell? p4 = some v4) : w1.cell? p1 = some v1 ∧ w1.cell? p2 = some v2 ∧ w1.cell? p3 = some v3 ∧ w1.cell? p4 = some v4 := ⟨cell_kept hb h.1, cell_kept hb h.2.1, cell_kept hb h.2.2.1, cell_kept hb h.2.2.2⟩
theorem div_fit (n g : Int) (hg : 0 < g) (h : I64n n) : I64n (n / g) := by
  have h1 := Int.natAbs_ediv_le_natAbs n g
  unfold I64n at h ⊢
  rcases Int.lt_or_le n 0 with h0 | h0
  · have := Int.ediv_neg_of_neg_of_pos h0 hg
    omega
  · have := Int.ediv_nonneg h0 (Int.le_of_lt hg)
    omega
/-- Ratio's answers -/
def ratV (n d : Int) : Int × Int := if 0 < d then ExactM.low n d else (0, 0)
def ratC (d : Int) : Int := if 0 < d then 0 else 1
set_option maxHeartbeats 1000000 in
set_option maxRecDepth 100000 in
theorem ratio_any (n d : Int) (w : World) (h1 : I64n n) (h2 : I64n d) :
    Calls Try.prog 15 #[.int .i64 n, .int .i64 d] w fun e w' => e = .returned (.tuple #[rv (ratV n d), .int .i64 (ratC d)]) ∧ Below w.heap.size w w' := by
  unfold ratV ratC
  by_cases h0 : 0 < d
  · rw [if_pos h0, if_pos h0]
    have hd : decide (d ≤ 0) = false := by simp; omega
    have l1 := abs_lt n h1
    obtain ⟨D, hDd⟩ : ∃ D : Nat, d = (D : Int) := ⟨d.toNat, by omega⟩
    subst hDd
    have hD2 : D ≤ 9223372036854775807 := by unfold I64n at h2; omega
    have hS := fun w => size_any n w h1
    have hG := fun w => divisor_any n.natAbs D w (by omega) (by omega)
    unfold rv ExactM.low
    simp only
    have eg : Int.gcd n D = Nat.gcd n.natAbs D := rfl
    rw [eg]
    obtain ⟨N, hN⟩ : ∃ N : Nat, N = n.natAbs := ⟨_, rfl⟩
    rw [← hN] at hS hG ⊢
    obtain ⟨g, hg⟩ : ∃ g, g = Nat.gcd N D := ⟨_, rfl⟩
    have hg0 : 0 < g := by rw [hg]; exact Nat.gcd_pos_of_pos_right _ (by omega)
    have gn : (g : Int) ∣ n := ExactM.nat_dvd.2 (by rw [hg, hN]; exact Nat.gcd_dvd_left _ _)
    have gd : (g : Int) ∣ (D : Int) := Int.natCast_dvd_natCast.2 (by rw [hg]; exact Nat.gcd_dvd_right _ _)
    have hgl : g ≤ D := by rw [hg]; exact Nat.le_of_dvd (by omega) (Nat.gcd_dvd_right _ _)
    rw [← hg] at hG ⊢
    have q1 : n.tdiv (g : Int) = n / (g : Int) := Int.tdiv_eq_ediv_of_dvd gn
    have q2 : (D : Int).tdiv (g : Int) = (D : Int) / (g : Int) := Int.tdiv_eq_ediv_of_dvd gd
    have b1 := div_fit n g (by omega) h1
    have b2 := div_fit D g (by omega) h2
    obtain ⟨x, hx⟩ : ∃ x, x = n / (g : Int) := ⟨_, rfl⟩
    obtain ⟨y, hy⟩ : ∃ y, y = (D : Int) / (g : Int) := ⟨_, rfl⟩
    rw [← hx] at q1 b1 ⊢
    rw [← hy] at q2 b2 ⊢
    have q3 : (D : Int) / (g : Int) = y := hy.symm
    clear hN hg l1 hx hy gn gd eg
    obtain ⟨b11, b12⟩ := b1
    obtain ⟨b21, b22⟩ := b2
    have gz : ¬ g = 0 := by omega
    have gi : ¬ (g : Int) = -1 := by omega
    go_enter Try.func15, Try.ntmps15
    go_wp2_with fail
    refine (hS _).mono ?_
    rintro e w' ⟨rfl, rfl⟩
    go_wp2_with fail
    refine (hG _).mono ?_
    rintro e w' ⟨rfl, rfl⟩
    have d0 : ((g : Int) == 0) = false := by simp; omega
    have wx : IntKind.i64.wrap x = x := by rw [IntKind.wrap_i64]; omega
    have wy : IntKind.i64.wrap y = y := by rw [IntKind.wrap_i64]; omega
    go_wp2
    go_region_with (fail)
    all_goals
      go_wp2
      exact bodyPost_ret (v := .tuple #[.agg #[.int .i64 x, .int .i64 y], .int .i64 0]) (by simp [results, Try.results15, go_sem]) rfl ⟨rfl, (bl1 _ _).drew⟩
  · rw [if_neg h0, if_neg h0]
    have hd : decide (d ≤ 0) = true := by simp; omega
    unfold rv
    go_enter Try.func15, Try.ntmps15
    go_wp2
    exact bodyPost_ret (v := .tuple #[.agg #[.int .i64 0, .int .i64 0], .int .i64 1]) (by simp [results, Try.results15, go_sem]) rfl ⟨rfl, bl1 _ _⟩
end Go.Proofs.Ytneofgaklofigaa

/- exact: Times. -/
namespace Go.Proofs.Ytneofgaklofigaa
open Go.RowKit

/-- the blocks that a call has made, as they stand in V -/
def Bks (w V : World) (l : List Obj) : Prop := Below w.heap.size w V ∧ ∀ i o, l[i]? = some o → V.heap[w.heap.size + i]? = some o
theorem Bks.later {w V V' : World} {l : List Obj} (h : Bks w V l) (hb : Below V.heap.size V V') : Bks w V' l :=
  ⟨h.1.trans (hb.mono h.1.size), fun i o hi => (hb.block _ (Array.getElem?_eq_some_iff.1 (h.2 i o hi)).1).trans (h.2 i o hi)⟩
theorem Bks.drew {w V : World} {l : List Obj} (h : Bks w V l) : Bks w V.drew l := ⟨h.1.drew, h.2⟩
theorem Bks.drewN {w V : World} {l : List Obj} (h : Bks w V l) (n : Nat) : Bks w (V.drewN n) l := h.later (drewN_below V n)
theorem Bks.pair {w V : World} {l : List Obj} (h : Bks w V l) (i : Nat) {a b : Value} {t : TypeId} (hi : l[i]? = some (.cells #[a, b] t (0, 0))) :
    (V.cell? ⟨w.heap.size + i, 0, none⟩ = some a ∧ V.cell? ⟨w.heap.size + i, 1, none⟩ = some b) ∧ (V.frozen? ⟨w.heap.size + i, 0, none⟩ = false ∧ V.frozen? ⟨w.heap.size + i, 1, none⟩ = false) ∧ w.heap.size + i < V.heap.size :=
  ⟨cell_pair (h.2 i _ hi), ⟨by simp [World.frozen?, h.2 i _ hi], by simp [World.frozen?, h.2 i _ hi]⟩, (Array.getElem?_eq_some_iff.1 (h.2 i _ hi)).1⟩
theorem bks2 (w : World) (a b : Obj) : ∃ V, V = (w.alloc a).alloc b ∧ Bks w V [a, b] := by
  refine ⟨_, rfl, bl2 w a b, fun i o hi => ?_⟩
  match i, hi with
  | 0, hi => simp at hi; subst hi; rw [Nat.add_zero, Below.heap_alloc _ _ _ (by simp)]; exact heap_alloc_new _ _
  | 1, hi => simp at hi; subst hi; have := heap_alloc_new (w.alloc a) b; simpa using this
theorem bks3 (w : World) (a b c : Obj) : ∃ V, V = ((w.alloc a).alloc b).alloc c ∧ Bks w V [a, b, c] := by
  refine ⟨_, rfl, bl3 w a b c, fun i o hi => ?_⟩
  match i, hi with
  | 0, hi => simp at hi; subst hi; rw [Nat.add_zero, Below.heap_alloc _ _ _ (by simp; omega), Below.heap_alloc _ _ _ (by simp)]; exact heap_alloc_new _ _
  | 1, hi => simp at hi; subst hi; rw [Below.heap_alloc _ _ _ (by simp)]; have := heap_alloc_new (w.alloc a) b; simpa using this
  | 2, hi => simp at hi; subst hi; have := heap_alloc_new ((w.alloc a).alloc b) c; simpa using this

/-- the right rational n / d, or none -/
def ansB (n d : Int) : Bool := fitB (ExactM.low n d).1 && fitB (ExactM.low n d).2
def ansV (n d : Int) : Int × Int := if ansB n d = true then ExactM.low n d else (0, 0)
def ansC (n d : Int) : Int := if ansB n d = true then 0 else 1
def timV (p : Int × Int) (m : Int) : Int × Int := if rtB p = true then ansV (p.1 * m) p.2 else (0, 0)
def timC (p : Int × Int) (m : Int) : Int := if rtB p = true then ansC (p.1 * m) p.2 else 2
def sumV (p q : Int × Int) : Int × Int := if (rtB p && rtB q) = true then ansV (p.1 * q.2 + q.1 * p.2) (p.2 * q.2) else (0, 0)
def sumC (p q : Int × Int) : Int := if (rtB p && rtB q) = true then ansC (p.1 * q.2 + q.1 * p.2) (p.2 * q.2) else 2

end Go.Proofs.Ytneofgaklofigaa

/- exact: Sum. -/
namespace Go.Proofs.Ytneofgaklofigaa
open Go.RowKit

theorem keepC {V X w1 : World} {p1 p2 : Addr} {v1 v2 : Value} (hb : Below X.heap.size X w1) (h : X.cell? p1 = some v1 ∧ X.cell? p2 = some v2 ∧ Below V.heap.size V X) : w1.cell? p1 = some v1 ∧ w1.cell? p2 = some v2 ∧ Below V.heap.size V w1 := ⟨cell_kept hb h.1, cell_kept hb h.2.1, h.2.2.trans (hb.mono h.2.2.size)⟩
theorem keepA {V X : World} {p1 p2 : Addr} {v1 v2 : Value} {o : Obj} (h : X.cell? p1 = some v1 ∧ X.cell? p2 = some v2 ∧ Below V.heap.size V X) : (X.alloc o).cell? p1 = some v1 ∧ (X.alloc o).cell? p2 = some v2 ∧ Below V.heap.size V (X.alloc o) := keepC (bl1 X o) h
theorem keepD {V : World} {p1 p2 : Addr} {v1 v2 : Value} (h1 : V.cell? p1 = some v1) (h2 : V.cell? p2 = some v2) : V.drew.cell? p1 = some v1 ∧ V.drew.cell? p2 = some v2 ∧ Below V.heap.size V V.drew := ⟨h1, h2, (Below.refl _ _).drew⟩

theorem keepSt {U X : World} {g : Nat} {p1 p2 : Addr} {v1 v2 a b : Value} (h : Below U.heap.size U X) (hg : U.heap.size ≤ g) (h1 : U.cell? p1 = some v1) (h2 : U.cell? p2 = some v2) :
    ((X.setCell ⟨g, 0, none⟩ a).setCell ⟨g, 1, none⟩ b).cell? p1 = some v1 ∧ ((X.setCell ⟨g, 0, none⟩ a).setCell ⟨g, 1, none⟩ b).cell? p2 = some v2 ∧ Below U.heap.size U ((X.setCell ⟨g, 0, none⟩ a).setCell ⟨g, 1, none⟩ b) := by
  have hb : Below U.heap.size U ((X.setCell ⟨g, 0, none⟩ a).setCell ⟨g, 1, none⟩ b) := (h.setCell hg _).setCell hg _
  exact ⟨cell_kept hb h1, cell_kept hb h2, hb⟩
/-- a new variable of two cells, made behind U -/
def Blk (U w : World) (t : TypeId) (x y : Value) (g : Nat) : Prop := U.heap.size ≤ g ∧ w.heap[g]? = some (.cells #[x, y] t (0, 0))
theorem blk_new {U X : World} {t : TypeId} {x y : Value} (h : U.heap.size ≤ X.heap.size) : Blk U (X.alloc (.cells #[x, y] t)) t x y X.heap.size := ⟨h, heap_alloc_new _ _⟩
theorem blk_kept {U X w1 : World} {t : TypeId} {x y : Value} {g : Nat} (hb : Below X.heap.size X w1) (h : Blk U X t x y g) : Blk U w1 t x y g := ⟨h.1, (hb.block g (Array.getElem?_eq_some_iff.1 h.2).1).trans h.2⟩
theorem Blk.cells {U w : World} {t : TypeId} {x y : Value} {g : Nat} (h : Blk U w t x y g) : (w.cell? ⟨g, 0, none⟩ = some x ∧ w.cell? ⟨g, 1, none⟩ = some y) ∧ (w.frozen? ⟨g, 0, none⟩ = false ∧ w.frozen? ⟨g, 1, none⟩ = false) :=
  ⟨cell_pair h.2, by simp [World.frozen?, h.2], by simp [World.frozen?, h.2]⟩
theorem Blk.done {U w : World} {t : TypeId} {x y : Value} {g : Nat} (h : Blk U w t x y g) (hb : Below U.heap.size U w) (a b : Value) : Below U.heap.size U ((w.setCell ⟨g, 0, none⟩ a).setCell ⟨g, 1, none⟩ b) ∧ ((w.setCell ⟨g, 0, none⟩ a).setCell ⟨g, 1, none⟩ b).heap[g]? = some (.cells #[a, b] t (0, 0)) := by
  refine ⟨(hb.setCell h.1 _).setCell h.1 _, ?_⟩
  rw [heap_setCell_row (heap_setCell_row h.2 0 a) 1 b]
  simp
set_option maxHeartbeats 1000000 in
set_option maxRecDepth 100000 in
theorem sum_not (p q : Int × Int) (w : World) (hp : R64 p) (hq : R64 q) (hr : (rtB p && rtB q) = false) :
    Calls Try.prog 24 #[rv p, rv q] w fun e w' => e = .returned (.tuple #[rv (0, 0), .int .i64 2]) ∧ Below w.heap.size w w' := by
  obtain ⟨n, d⟩ := p
  obtain ⟨m, f⟩ := q
  have hR1 := fun w => right_any (n, d) w hp
  have hR2 := fun w => right_any (m, f) w hq
  unfold rv at hR1 hR2 ⊢
  simp only at hR1 hR2 ⊢
  obtain ⟨V, hV, hB⟩ := bks3 w (.cells #[.int .i64 n, .int .i64 d] 33) (.cells #[.int .i64 m, .int .i64 f] 33) (.cells #[.int .i64 0, .int .i64 0] 33)
  have HV := Lib.hid hV
  clear hV
  cases h1 : rtB (n, d) with
  | false =>
    rw [h1] at hR1
    clear hr h1 hR2
    go_enter Try.func24, Try.ntmps24
    go_wp2_with fail
    rw [← HV.out]
    refine (hR1 _).mono ?_
    rintro e V1 ⟨rfl, hb1⟩
    have hB1 := hB.later hb1
    obtain ⟨⟨k1, k2⟩, ⟨k3, k4⟩, k5⟩ := hB1.pair 2 rfl
    have HB := Lib.hid hB1
    clear hB hb1 hB1
    go_wp2
    exact bodyPost_ret (v := .tuple #[.agg #[.int .i64 0, .int .i64 0], .int .i64 2]) (by simp [results, Try.results24, go_sem, k1, k2]) rfl ⟨rfl, (HB.out.1.setCell (by simp; omega) _).setCell (by simp; omega) _⟩
  | true =>
    rw [h1, Bool.true_and] at hr
    rw [h1] at hR1
    rw [hr] at hR2
    clear hr h1
    go_enter Try.func24, Try.ntmps24
    go_wp2_with fail
    rw [← HV.out]
    refine (hR1 _).mono ?_
    rintro e V1 ⟨rfl, hb1⟩
    have hB1 := hB.later hb1
    obtain ⟨⟨c0, c1⟩, _, _⟩ := hB1.pair 1 rfl
    have HB := Lib.hid hB1
    clear hB hb1 hB1
    go_wp2_with fail
    refine (hR2 _).mono ?_
    rintro e V2 ⟨rfl, hb2⟩
    have hB2 := HB.out.later hb2
    obtain ⟨⟨k1, k2⟩, ⟨k3, k4⟩, k5⟩ := hB2.pair 2 rfl
    have HB2 := Lib.hid hB2
    clear hB2 hb2 HB
    go_wp2
    exact bodyPost_ret (v := .tuple #[.agg #[.int .i64 0, .int .i64 0], .int .i64 2]) (by simp [results, Try.results24, go_sem, k1, k2]) rfl ⟨rfl, (HB2.out.1.setCell (by simp; omega) _).setCell (by simp; omega) _⟩
/-- what Sum reckons with -/
theorem sum_parts (n1 n2 : Int) (D1 D2 g e1 e2 x y s T f : Nat) (S : Bool) (h1 : I64n n1) (h2 : I64n n2) (hD1 : 0 < D1) (l1 : D1 ≤ 9223372036854775807) (l2 : D2 ≤ 9223372036854775807)
    (r1 : Nat.gcd n1.natAbs D1 = 1) (r2 : Nat.gcd n2.natAbs D2 = 1) (hg : g = Nat.gcd D1 D2) (he1 : e1 = D1 / g) (he2 : e2 = D2 / g) (hx : x = n1.natAbs * e2) (hy : y = n2.natAbs * e1)
    (hS : S = totS (decide (n1 < 0)) (decide (n2 < 0)) x y) (hT : T = totN (decide (n1 < 0)) (decide (n2 < 0)) x y) (hs : s = Nat.gcd (T % g) g) (hf : f = D2 / s) :
    ExactM.low (n1 * D2 + n2 * D1) ((D1 : Int) * D2) = (numV S (T / s), numV false (e1 * f)) ∧ 0 < s ∧ 0 < g ∧ s ≤ g ∧ g ≤ D1 ∧ e1 ≤ D1 ∧ e2 ≤ D2 ∧ f ≤ D2 ∧ x + y < 340282366920938463463374607431768211456 ∧ T ≤ x + y ∧ e1 * f < 340282366920938463463374607431768211456 ∧ T / s ≤ T := by
  have ht := tot_is (decide (n1 < 0)) (decide (n2 < 0)) x y
  rw [← hS, ← hT] at ht
  have en : ∀ (n : Int) (k : Nat), numV (decide (n < 0)) (n.natAbs * k) = n * k := by
    intro n k
    have := mul_sign n k
    rw [Int.natAbs_natCast] at this
    rw [← this]
    congr 1
    have hk : decide ((k : Int) < 0) = false := by simp
    rw [hk]
    simp
  rw [hx, hy, en, en] at ht
  have hTa : (n1 * e2 + n2 * e1).natAbs = T := by rw [← ht]; unfold numV; split <;> omega
  obtain ⟨L, s0, g0, sT, sg⟩ := ExactM.sum_low n1 n2 D1 D2 g e1 e2 s hD1 r1 r2 hg he1 he2 (by rw [hTa]; exact hs)
  rw [hTa] at sT
  have a1 := abs_lt n1 h1
  have a2 := abs_lt n2 h2
  have b1 : e1 ≤ D1 := by rw [he1]; exact Nat.div_le_self _ _
  have b2 : e2 ≤ D2 := by rw [he2]; exact Nat.div_le_self _ _
  have b3 : f ≤ D2 := by rw [hf]; exact Nat.div_le_self _ _
  have m1 : x ≤ 9223372036854775808 * 9223372036854775808 := by rw [hx]; exact Nat.mul_le_mul a1 (by omega)
  have m2 : y ≤ 9223372036854775808 * 9223372036854775808 := by rw [hy]; exact Nat.mul_le_mul a2 (by omega)
  have m3 : e1 * f ≤ 9223372036854775808 * 9223372036854775808 := Nat.mul_le_mul (by omega) (by omega)
  have hTl : T ≤ x + y := by rw [hT]; unfold totN; split; exact Nat.le_refl _; split <;> omega
  have gD : g ≤ D1 := by rw [hg]; exact Nat.le_of_dvd hD1 (Nat.gcd_dvd_left _ _)
  refine ⟨?_, s0, g0, sg, gD, b1, b2, b3, by omega, hTl, by omega, Nat.div_le_self _ _⟩
  rw [L]
  refine Prod.ext ?_ ?_
  · show (n1 * e2 + n2 * e1) / (s : Int) = numV S (T / s)
    rw [← ht]
    unfold numV
    cases S with
    | true =>
      simp only [if_true]
      rw [Int.neg_ediv_of_dvd (Int.natCast_dvd_natCast.2 sT)]
      simp
    | false => simp
  · show (e1 : Int) * ((D2 / s : Nat) : Int) = numV false (e1 * f)
    unfold numV
    rw [hf]
    simp
end Go.Proofs.Ytneofgaklofigaa

/- exact: Sum of right rationals. -/
namespace Go.Proofs.Ytneofgaklofigaa
open Go.RowKit

theorem hid_size {U X : World} (h : Hid (Below U.heap.size U X)) : U.heap.size ≤ X.heap.size := h.out.size
set_option maxHeartbeats 4000000 in
set_option maxRecDepth 100000 in
theorem sum_walk (n1 n2 : Int) (D1 D2 N1 N2 g e1 e2 t1 t0 r s f : Nat) (s1 s2 S fb1 fb2 : Bool) (px py po pd : Value) (fv1 fv2 : Int) (w : World)
    (l1 : D1 ≤ 9223372036854775807) (l2 : D2 ≤ 9223372036854775807) (g0 : 0 < g) (gl : g ≤ 9223372036854775807) (s0 : 0 < s) (q1 : (D1 : Int) / (g : Int) = (e1 : Int)) (q2 : (D2 : Int) / (g : Int) = (e2 : Int)) (q3 : (D2 : Int) / (s : Int) = (f : Int))
    (be1 : e1 ≤ 9223372036854775807) (be2 : e2 ≤ 9223372036854775807) (bf : f ≤ 9223372036854775807)
    (d1 : decide (n1 < 0) = s1) (d2 : decide (n2 < 0) = s2)
    (hR1 : ∀ w, Calls Try.prog 10 #[.agg #[.int .i64 n1, .int .i64 (D1 : Int)]] w fun e w' => e = .returned (.bool true) ∧ Below w.heap.size w w')
    (hR2 : ∀ w, Calls Try.prog 10 #[.agg #[.int .i64 n2, .int .i64 (D2 : Int)]] w fun e w' => e = .returned (.bool true) ∧ Below w.heap.size w w')
    (hG : ∀ w, Calls Try.prog 21 #[.int .u64 (D1 : Int), .int .u64 (D2 : Int)] w fun e w' => e = .returned (.int .u64 (g : Int)) ∧ w = w')
    (hS1 : ∀ w, Calls Try.prog 22 #[.int .i64 n1] w fun e w' => e = .returned (.int .u64 (N1 : Int)) ∧ w = w')
    (hS2 : ∀ w, Calls Try.prog 22 #[.int .i64 n2] w fun e w' => e = .returned (.int .u64 (N2 : Int)) ∧ w = w')
    (hP1 : ∀ w, Calls Try.prog 28 #[.int .u64 (N1 : Int), .int .u64 (e2 : Int)] w fun e w' => e = .returned px ∧ Below w.heap.size w w')
    (hP2 : ∀ w, Calls Try.prog 28 #[.int .u64 (N2 : Int), .int .u64 (e1 : Int)] w fun e w' => e = .returned py ∧ Below w.heap.size w w')
    (hT : ∀ w, Calls Try.prog 32 #[.agg #[.bool s1, .bool s2], px, py] w fun e w' => e = .returned (.tuple #[.bool S, .agg #[.int .u64 (t1 : Int), .int .u64 (t0 : Int)]]) ∧ Below w.heap.size w w')
    (hRe : ∀ w, Calls Try.prog 33 #[.agg #[.int .u64 (t1 : Int), .int .u64 (t0 : Int)], .int .u64 (g : Int)] w fun e w' => e = .returned (.int .u64 (r : Int)) ∧ Below w.heap.size w w')
    (hG2 : ∀ w, Calls Try.prog 21 #[.int .u64 (r : Int), .int .u64 (g : Int)] w fun e w' => e = .returned (.int .u64 (s : Int)) ∧ w = w')
    (hO : ∀ w, Calls Try.prog 35 #[.agg #[.int .u64 (t1 : Int), .int .u64 (t0 : Int)], .int .u64 (s : Int)] w fun e w' => e = .returned po ∧ Below w.heap.size w w')
    (hN1 : ∀ w, Calls Try.prog 34 #[.bool S, po] w fun e w' => e = .returned (.tuple #[.int .i64 fv1, .bool fb1]) ∧ Below w.heap.size w w')
    (hP3 : ∀ w, Calls Try.prog 28 #[.int .u64 (e1 : Int), .int .u64 (f : Int)] w fun e w' => e = .returned pd ∧ Below w.heap.size w w')
    (hN2 : ∀ w, Calls Try.prog 34 #[.bool false, pd] w fun e w' => e = .returned (.tuple #[.int .i64 fv2, .bool fb2]) ∧ Below w.heap.size w w')
    (v : Value) (c : Int) (hv1 : (fb1 && fb2) = true → v = .agg #[.int .i64 fv1, .int .i64 fv2] ∧ c = 0) (hv2 : (fb1 && fb2) = false → v = .agg #[.int .i64 0, .int .i64 0] ∧ c = 1) :
    Calls Try.prog 24 #[.agg #[.int .i64 n1, .int .i64 (D1 : Int)], .agg #[.int .i64 n2, .int .i64 (D2 : Int)]] w fun e w' => e = .returned (.tuple #[v, .int .i64 c]) ∧ Below w.heap.size w w' := by
  obtain ⟨V, hV, hB⟩ := bks3 w (.cells #[.int .i64 n1, .int .i64 (D1 : Int)] 33) (.cells #[.int .i64 n2, .int .i64 (D2 : Int)] 33) (.cells #[.int .i64 0, .int .i64 0] 33)
  have HV := Lib.hid hV
  have HV1 := Lib.hid hv1
  have HV2 := Lib.hid hv2
  clear hV hv1 hv2
  have gz : ¬ g = 0 := by omega
  have sz : ¬ s = 0 := by omega
  have gd : ((g : Int) == 0) = false := by simp; omega
  have sd : ((s : Int) == 0) = false := by simp; omega
  go_enter Try.func24, Try.ntmps24
  go_wp2_with fail
  rw [← HV.out]
  refine (hR1 _).mono ?_
  rintro e V1 ⟨rfl, hb1⟩
  have hB1 := hB.later hb1
  obtain ⟨⟨c0, c1⟩, _, _⟩ := hB1.pair 1 rfl
  have HB1 := Lib.hid hB1
  clear hB hb1 hB1
  go_wp2_with fail
  refine (hR2 _).mono ?_
  rintro e V2 ⟨rfl, hb2⟩
  clear c0 c1
  have hB2 := HB1.out.later hb2
  obtain ⟨⟨c0, c1⟩, _, _⟩ := hB2.pair 0 rfl
  rw [Nat.add_zero] at c0 c1
  obtain ⟨⟨c2, c3⟩, _, _⟩ := hB2.pair 1 rfl
  have HB2 := Lib.hid hB2
  clear HB1 hb2 hB2
  go_wp2_with fail
  go_region
  go_wp2_with fail
  refine (hG _).mono ?_
  rintro e V3 ⟨rfl, rfl⟩
  go_upto_region 5 with fail
  obtain ⟨U, hU⟩ : ∃ U, U = V2.drew := ⟨_, rfl⟩
  have hBU := HB2.out.drew
  rw [← hU] at hBU ⊢
  clear hU c0 c1 c2 c3 HB2
  obtain ⟨⟨c0, c1⟩, _, _⟩ := hBU.pair 0 rfl
  rw [Nat.add_zero] at c0 c1
  obtain ⟨⟨c2, c3⟩, _, _⟩ := hBU.pair 1 rfl
  have HBU := Lib.hid hBU
  clear hBU
  have we1 := wrapNN e1 (by omega)
  have we2 := wrapNN e2 (by omega)
  have wf := wrapNN f (by omega)
  go_cut [9, 10] (fun x y wx => ∃ k : Nat, x = .bool S ∧ y = .pointer (some ⟨k, 0, none⟩) ∧ Below U.heap.size U wx ∧ wx.heap[k]? = some (.cells #[.int .u64 (t1 : Int), .int .u64 (t0 : Int)] 68 (0, 0)))
  case first =>
    go_region_held3 (fun w' => w'.cell? ⟨w.heap.size, 0, none⟩ = some (.int .i64 n1) ∧ w'.cell? ⟨w.heap.size + 1, 0, none⟩ = some (.int .i64 n2) ∧ Below U.heap.size U w') ((first | (exact keepC hb (by assumption)) | (exact keepA (by assumption)) | (exact keepA hk.out) | (exact keepSt hk.out.2.2 kz.1 c0 c2) | (exact keepD (by assumption) (by assumption)) | go_keep))
      (first
        | (go_at_call 22; first | ((with_reducible refine (hS1 _).mono ?_); rintro e w' ⟨rfl, rfl⟩) | ((with_reducible refine (hS2 _).mono ?_); rintro e w' ⟨rfl, rfl⟩))
        | (go_at_call 28; first | ((with_reducible refine (hP1 _).mono ?_); rintro e w1 ⟨rfl, hb⟩; have hs : Hid (Below U.heap.size U w1) := Lib.hid ((keepC hb (by assumption)).2.2); try (have kz : Blk U w1 68 (.int .u64 0) (.int .u64 0) _ := blk_kept hb (by first | assumption | (exact blk_new (by first | (exact hid_size (by assumption)) | (exact Nat.le_refl _)))))) | ((with_reducible refine (hP2 _).mono ?_); rintro e w1 ⟨rfl, hb⟩; have hs : Hid (Below U.heap.size U w1) := Lib.hid ((keepC hb (by assumption)).2.2); try (have kz : Blk U w1 68 (.int .u64 0) (.int .u64 0) _ := blk_kept hb (by first | assumption | (exact blk_new (by first | (exact hid_size (by assumption)) | (exact Nat.le_refl _)))))))
        | (go_at_call 32; ((with_reducible refine (hT _).mono ?_); rintro e U1 ⟨rfl, hb⟩; have hk : Hid (U1.cell? ⟨w.heap.size, 0, none⟩ = some (.int .i64 n1) ∧ U1.cell? ⟨w.heap.size + 1, 0, none⟩ = some (.int .i64 n2) ∧ Below U.heap.size U U1) := Lib.hid (keepC hb (by assumption)); have hs : Hid (Below U.heap.size U U1) := Lib.hid ((keepC hb (by assumption)).2.2); try (have kz : Blk U U1 68 (.int .u64 0) (.int .u64 0) _ := blk_kept hb (by first | assumption | (exact blk_new (by first | (exact hid_size (by assumption)) | (exact Nat.le_refl _))))); try (obtain ⟨⟨z1, z2⟩, z3, z4⟩ := kz.cells))))
    all_goals
      go_wp2_with fail
      go_meet
      first
        | (exact ⟨_, rfl, rfl, (kz.done hk.out.2.2 _ _).1, (kz.done hk.out.2.2 _ _).2⟩)
        | (exact ⟨_, rfl, rfl, hk.out.2.2.alloc (hk.out.2.2.size) _, heap_alloc_new _ _⟩)
  case rest =>
    obtain ⟨k, rfl, rfl, hbU, hk⟩ := hcut
    have hB3 := HBU.out.later hbU
    have HB3 := Lib.hid hB3
    have HK := Lib.hid hk
    obtain ⟨y0, y1⟩ := cell_pair hk
    clear hk hbU hB3 HBU c0 c1 c2 c3
    go_wp2_with fail
    refine (hRe _).mono ?_
    rintro e W1 ⟨rfl, hb1⟩
    have hk1 := (hb1.block k (Array.getElem?_eq_some_iff.1 HK.out).1).trans HK.out
    have hB4 := HB3.out.later hb1
    clear y0 y1
    obtain ⟨y0, y1⟩ := cell_pair hk1
    have HK1 := Lib.hid hk1
    have HB4 := Lib.hid hB4
    clear hk1 hb1 hB4 HB3 HK
    go_wp2_with fail
    refine (hG2 _).mono ?_
    rintro e W1' ⟨rfl, rfl⟩
    go_wp2_with fail
    refine (hO _).mono ?_
    rintro e W2 ⟨rfl, hb1⟩
    have hB5 := HB4.out.later hb1
    have HB5 := Lib.hid hB5
    clear hb1 hB5 HB4 y0 y1 HK1
    go_wp2_with fail
    refine (hN1 _).mono ?_
    rintro e W3 ⟨rfl, hb1⟩
    have hB6 := HB5.out.later hb1
    have HB6 := Lib.hid hB6
    clear hb1 hB6 HB5
    go_wp2_with fail
    go_region_with (first | (go_at_call 28; refine (hP3 _).mono ?_; rintro e W4 ⟨rfl, hb4⟩) | (go_at_call 34; refine (hN2 _).mono ?_; rintro e W5 ⟨rfl, hb5⟩))
    all_goals
      have hB7 := (HB6.out.drew.later hb4).later hb5
      obtain ⟨⟨k1, k2⟩, ⟨k3, k4⟩, k5⟩ := hB7.pair 2 rfl
      have HB7 := Lib.hid hB7
      clear hb4 hb5 hB7 HB6
      cases fb1 with
      | false =>
        obtain ⟨rfl, rfl⟩ := HV2.out rfl
        go_wp2_with fail
        exact bodyPost_ret (v := .tuple #[.agg #[.int .i64 0, .int .i64 0], .int .i64 1]) (by simp [results, Try.results24, go_sem, k1, k2]) rfl ⟨rfl, (HB7.out.1.setCell (by simp; omega) _).setCell (by simp; omega) _⟩
      | true =>
        cases fb2 with
        | false =>
          obtain ⟨rfl, rfl⟩ := HV2.out rfl
          go_wp2_with fail
          exact bodyPost_ret (v := .tuple #[.agg #[.int .i64 0, .int .i64 0], .int .i64 1]) (by simp [results, Try.results24, go_sem, k1, k2]) rfl ⟨rfl, (HB7.out.1.setCell (by simp; omega) _).setCell (by simp; omega) _⟩
        | true =>
          obtain ⟨rfl, rfl⟩ := HV1.out rfl
          go_wp2_with fail
          exact bodyPost_ret (v := .tuple #[.agg #[.int .i64 fv1, .int .i64 fv2], .int .i64 0]) (by simp [results, Try.results24, go_sem, k1, k2]) rfl ⟨rfl, (HB7.out.1.setCell (by simp; omega) _).setCell (by simp; omega) _⟩
end Go.Proofs.Ytneofgaklofigaa

/- exact: Sum, whole. -/
namespace Go.Proofs.Ytneofgaklofigaa
open Go.RowKit

theorem sum_yes (p q : Int × Int) (w : World) (hp : R64 p) (hq : R64 q) (h1 : rtB p = true) (h2 : rtB q = true) :
    Calls Try.prog 24 #[rv p, rv q] w fun e w' => e = .returned (.tuple #[rv (ansV (p.1 * q.2 + q.1 * p.2) (p.2 * q.2)), .int .i64 (ansC (p.1 * q.2 + q.1 * p.2) (p.2 * q.2))]) ∧ Below w.heap.size w w' := by
  have t1 := (rtB_iff p).1 h1
  have t2 := (rtB_iff q).1 h2
  have hR1 := fun w => right_any p w hp
  have hR2 := fun w => right_any q w hq
  rw [h1] at hR1
  rw [h2] at hR2
  obtain ⟨n1, d1⟩ := p
  obtain ⟨n2, d2⟩ := q
  obtain ⟨a1, a2⟩ := hp
  obtain ⟨b1, b2⟩ := hq
  obtain ⟨p1, r1⟩ := t1
  obtain ⟨p2, r2⟩ := t2
  simp only at a1 a2 b1 b2 p1 p2 r1 r2
  obtain ⟨D1, e⟩ : ∃ D : Nat, d1 = (D : Int) := ⟨d1.toNat, by omega⟩
  subst e
  obtain ⟨D2, e⟩ : ∃ D : Nat, d2 = (D : Int) := ⟨d2.toNat, by omega⟩
  subst e
  have r1' : Nat.gcd n1.natAbs D1 = 1 := r1
  have r2' : Nat.gcd n2.natAbs D2 = 1 := r2
  have l1 : D1 ≤ 9223372036854775807 := by unfold I64n at a2; omega
  have l2 : D2 ≤ 9223372036854775807 := by unfold I64n at b2; omega
  obtain ⟨g, hg⟩ : ∃ g, g = Nat.gcd D1 D2 := ⟨_, rfl⟩
  obtain ⟨e1, he1⟩ : ∃ e1, e1 = D1 / g := ⟨_, rfl⟩
  obtain ⟨e2, he2⟩ : ∃ e2, e2 = D2 / g := ⟨_, rfl⟩
  obtain ⟨x, hx⟩ : ∃ x, x = n1.natAbs * e2 := ⟨_, rfl⟩
  obtain ⟨y, hy⟩ : ∃ y, y = n2.natAbs * e1 := ⟨_, rfl⟩
  obtain ⟨S, hS⟩ : ∃ S, S = totS (decide (n1 < 0)) (decide (n2 < 0)) x y := ⟨_, rfl⟩
  obtain ⟨T, hT⟩ : ∃ T, T = totN (decide (n1 < 0)) (decide (n2 < 0)) x y := ⟨_, rfl⟩
  obtain ⟨s, hs⟩ : ∃ s, s = Nat.gcd (T % g) g := ⟨_, rfl⟩
  obtain ⟨f, hf⟩ : ∃ f, f = D2 / s := ⟨_, rfl⟩
  obtain ⟨L, s0, g0, sg, gD, be1, be2, bf, bxy, bT, bef, bTs⟩ := sum_parts n1 n2 D1 D2 g e1 e2 x y s T f S a1 b1 (by omega) l1 l2 r1' r2' hg he1 he2 hx hy hS hT hs hf
  have m1 := abs_lt n1 a1
  have m2 := abs_lt n2 b1
  have hrl := Nat.mod_lt T g0
  refine sum_walk n1 n2 D1 D2 n1.natAbs n2.natAbs g e1 e2 (T / 18446744073709551616) (T % 18446744073709551616) (T % g) s f (decide (n1 < 0)) (decide (n2 < 0)) S (fitB (numV S (T / s))) (fitB (numV false (e1 * f))) (wv x) (wv y) (wv (T / s)) (wv (e1 * f)) (fitV (numV S (T / s))) (fitV (numV false (e1 * f))) w
    l1 l2 g0 (by omega) s0 (by rw [he1]; simp) (by rw [he2]; simp) (by rw [hf]; simp) (by omega) (by omega) (by omega) rfl rfl hR1 hR2 (fun w => ?_) (fun w => size_any n1 w a1) (fun w => size_any n2 w b1) (fun w => ?_) (fun w => ?_) (fun w => ?_) (fun w => wrest_any T g w g0 (by omega) (by omega)) (fun w => ?_) (fun w => wover_any T s w s0 (by omega) (by omega)) (fun w => number_any S (T / s) w (by omega)) (fun w => product_any e1 f w (by omega) (by omega)) (fun w => number_any false (e1 * f) w bef) _ _ (fun h => ?_) (fun h => ?_)
  · rw [hg]; exact divisor_any D1 D2 w (by omega) (by omega)
  · rw [hx]; exact product_any n1.natAbs e2 w (by omega) (by omega)
  · rw [hy]; exact product_any n2.natAbs e1 w (by omega) (by omega)
  · have := total_any (decide (n1 < 0)) (decide (n2 < 0)) x y w bxy
    rw [← hS, ← hT] at this
    exact this
  · have := divisor_any (T % g) g w (by omega) (by omega)
    rw [← hs] at this
    exact this
  · have hb : ansB (n1 * (D2 : Int) + n2 * (D1 : Int)) ((D1 : Int) * (D2 : Int)) = true := by unfold ansB; rw [L]; exact h
    rw [Bool.and_eq_true] at h
    unfold ansV ansC fitV
    rw [h.1, h.2]
    simp only
    rw [hb, L]
    exact ⟨rfl, rfl⟩
  · have hb : ansB (n1 * (D2 : Int) + n2 * (D1 : Int)) ((D1 : Int) * (D2 : Int)) = false := by unfold ansB; rw [L]; exact h
    unfold ansV ansC
    simp only
    rw [hb]
    exact ⟨rfl, rfl⟩
theorem sum_any (p q : Int × Int) (w : World) (hp : R64 p) (hq : R64 q) :
    Calls Try.prog 24 #[rv p, rv q] w fun e w' => e = .returned (.tuple #[rv (sumV p q), .int .i64 (sumC p q)]) ∧ Below w.heap.size w w' := by
  unfold sumV sumC
  cases h : (rtB p && rtB q) with
  | true =>
    rw [Bool.and_eq_true] at h
    exact sum_yes p q w hp hq h.1 h.2
  | false => exact sum_not p q w hp hq h
end Go.Proofs.Ytneofgaklofigaa

/- exact: Compare. -/
namespace Go.Proofs.Ytneofgaklofigaa
open Go.RowKit

/-- two arrays of two numbers, held against each other -/
theorem run_eq_arr2 (a b c d : Int) (w : World) : (Op.equalIn 10000 71 (.agg #[.int .i64 a, .int .i64 b]) (.agg #[.int .i64 c, .int .i64 d])).run Try.prog w = .ok ((a == c) && (b == d)) w := by
  obtain ⟨i0, hi, _⟩ := info_parts int_info
  rw [run_equalIn_array w 9999 _ _ Try.underlying71 hi]
  have hc : Try.prog.cellsOf 3 = 1 := by kernel_rfl
  rw [hc]
  have h1 : ∀ (x y : Int) (w : World), (part 3 #[.int .i64 x, .int .i64 y] 0).run Try.prog w = .ok (.int .i64 x) w := fun x y w => by simp [go_sem]
  have h2 : ∀ (x y : Int) (w : World), (part 3 #[.int .i64 x, .int .i64 y] 1).run Try.prog w = .ok (.int .i64 y) w := fun x y w => by simp [go_sem]
  have h3 : ∀ (x y : Int) (w : World), (Op.equalIn 9999 3 (.int .i64 x) (.int .i64 y)).run Try.prog w = .ok (x == y) w := fun x y w => run_equalIn_int w 9998 _ .i64 .i64 x y Try.underlying3
  show (Op.eqItems 9999 3 1 _ _ [0, 1]).run Try.prog w = _
  simp only [Op.eqItems, Sem.run_bind, Nat.zero_mul, h1, h3, Result.andThen_ok]
  cases (a == c) with
  | false => simp
  | true =>
    have hr : (Op.eqItems 9999 3 1 #[.int .i64 a, .int .i64 b] #[.int .i64 c, .int .i64 d] [1]).run Try.prog w = .ok (b == d) w := by
      simp only [Op.eqItems, Sem.run_bind, Nat.one_mul, h2, h3, Result.andThen_ok]
      cases (b == d) <;> simp
    rw [if_neg (by decide), Bool.true_and]
    exact hr
def cmpV (p q : Int × Int) : Int := if (rtB p && rtB q) = true then ExactM.cmp p q else 0
set_option maxHeartbeats 1000000 in
set_option maxRecDepth 100000 in
theorem cmp_not (p q : Int × Int) (w : World) (hp : R64 p) (hq : R64 q) (hr : (rtB p && rtB q) = false) :
    Calls Try.prog 23 #[rv p, rv q] w fun e w' => e = .returned (.int .i64 0) ∧ Below w.heap.size w w' := by
  obtain ⟨n, d⟩ := p
  obtain ⟨m, f⟩ := q
  have hR1 := fun w => right_any (n, d) w hp
  have hR2 := fun w => right_any (m, f) w hq
  unfold rv at hR1 hR2 ⊢
  simp only at hR1 hR2 ⊢
  obtain ⟨V, hV, hB⟩ := bks2 w (.cells #[.int .i64 n, .int .i64 d] 33) (.cells #[.int .i64 m, .int .i64 f] 33)
  have HV := Lib.hid hV
  clear hV
  cases h1 : rtB (n, d) with
  | false =>
    rw [h1] at hR1
    clear hr h1 hR2
    go_enter Try.func23, Try.ntmps23
    go_wp2_with fail
    rw [← HV.out]
    refine (hR1 _).mono ?_
    rintro e V1 ⟨rfl, hb1⟩
    have HB := Lib.hid (hB.later hb1)
    clear hB hb1
    go_wp2
    go_ret
    exact ⟨rfl, HB.out.1⟩
  | true =>
    rw [h1, Bool.true_and] at hr
    rw [h1] at hR1
    rw [hr] at hR2
    clear hr h1
    go_enter Try.func23, Try.ntmps23
    go_wp2_with fail
    rw [← HV.out]
    refine (hR1 _).mono ?_
    rintro e V1 ⟨rfl, hb1⟩
    have hB1 := hB.later hb1
    obtain ⟨⟨c0, c1⟩, _, _⟩ := hB1.pair 1 rfl
    have HB := Lib.hid hB1
    clear hB hb1 hB1
    go_wp2_with fail
    refine (hR2 _).mono ?_
    rintro e V2 ⟨rfl, hb2⟩
    have HB2 := Lib.hid (HB.out.later hb2)
    clear hb2 HB
    go_wp2
    go_ret
    exact ⟨rfl, HB2.out.1⟩
set_option maxHeartbeats 4000000 in
set_option maxRecDepth 100000 in
theorem cmp_walk (n1 n2 : Int) (D1 D2 N1 N2 x1 x0 y1 y0 : Nat) (c1 c2 : Int) (ox oy oc : Int) (w : World)
    (l1 : D1 ≤ 9223372036854775807) (l2 : D2 ≤ 9223372036854775807)
    (hR1 : ∀ w, Calls Try.prog 10 #[.agg #[.int .i64 n1, .int .i64 (D1 : Int)]] w fun e w' => e = .returned (.bool true) ∧ Below w.heap.size w w')
    (hR2 : ∀ w, Calls Try.prog 10 #[.agg #[.int .i64 n2, .int .i64 (D2 : Int)]] w fun e w' => e = .returned (.bool true) ∧ Below w.heap.size w w')
    (hS1 : ∀ w, Calls Try.prog 22 #[.int .i64 n1] w fun e w' => e = .returned (.int .u64 (N1 : Int)) ∧ w = w')
    (hS2 : ∀ w, Calls Try.prog 22 #[.int .i64 n2] w fun e w' => e = .returned (.int .u64 (N2 : Int)) ∧ w = w')
    (hP1 : ∀ w, Calls Try.prog 28 #[.int .u64 (N1 : Int), .int .u64 (D2 : Int)] w fun e w' => e = .returned (.agg #[.int .u64 (x1 : Int), .int .u64 (x0 : Int)]) ∧ Below w.heap.size w w')
    (hP2 : ∀ w, Calls Try.prog 28 #[.int .u64 (N2 : Int), .int .u64 (D1 : Int)] w fun e w' => e = .returned (.agg #[.int .u64 (y1 : Int), .int .u64 (y0 : Int)]) ∧ Below w.heap.size w w')
    (hC1 : ∀ w, Calls Try.prog 29 #[.int .i64 n1, .int .i64 0] w fun e w' => e = .returned (.int .i64 c1) ∧ w = w')
    (hC2 : ∀ w, Calls Try.prog 29 #[.int .i64 n2, .int .i64 0] w fun e w' => e = .returned (.int .i64 c2) ∧ w = w')
    (hOx : ∀ w, Calls Try.prog 30 #[.agg #[.int .u64 (x1 : Int), .int .u64 (x0 : Int)], .agg #[.int .u64 (y1 : Int), .int .u64 (y0 : Int)]] w fun e w' => e = .returned (.int .i64 ox) ∧ Below w.heap.size w w')
    (hOy : ∀ w, Calls Try.prog 30 #[.agg #[.int .u64 (y1 : Int), .int .u64 (y0 : Int)], .agg #[.int .u64 (x1 : Int), .int .u64 (x0 : Int)]] w fun e w' => e = .returned (.int .i64 oy) ∧ Below w.heap.size w w')
    (hOc : ∀ w, Calls Try.prog 31 #[.int .i64 c1, .int .i64 c2] w fun e w' => e = .returned (.int .i64 oc) ∧ w = w')
    (v : Int) (hv1 : c1 = 1 → c2 = 1 → v = ox) (hv2 : c1 = -1 → c2 = -1 → v = oy) (hv3 : ¬ (c1 = 1 ∧ c2 = 1) → ¬ (c1 = -1 ∧ c2 = -1) → v = oc) :
    Calls Try.prog 23 #[.agg #[.int .i64 n1, .int .i64 (D1 : Int)], .agg #[.int .i64 n2, .int .i64 (D2 : Int)]] w fun e w' => e = .returned (.int .i64 v) ∧ Below w.heap.size w w' := by
  obtain ⟨V, hV, hB⟩ := bks2 w (.cells #[.int .i64 n1, .int .i64 (D1 : Int)] 33) (.cells #[.int .i64 n2, .int .i64 (D2 : Int)] 33)
  have HV := Lib.hid hV
  have HV1 := Lib.hid hv1
  have HV2 := Lib.hid hv2
  have HV3 := Lib.hid hv3
  clear hV hv1 hv2 hv3
  go_enter Try.func23, Try.ntmps23
  go_wp2_with fail
  rw [← HV.out]
  refine (hR1 _).mono ?_
  rintro e V1 ⟨rfl, hb1⟩
  have hB1 := hB.later hb1
  obtain ⟨⟨c0, c1'⟩, _, _⟩ := hB1.pair 1 rfl
  have HB1 := Lib.hid hB1
  clear hB hb1 hB1
  go_wp2_with fail
  refine (hR2 _).mono ?_
  rintro e U ⟨rfl, hb2⟩
  clear c0 c1'
  have hBU := HB1.out.later hb2
  clear HB1 hb2
  obtain ⟨⟨c0, c1'⟩, _, _⟩ := hBU.pair 0 rfl
  rw [Nat.add_zero] at c0 c1'
  obtain ⟨⟨c2', c3⟩, _, _⟩ := hBU.pair 1 rfl
  have HBU := Lib.hid hBU
  clear hBU
  have wD1 := wrapNN D1 (by omega)
  have wD2 := wrapNN D2 (by omega)
  go_upto_region 3 with fail
  go_cut [5] (fun y wx => ∃ k : Nat, y = .pointer (some ⟨k, 0, none⟩) ∧ Below U.heap.size U wx ∧ wx.heap[k]? = some (.cells #[.int .u64 (x1 : Int), .int .u64 (x0 : Int)] 68 (0, 0)))
  case first =>
    go_region_held3 (fun w' => w'.cell? ⟨w.heap.size, 0, none⟩ = some (.int .i64 n1) ∧ w'.cell? ⟨w.heap.size + 1, 1, none⟩ = some (.int .i64 (D2 : Int)) ∧ Below U.heap.size U w') ((first | (exact keepC hb (by assumption)) | (exact keepA (by assumption)) | (exact keepA hk.out) | (exact keepSt hk.out.2.2 kz.1 c0 c3) | (exact keepD (by assumption) (by assumption)) | go_keep))
      (first
        | (go_at_call 22; ((with_reducible refine (hS1 _).mono ?_); rintro e w' ⟨rfl, rfl⟩))
        | (go_at_call 28; ((with_reducible refine (hP1 _).mono ?_); rintro e U1 ⟨rfl, hb⟩; have hk : Hid (U1.cell? ⟨w.heap.size, 0, none⟩ = some (.int .i64 n1) ∧ U1.cell? ⟨w.heap.size + 1, 1, none⟩ = some (.int .i64 (D2 : Int)) ∧ Below U.heap.size U U1) := Lib.hid (keepC hb (by assumption)); try (have kz : Blk U U1 68 (.int .u64 0) (.int .u64 0) _ := blk_kept hb (by first | assumption | (exact blk_new (by first | (exact hid_size (by assumption)) | (exact Nat.le_refl _))))); try (obtain ⟨⟨z1, z2⟩, z3, z4⟩ := kz.cells))))
    all_goals
      go_wp2_with fail
      go_meet
      first
        | (exact ⟨_, rfl, (kz.done hk.out.2.2 _ _).1, (kz.done hk.out.2.2 _ _).2⟩)
        | (exact ⟨_, rfl, hk.out.2.2.alloc (hk.out.2.2.size) _, heap_alloc_new _ _⟩)
  case rest =>
    obtain ⟨kx, rfl, hbU, hkx⟩ := hcut
    have hB1 := HBU.out.later hbU
    have hbU' := Lib.hid hbU
    have HKX := Lib.hid hkx
    clear HBU c0 c1' c2' c3 hbU hkx
    obtain ⟨U2, hU2⟩ : ∃ U2, U2 = wc := ⟨_, rfl⟩
    subst hU2
    obtain ⟨⟨c0, c1'⟩, _, _⟩ := hB1.pair 0 rfl
    rw [Nat.add_zero] at c0 c1'
    obtain ⟨⟨c2', c3⟩, _, _⟩ := hB1.pair 1 rfl
    have HB1 := Lib.hid hB1
    clear hB1
    go_upto_region 4 with fail
    go_cut [6] (fun y wx => ∃ k : Nat, y = .pointer (some ⟨k, 0, none⟩) ∧ Below U2.heap.size U2 wx ∧ wx.heap[k]? = some (.cells #[.int .u64 (y1 : Int), .int .u64 (y0 : Int)] 68 (0, 0)))
    case first =>
      go_region_held3 (fun w' => w'.cell? ⟨w.heap.size + 1, 0, none⟩ = some (.int .i64 n2) ∧ w'.cell? ⟨w.heap.size, 1, none⟩ = some (.int .i64 (D1 : Int)) ∧ Below U2.heap.size U2 w') ((first | (exact keepC hb (by assumption)) | (exact keepA (by assumption)) | (exact keepA hk.out) | (exact keepSt hk.out.2.2 kz.1 c2' c1') | (exact keepD (by assumption) (by assumption)) | go_keep))
        (first
          | (go_at_call 22; ((with_reducible refine (hS2 _).mono ?_); rintro e w' ⟨rfl, rfl⟩))
          | (go_at_call 28; ((with_reducible refine (hP2 _).mono ?_); rintro e U1 ⟨rfl, hb⟩; have hk : Hid (U1.cell? ⟨w.heap.size + 1, 0, none⟩ = some (.int .i64 n2) ∧ U1.cell? ⟨w.heap.size, 1, none⟩ = some (.int .i64 (D1 : Int)) ∧ Below U2.heap.size U2 U1) := Lib.hid (keepC hb (by assumption)); try (have kz : Blk U2 U1 68 (.int .u64 0) (.int .u64 0) _ := blk_kept hb (by first | assumption | (exact blk_new (by first | (exact hid_size (by assumption)) | (exact Nat.le_refl _))))); try (obtain ⟨⟨z1, z2⟩, z3, z4⟩ := kz.cells))))
      all_goals
        go_wp2_with fail
        go_meet
        first
          | (exact ⟨_, rfl, (kz.done hk.out.2.2 _ _).1, (kz.done hk.out.2.2 _ _).2⟩)
          | (exact ⟨_, rfl, hk.out.2.2.alloc (hk.out.2.2.size) _, heap_alloc_new _ _⟩)
    case rest =>
      obtain ⟨ky, rfl, hbU2, hky⟩ := hcut
      have hB2 := HB1.out.later hbU2
      have hkx := (hbU2.block kx (Array.getElem?_eq_some_iff.1 HKX.out).1).trans HKX.out
      clear c0 c1' c2' c3
      obtain ⟨U3, hU3⟩ : ∃ U3, U3 = wc := ⟨_, rfl⟩
      subst hU3
      obtain ⟨⟨c0, c1'⟩, _, _⟩ := hB2.pair 0 rfl
      rw [Nat.add_zero] at c0 c1'
      obtain ⟨⟨c2', c3⟩, _, _⟩ := hB2.pair 1 rfl
      have HB2 := Lib.hid hB2
      have HKX2 := Lib.hid hkx
      have HKY2 := Lib.hid hky
      clear hB2 hkx hky hbU2 HB1 HKX
      go_upto_region 5 with fail
      go_cut [7] (fun y wx => ∃ k : Nat, y = .pointer (some ⟨k, 0, none⟩) ∧ Below U3.heap.size U3 wx ∧ wx.heap[k]? = some (.cells #[.int .i64 c1, .int .i64 c2] 71 (0, 0)))
      case first =>
        go_region_held3 (fun w' => w'.cell? ⟨w.heap.size, 0, none⟩ = some (.int .i64 n1) ∧ w'.cell? ⟨w.heap.size + 1, 0, none⟩ = some (.int .i64 n2) ∧ Below U3.heap.size U3 w') ((first | (exact keepA (by assumption)) | (exact keepA (keepD c0 c2')) | (exact keepD (by assumption) (by assumption)) | go_keep))
          (first
            | (go_at_call 29; first | ((with_reducible refine (hC1 _).mono ?_); rintro e w' ⟨rfl, rfl⟩) | ((with_reducible refine (hC2 _).mono ?_); rintro e w' ⟨rfl, rfl⟩)))
        all_goals
          go_wp2_with fail
          go_meet
          exact ⟨_, rfl, (keepA (keepD c0 c2')).2.2, heap_alloc_new _ _⟩
      case rest =>
        obtain ⟨kc, rfl, hbU3, hkc⟩ := hcut
        have hB3 := HB2.out.later hbU3
        have hkx := (hbU3.block kx (Array.getElem?_eq_some_iff.1 HKX2.out).1).trans HKX2.out
        have hky := (hbU3.block ky (Array.getElem?_eq_some_iff.1 HKY2.out).1).trans HKY2.out
        obtain ⟨kx0, kx1⟩ := cell_pair hkx
        obtain ⟨ky0, ky1⟩ := cell_pair hky
        obtain ⟨kc0, kc1⟩ := cell_pair hkc
        have HB3 := Lib.hid hB3
        clear hB3 hkx hky hkc hbU3 HB2 HKX2 HKY2 c0 c1' c2' c3
        have hE1 := fun w => run_eq_arr2 c1 c2 1 1 w
        have hE2 := fun w => run_eq_arr2 c1 c2 (-1) (-1) w
        obtain ⟨e1, he1⟩ : ∃ e, e = ((c1 == 1) && (c2 == 1)) := ⟨_, rfl⟩
        obtain ⟨e2, he2⟩ : ∃ e, e = ((c1 == -1) && (c2 == -1)) := ⟨_, rfl⟩
        rw [← he1] at hE1
        rw [← he2] at hE2
        have HE1 := Lib.hid he1
        have HE2 := Lib.hid he2
        clear he1 he2
        cases e1 with
        | true =>
          have hv : v = ox := by
            have h := HE1.out
            simp at h
            exact HV1.out h.1 h.2
          subst hv
          go_wp2_with (go_at_call 30; refine (hOx _).mono ?_; rintro e W ⟨rfl, hb⟩)
          go_ret
          exact ⟨rfl, HB3.out.1.trans (hb.mono HB3.out.1.size)⟩
        | false =>
          cases e2 with
          | true =>
            have hv : v = oy := by
              have h := HE2.out
              simp at h
              exact HV2.out h.1 h.2
            subst hv
            go_wp2_with (go_at_call 30; refine (hOy _).mono ?_; rintro e W ⟨rfl, hb⟩)
            go_ret
            exact ⟨rfl, HB3.out.1.trans (hb.mono HB3.out.1.size)⟩
          | false =>
            have hv : v = oc := by
              have h := HE1.out
              have h' := HE2.out
              simp at h h'
              exact HV3.out (fun k => h k.1 k.2) (fun k => h' k.1 k.2)
            subst hv
            go_wp2_with (go_at_call 31; refine (hOc _).mono ?_; rintro e W ⟨rfl, rfl⟩)
            go_ret
            exact ⟨rfl, HB3.out.1⟩
/-- a sign and a size times a number above 0 -/
theorem sign_size (n : Int) (D : Nat) (hD : 0 < D) : (0 < n → n * D = ((n.natAbs * D : Nat) : Int) ∧ 0 < n * D) ∧ (n < 0 → n * D = -((n.natAbs * D : Nat) : Int) ∧ n * D < 0) ∧ (n = 0 → n * D = 0) := by
  rw [Int.natCast_mul]
  refine ⟨fun h => ?_, fun h => ?_, fun h => by rw [h, Int.zero_mul]⟩
  · rw [show (n.natAbs : Int) = n by omega]
    exact ⟨rfl, Int.mul_pos h (by omega)⟩
  · rw [show (n.natAbs : Int) = -n by omega, Int.neg_mul, Int.neg_neg]
    exact ⟨rfl, Int.mul_neg_of_neg_of_pos h (by omega)⟩
theorem cmp_signs (n1 n2 : Int) (D1 D2 : Nat) (h1 : 0 < D1) (h2 : 0 < D2) :
    (cmpI n1 0 = 1 → cmpI n2 0 = 1 → ExactM.cmp (n1, (D1 : Int)) (n2, (D2 : Int)) = cmpI ((n1.natAbs * D2 : Nat) : Int) ((n2.natAbs * D1 : Nat) : Int)) ∧
    (cmpI n1 0 = -1 → cmpI n2 0 = -1 → ExactM.cmp (n1, (D1 : Int)) (n2, (D2 : Int)) = cmpI ((n2.natAbs * D1 : Nat) : Int) ((n1.natAbs * D2 : Nat) : Int)) ∧
    (¬ (cmpI n1 0 = 1 ∧ cmpI n2 0 = 1) → ¬ (cmpI n1 0 = -1 ∧ cmpI n2 0 = -1) → ExactM.cmp (n1, (D1 : Int)) (n2, (D2 : Int)) = cmpI (cmpI n1 0) (cmpI n2 0)) := by
  obtain ⟨a1, a2, a3⟩ := sign_size n1 D2 h2
  obtain ⟨b1, b2, b3⟩ := sign_size n2 D1 h1
  unfold ExactM.cmp
  simp only
  generalize n1 * (D2 : Int) = A at *
  generalize n2 * (D1 : Int) = B at *
  generalize ((n1.natAbs * D2 : Nat) : Int) = X at *
  generalize ((n2.natAbs * D1 : Nat) : Int) = Y at *
  have c1 : cmpI n1 0 = 1 ∧ 0 < n1 ∨ cmpI n1 0 = -1 ∧ n1 < 0 ∨ cmpI n1 0 = 0 ∧ n1 = 0 := by unfold cmpI; (repeat' split) <;> omega
  have c2 : cmpI n2 0 = 1 ∧ 0 < n2 ∨ cmpI n2 0 = -1 ∧ n2 < 0 ∨ cmpI n2 0 = 0 ∧ n2 = 0 := by unfold cmpI; (repeat' split) <;> omega
  rcases c1 with ⟨e1, s1⟩ | ⟨e1, s1⟩ | ⟨e1, s1⟩ <;> rcases c2 with ⟨e2, s2⟩ | ⟨e2, s2⟩ | ⟨e2, s2⟩ <;> rw [e1, e2] <;>
    (try have a1' := a1 s1) <;> (try have a2' := a2 s1) <;> (try have a3' := a3 s1) <;> (try have b1' := b1 s2) <;> (try have b2' := b2 s2) <;> (try have b3' := b3 s2) <;>
    refine ⟨fun k1 k2 => ?_, fun k1 k2 => ?_, fun k1 k2 => ?_⟩ <;> first | (exfalso; omega) | (exfalso; revert k1 k2; decide) | (unfold cmpI; (repeat' split) <;> omega)
theorem compare_yes (p q : Int × Int) (w : World) (hp : R64 p) (hq : R64 q) (h1 : rtB p = true) (h2 : rtB q = true) :
    Calls Try.prog 23 #[rv p, rv q] w fun e w' => e = .returned (.int .i64 (ExactM.cmp p q)) ∧ Below w.heap.size w w' := by
  have t1 := (rtB_iff p).1 h1
  have t2 := (rtB_iff q).1 h2
  have hR1 := fun w => right_any p w hp
  have hR2 := fun w => right_any q w hq
  rw [h1] at hR1
  rw [h2] at hR2
  obtain ⟨n1, d1⟩ := p
  obtain ⟨n2, d2⟩ := q
  obtain ⟨a1, a2⟩ := hp
  obtain ⟨b1, b2⟩ := hq
  obtain ⟨p1, _⟩ := t1
  obtain ⟨p2, _⟩ := t2
  simp only at a1 a2 b1 b2 p1 p2
  obtain ⟨D1, e⟩ : ∃ D : Nat, d1 = (D : Int) := ⟨d1.toNat, by omega⟩
  subst e
  obtain ⟨D2, e⟩ : ∃ D : Nat, d2 = (D : Int) := ⟨d2.toNat, by omega⟩
  subst e
  have l1 : D1 ≤ 9223372036854775807 := by unfold I64n at a2; omega
  have l2 : D2 ≤ 9223372036854775807 := by unfold I64n at b2; omega
  have m1 := abs_lt n1 a1
  have m2 := abs_lt n2 b1
  obtain ⟨v1, v2, v3⟩ := cmp_signs n1 n2 D1 D2 (by omega) (by omega)
  exact cmp_walk n1 n2 D1 D2 n1.natAbs n2.natAbs (n1.natAbs * D2 / 18446744073709551616) (n1.natAbs * D2 % 18446744073709551616) (n2.natAbs * D1 / 18446744073709551616) (n2.natAbs * D1 % 18446744073709551616) (cmpI n1 0) (cmpI n2 0) _ _ _ w l1 l2 hR1 hR2
    (fun w => size_any n1 w a1) (fun w => size_any n2 w b1) (fun w => product_any n1.natAbs D2 w (by omega) (by omega)) (fun w => product_any n2.natAbs D1 w (by omega) (by omega)) (fun w => cmp64_any n1 0 w) (fun w => cmp64_any n2 0 w)
    (fun w => order_any (n1.natAbs * D2) (n2.natAbs * D1) w) (fun w => order_any (n2.natAbs * D1) (n1.natAbs * D2) w) (fun w => cmpint_any _ _ w) _ v1 v2 v3
theorem compare_any (p q : Int × Int) (w : World) (hp : R64 p) (hq : R64 q) :
    Calls Try.prog 23 #[rv p, rv q] w fun e w' => e = .returned (.int .i64 (cmpV p q)) ∧ Below w.heap.size w w' := by
  unfold cmpV
  cases h : (rtB p && rtB q) with
  | true =>
    rw [Bool.and_eq_true] at h
    exact compare_yes p q w hp hq h.1 h.2
  | false => exact cmp_not p q w hp hq h
end Go.Proofs.Ytneofgaklofigaa

/- Compare once more: no draw is taken back. (Written by wip/tools/gen_fusemo.py.) -/
namespace Go.Proofs.Ytneofgaklofigaa.Mo
open Go.RowKit Go.Proofs.Ytneofgaklofigaa

/-- .. and no draw is taken back -/
structure Below (B : Nat) (w w' : World) : Prop where
  low : Go.RowKit.Below B w w'
  drawn : w.drawn ≤ w'.drawn
section
variable {B B' : Nat} {a b c w w' : World}
theorem Below.refl (B : Nat) (w : World) : Below B w w := ⟨Go.RowKit.Below.refl B w, Nat.le_refl _⟩
theorem Below.size (h : Below B w w') : w.heap.size ≤ w'.heap.size := h.low.size
theorem Below.block (h : Below B w w') (k : Nat) (hk : k < B) : w'.heap[k]? = w.heap[k]? := h.low.block k hk
theorem Below.trans (h : Below B a b) (k : Below B b c) : Below B a c := ⟨h.low.trans k.low, Nat.le_trans h.drawn k.drawn⟩
theorem Below.mono (h : Below B w w') (hB : B' ≤ B) : Below B' w w' := ⟨h.low.mono hB, h.drawn⟩
theorem Below.drew (h : Below B a w) : Below B a w.drew := ⟨h.low.drew, Nat.le_succ_of_le h.drawn⟩
theorem Below.heap_alloc (w : World) (o : Obj) (k : Nat) (h : k < w.heap.size) : (w.alloc o).heap[k]? = w.heap[k]? := Go.RowKit.Below.heap_alloc w o k h
theorem Below.alloc (h : Below B a w) (hB : B ≤ w.heap.size) (o : Obj) : Below B a (w.alloc o) := ⟨h.low.alloc hB o, h.drawn⟩
theorem Below.setCell (h : Below B a w) {p : Addr} (hp : B ≤ p.block) (u : Value) : Below B a (w.setCell p u) := ⟨h.low.setCell hp u, h.drawn⟩
theorem Below.cell (h : Below B w w') {p : Addr} (hp : p.block < B) : w'.cell? p = w.cell? p := h.low.cell hp
end
theorem bl1 (w : World) (a : Obj) : Below w.heap.size w (w.alloc a) := (Below.refl _ _).alloc (Nat.le_refl _) _
theorem bl2 (w : World) (a b : Obj) : Below w.heap.size w ((w.alloc a).alloc b) := (bl1 w a).alloc (by simp) _
theorem drewN_below (w : World) (m : Nat) : Below w.heap.size w (w.drewN m) := ⟨Go.Proofs.Ytneofgaklofigaa.drewN_below w m, Nat.le_add_right _ _⟩
set_option maxHeartbeats 400000 in
set_option maxRecDepth 100000 in
theorem product_any (x y : Nat) (w : World) (hx : x < 18446744073709551616) (hy : y < 18446744073709551616) :
    Calls Try.prog 28 #[.int .u64 x, .int .u64 y] w fun e w' => e = .returned (wv (x * y)) ∧ Below w.heap.size w w' := by
  unfold wv
  have hw := wide_any x y (w.alloc (.cells #[.int .u64 0, .int .u64 0] 68)) hx hy
  generalize x * y / 18446744073709551616 = p at hw ⊢
  generalize x * y % 18446744073709551616 = q at hw ⊢
  go_enter Try.func28, Try.ntmps28
  go_wp2_with fail
  refine hw.mono ?_
  rintro e w' ⟨rfl, rfl⟩
  go_wp2
  exact bodyPost_ret (v := .agg #[.int .u64 (p : Int), .int .u64 (q : Int)]) (by simp [results, Try.results28, go_sem]) rfl ⟨rfl, bl1 _ _⟩
set_option maxHeartbeats 1000000 in
set_option maxRecDepth 100000 in
theorem order_any (m n : Nat) (w : World) :
    Calls Try.prog 30 #[wv m, wv n] w fun e w' => e = .returned (.int .i64 (cmpI m n)) ∧ Below w.heap.size w w' := by
  have hc := cmp_words m n
  unfold wv
  obtain ⟨a, ha⟩ : ∃ p, p = m / 18446744073709551616 := ⟨_, rfl⟩
  obtain ⟨b, hb⟩ : ∃ p, p = m % 18446744073709551616 := ⟨_, rfl⟩
  obtain ⟨c, hc'⟩ : ∃ p, p = n / 18446744073709551616 := ⟨_, rfl⟩
  obtain ⟨d, hd⟩ : ∃ p, p = n % 18446744073709551616 := ⟨_, rfl⟩
  rw [← ha, ← hb, ← hc', ← hd] at hc ⊢
  rw [hc]
  clear ha hb hc' hd hc
  by_cases h1 : a = c
  · subst h1
    rw [if_pos rfl]
    by_cases h2 : b = d
    · subst h2
      rw [show cmpI b b = 0 by unfold cmpI; (repeat' split) <;> omega]
      go_enter Try.func30, Try.ntmps30
      go_wp2
      go_ret
      exact ⟨rfl, bl2 _ _ _⟩
    · have hbd : ((b : Int) == (d : Int)) = false := by simpa using (fun e => h2 (by omega))
      go_enter Try.func30, Try.ntmps30
      go_wp2_with (go_at_call 45; refine (cmpu64_any _ _ _).mono ?_; rintro e w' ⟨rfl, rfl⟩)
      go_ret
      exact ⟨rfl, bl2 _ _ _⟩
  · rw [if_neg h1]
    have hac : ((a : Int) == (c : Int)) = false := by simpa using (fun e => h1 (by omega))
    go_enter Try.func30, Try.ntmps30
    go_wp2_with (go_at_call 45; refine (cmpu64_any _ _ _).mono ?_; rintro e w' ⟨rfl, rfl⟩)
    go_ret
    exact ⟨rfl, bl2 _ _ _⟩
set_option maxHeartbeats 1000000 in
set_option maxRecDepth 100000 in
theorem right_any (p : Int × Int) (w : World) (h : R64 p) :
    Calls Try.prog 10 #[rv p] w fun e w' => e = .returned (.bool (rtB p)) ∧ Below w.heap.size w w' := by
  obtain ⟨n, d⟩ := p
  obtain ⟨h1, h2⟩ := h
  simp only at h1 h2
  have hrt : rtB (n, d) = (decide (0 < d) && (Nat.gcd n.natAbs d.natAbs == 1)) := rfl
  rw [hrt]
  clear hrt
  unfold rv
  simp only
  have l1 := abs_lt n h1
  by_cases h0 : 0 < d
  · have hd : decide ((0 : Int) < d) = true := decide_eq_true h0
    rw [hd]
    obtain ⟨D, hD⟩ : ∃ D : Nat, D = d.natAbs := ⟨_, rfl⟩
    have hDd : d = (D : Int) := by omega
    rw [← hD]
    clear hD
    subst hDd
    have hdN : decide (0 < D) = true := by simpa using h0
    have hD2 : D ≤ 9223372036854775807 := by unfold I64n at h2; omega
    have hS := fun w => (size_any n w h1).mono (R' := fun e w' => e = .returned (.int .u64 (n.natAbs : Int)) ∧ w' = w) (fun _ _ h => ⟨h.1, h.2.symm⟩)
    have hG := fun w => (divisor_any n.natAbs D w (by omega) (by omega)).mono (R' := fun e w' => e = .returned (.int .u64 (Nat.gcd n.natAbs D : Int)) ∧ w' = w) (fun _ _ h => ⟨h.1, h.2.symm⟩)
    obtain ⟨N, hN⟩ : ∃ N : Nat, N = n.natAbs := ⟨_, rfl⟩
    rw [← hN] at hS hG ⊢
    obtain ⟨g, hg⟩ : ∃ g, g = Nat.gcd N D := ⟨_, rfl⟩
    rw [← hg] at hG ⊢
    clear hN hg l1
    go_enter Try.func10, Try.ntmps10
    go_wp2
    go_quiet (first | (go_at_call 22; exact Calls.quiet_of_same (hS _)) | (go_at_call 21; exact Calls.quiet_of_same (hG _)))
    have hg1 : ((g : Int) == 1) = (g == 1) := by rw [Bool.eq_iff_iff]; simp; omega
    have HG1 := Lib.hid hg1
    clear hg1
    go_wp2
    go_ret
    exact ⟨by show Ending.returned (.bool ((g : Int) == 1)) = _; rw [HG1.out]; rfl, (bl1 _ _).trans ((drewN_below _ _).mono (by simp))⟩
  · have hd : decide ((0 : Int) < d) = false := decide_eq_false h0
    rw [hd]
    go_enter Try.func10, Try.ntmps10
    go_wp2
    go_quiet (fail)
    go_wp2
    go_ret
    exact ⟨rfl, (bl1 _ _).trans ((drewN_below _ _).mono (by simp))⟩
theorem cell_kept {X w1 : World} {p : Addr} {v : Value} (hb : Below X.heap.size X w1) (h : X.cell? p = some v) : w1.cell? p = some v := (hb.cell (World.block_lt_of_cell? X p h)).trans h
/-- the blocks that a call has made, as they stand in V -/
def Bks (w V : World) (l : List Obj) : Prop := Below w.heap.size w V ∧ ∀ i o, l[i]? = some o → V.heap[w.heap.size + i]? = some o
theorem Bks.later {w V V' : World} {l : List Obj} (h : Bks w V l) (hb : Below V.heap.size V V') : Bks w V' l :=
  ⟨h.1.trans (hb.mono h.1.size), fun i o hi => (hb.block _ (Array.getElem?_eq_some_iff.1 (h.2 i o hi)).1).trans (h.2 i o hi)⟩
theorem Bks.drew {w V : World} {l : List Obj} (h : Bks w V l) : Bks w V.drew l := ⟨h.1.drew, h.2⟩
theorem Bks.drewN {w V : World} {l : List Obj} (h : Bks w V l) (n : Nat) : Bks w (V.drewN n) l := h.later (drewN_below V n)
theorem Bks.pair {w V : World} {l : List Obj} (h : Bks w V l) (i : Nat) {a b : Value} {t : TypeId} (hi : l[i]? = some (.cells #[a, b] t (0, 0))) :
    (V.cell? ⟨w.heap.size + i, 0, none⟩ = some a ∧ V.cell? ⟨w.heap.size + i, 1, none⟩ = some b) ∧ (V.frozen? ⟨w.heap.size + i, 0, none⟩ = false ∧ V.frozen? ⟨w.heap.size + i, 1, none⟩ = false) ∧ w.heap.size + i < V.heap.size :=
  ⟨cell_pair (h.2 i _ hi), ⟨by simp [World.frozen?, h.2 i _ hi], by simp [World.frozen?, h.2 i _ hi]⟩, (Array.getElem?_eq_some_iff.1 (h.2 i _ hi)).1⟩
theorem bks2 (w : World) (a b : Obj) : ∃ V, V = (w.alloc a).alloc b ∧ Bks w V [a, b] := by
  refine ⟨_, rfl, bl2 w a b, fun i o hi => ?_⟩
  match i, hi with
  | 0, hi => simp at hi; subst hi; rw [Nat.add_zero, Below.heap_alloc _ _ _ (by simp)]; exact heap_alloc_new _ _
  | 1, hi => simp at hi; subst hi; have := heap_alloc_new (w.alloc a) b; simpa using this
theorem keepC {V X w1 : World} {p1 p2 : Addr} {v1 v2 : Value} (hb : Below X.heap.size X w1) (h : X.cell? p1 = some v1 ∧ X.cell? p2 = some v2 ∧ Below V.heap.size V X) : w1.cell? p1 = some v1 ∧ w1.cell? p2 = some v2 ∧ Below V.heap.size V w1 := ⟨cell_kept hb h.1, cell_kept hb h.2.1, h.2.2.trans (hb.mono h.2.2.size)⟩
theorem keepA {V X : World} {p1 p2 : Addr} {v1 v2 : Value} {o : Obj} (h : X.cell? p1 = some v1 ∧ X.cell? p2 = some v2 ∧ Below V.heap.size V X) : (X.alloc o).cell? p1 = some v1 ∧ (X.alloc o).cell? p2 = some v2 ∧ Below V.heap.size V (X.alloc o) := keepC (bl1 X o) h
theorem keepD {V : World} {p1 p2 : Addr} {v1 v2 : Value} (h1 : V.cell? p1 = some v1) (h2 : V.cell? p2 = some v2) : V.drew.cell? p1 = some v1 ∧ V.drew.cell? p2 = some v2 ∧ Below V.heap.size V V.drew := ⟨h1, h2, (Below.refl _ _).drew⟩
theorem keepSt {U X : World} {g : Nat} {p1 p2 : Addr} {v1 v2 a b : Value} (h : Below U.heap.size U X) (hg : U.heap.size ≤ g) (h1 : U.cell? p1 = some v1) (h2 : U.cell? p2 = some v2) :
    ((X.setCell ⟨g, 0, none⟩ a).setCell ⟨g, 1, none⟩ b).cell? p1 = some v1 ∧ ((X.setCell ⟨g, 0, none⟩ a).setCell ⟨g, 1, none⟩ b).cell? p2 = some v2 ∧ Below U.heap.size U ((X.setCell ⟨g, 0, none⟩ a).setCell ⟨g, 1, none⟩ b) := by
  have hb : Below U.heap.size U ((X.setCell ⟨g, 0, none⟩ a).setCell ⟨g, 1, none⟩ b) := (h.setCell hg _).setCell hg _
  exact ⟨cell_kept hb h1, cell_kept hb h2, hb⟩
/-- a new variable of two cells, made behind U -/
def Blk (U w : World) (t : TypeId) (x y : Value) (g : Nat) : Prop := U.heap.size ≤ g ∧ w.heap[g]? = some (.cells #[x, y] t (0, 0))
theorem blk_new {U X : World} {t : TypeId} {x y : Value} (h : U.heap.size ≤ X.heap.size) : Blk U (X.alloc (.cells #[x, y] t)) t x y X.heap.size := ⟨h, heap_alloc_new _ _⟩
theorem blk_kept {U X w1 : World} {t : TypeId} {x y : Value} {g : Nat} (hb : Below X.heap.size X w1) (h : Blk U X t x y g) : Blk U w1 t x y g := ⟨h.1, (hb.block g (Array.getElem?_eq_some_iff.1 h.2).1).trans h.2⟩
theorem Blk.cells {U w : World} {t : TypeId} {x y : Value} {g : Nat} (h : Blk U w t x y g) : (w.cell? ⟨g, 0, none⟩ = some x ∧ w.cell? ⟨g, 1, none⟩ = some y) ∧ (w.frozen? ⟨g, 0, none⟩ = false ∧ w.frozen? ⟨g, 1, none⟩ = false) :=
  ⟨cell_pair h.2, by simp [World.frozen?, h.2], by simp [World.frozen?, h.2]⟩
theorem Blk.done {U w : World} {t : TypeId} {x y : Value} {g : Nat} (h : Blk U w t x y g) (hb : Below U.heap.size U w) (a b : Value) : Below U.heap.size U ((w.setCell ⟨g, 0, none⟩ a).setCell ⟨g, 1, none⟩ b) ∧ ((w.setCell ⟨g, 0, none⟩ a).setCell ⟨g, 1, none⟩ b).heap[g]? = some (.cells #[a, b] t (0, 0)) := by
  refine ⟨(hb.setCell h.1 _).setCell h.1 _, ?_⟩
  rw [heap_setCell_row (heap_setCell_row h.2 0 a) 1 b]
  simp
theorem hid_size {U X : World} (h : Hid (Below U.heap.size U X)) : U.heap.size ≤ X.heap.size := h.out.size
set_option maxHeartbeats 1000000 in
set_option maxRecDepth 100000 in
theorem cmp_not (p q : Int × Int) (w : World) (hp : R64 p) (hq : R64 q) (hr : (rtB p && rtB q) = false) :
    Calls Try.prog 23 #[rv p, rv q] w fun e w' => e = .returned (.int .i64 0) ∧ Below w.heap.size w w' := by
  obtain ⟨n, d⟩ := p
  obtain ⟨m, f⟩ := q
  have hR1 := fun w => right_any (n, d) w hp
  have hR2 := fun w => right_any (m, f) w hq
  unfold rv at hR1 hR2 ⊢
  simp only at hR1 hR2 ⊢
  obtain ⟨V, hV, hB⟩ := bks2 w (.cells #[.int .i64 n, .int .i64 d] 33) (.cells #[.int .i64 m, .int .i64 f] 33)
  have HV := Lib.hid hV
  clear hV
  cases h1 : rtB (n, d) with
  | false =>
    rw [h1] at hR1
    clear hr h1 hR2
    go_enter Try.func23, Try.ntmps23
    go_wp2_with fail
    rw [← HV.out]
    refine (hR1 _).mono ?_
    rintro e V1 ⟨rfl, hb1⟩
    have HB := Lib.hid (hB.later hb1)
    clear hB hb1
    go_wp2
    go_ret
    exact ⟨rfl, HB.out.1⟩
  | true =>
    rw [h1, Bool.true_and] at hr
    rw [h1] at hR1
    rw [hr] at hR2
    clear hr h1
    go_enter Try.func23, Try.ntmps23
    go_wp2_with fail
    rw [← HV.out]
    refine (hR1 _).mono ?_
    rintro e V1 ⟨rfl, hb1⟩
    have hB1 := hB.later hb1
    obtain ⟨⟨c0, c1⟩, _, _⟩ := hB1.pair 1 rfl
    have HB := Lib.hid hB1
    clear hB hb1 hB1
    go_wp2_with fail
    refine (hR2 _).mono ?_
    rintro e V2 ⟨rfl, hb2⟩
    have HB2 := Lib.hid (HB.out.later hb2)
    clear hb2 HB
    go_wp2
    go_ret
    exact ⟨rfl, HB2.out.1⟩
set_option maxHeartbeats 4000000 in
set_option maxRecDepth 100000 in
theorem cmp_walk (n1 n2 : Int) (D1 D2 N1 N2 x1 x0 y1 y0 : Nat) (c1 c2 : Int) (ox oy oc : Int) (w : World)
    (l1 : D1 ≤ 9223372036854775807) (l2 : D2 ≤ 9223372036854775807)
    (hR1 : ∀ w, Calls Try.prog 10 #[.agg #[.int .i64 n1, .int .i64 (D1 : Int)]] w fun e w' => e = .returned (.bool true) ∧ Below w.heap.size w w')
    (hR2 : ∀ w, Calls Try.prog 10 #[.agg #[.int .i64 n2, .int .i64 (D2 : Int)]] w fun e w' => e = .returned (.bool true) ∧ Below w.heap.size w w')
    (hS1 : ∀ w, Calls Try.prog 22 #[.int .i64 n1] w fun e w' => e = .returned (.int .u64 (N1 : Int)) ∧ w = w')
    (hS2 : ∀ w, Calls Try.prog 22 #[.int .i64 n2] w fun e w' => e = .returned (.int .u64 (N2 : Int)) ∧ w = w')
    (hP1 : ∀ w, Calls Try.prog 28 #[.int .u64 (N1 : Int), .int .u64 (D2 : Int)] w fun e w' => e = .returned (.agg #[.int .u64 (x1 : Int), .int .u64 (x0 : Int)]) ∧ Below w.heap.size w w')
    (hP2 : ∀ w, Calls Try.prog 28 #[.int .u64 (N2 : Int), .int .u64 (D1 : Int)] w fun e w' => e = .returned (.agg #[.int .u64 (y1 : Int), .int .u64 (y0 : Int)]) ∧ Below w.heap.size w w')
    (hC1 : ∀ w, Calls Try.prog 29 #[.int .i64 n1, .int .i64 0] w fun e w' => e = .returned (.int .i64 c1) ∧ w = w')
    (hC2 : ∀ w, Calls Try.prog 29 #[.int .i64 n2, .int .i64 0] w fun e w' => e = .returned (.int .i64 c2) ∧ w = w')
    (hOx : ∀ w, Calls Try.prog 30 #[.agg #[.int .u64 (x1 : Int), .int .u64 (x0 : Int)], .agg #[.int .u64 (y1 : Int), .int .u64 (y0 : Int)]] w fun e w' => e = .returned (.int .i64 ox) ∧ Below w.heap.size w w')
    (hOy : ∀ w, Calls Try.prog 30 #[.agg #[.int .u64 (y1 : Int), .int .u64 (y0 : Int)], .agg #[.int .u64 (x1 : Int), .int .u64 (x0 : Int)]] w fun e w' => e = .returned (.int .i64 oy) ∧ Below w.heap.size w w')
    (hOc : ∀ w, Calls Try.prog 31 #[.int .i64 c1, .int .i64 c2] w fun e w' => e = .returned (.int .i64 oc) ∧ w = w')
    (v : Int) (hv1 : c1 = 1 → c2 = 1 → v = ox) (hv2 : c1 = -1 → c2 = -1 → v = oy) (hv3 : ¬ (c1 = 1 ∧ c2 = 1) → ¬ (c1 = -1 ∧ c2 = -1) → v = oc) :
    Calls Try.prog 23 #[.agg #[.int .i64 n1, .int .i64 (D1 : Int)], .agg #[.int .i64 n2, .int .i64 (D2 : Int)]] w fun e w' => e = .returned (.int .i64 v) ∧ Below w.heap.size w w' := by
  obtain ⟨V, hV, hB⟩ := bks2 w (.cells #[.int .i64 n1, .int .i64 (D1 : Int)] 33) (.cells #[.int .i64 n2, .int .i64 (D2 : Int)] 33)
  have HV := Lib.hid hV
  have HV1 := Lib.hid hv1
  have HV2 := Lib.hid hv2
  have HV3 := Lib.hid hv3
  clear hV hv1 hv2 hv3
  go_enter Try.func23, Try.ntmps23
  go_wp2_with fail
  rw [← HV.out]
  refine (hR1 _).mono ?_
  rintro e V1 ⟨rfl, hb1⟩
  have hB1 := hB.later hb1
  obtain ⟨⟨c0, c1'⟩, _, _⟩ := hB1.pair 1 rfl
  have HB1 := Lib.hid hB1
  clear hB hb1 hB1
  go_wp2_with fail
  refine (hR2 _).mono ?_
  rintro e U ⟨rfl, hb2⟩
  clear c0 c1'
  have hBU := HB1.out.later hb2
  clear HB1 hb2
  obtain ⟨⟨c0, c1'⟩, _, _⟩ := hBU.pair 0 rfl
  rw [Nat.add_zero] at c0 c1'
  obtain ⟨⟨c2', c3⟩, _, _⟩ := hBU.pair 1 rfl
  have HBU := Lib.hid hBU
  clear hBU
  have wD1 := wrapNN D1 (by omega)
  have wD2 := wrapNN D2 (by omega)
  go_upto_region 3 with fail
  go_cut [5] (fun y wx => ∃ k : Nat, y = .pointer (some ⟨k, 0, none⟩) ∧ Below U.heap.size U wx ∧ wx.heap[k]? = some (.cells #[.int .u64 (x1 : Int), .int .u64 (x0 : Int)] 68 (0, 0)))
  case first =>
    go_region_held3 (fun w' => w'.cell? ⟨w.heap.size, 0, none⟩ = some (.int .i64 n1) ∧ w'.cell? ⟨w.heap.size + 1, 1, none⟩ = some (.int .i64 (D2 : Int)) ∧ Below U.heap.size U w') ((first | (exact keepC hb (by assumption)) | (exact keepA (by assumption)) | (exact keepA hk.out) | (exact keepSt hk.out.2.2 kz.1 c0 c3) | (exact keepD (by assumption) (by assumption)) | go_keep))
      (first
        | (go_at_call 22; ((with_reducible refine (hS1 _).mono ?_); rintro e w' ⟨rfl, rfl⟩))
        | (go_at_call 28; ((with_reducible refine (hP1 _).mono ?_); rintro e U1 ⟨rfl, hb⟩; have hk : Hid (U1.cell? ⟨w.heap.size, 0, none⟩ = some (.int .i64 n1) ∧ U1.cell? ⟨w.heap.size + 1, 1, none⟩ = some (.int .i64 (D2 : Int)) ∧ Below U.heap.size U U1) := Lib.hid (keepC hb (by assumption)); try (have kz : Blk U U1 68 (.int .u64 0) (.int .u64 0) _ := blk_kept hb (by first | assumption | (exact blk_new (by first | (exact hid_size (by assumption)) | (exact Nat.le_refl _))))); try (obtain ⟨⟨z1, z2⟩, z3, z4⟩ := kz.cells))))
    all_goals
      go_wp2_with fail
      go_meet
      first
        | (exact ⟨_, rfl, (kz.done hk.out.2.2 _ _).1, (kz.done hk.out.2.2 _ _).2⟩)
        | (exact ⟨_, rfl, hk.out.2.2.alloc (hk.out.2.2.size) _, heap_alloc_new _ _⟩)
  case rest =>
    obtain ⟨kx, rfl, hbU, hkx⟩ := hcut
    have hB1 := HBU.out.later hbU
    have hbU' := Lib.hid hbU
    have HKX := Lib.hid hkx
    clear HBU c0 c1' c2' c3 hbU hkx
    obtain ⟨U2, hU2⟩ : ∃ U2, U2 = wc := ⟨_, rfl⟩
    subst hU2
    obtain ⟨⟨c0, c1'⟩, _, _⟩ := hB1.pair 0 rfl
    rw [Nat.add_zero] at c0 c1'
    obtain ⟨⟨c2', c3⟩, _, _⟩ := hB1.pair 1 rfl
    have HB1 := Lib.hid hB1
    clear hB1
    go_upto_region 4 with fail
    go_cut [6] (fun y wx => ∃ k : Nat, y = .pointer (some ⟨k, 0, none⟩) ∧ Below U2.heap.size U2 wx ∧ wx.heap[k]? = some (.cells #[.int .u64 (y1 : Int), .int .u64 (y0 : Int)] 68 (0, 0)))
    case first =>
      go_region_held3 (fun w' => w'.cell? ⟨w.heap.size + 1, 0, none⟩ = some (.int .i64 n2) ∧ w'.cell? ⟨w.heap.size, 1, none⟩ = some (.int .i64 (D1 : Int)) ∧ Below U2.heap.size U2 w') ((first | (exact keepC hb (by assumption)) | (exact keepA (by assumption)) | (exact keepA hk.out) | (exact keepSt hk.out.2.2 kz.1 c2' c1') | (exact keepD (by assumption) (by assumption)) | go_keep))
        (first
          | (go_at_call 22; ((with_reducible refine (hS2 _).mono ?_); rintro e w' ⟨rfl, rfl⟩))
          | (go_at_call 28; ((with_reducible refine (hP2 _).mono ?_); rintro e U1 ⟨rfl, hb⟩; have hk : Hid (U1.cell? ⟨w.heap.size + 1, 0, none⟩ = some (.int .i64 n2) ∧ U1.cell? ⟨w.heap.size, 1, none⟩ = some (.int .i64 (D1 : Int)) ∧ Below U2.heap.size U2 U1) := Lib.hid (keepC hb (by assumption)); try (have kz : Blk U2 U1 68 (.int .u64 0) (.int .u64 0) _ := blk_kept hb (by first | assumption | (exact blk_new (by first | (exact hid_size (by assumption)) | (exact Nat.le_refl _))))); try (obtain ⟨⟨z1, z2⟩, z3, z4⟩ := kz.cells))))
      all_goals
        go_wp2_with fail
        go_meet
        first
          | (exact ⟨_, rfl, (kz.done hk.out.2.2 _ _).1, (kz.done hk.out.2.2 _ _).2⟩)
          | (exact ⟨_, rfl, hk.out.2.2.alloc (hk.out.2.2.size) _, heap_alloc_new _ _⟩)
    case rest =>
      obtain ⟨ky, rfl, hbU2, hky⟩ := hcut
      have hB2 := HB1.out.later hbU2
      have hkx := (hbU2.block kx (Array.getElem?_eq_some_iff.1 HKX.out).1).trans HKX.out
      clear c0 c1' c2' c3
      obtain ⟨U3, hU3⟩ : ∃ U3, U3 = wc := ⟨_, rfl⟩
      subst hU3
      obtain ⟨⟨c0, c1'⟩, _, _⟩ := hB2.pair 0 rfl
      rw [Nat.add_zero] at c0 c1'
      obtain ⟨⟨c2', c3⟩, _, _⟩ := hB2.pair 1 rfl
      have HB2 := Lib.hid hB2
      have HKX2 := Lib.hid hkx
      have HKY2 := Lib.hid hky
      clear hB2 hkx hky hbU2 HB1 HKX
      go_upto_region 5 with fail
      go_cut [7] (fun y wx => ∃ k : Nat, y = .pointer (some ⟨k, 0, none⟩) ∧ Below U3.heap.size U3 wx ∧ wx.heap[k]? = some (.cells #[.int .i64 c1, .int .i64 c2] 71 (0, 0)))
      case first =>
        go_region_held3 (fun w' => w'.cell? ⟨w.heap.size, 0, none⟩ = some (.int .i64 n1) ∧ w'.cell? ⟨w.heap.size + 1, 0, none⟩ = some (.int .i64 n2) ∧ Below U3.heap.size U3 w') ((first | (exact keepA (by assumption)) | (exact keepA (keepD c0 c2')) | (exact keepD (by assumption) (by assumption)) | go_keep))
          (first
            | (go_at_call 29; first | ((with_reducible refine (hC1 _).mono ?_); rintro e w' ⟨rfl, rfl⟩) | ((with_reducible refine (hC2 _).mono ?_); rintro e w' ⟨rfl, rfl⟩)))
        all_goals
          go_wp2_with fail
          go_meet
          exact ⟨_, rfl, (keepA (keepD c0 c2')).2.2, heap_alloc_new _ _⟩
      case rest =>
        obtain ⟨kc, rfl, hbU3, hkc⟩ := hcut
        have hB3 := HB2.out.later hbU3
        have hkx := (hbU3.block kx (Array.getElem?_eq_some_iff.1 HKX2.out).1).trans HKX2.out
        have hky := (hbU3.block ky (Array.getElem?_eq_some_iff.1 HKY2.out).1).trans HKY2.out
        obtain ⟨kx0, kx1⟩ := cell_pair hkx
        obtain ⟨ky0, ky1⟩ := cell_pair hky
        obtain ⟨kc0, kc1⟩ := cell_pair hkc
        have HB3 := Lib.hid hB3
        clear hB3 hkx hky hkc hbU3 HB2 HKX2 HKY2 c0 c1' c2' c3
        have hE1 := fun w => run_eq_arr2 c1 c2 1 1 w
        have hE2 := fun w => run_eq_arr2 c1 c2 (-1) (-1) w
        obtain ⟨e1, he1⟩ : ∃ e, e = ((c1 == 1) && (c2 == 1)) := ⟨_, rfl⟩
        obtain ⟨e2, he2⟩ : ∃ e, e = ((c1 == -1) && (c2 == -1)) := ⟨_, rfl⟩
        rw [← he1] at hE1
        rw [← he2] at hE2
        have HE1 := Lib.hid he1
        have HE2 := Lib.hid he2
        clear he1 he2
        cases e1 with
        | true =>
          have hv : v = ox := by
            have h := HE1.out
            simp at h
            exact HV1.out h.1 h.2
          subst hv
          go_wp2_with (go_at_call 30; refine (hOx _).mono ?_; rintro e W ⟨rfl, hb⟩)
          go_ret
          exact ⟨rfl, HB3.out.1.trans (hb.mono HB3.out.1.size)⟩
        | false =>
          cases e2 with
          | true =>
            have hv : v = oy := by
              have h := HE2.out
              simp at h
              exact HV2.out h.1 h.2
            subst hv
            go_wp2_with (go_at_call 30; refine (hOy _).mono ?_; rintro e W ⟨rfl, hb⟩)
            go_ret
            exact ⟨rfl, HB3.out.1.trans (hb.mono HB3.out.1.size)⟩
          | false =>
            have hv : v = oc := by
              have h := HE1.out
              have h' := HE2.out
              simp at h h'
              exact HV3.out (fun k => h k.1 k.2) (fun k => h' k.1 k.2)
            subst hv
            go_wp2_with (go_at_call 31; refine (hOc _).mono ?_; rintro e W ⟨rfl, rfl⟩)
            go_ret
            exact ⟨rfl, HB3.out.1⟩
theorem compare_yes (p q : Int × Int) (w : World) (hp : R64 p) (hq : R64 q) (h1 : rtB p = true) (h2 : rtB q = true) :
    Calls Try.prog 23 #[rv p, rv q] w fun e w' => e = .returned (.int .i64 (ExactM.cmp p q)) ∧ Below w.heap.size w w' := by
  have t1 := (rtB_iff p).1 h1
  have t2 := (rtB_iff q).1 h2
  have hR1 := fun w => right_any p w hp
  have hR2 := fun w => right_any q w hq
  rw [h1] at hR1
  rw [h2] at hR2
  obtain ⟨n1, d1⟩ := p
  obtain ⟨n2, d2⟩ := q
  obtain ⟨a1, a2⟩ := hp
  obtain ⟨b1, b2⟩ := hq
  obtain ⟨p1, _⟩ := t1
  obtain ⟨p2, _⟩ := t2
  simp only at a1 a2 b1 b2 p1 p2
  obtain ⟨D1, e⟩ : ∃ D : Nat, d1 = (D : Int) := ⟨d1.toNat, by omega⟩
  subst e
  obtain ⟨D2, e⟩ : ∃ D : Nat, d2 = (D : Int) := ⟨d2.toNat, by omega⟩
  subst e
  have l1 : D1 ≤ 9223372036854775807 := by unfold I64n at a2; omega
  have l2 : D2 ≤ 9223372036854775807 := by unfold I64n at b2; omega
  have m1 := abs_lt n1 a1
  have m2 := abs_lt n2 b1
  obtain ⟨v1, v2, v3⟩ := cmp_signs n1 n2 D1 D2 (by omega) (by omega)
  exact cmp_walk n1 n2 D1 D2 n1.natAbs n2.natAbs (n1.natAbs * D2 / 18446744073709551616) (n1.natAbs * D2 % 18446744073709551616) (n2.natAbs * D1 / 18446744073709551616) (n2.natAbs * D1 % 18446744073709551616) (cmpI n1 0) (cmpI n2 0) _ _ _ w l1 l2 hR1 hR2
    (fun w => size_any n1 w a1) (fun w => size_any n2 w b1) (fun w => product_any n1.natAbs D2 w (by omega) (by omega)) (fun w => product_any n2.natAbs D1 w (by omega) (by omega)) (fun w => cmp64_any n1 0 w) (fun w => cmp64_any n2 0 w)
    (fun w => order_any (n1.natAbs * D2) (n2.natAbs * D1) w) (fun w => order_any (n2.natAbs * D1) (n1.natAbs * D2) w) (fun w => cmpint_any _ _ w) _ v1 v2 v3
theorem compare_any (p q : Int × Int) (w : World) (hp : R64 p) (hq : R64 q) :
    Calls Try.prog 23 #[rv p, rv q] w fun e w' => e = .returned (.int .i64 (cmpV p q)) ∧ Below w.heap.size w w' := by
  unfold cmpV
  cases h : (rtB p && rtB q) with
  | true =>
    rw [Bool.and_eq_true] at h
    exact compare_yes p q w hp hq h.1 h.2
  | false => exact cmp_not p q w hp hq h
/-- such a world has grown by draws and blocks alone -/
theorem Below.grown_ {w w' : World} (h : Below w.heap.size w w') : ∃ q os, w' = Go.Sort.grow (w.drewN q) os := by
  refine ⟨w'.drawn - w.drawn, w'.heap.extract w.heap.size w'.heap.size, ?_⟩
  obtain ⟨⟨h1, h2, h3, h4, h5⟩, h6⟩ := h
  obtain ⟨heap, tape, drawn, os, output⟩ := w
  obtain ⟨heap', tape', drawn', os', output'⟩ := w'
  simp only at h1 h2 h3 h4 h5 h6 ⊢
  subst h1 h2 h3
  have hh : heap' = heap ++ heap'.extract heap.size heap'.size := by
    apply Array.ext_getElem?
    intro i
    rcases Nat.lt_or_ge i heap.size with c | c
    · rw [Array.getElem?_append_left c]
      exact h5 i c
    · rw [Array.getElem?_append_right c, Array.getElem?_extract]
      by_cases d : i < heap'.size
      · rw [if_pos (by omega), show heap.size + (i - heap.size) = i by omega]
      · rw [if_neg (by omega)]
        exact Array.getElem?_eq_none (by omega)
  unfold Go.Sort.grow World.drewN
  simp only [World.mk.injEq, true_and, and_true]
  exact ⟨hh, by omega⟩
end Go.Proofs.Ytneofgaklofigaa.Mo

/- The best of many, bounded: an order of documents with rationals, a list in order, a heap whose first is the worst. Plain lists; nothing of the program. -/
namespace FuM

abbrev T3 := Int × Int × Int
/-- a right rational, in 64 bits each -/
def Ok (t : T3) : Prop := ExactM.Rt t.2 ∧ (-9223372036854775808 ≤ t.2.1 ∧ t.2.1 ≤ 9223372036854775807) ∧ -9223372036854775808 ≤ t.2.2 ∧ t.2.2 ≤ 9223372036854775807
/-- a document and its value -/
abbrev FV := {t : T3 // Ok t}
theorem ok_zero : Ok (0, 0, 1) := ⟨⟨by decide, by decide⟩, by decide, by decide, by decide⟩
instance : Inhabited FV := ⟨⟨(0, 0, 1), ok_zero⟩⟩
def L (a b : FV) : Prop := ExactM.cmp a.1.2 b.1.2 < 0
theorem L_tr {a b c : FV} (h1 : L a b) (h2 : L b c) : L a c := ExactM.cmp_trans a.2.1.1 b.2.1.1 c.2.1.1 h1 h2
theorem L_irr (a : FV) : ¬ L a a := by
  unfold L
  have := ExactM.cmp_turn a.1.2 a.1.2
  omega
theorem L_tot (a b : FV) : L a b ∨ a.1.2 = b.1.2 ∨ L b a := by
  unfold L
  rcases Int.lt_trichotomy (ExactM.cmp a.1.2 b.1.2) 0 with h | h | h
  · exact .inl h
  · exact .inr (.inl ((ExactM.rt_same a.2.1 b.2.1).1 h))
  · have := ExactM.cmp_turn a.1.2 b.1.2
    exact .inr (.inr (by omega))
/-- is a better than b? -/
def bet (a b : FV) : Bool := if ExactM.cmp a.1.2 b.1.2 = 0 then decide (a.1.1 < b.1.1) else decide (0 < ExactM.cmp a.1.2 b.1.2)
theorem bet_iff (a b : FV) : bet a b = true ↔ (a.1.2 = b.1.2 ∧ a.1.1 < b.1.1) ∨ L b a := by
  unfold bet L
  have ht := ExactM.cmp_turn a.1.2 b.1.2
  have hs := ExactM.rt_same a.2.1 b.2.1
  by_cases h : ExactM.cmp a.1.2 b.1.2 = 0
  · rw [if_pos h, decide_eq_true_eq]
    constructor
    · intro hl; exact .inl ⟨hs.1 h, hl⟩
    · rintro (hl | hl)
      · exact hl.2
      · omega
  · rw [if_neg h, decide_eq_true_eq]
    constructor
    · intro hl; exact .inr (by omega)
    · rintro (hl | hl)
      · exact absurd (hs.2 hl.1) h
      · omega
theorem irr (a : FV) : bet a a = false := by
  cases h : bet a a with
  | false => rfl
  | true =>
    rcases (bet_iff a a).1 h with h | h
    · omega
    · exact absurd h (L_irr a)
theorem tr {a b c : FV} (h1 : bet a b = true) (h2 : bet b c = true) : bet a c = true := by
  rw [bet_iff] at *
  rcases h1 with ⟨e1, l1⟩ | l1 <;> rcases h2 with ⟨e2, l2⟩ | l2
  · exact .inl ⟨e1.trans e2, by omega⟩
  · right; unfold L at *; rw [e1]; exact l2
  · right; unfold L at *; rw [← e2]; exact l1
  · exact .inr (L_tr l2 l1)
theorem asy {a b : FV} (h : bet a b = true) : bet b a = false := by
  cases h2 : bet b a with
  | false => rfl
  | true => have := tr h h2; rw [irr] at this; cases this
theorem tot {a b : FV} (h : bet a b = false) : a = b ∨ bet b a = true := by
  rcases L_tot a b with l | e | l
  · exact .inr ((bet_iff b a).2 (.inr l))
  · rcases Int.lt_trichotomy a.1.1 b.1.1 with d | d | d
    · have := (bet_iff a b).2 (.inl ⟨e, d⟩)
      rw [h] at this; cases this
    · exact .inl (Subtype.ext (Prod.ext d e))
    · exact .inr ((bet_iff b a).2 (.inl ⟨e.symm, d⟩))
  · have := (bet_iff a b).2 (.inr l)
    rw [h] at this; cases this
theorem ntr {a b c : FV} (h1 : bet a b = false) (h2 : bet b c = false) : bet a c = false := by
  cases h : bet a c with
  | false => rfl
  | true =>
    rcases tot h1 with e | l
    · subst e; rw [h] at h2; cases h2
    · have := tr l h; rw [h2] at this; cases this
theorem same_of {a b : FV} (h1 : bet a b = false) (h2 : bet b a = false) : a = b := by
  rcases tot h1 with e | l
  · exact e
  · rw [h2] at l; cases l

/-- no later one is better than an earlier one -/
def Srt (l : List (FV)) : Prop := l.Pairwise fun a b => bet b a = false
/-- all in order, the best first -/
def srt (l : List (FV)) : List (FV) := l.mergeSort fun a b => !bet b a
theorem srt_perm (l : List (FV)) : (srt l).Perm l := List.mergeSort_perm _ _
theorem srt_srt (l : List (FV)) : Srt (srt l) := by
  have h := List.pairwise_mergeSort (le := fun a b => !bet b a) (fun a b c h1 h2 => by
    simp only [Bool.not_eq_true'] at *
    exact ntr h2 h1) (fun a b => by
    cases h : bet a b with
    | true => simp [asy h]
    | false => simp) l
  refine h.imp ?_
  intro a b h
  simpa using h
theorem srt_eq {a b : List (FV)} (ha : Srt a) (hb : Srt b) (hp : a.Perm b) : a = b :=
  List.Perm.eq_of_pairwise (fun _ _ _ _ h1 h2 => same_of h2 h1) ha hb hp
theorem srt_is {a l : List (FV)} (ha : Srt a) (hp : a.Perm l) : srt l = a := srt_eq (srt_srt l) ha ((srt_perm l).trans hp.symm)
theorem srt_congr {l l' : List (FV)} (hp : l.Perm l') : srt l = srt l' := srt_is (srt_srt l') ((srt_perm l').trans hp.symm)
theorem srt_nil : srt [] = [] := List.eq_nil_of_length_eq_zero (by rw [(srt_perm []).length_eq]; rfl)
theorem srt_len (l : List (FV)) : (srt l).length = l.length := (srt_perm l).length_eq

/-- the best k of l, the best first -/
def best (k : Nat) (l : List (FV)) : List (FV) := (srt l).take k
theorem best_len (k : Nat) (l : List (FV)) : (best k l).length = min k l.length := by unfold best; rw [List.length_take, srt_len]
theorem best_srt (k : Nat) (l : List (FV)) : Srt (best k l) := (srt_srt l).sublist (List.take_sublist _ _)
theorem best_zero (l : List (FV)) : best 0 l = [] := rfl
theorem best_nil (k : Nat) : best k [] = [] := by unfold best; rw [srt_nil]; simp
theorem best_all {k : Nat} {l : List (FV)} (h : l.length ≤ k) : best k l = srt l := by unfold best; rw [List.take_of_length_le (by rw [srt_len]; exact h)]

theorem srt_append {a b : List (FV)} (ha : Srt a) (hb : Srt b) (h : ∀ x ∈ a, ∀ y ∈ b, bet y x = false) : Srt (a ++ b) := List.pairwise_append.2 ⟨ha, hb, h⟩
theorem srt_parts {a b : List (FV)} (h : Srt (a ++ b)) : Srt a ∧ Srt b ∧ ∀ x ∈ a, ∀ y ∈ b, bet y x = false := List.pairwise_append.1 h

/-- x is put where none behind it is as good -/
theorem ins_srt {l : List (FV)} (x : FV) (k : Nat) (hl : Srt l) (h1 : ∀ j, k ≤ j → ∀ hj : j < l.length, bet x l[j] = true) (h2 : ∀ j, k = j + 1 → ∀ hj : j < l.length, bet x l[j] = false) (hk : k ≤ l.length) :
    l.take k ++ x :: l.drop k = srt (x :: l) := by
  refine (srt_is ?_ ?_).symm
  · have hs : Srt (l.take k ++ l.drop k) := by rw [List.take_append_drop]; exact hl
    obtain ⟨p1, p2, p3⟩ := srt_parts hs
    refine srt_append p1 (List.pairwise_cons.2 ⟨fun y hy => ?_, p2⟩) (fun u hu y hy => ?_)
    · obtain ⟨i, hi, rfl⟩ := List.mem_iff_getElem.1 hy
      rw [List.getElem_drop]
      exact asy (h1 _ (by omega) _)
    · rcases List.mem_cons.1 hy with rfl | hy
      · cases k with
        | zero => simp at hu
        | succ k =>
          have hb := h2 k rfl (by omega)
          obtain ⟨i, hi, rfl⟩ := List.mem_iff_getElem.1 hu
          rw [List.length_take] at hi
          rw [List.getElem_take]
          by_cases e : i = k
          · subst e; exact hb
          · have := List.pairwise_iff_getElem.1 hl i k (by omega) (by omega) (by omega)
            exact ntr hb this
      · exact p3 u hu y hy
  · have : (l.take k ++ x :: l.drop k).Perm (x :: (l.take k ++ l.drop k)) := List.perm_middle
    rwa [List.take_append_drop] at this

/-- the beginning is kept: of a worst one that is as good, nothing turns -/
theorem best_keep {k : Nat} {l : List (FV)} {x w : FV} (hk : k ≤ l.length) (hw : (best k l).getLast? = some w) (hx : bet x w = false) : best k (l ++ [x]) = best k l := by
  unfold best at *
  have hs := srt_srt l
  rw [← List.take_append_drop k (srt l)] at hs
  obtain ⟨p1, p2, p3⟩ := srt_parts hs
  have hwm : ∀ u ∈ (srt l).take k, bet w u = false := by
    obtain ⟨A, hA⟩ := List.getLast?_eq_some_iff.1 hw
    rw [hA] at p1 ⊢
    obtain ⟨_, _, q⟩ := srt_parts p1
    intro u hu
    rcases List.mem_append.1 hu with h | h
    · exact q u h w (by simp)
    · simp at h; subst h; exact irr _
  have e : srt (l ++ [x]) = (srt l).take k ++ srt (x :: (srt l).drop k) := by
    refine srt_is (srt_append p1 (srt_srt _) (fun u hu y hy => ?_)) ?_
    · rcases List.mem_cons.1 ((srt_perm _).mem_iff.1 hy) with rfl | hy
      · exact ntr hx (hwm u hu)
      · exact p3 u hu y hy
    · have q1 : ((srt l).take k ++ srt (x :: (srt l).drop k)).Perm ((srt l).take k ++ (x :: (srt l).drop k)) := (List.Perm.refl _).append (srt_perm _)
      have q2 : ((srt l).take k ++ (x :: (srt l).drop k)).Perm (x :: ((srt l).take k ++ (srt l).drop k)) := List.perm_middle
      rw [List.take_append_drop] at q2
      exact q1.trans (q2.trans (((srt_perm l).cons x).trans (List.perm_append_singleton x l).symm))
  rw [e, List.take_append_of_le_length (by rw [List.length_take, srt_len]; omega), List.take_of_length_le (by rw [List.length_take]; omega)]

/-- a better one than the worst: the worst goes -/
theorem best_turn {k : Nat} {l A : List (FV)} {x w : FV} (hk : k ≤ l.length) (hA : best k l = A ++ [w]) (hx : bet x w = true) : (best k (l ++ [x])).Perm (x :: A) := by
  have hlen : A.length + 1 = k := by have := best_len k l; rw [hA] at this; simp at this; omega
  unfold best at *
  have hs := srt_srt l
  have hsl : srt l = A ++ w :: (srt l).drop k := by
    have h := List.take_append_drop k (srt l)
    rw [hA, List.append_assoc] at h
    exact h.symm
  obtain ⟨B, hB⟩ : ∃ B, B = (srt l).drop k := ⟨_, rfl⟩
  rw [← hB] at hsl
  rw [hsl] at hs
  obtain ⟨p1, p2, p3⟩ := srt_parts hs
  have hwB : ∀ v ∈ w :: B, bet v w = false := by
    intro v hv
    rcases List.mem_cons.1 hv with rfl | hv
    · exact irr _
    · exact (List.pairwise_cons.1 p2).1 v hv
  have e : srt (l ++ [x]) = srt (x :: A) ++ w :: B := by
    refine srt_is (srt_append (srt_srt _) p2 (fun u hu y hy => ?_)) ?_
    · rcases List.mem_cons.1 ((srt_perm _).mem_iff.1 hu) with rfl | hu
      · cases h : bet y u with
        | false => rfl
        | true => have := tr h hx; rw [hwB y hy] at this; cases this
      · exact p3 u hu y hy
    · have q1 : (srt (x :: A) ++ w :: B).Perm ((x :: A) ++ w :: B) := (srt_perm _).append (List.Perm.refl _)
      rw [List.cons_append, ← hsl] at q1
      exact q1.trans (((srt_perm l).cons x).trans (List.perm_append_singleton x l).symm)
  rw [e, List.take_append_of_le_length (by rw [srt_len]; simp; omega), List.take_of_length_le (by rw [srt_len]; simp; omega)]
  exact srt_perm _

/-! ## a heap -/
def at_ (h : List (FV)) (i : Nat) : FV := h.getD i default
theorem at_get {h : List (FV)} {i : Nat} (hi : i < h.length) : at_ h i = h[i] := by unfold at_; rw [List.getD_eq_getElem?_getD, List.getElem?_eq_getElem hi]; rfl
def par (i : Nat) : Nat := (i - 1) / 2
/-- of two on one path the worse one stands above -/
def Heap (h : List (FV)) : Prop := ∀ i, 0 < i → i < h.length → bet (at_ h (par i)) (at_ h i) = false
def swp (h : List (FV)) (i j : Nat) : List (FV) := (h.set i (at_ h j)).set j (at_ h i)
theorem swp_len (h : List (FV)) (i j : Nat) : (swp h i j).length = h.length := by simp [swp]
theorem at_set (h : List (FV)) (i j : Nat) (x : FV) (hi : i < h.length) : at_ (h.set i x) j = if i = j then x else at_ h j := by
  unfold at_
  simp only [List.getD_eq_getElem?_getD, List.getElem?_set]
  by_cases e : i = j
  · subst e; simp [hi]
  · simp [e]
theorem at_swp (h : List (FV)) (i j k : Nat) (hi : i < h.length) (hj : j < h.length) : at_ (swp h i j) k = if k = j then at_ h i else if k = i then at_ h j else at_ h k := by
  unfold swp
  rw [at_set _ _ _ _ (by simpa using hj), at_set _ _ _ _ hi]
  by_cases e : k = j
  · simp [e]
  · by_cases e2 : k = i
    · subst e2
      rw [if_neg e, if_pos rfl, if_neg (fun h => e h.symm)]
    · rw [if_neg (fun h => e h.symm), if_neg (fun h => e2 h.symm), if_neg e, if_neg e2]
theorem swp_perm (h : List (FV)) (i j : Nat) (hi : i < h.length) (hj : j < h.length) : (swp h i j).Perm h := by
  have := Array.swap_perm (xs := h.toArray) (i := i) (j := j) (by simpa using hi) (by simpa using hj)
  rw [Array.perm_iff_toList_perm, Array.toList_swap] at this
  unfold swp
  rw [at_get hi, at_get hj]
  simpa using this

theorem heap_first {h : List (FV)} (hh : Heap h) (i : Nat) (hi : i < h.length) : bet (at_ h 0) (at_ h i) = false := by
  induction i using Nat.strongRecOn with
  | _ i ih =>
    by_cases e : i = 0
    · subst e; exact irr _
    · have h1 := hh i (by omega) hi
      have h2 := ih (par i) (by unfold par; omega) (by unfold par; omega)
      exact ntr h2 h1

/-- a heap but for the way up from i -/
def Up (h : List (FV)) (i : Nat) : Prop :=
  (∀ j, 0 < j → j < h.length → j ≠ i → bet (at_ h (par j)) (at_ h j) = false) ∧ ∀ j, 0 < j → j < h.length → par j = i → 0 < i → bet (at_ h (par i)) (at_ h j) = false
theorem up_end {h : List (FV)} {i : Nat} (hu : Up h i) (he : i = 0 ∨ bet (at_ h (par i)) (at_ h i) = false) : Heap h := by
  intro j h0 hj
  by_cases e : j = i
  · subst e
    rcases he with rfl | he
    · omega
    · exact he
  · exact hu.1 j h0 hj e
theorem up_start {h : List (FV)} (hh : Heap h) (x : FV) : Up (h ++ [x]) h.length := by
  have ha : ∀ j, j < h.length → at_ (h ++ [x]) j = at_ h j := by
    intro j hj
    rw [at_get (by simp; omega), at_get hj, List.getElem_append_left hj]
  refine ⟨fun j h0 hj hne => ?_, fun j h0 hj hp h1 => ?_⟩
  · have hj' : j < h.length := by simp at hj; omega
    rw [ha j hj', ha (par j) (by unfold par; omega)]
    exact hh j h0 hj'
  · simp at hj
    unfold par at hp
    omega
theorem up_step {h : List (FV)} {i : Nat} (hu : Up h i) (h0 : 0 < i) (hi : i < h.length) (hb : bet (at_ h (par i)) (at_ h i) = true) : Up (swp h (par i) i) (par i) := by
  have hp : par i < h.length := by unfold par; omega
  have hpi : par i < i := by unfold par; omega
  have hni := asy hb
  refine ⟨fun j j0 hj hne => ?_, fun j j0 hj hpj hp0 => ?_⟩
  · rw [swp_len] at hj
    rw [at_swp _ _ _ _ hp hi, at_swp _ _ _ _ hp hi]
    have hpj : par j < j := by unfold par; omega
    by_cases e : j = i
    · subst e
      rw [if_neg (by omega), if_pos rfl, if_pos rfl]
      exact hni
    · rw [if_neg e, if_neg hne]
      by_cases e2 : par j = i
      · rw [if_pos e2]
        exact hu.2 j j0 hj e2 h0
      · rw [if_neg e2]
        by_cases e3 : par j = par i
        · rw [if_pos e3]
          have := hu.1 j j0 hj e
          rw [e3] at this
          exact ntr hni this
        · rw [if_neg e3]
          exact hu.1 j j0 hj e
  · rw [swp_len] at hj
    have hpp : par (par i) < par i := by generalize par i = p at hp0; unfold par; omega
    rw [at_swp _ _ _ _ hp hi, at_swp _ _ _ _ hp hi, if_neg (show par (par i) ≠ i by omega), if_neg (show par (par i) ≠ par i by omega)]
    have h1 := hu.1 (par i) hp0 hp (by omega)
    by_cases e : j = i
    · rw [if_pos e]
      exact h1
    · rw [if_neg e, if_neg (show j ≠ par i by intro e; rw [e] at hpj; omega)]
      have h2 := hu.1 j j0 hj e
      rw [hpj] at h2
      exact ntr h1 h2

/-- a heap but for the way down from i -/
def Dn (h : List (FV)) (i : Nat) : Prop :=
  (∀ j, 0 < j → j < h.length → par j ≠ i → bet (at_ h (par j)) (at_ h j) = false) ∧ ∀ j, 0 < j → j < h.length → par j = i → 0 < i → bet (at_ h (par i)) (at_ h j) = false
theorem dn_end {h : List (FV)} {i : Nat} (hd : Dn h i) (he : ∀ j, 0 < j → j < h.length → par j = i → bet (at_ h i) (at_ h j) = false) : Heap h := by
  intro j h0 hj
  by_cases e : par j = i
  · rw [e]; exact he j h0 hj e
  · exact hd.1 j h0 hj e
theorem dn_start {h : List (FV)} (hh : Heap h) (x : FV) (hl : 0 < h.length) : Dn (h.set 0 x) 0 := by
  refine ⟨fun j h0 hj hne => ?_, fun j h0 hj hp h1 => by omega⟩
  rw [at_set _ _ _ _ hl, at_set _ _ _ _ hl, if_neg (by omega), if_neg (by omega)]
  exact hh j h0 (by simpa using hj)
theorem dn_step {h : List (FV)} {i c : Nat} (hd : Dn h i) (hi : i < h.length) (hc : c < h.length) (hc0 : 0 < c) (hpc : par c = i) (hb : bet (at_ h c) (at_ h i) = false) (hw : ∀ j, 0 < j → j < h.length → par j = i → bet (at_ h c) (at_ h j) = false) : Dn (swp h i c) c := by
  have hci : i < c := by unfold par at hpc; omega
  refine ⟨fun j j0 hj hne => ?_, fun j j0 hj hpj hp0 => ?_⟩
  · rw [swp_len] at hj
    have hpj : par j < j := by unfold par; omega
    rw [at_swp _ _ _ _ hi hc, at_swp _ _ _ _ hi hc, if_neg hne]
    by_cases e : par j = i
    · rw [if_pos e]
      by_cases e2 : j = c
      · rw [if_pos e2]; exact hb
      · rw [if_neg e2, if_neg (by omega)]
        exact hw j j0 hj e
    · rw [if_neg e]
      have e2 : j ≠ c := fun x => e (by rw [x]; exact hpc)
      rw [if_neg e2]
      by_cases e3 : j = i
      · rw [if_pos e3]
        subst e3
        exact hd.2 c hc0 hc hpc j0
      · rw [if_neg e3]
        exact hd.1 j j0 hj e
  · rw [swp_len] at hj
    have hjc : c < j := by unfold par at hpj; omega
    rw [at_swp _ _ _ _ hi hc, at_swp _ _ _ _ hi hc, hpc, if_neg (by omega), if_pos rfl, if_neg (by omega), if_neg (by omega)]
    have := hd.1 j j0 hj (by omega)
    rwa [hpj] at this

/-! ## a bound -/
/-- the heap h of a bound of k that was offered all of l -/
def Bnd (k : Nat) (l h : List (FV)) : Prop := Heap h ∧ h.Perm (best k l)
theorem bnd_nil (k : Nat) : Bnd k [] [] := ⟨fun i _ hi => by simp at hi, by rw [best_nil]⟩
theorem bnd_len {k : Nat} {l h : List (FV)} (hb : Bnd k l h) : h.length = min k l.length := by rw [hb.2.length_eq, best_len]
theorem bnd_srt {k : Nat} {l h : List (FV)} (hb : Bnd k l h) : srt h = best k l := srt_is (best_srt k l) hb.2.symm
/-- the first one of a heap is the worst of all -/
theorem bnd_worst {k : Nat} {l h : List (FV)} (hb : Bnd k l h) (hl : 0 < h.length) : (best k l).getLast? = some (at_ h 0) := by
  have hne : best k l ≠ [] := by
    intro e
    have := hb.2.length_eq
    rw [e] at this
    simp at this
    rw [this] at hl
    simp at hl
  rw [List.getLast?_eq_some_getLast hne]
  congr 1
  have hm : (best k l).getLast hne ∈ h := hb.2.mem_iff.2 (List.getLast_mem _)
  obtain ⟨i, hi, he⟩ := List.mem_iff_getElem.1 hm
  have h1 := heap_first hb.1 i hi
  rw [at_get hi, he] at h1
  have h0m : at_ h 0 ∈ best k l := hb.2.mem_iff.1 (by rw [at_get hl]; exact List.getElem_mem _)
  have hs := best_srt k l
  obtain ⟨A, hA⟩ : ∃ A, best k l = A ++ [(best k l).getLast hne] := ⟨_, (List.dropLast_concat_getLast hne).symm⟩
  generalize (best k l).getLast hne = z at *
  rw [hA] at hs h0m
  obtain ⟨_, _, q⟩ := srt_parts hs
  rcases List.mem_append.1 h0m with hh | hh
  · exact same_of (q _ hh z (by simp)) h1
  · simp at hh; exact hh.symm
theorem bnd_room {k : Nat} {l h h' : List (FV)} {x : FV} (hb : Bnd k l h) (hlt : h.length < k) (hh : Heap h') (hp : h'.Perm (h ++ [x])) : Bnd k (l ++ [x]) h' := by
  have hl := bnd_len hb
  refine ⟨hh, hp.trans ?_⟩
  rw [best_all (by simp; omega)]
  have h1 := hb.2
  rw [best_all (by omega)] at h1
  exact ((h1.trans (srt_perm l)).append (List.Perm.refl [x])).trans (srt_perm _).symm
theorem bnd_keep {k : Nat} {l h : List (FV)} {x : FV} (hb : Bnd k l h) (hge : k ≤ h.length) (hx : k = 0 ∨ bet x (at_ h 0) = false) : Bnd k (l ++ [x]) h := by
  refine ⟨hb.1, ?_⟩
  by_cases e : k = 0
  · subst e; exact hb.2
  · have hl := bnd_len hb
    rw [best_keep (by omega) (bnd_worst hb (by omega)) (by rcases hx with h | h; exact absurd h e; exact h)]
    exact hb.2
theorem bnd_turn {k : Nat} {l h h' : List (FV)} {x : FV} (hb : Bnd k l h) (hge : k ≤ h.length) (hk : 0 < k) (hx : bet x (at_ h 0) = true) (hh : Heap h') (hp : h'.Perm (h.set 0 x)) : Bnd k (l ++ [x]) h' := by
  have hl := bnd_len hb
  refine ⟨hh, hp.trans ?_⟩
  obtain ⟨A, hA⟩ := List.getLast?_eq_some_iff.1 (bnd_worst hb (by omega))
  refine List.Perm.trans ?_ (best_turn (by omega) hA hx).symm
  cases h with
  | nil => simp at hge; omega
  | cons h0 t =>
    rw [List.set_cons_zero]
    refine List.Perm.cons x ?_
    have h1 := hb.2
    rw [hA, show at_ (h0 :: t) 0 = h0 from rfl] at h1
    have h2 : (A ++ [h0]).Perm (h0 :: A) := List.perm_append_singleton h0 A
    exact (List.Perm.cons_inv (h1.trans h2))
/-- is x kept? -/
def kept (k : Nat) (l : List (FV)) (x : FV) : Bool := decide (0 < k) && (decide ((best k l).length < k) || match (best k l).getLast? with | some w => bet x w | none => false)
end FuM

/- A region that draws its order, in a number of steps that grows with its operations, not with its orders: each operation's value is told by a property that stays as memory is made. -/
namespace Go.Proofs.Ytneofgaklofigaa
open Go.RowKit

/-- of what was there only blocks of S have turned -/
structure Turned (S : Nat → Prop) (w w' : World) : Prop where
  os : w'.os = w.os
  tape : w'.tape = w.tape
  output : w'.output = w.output
  size : w.heap.size ≤ w'.heap.size
  block : ∀ k, k < w.heap.size → ¬ S k → w'.heap[k]? = w.heap[k]?
section
variable {S : Nat → Prop} {w w' w'' : World}
theorem Turned.refl (S : Nat → Prop) (w : World) : Turned S w w := ⟨rfl, rfl, rfl, Nat.le_refl _, fun _ _ _ => rfl⟩
theorem Turned.trans (h1 : Turned S w w') (h2 : Turned S w' w'') : Turned S w w'' :=
  ⟨h2.os.trans h1.os, h2.tape.trans h1.tape, h2.output.trans h1.output, Nat.le_trans h1.size h2.size, fun k hk hs => (h2.block k (Nat.lt_of_lt_of_le hk h1.size) hs).trans (h1.block k hk hs)⟩
theorem Turned.wide {T : Nat → Prop} (h : Turned S w w') (hT : ∀ k, S k → T k) : Turned T w w' := ⟨h.os, h.tape, h.output, h.size, fun k hk hs => h.block k hk (fun x => hs (hT k x))⟩
theorem Turned.of_grown {b : Nat} (h : w.grownBy w' (some b)) (hS : S b) : Turned S w w' :=
  ⟨h.os, h.tape, h.output, h.size, fun k hk hs => h.block k hk (fun e => hs (by injection e with e; rw [e]; exact hS))⟩
theorem Turned.set_ (h : Turned S w w') {b : Nat} (hS : S b) (i : Nat) (u : Value) : Turned S w (w'.setCell ⟨b, i, none⟩ u) :=
  h.trans (Turned.of_grown (only_set (World.grownBy.refl w' _) i u) hS)
theorem Turned.alloc (h : Turned S w w') (o : Obj) : Turned S w (w'.alloc o) :=
  ⟨h.os, h.tape, h.output, Nat.le_trans h.size (by simp), fun k hk hs => (Below.heap_alloc w' o k (Nat.lt_of_lt_of_le hk h.size)).trans (h.block k hk hs)⟩
theorem Turned.cell (h : Turned S w w') {p : Addr} (hp : p.block < w.heap.size) (hS : ¬ S p.block) : w'.cell? p = w.cell? p := World.cell?_of_block (h.block p.block hp hS)
theorem Turned.frozen (h : Turned S w w') {p : Addr} (hp : p.block < w.heap.size) (hS : ¬ S p.block) : w'.frozen? p = w.frozen? p := World.frozen?_of_block (h.block p.block hp hS)
theorem Turned.grown (h : Turned S w w') {b : Nat} (hS : ∀ k, k < w.heap.size → S k → k = b) : w.grownBy w' (some b) :=
  ⟨h.os, h.tape, h.output, h.size, fun k hk hne => h.block k hk (fun s => hne (by rw [hS k hk s]))⟩
/-- blocks that are new may turn besides -/
theorem Turned.from_new (h1 : Turned S w w') (h2 : Turned (fun k => S k ∨ w.heap.size ≤ k) w' w'') : Turned S w w'' :=
  ⟨h2.os.trans h1.os, h2.tape.trans h1.tape, h2.output.trans h1.output, Nat.le_trans h1.size h2.size, fun k hk hs => (h2.block k (Nat.lt_of_lt_of_le hk h1.size) (fun x => x.elim hs (fun y => by omega))).trans (h1.block k hk hs)⟩
end
theorem Turned.drew {S : Nat → Prop} {w w' : World} (h : Turned S w w') : Turned S w w'.drew := ⟨h.os, h.tape, h.output, h.size, h.block⟩
theorem Turned.of_below {S : Nat → Prop} {w w' : World} (h : Below w.heap.size w w') : Turned S w w' := ⟨h.os, h.tape, h.output, h.size, fun k hk _ => h.block k hk⟩
/-- made memory behind a turned world -/
theorem Turned.on {S : Nat → Prop} {w w' w'' : World} (h : Turned S w w') (hb : Below w'.heap.size w' w'') : Turned S w w'' := h.trans (Turned.of_below hb)
/-- seen from a world ahead of the blocks that turned -/
theorem Turned.below {S : Nat → Prop} {u w w' : World} (h : Turned S w w') (hu : Below u.heap.size u w) (hS : ∀ k, S k → u.heap.size ≤ k) : Below u.heap.size u w' :=
  hu.trans ⟨h.os, h.tape, h.output, h.size, fun k hk => h.block k (Nat.lt_of_lt_of_le hk hu.size) (fun s => absurd (hS k s) (by omega))⟩
/-- a store into a block that is new, or S's -/
theorem Turned.put_ {S : Nat → Prop} {w w' : World} (h : Turned S w w') {b : Nat} (hb : S b ∨ w.heap.size ≤ b) (i : Nat) (u : Value) : Turned S w (w'.setCell ⟨b, i, none⟩ u) :=
  ⟨h.os, h.tape, h.output, by simpa [World.setCell] using h.size, fun k hk hs => (Below.heap_setCell w' _ u k (fun e => by
    have e' : k = b := e
    rcases hb with hb | hb
    · exact hs (e' ▸ hb)
    · omega)).trans (h.block k hk hs)⟩
/-- the frame, each of the temporaries ds holding what f tells -/
def linFill (t : Array Value) (ds : List Tmp) (f : Tmp → Value) : Array Value := ds.foldl (fun t d => t.setIfInBounds d (f d)) t
theorem linFill_get (ds : List Tmp) (f : Tmp → Value) : ∀ (t : Array Value) (k : Nat), (linFill t ds f)[k]? = if k ∈ ds then t[k]?.map (fun _ => f k) else t[k]? := by
  unfold linFill
  induction ds with
  | nil => intro t k; simp
  | cons d ds ih =>
    intro t k
    rw [List.foldl_cons, ih, Array.getElem?_setIfInBounds]
    by_cases h : d = k
    · subst h
      by_cases hs : d < t.size
      · by_cases hm : d ∈ ds <;> simp [hm, hs]
      · by_cases hm : d ∈ ds <;> simp [hm, hs]
    · have h' : ¬ k = d := fun e => h e.symm
      simp [h, h']
theorem linFill_self (t : Array Value) (ds : List Tmp) : linFill t ds (fun d => t.getD d undef) = t := by
  apply Array.ext_getElem?
  intro k
  rw [linFill_get]
  by_cases h : k ∈ ds
  · rw [if_pos h]
    by_cases hs : k < t.size
    · simp [hs]
    · simp [Array.getElem?_eq_none (Nat.le_of_not_lt hs)]
  · rw [if_neg h]
theorem linFill_size (ds : List Tmp) (f : Tmp → Value) : ∀ t : Array Value, (linFill t ds f).size = t.size := by
  unfold linFill
  induction ds with
  | nil => intro t; rfl
  | cons d ds ih => intro t; rw [List.foldl_cons, ih]; simp
theorem linFill_set (t : Array Value) (ds : List Tmp) (f : Tmp → Value) (d : Tmp) (v : Value) (hd : d ∈ ds) :
    (linFill t ds f).setIfInBounds d v = linFill t ds (fun k => if k = d then v else f k) := by
  apply Array.ext_getElem?
  intro k
  rw [linFill_get, Array.getElem?_setIfInBounds, linFill_size, linFill_get]
  by_cases h : d = k
  · subst h
    by_cases hs : d < t.size
    · simp [hd, hs]
    · simp [hd, hs]
  · have h' : ¬ k = d := fun e => h e.symm
    simp [h, h']

section
variable {P : Program} {ops : Array Oper} {Q : Exit → Act → World → Prop}

/-- whatever comes up, J stays: then the region is walked -/
theorem wpAny_inv {md : Region.Mode} {J : Array Bool → Act → World → Prop}
    (hstep : ∀ listed a w i, listed.size = ops.size → J listed a w → i ∈ Region.ready md ops listed → wpOp P ops Q i (J (listed.setIfInBounds i true)) a w)
    (hend : ∀ listed a w, listed.size = ops.size → J listed a w → Region.ready md ops listed = [] → Q .normal a w) :
    ∀ fuel listed a w, listed.size = ops.size → (listed.toList.filter (! ·)).length ≤ fuel → J listed a w → wpAny P md ops Q fuel listed a w
  | 0, listed, a, w, hsz, hf, hJ => by
    have hr : Region.ready md ops listed = [] := by
      cases hr : Region.ready md ops listed with
      | nil => rfl
      | cons j js =>
        have hj : j ∈ Region.ready md ops listed := by rw [hr]; exact List.mem_cons_self
        obtain ⟨h0, _⟩ := mem_ready.1 hj
        have hlt : j < listed.size := by
          rcases Nat.lt_or_ge j listed.size with h | h
          · exact h
          · simp [Array.getElem?_eq_none h] at h0
        have hm : listed[j] ∈ listed.toList.filter (! ·) := by
          rw [List.mem_filter]
          refine ⟨by simp, ?_⟩
          simp [hlt] at h0
          simp [h0]
        have := List.length_pos_of_mem hm
        omega
    exact ⟨hr, hend listed a w hsz hJ hr⟩
  | fuel + 1, listed, a, w, hsz, hf, hJ => by
    refine ⟨hend listed a w hsz hJ, fun i hi => wpOp_mono (fun a' w' hJ' => ?_) (hstep listed a w i hsz hJ hi)⟩
    refine wpAny_inv hstep hend fuel _ a' w' (by simpa using hsz) ?_ hJ'
    obtain ⟨h0, _⟩ := mem_ready.1 hi
    have hlt : i < listed.size := by
      rcases Nat.lt_or_ge i listed.size with h | h
      · exact h
      · simp [Array.getElem?_eq_none h] at h0
    have h0' : listed.toList[i]'(by simpa using hlt) = false := by simpa [hlt] using h0
    have key : ∀ (l : List Bool) (i : Nat) (h : i < l.length), l[i] = false → (l.set i true |>.filter (! ·)).length + 1 = (l.filter (! ·)).length := by
      intro l
      induction l with
      | nil => intro i h; simp at h
      | cons b l ih =>
        intro i h hb
        match i with
        | 0 => simp at hb; subst hb; simp
        | i + 1 =>
          simp at hb
          have := ih i (by simpa using h) hb
          cases b <;> simp <;> omega
    have := key listed.toList i (by simpa using hlt) h0'
    simp only [Array.toList_setIfInBounds]
    omega

/-- the temporaries that the region fills -/
def linDs (l : List Oper) : List Tmp := l.filterMap (·.dst)
/-- the order of the text is one of the orders; no two operations fill one temporary -/
def linB (l : List Oper) : Bool :=
  (l.zipIdx.all fun (o, i) => o.after.all fun e => !Region.binds .any e || decide (e.on < i)) && decide ((linDs l).Nodup)
/-- number k waits for number j -/
def linEdge (l : List Oper) (k j : Nat) : Bool := ((l[k]?).map fun o => o.after.any fun e => Region.binds .any e && e.on == j).getD false
/-- number j fills d -/
def linFills (l : List Oper) (j : Nat) (d : Tmp) : Bool := (l[j]?).bind (·.dst) == some d
/-- each of the row waits for the next one -/
def linPath (l : List Oper) : List Nat → Bool
  | k :: j :: r => linEdge l k j && linPath l (j :: r)
  | _ => true
/-- what has come up, and number i -/
def linUp (L : Nat → Bool) (i : Nat) : Nat → Bool := fun k => if k = i then true else L k
/-- what has come up is whole -/
def LinShut (l : List Oper) (L : Nat → Bool) : Prop := ∀ k j, L k = true → linEdge l k j = true → L j = true
theorem LinShut.late {l : List Oper} {L : Nat → Bool} (h : LinShut l L) (i : Nat) (hi : L i = false) : ∀ (r : List Nat) (k : Nat), linPath l (k :: r) = true → (k :: r).getLast? = some i → L k = false
  | [], k, _, hl => by simp at hl; rw [hl]; exact hi
  | j :: r, k, hp, hl => by
    simp only [linPath, Bool.and_eq_true] at hp
    have := LinShut.late h i hi r j hp.2 (by simpa [List.getLast?_cons_cons] using hl)
    cases hk : L k with
    | false => rfl
    | true => rw [h k j hk hp.1] at this; cases this
theorem linUp_late {L : Nat → Bool} {i k : Nat} (h : linUp L i k = false) : L k = false := by
  unfold linUp at h; split at h; cases h; exact h
theorem linUp_same (L : Nat → Bool) (i : Nat) : linUp L i i = true := by simp [linUp]

/-- one operation, whatever has come up of what it doesn't wait for -/
def LinStep (P : Program) (l : List Oper) (ds : List Tmp) (S : Nat → Prop) (lo : Nat → Bool) (I : (Nat → Bool) → World → Prop) (G : Nat → (Nat → Bool) → Value → World → Prop) (U : World) (a0 : Act) (Q : Exit → Act → World → Prop) (i : Nat) (o : Oper) : Prop :=
  ∀ (f : Tmp → Value) (L : Nat → Bool) (w1 : World), Turned S U w1 → I L w1 → LinShut l L → L i = false → (∀ j d, linEdge l i j = true → linFills l j d = true → G j L (f d) w1) →
    ∀ K : Act → World → Prop, Shut (∀ v w2, Turned S U w2 → (lo i = false ∧ Below w1.heap.size w1 w2 ∨ I (linUp L i) w2 ∧ ∀ j d, L j = true → linFills l j d = true → G j L (f d) w1 → G j (linUp L i) (f d) w2) → G i (linUp L i) v w2 → K ((Act.mk (linFill a0.tmps ds f) a0.defers).put o.dst v) w2) →
      if Region.wanted o (yielded l.toArray (linFill a0.tmps ds f)) = true then Oper.wp P o (Act.mk (linFill a0.tmps ds f) a0.defers) w1 K Q else K ((Act.mk (linFill a0.tmps ds f) a0.defers).put o.dst undef) w1
def LinSteps (P : Program) (l : List Oper) (ds : List Tmp) (S : Nat → Prop) (lo : Nat → Bool) (I : (Nat → Bool) → World → Prop) (G : Nat → (Nat → Bool) → Value → World → Prop) (U : World) (a0 : Act) (Q : Exit → Act → World → Prop) : Nat → List Oper → Prop
  | _, [] => True
  | i, o :: rest => LinStep P l ds S lo I G U a0 Q i o ∧ LinSteps P l ds S lo I G U a0 Q (i + 1) rest
theorem LinSteps.nil {l : List Oper} {ds : List Tmp} {S : Nat → Prop} {lo : Nat → Bool} {I : (Nat → Bool) → World → Prop} {G : Nat → (Nat → Bool) → Value → World → Prop} {U : World} {a0 : Act} {i : Nat} : LinSteps P l ds S lo I G U a0 Q i [] := trivial
theorem LinSteps.cons {l : List Oper} {ds : List Tmp} {S : Nat → Prop} {lo : Nat → Bool} {I : (Nat → Bool) → World → Prop} {G : Nat → (Nat → Bool) → Value → World → Prop} {U : World} {a0 : Act} {i : Nat} {o : Oper} {rest : List Oper}
    (h : ∀ (f : Tmp → Value) (L : Nat → Bool) (w1 : World), Turned S U w1 → I L w1 → LinShut l L → L i = false → (∀ j d, linEdge l i j = true → linFills l j d = true → G j L (f d) w1) →
      ∀ K : Act → World → Prop, Shut (∀ v w2, Turned S U w2 → (lo i = false ∧ Below w1.heap.size w1 w2 ∨ I (linUp L i) w2 ∧ ∀ j d, L j = true → linFills l j d = true → G j L (f d) w1 → G j (linUp L i) (f d) w2) → G i (linUp L i) v w2 → K ((Act.mk (linFill a0.tmps ds f) a0.defers).put o.dst v) w2) →
        if Region.wanted o (yielded l.toArray (linFill a0.tmps ds f)) = true then Oper.wp P o (Act.mk (linFill a0.tmps ds f) a0.defers) w1 K Q else K ((Act.mk (linFill a0.tmps ds f) a0.defers).put o.dst undef) w1)
    (hs : LinSteps P l ds S lo I G U a0 Q (i + 1) rest) : LinSteps P l ds S lo I G U a0 Q i (o :: rest) := ⟨h, hs⟩
theorem LinSteps.get {l : List Oper} {ds : List Tmp} {S : Nat → Prop} {lo : Nat → Bool} {I : (Nat → Bool) → World → Prop} {G : Nat → (Nat → Bool) → Value → World → Prop} {U : World} {a0 : Act} : ∀ (r : List Oper) (i : Nat), LinSteps P l ds S lo I G U a0 Q i r → ∀ j o, r[j]? = some o → LinStep P l ds S lo I G U a0 Q (i + j) o
  | [], _, _, j, o, h => by simp at h
  | x :: r, i, hs, 0, o, h => by simp at h; subst h; exact hs.1
  | x :: r, i, hs, j + 1, o, h => by
    have := LinSteps.get r (i + 1) hs.2 j o (by simpa using h)
    rw [show i + (j + 1) = i + 1 + j by omega]
    exact this

/-- A region that draws its order: S = the blocks of what was there that its stores turn; lo = which operations store; I L w = what holds of the world, those of L having come up; G i L v w = what number i's value v is then. Each operation is shown once. (The row of operations is handed on by a name: else each step bears it whole.) -/
theorem wpAny_lin {l : List Oper} {ds : List Tmp} {a : Act} {w : World} (hB : linB l = true) (hds : linDs l = ds) (S : Nat → Prop) (lo : Nat → Bool) (I : (Nat → Bool) → World → Prop) (G : Nat → (Nat → Bool) → Value → World → Prop)
    (hI0 : I (fun _ => false) w.drew) (hI : ∀ L k w1 w2, lo k = false → Below w1.heap.size w1 w2 → I L w1 → I (linUp L k) w2)
    (hG : ∀ i L k v w1 w2, lo k = false → Below w1.heap.size w1 w2 → G i L v w1 → G i (linUp L k) v w2)
    (hs0 : ∀ l', Hid (l' = l) → LinSteps P l' ds S lo I G w.drew a Q 0 l)
    (hend0 : ∀ l', Hid (l' = l) → ∀ f L w1, Turned S w.drew w1 → I L w1 → (∀ k, k < l.length → L k = true) → (∀ j d, linFills l' j d = true → G j L (f d) w1) → Q .normal (Act.mk (linFill a.tmps ds f) a.defers) w1) :
    wpAny P .any l.toArray Q l.toArray.size (Array.replicate l.toArray.size false) a w.drew := by
  have hs := hs0 l (Lib.hid rfl)
  have hend := hend0 l (Lib.hid rfl)
  clear hs0 hend0
  subst hds
  simp only [linB, Bool.and_eq_true, decide_eq_true_eq] at hB
  obtain ⟨hB1, hB2⟩ := hB
  let J : Array Bool → Act → World → Prop := fun listed a' w' => ∃ (f : Tmp → Value) (L : Nat → Bool), a' = Act.mk (linFill a.tmps (linDs l) f) a.defers ∧ (∀ k, L k = listed.getD k false) ∧ LinShut l L ∧ Turned S w.drew w' ∧ I L w' ∧ ∀ j d, L j = true → linFills l j d = true → G j L (f d) w'
  have huniq : ∀ (i j : Nat) (d : Tmp), linFills l i d = true → linFills l j d = true → i = j := by
    have gen : ∀ (r : List Oper), (linDs r).Nodup → ∀ (i j : Nat) (d : Tmp), linFills r i d = true → linFills r j d = true → i = j := by
      intro r
      induction r with
      | nil => intro _ i j d hi; simp [linFills] at hi
      | cons x r ih =>
        intro hn i j d hi hj
        have memd : ∀ (k : Nat), linFills r k d = true → d ∈ linDs r := fun k hk => by
          unfold linFills at hk
          cases hrk : r[k]? with
          | none => rw [hrk] at hk; simp at hk
          | some o => rw [hrk] at hk; simp at hk; exact List.mem_filterMap.2 ⟨o, List.mem_of_getElem? hrk, hk⟩
        have nodup0 : x.dst = some d → d ∉ linDs r := fun hx => by
          unfold linDs at hn ⊢
          rw [List.filterMap_cons_some hx] at hn
          exact (List.nodup_cons.1 hn).1
        match i, j with
        | 0, 0 => rfl
        | 0, j + 1 =>
          have hi' : x.dst = some d := by simpa [linFills] using hi
          have hj' : linFills r j d = true := by simpa [linFills] using hj
          exact absurd (memd j hj') (nodup0 hi')
        | i + 1, 0 =>
          have hj' : x.dst = some d := by simpa [linFills] using hj
          have hi' : linFills r i d = true := by simpa [linFills] using hi
          exact absurd (memd i hi') (nodup0 hj')
        | i + 1, j + 1 =>
          have hn2 : (linDs r).Nodup := by
            unfold linDs at hn ⊢
            cases hx : x.dst with
            | none => simpa [List.filterMap_cons, hx] using hn
            | some y => rw [List.filterMap_cons_some hx] at hn; exact (List.nodup_cons.1 hn).2
          rw [ih hn2 i j d (by simpa [linFills] using hi) (by simpa [linFills] using hj)]
    exact gen l hB2
  refine wpAny_inv (J := J) ?_ ?_ _ _ _ _ (by simp) (Nat.le_trans (List.length_filter_le _ _) (by simp)) ?_
  · rintro listed a' w' i hsz ⟨f, L, rfl, hL, hsh, hb, hIw, hv⟩ hi
    obtain ⟨h0, o, ho, hall⟩ := mem_ready.1 hi
    have ho' : l[i]? = some o := by simpa using ho
    have hil : i < listed.size := by rw [hsz]; simpa using (List.getElem?_eq_some_iff.1 ho').1
    have hLi : L i = false := by rw [hL]; simp [hil] at h0 ⊢; exact h0
    have hedge : ∀ j, linEdge l i j = true → L j = true := fun j hj => by
      unfold linEdge at hj
      rw [ho'] at hj
      simp only [Option.map_some, Option.getD_some] at hj
      obtain ⟨e, he, hbe⟩ := Array.any_eq_true'.1 hj
      simp only [Bool.and_eq_true, beq_iff_eq] at hbe
      rw [hL, ← hbe.2]
      exact hall e he hbe.1
    have hLup : ∀ k, linUp L i k = (listed.setIfInBounds i true).getD k false := fun k => by
      unfold linUp
      by_cases e : k = i
      · subst e; simp [hil]
      · rw [if_neg e, hL, getD_set_ne false (fun h => e h.symm)]
    have hshup : LinShut l (linUp L i) := fun k j hk hkj => by
      unfold linUp at hk ⊢
      by_cases e : k = i
      · subst e
        split
        · rfl
        · exact hedge j hkj
      · rw [if_neg e] at hk
        split
        · rfl
        · exact hsh k j hk hkj
    have hst := LinSteps.get l 0 hs i o ho'
    rw [Nat.zero_add] at hst
    refine wpOp_step ho (fun K' hK => hst f L w' hb hIw hsh hLi (fun j d hj hjd => hv j d (hedge j hj) hjd) K' ?_)
    intro v w2 hb3 hb2 hg
    refine hK _ _ ?_
    have hold : ∀ j d, L j = true → linFills l j d = true → G j (linUp L i) (f d) w2 := fun j d hj hjd => by
      rcases hb2 with hb2 | hb2
      · exact hG _ _ _ _ _ _ hb2.1 hb2.2 (hv j d hj hjd)
      · exact hb2.2 j d hj hjd (hv j d hj hjd)
    have hIup : I (linUp L i) w2 := by
      rcases hb2 with hb2 | hb2
      · exact hI _ _ _ _ hb2.1 hb2.2 hIw
      · exact hb2.1
    cases hd : o.dst with
    | none =>
      refine ⟨f, linUp L i, rfl, hLup, hshup, hb3, hIup, fun j d hl hjd => hold j d ?_ hjd⟩
      unfold linUp at hl
      split at hl
      · rename_i e; subst e; unfold linFills at hjd; rw [ho'] at hjd; simp [hd] at hjd
      · exact hl
    | some d =>
      refine ⟨fun k => if k = d then v else f k, linUp L i, ?_, hLup, hshup, hb3, hIup, fun j d' hl hjd => ?_⟩
      · simp only [Act.put]
        rw [linFill_set _ (linDs l) _ _ _ (List.mem_filterMap.2 ⟨o, List.mem_of_getElem? ho', hd⟩)]
      · have hid : linFills l i d = true := by unfold linFills; rw [ho']; simp [hd]
        by_cases hij : j = i
        · subst hij
          have : d' = d := by
            unfold linFills at hjd hid
            rw [ho'] at hjd hid
            simp at hjd hid
            rw [hjd] at hid
            injection hid
          subst this
          simpa using hg
        · have hne : ¬ d' = d := fun e => hij (huniq j i d (by rw [← e]; exact hjd) hid)
          simp only [if_neg hne]
          refine hold j d' ?_ hjd
          unfold linUp at hl
          rw [if_neg hij] at hl
          exact hl
  · rintro listed a' w' hsz ⟨f, L, rfl, hL, hsh, hb, hIw, hv⟩ hr
    have hall : ∀ n j : Nat, j < n → j < l.length → L j = true := by
      intro n
      induction n with
      | zero => intro j hj; omega
      | succ n ih =>
        intro j hjn hjl
        by_cases hlt : j < n
        · exact ih j hlt hjl
        · have hjs : j < listed.size := by rw [hsz]; simpa using hjl
          rw [hL]
          cases hg : listed.getD j true with
          | true => simp [hjs] at hg ⊢; exact hg
          | false =>
            exfalso
            have hmem : j ∈ Region.ready .any l.toArray listed := by
              refine mem_ready.2 ⟨hg, l[j], by simp [hjl], fun e he hbe => ?_⟩
              have h1 := List.all_eq_true.1 hB1 (l[j], j) (by rw [List.mem_zipIdx_iff_getElem?]; simp [hjl])
              have h2 := Array.all_eq_true_iff_forall_mem.1 h1 e he
              simp [hbe] at h2
              have h3 := ih e.on (by omega) (by omega)
              rw [hL] at h3
              exact h3
            rw [hr] at hmem
            cases hmem
    refine hend f L w' hb hIw (fun k hk => hall (k + 1) k (Nat.lt_succ_self k) hk) (fun j d hjd => hv j d ?_ hjd)
    have hjl : j < l.length := by
      rcases Nat.lt_or_ge j l.length with h | h
      · exact h
      · unfold linFills at hjd; rw [List.getElem?_eq_none h] at hjd; simp at hjd
    exact hall (j + 1) j (Nat.lt_succ_self j) hjl
  · refine ⟨fun d => a.tmps.getD d undef, fun k => (Array.replicate l.toArray.size false).getD k false, by rw [linFill_self], fun k => rfl, fun k j hk => ?_, Turned.refl _ _, ?_, fun j d hl => ?_⟩
    · simp [Array.getElem?_replicate] at hk; split at hk <;> simp at hk
    · have e : (fun k => (Array.replicate l.toArray.size false).getD k false) = fun _ => false := by
        funext k
        simp [Array.getElem?_replicate]
        split <;> rfl
      rw [e]
      exact hI0
    · simp [Array.getElem?_replicate] at hl; split at hl <;> simp at hl
theorem wp_region_lin {l : List Oper} {ds : List Tmp} {id : Nat} {a : Act} {w : World} (hm : P.follows .mixedOrders = true) (hB : linB l = true) (hds : linDs l = ds) (S : Nat → Prop) (lo : Nat → Bool) (I : (Nat → Bool) → World → Prop) (G : Nat → (Nat → Bool) → Value → World → Prop)
    (hI0 : I (fun _ => false) w.drew) (hI : ∀ L k w1 w2, lo k = false → Below w1.heap.size w1 w2 → I L w1 → I (linUp L k) w2)
    (hG : ∀ i L k v w1 w2, lo k = false → Below w1.heap.size w1 w2 → G i L v w1 → G i (linUp L k) v w2)
    (hs : ∀ l', Hid (l' = l) → LinSteps P l' ds S lo I G w.drew a Q 0 l)
    (hend : ∀ l', Hid (l' = l) → ∀ f L w1, Turned S w.drew w1 → I L w1 → (∀ k, k < l.length → L k = true) → (∀ j d, linFills l' j d = true → G j L (f d) w1) → Q .normal (Act.mk (linFill a.tmps ds f) a.defers) w1) : (Code.region id l.toArray true).wp P Q a w :=
  wp_region_any hm (wpAny_lin hB hds S lo I G hI0 hI hG hs hend)

/-! in a round of a range over a function -/
theorem rowsIn_round {r n : Nat} {row : String} {args : Array Value} {w : World} {R : Value → World → Prop} (h : Rows P row args w R) : RowsIn (Fence.wide.inRound r) n P row args w R :=
  fun c cs _ => let ⟨v, w', hr, hst⟩ := h c cs; ⟨v, w', hr, stepsIn_wide.2 hst⟩
/-- an operation that is no defer goes in a round as anywhere -/
theorem oper_round {o : Oper} {r n : Nat} {a : Act} {w : World} {K : Act → World → Prop} (ho : ∀ c, o.op ≠ .defer c) (hQ : ¬ LetsOut Q) (h : Oper.wp P o a w K Q) : o.wpIn (Fence.wide.inRound r) n P a w K Q := by
  refine ⟨fun _ _ => trivial, ?_⟩
  rw [Oper.semAt_eq _ _ _ ho]
  unfold Oper.wp at h
  generalize (execOp a.eval o).run P w = res at h ⊢
  cases res with
  | ok x w' =>
    cases x with
    | value v => exact h
    | skip => exact h
    | defer d => exact h
    | enter f args =>
      refine ⟨fun hd => (by cases hd), CallsIn.inRound r (callsIn_wide.2 (Calls.mono h (fun e w'' he => ?_)))⟩
      cases e with
      | returned v => exact he
      | panicked c => exact he
      | outgrown => exact absurd he hQ
    | row row args => exact ⟨fun hd => (by cases hd), rowsIn_round h⟩
    | round l f tmps assign body => exact h.elim
    | _ => first | exact h | exact h.elim
  | halt x w' => cases x <;> exact h
def noDefer (l : List Oper) : Bool := l.all fun o => match o.op with | .defer _ => false | _ => true
theorem wpOp_round {ops : Array Oper} {i r n : Nat} {a : Act} {w : World} {K : Act → World → Prop} (hd : ∀ o ∈ ops, ∀ c, o.op ≠ .defer c) (hQ : ¬ LetsOut Q) (h : wpOp P ops Q i K a w) : wpOpIn (Fence.wide.inRound r) n P ops Q i K a w := by
  unfold wpOp at h
  unfold wpOpIn
  cases ho : ops[i]? with
  | none => rw [ho] at h; exact h
  | some o =>
    rw [ho] at h
    simp only at h ⊢
    split
    · rename_i hw
      rw [if_pos hw] at h
      rcases h with h | h
      · exact oper_round (hd o (Array.mem_of_getElem? ho)) hQ h
      · exact absurd h.2 hQ
    · rename_i hw
      rw [if_neg hw] at h
      exact ⟨fun _ _ => trivial, h⟩
theorem wpAny_round {ops : Array Oper} {md : Region.Mode} {r n : Nat} (hd : ∀ o ∈ ops, ∀ c, o.op ≠ .defer c) (hQ : ¬ LetsOut Q) : ∀ (fuel : Nat) (listed : Array Bool) (a : Act) (w : World), wpAny P md ops Q fuel listed a w → wpAnyIn (Fence.wide.inRound r) n P md ops Q fuel listed a w
  | 0, _, _, _, h => h
  | fuel + 1, _, _, _, h => ⟨h.1, fun i hi => wpOp_round hd hQ (wpOp_mono (fun a' w' h' => wpAny_round hd hQ fuel _ a' w' h') (h.2 i hi))⟩
theorem wpIn_region_lin {l : List Oper} {ds : List Tmp} {id r n : Nat} {a : Act} {w : World} (hm : P.follows .mixedOrders = true) (hnd : noDefer l = true) (hQ : ¬ LetsOut Q) (hB : linB l = true) (hds : linDs l = ds) (S : Nat → Prop) (lo : Nat → Bool) (I : (Nat → Bool) → World → Prop) (G : Nat → (Nat → Bool) → Value → World → Prop)
    (hI0 : I (fun _ => false) w.drew) (hI : ∀ L k w1 w2, lo k = false → Below w1.heap.size w1 w2 → I L w1 → I (linUp L k) w2)
    (hG : ∀ i L k v w1 w2, lo k = false → Below w1.heap.size w1 w2 → G i L v w1 → G i (linUp L k) v w2)
    (hs : ∀ l', Hid (l' = l) → LinSteps P l' ds S lo I G w.drew a Q 0 l)
    (hend : ∀ l', Hid (l' = l) → ∀ f L w1, Turned S w.drew w1 → I L w1 → (∀ k, k < l.length → L k = true) → (∀ j d, linFills l' j d = true → G j L (f d) w1) → Q .normal (Act.mk (linFill a.tmps ds f) a.defers) w1) : (Code.region id l.toArray true).wpIn (Fence.wide.inRound r) n P Q a w :=
  wpIn_region_any hm (wpAny_round (fun o ho c e => by
    have := List.all_eq_true.1 hnd o (by simpa using ho)
    rw [e] at this
    cases this) hQ _ _ _ _ (wpAny_lin hB hds S lo I G hI0 hI hG hs hend))
end
/-! small things that every layer's walks use -/
theorem frozen_of_cells {w : World} {k i : Nat} {cs : Array Value} {t : TypeId} (h : w.heap[k]? = some (.cells cs t (0, 0))) : w.frozen? ⟨k, i, none⟩ = false := by simp [World.frozen?, h]
theorem cell_of_cells {w : World} {k i : Nat} {cs : Array Value} {t : TypeId} {v : Value} (h : w.heap[k]? = some (.cells cs t (0, 0))) (hv : cs[i]? = some v) : w.cell? ⟨k, i, none⟩ = some v := by simp [World.cell?, h, hv]
theorem below_block {B : Nat} {w w' : World} {k : Nat} {o : Obj} (hb : Below B w w') (hk : k < B) (h : w.heap[k]? = some o) : w'.heap[k]? = some o := (hb.block k hk).trans h
theorem blk_stay {w w' : World} {k : Nat} {o : Obj} (hb : Below w.heap.size w w') (h : w.heap[k]? = some o) : w'.heap[k]? = some o := below_block hb (Array.getElem?_eq_some_iff.1 h).1 h
theorem pl1 (w : World) (a : Obj) : Below w.heap.size w (w.alloc a) := (Below.refl _ _).alloc (Nat.le_refl _) _
theorem below_drewN_p (w : World) : ∀ n, Below w.heap.size w (w.drewN n)
  | 0 => Below.refl _ _
  | n + 1 => (below_drewN_p w n).drew
theorem linUp_at {L : Nat → Bool} {k s : Nat} (h : k ≠ s) : linUp L k s = L s := by unfold linUp; rw [if_neg (fun e => h e.symm)]
/-- the function that tells which documents may be: mayv is a function value, may what it answers, wherever nothing of w1 has turned -/
def MayIs (w1 : World) (mayv : Value) (may : Int → Bool) : Prop := ∃ F B, mayv = .func (.func F) #[] B ∧ (∀ args w, (callFunc F args).run Try.prog w = .ok (.enter F args) w) ∧ ∀ W, Below w1.heap.size w1 W → ∀ d : Int, Calls Try.prog F (#[.int .i64 d] ++ B) W fun e w' => e = .returned (.bool (may d)) ∧ Below W.heap.size W w'
/-- the function that tells which documents may be, wherever nothing of W has turned but block c -/
def MayC (W : World) (c : Nat) (mayv : Value) (may : Int → Bool) : Prop := ∃ F B, mayv = .func (.func F) #[] B ∧ (∀ args w, (callFunc F args).run Try.prog w = .ok (.enter F args) w) ∧ ∀ W', Turned (fun b => b = c) W W' → ∀ d : Int, Calls Try.prog F (#[.int .i64 d] ++ B) W' fun e w' => e = .returned (.bool (may d)) ∧ Below W'.heap.size W' w'
theorem MayIs.mayc {w1 W : World} {c : Nat} {mayv : Value} {may : Int → Bool} (h : MayIs w1 mayv may) (hb : Below w1.heap.size w1 W) (hc : w1.heap.size ≤ c) : MayC W c mayv may := by
  obtain ⟨F, B, e, eg, hm⟩ := h
  exact ⟨F, B, e, eg, fun W' hT d => hm W' (hT.below hb (fun k hk => by omega)) d⟩
end Go.Proofs.Ytneofgaklofigaa

/- Documents with values: as values, in rows; which is better. -/
namespace Go.Proofs.Ytneofgaklofigaa.Fu
open Go.RowKit Go.Proofs.Ytneofgaklofigaa FuM

def enc3 (p : FV) : List Value := [.int .i64 p.1.1, .int .i64 p.1.2.1, .int .i64 p.1.2.2]
def sv (p : FV) : Value := .agg #[.int .i64 p.1.1, .int .i64 p.1.2.1, .int .i64 p.1.2.2]
theorem fv_info : (Try.prog.info? 35).map (fun i => (i.zero, i.size, i.bytes)) = some (some (.agg #[.int .i64 0, .int .i64 0, .int .i64 0]), 3, 24) := by kernel_rfl
theorem flat_len (l : List FV) : (l.flatMap enc3).length = l.length * 3 := by
  induction l with
  | nil => rfl
  | cons a t ih =>
    rw [List.flatMap_cons, List.length_append, ih, List.length_cons, Nat.succ_mul, Nat.add_comm]
    rfl
theorem flat_get (l : List FV) (k : Nat) (h : k < l.length) : (l.flatMap enc3)[k * 3]? = some (.int .i64 l[k].1.1) ∧ (l.flatMap enc3)[k * 3 + 1]? = some (.int .i64 l[k].1.2.1) ∧ (l.flatMap enc3)[k * 3 + 2]? = some (.int .i64 l[k].1.2.2) := by
  induction l generalizing k with
  | nil => simp at h
  | cons a t ih =>
    cases k with
    | zero => exact ⟨rfl, rfl, rfl⟩
    | succ k =>
      have := ih k (by simpa using h)
      rw [show (k + 1) * 3 = k * 3 + 1 + 1 + 1 by omega]
      exact this
theorem flat_set (l : List FV) (k : Nat) (p : FV) (h : k < l.length) : (l.set k p).flatMap enc3 = (((l.flatMap enc3).set (k * 3) (.int .i64 p.1.1)).set (k * 3 + 1) (.int .i64 p.1.2.1)).set (k * 3 + 2) (.int .i64 p.1.2.2) := by
  induction l generalizing k with
  | nil => simp at h
  | cons a t ih =>
    cases k with
    | zero => rfl
    | succ k =>
      have := ih k (by simpa using h)
      rw [List.set_cons_succ, List.flatMap_cons, this, List.flatMap_cons, show (k + 1) * 3 = k * 3 + 1 + 1 + 1 by omega]
      rfl
/-- a slice that reads as documents with values -/
def Vals (w : World) (A : Option Addr) (n : Nat) (l : List FV) : Prop :=
  l.length = n ∧ ∀ k (h : k < l.length), ∃ b o, A = some ⟨b, o, none⟩ ∧ b < w.heap.size ∧ w.cell? ⟨b, o + k * 3, none⟩ = some (.int .i64 l[k].1.1) ∧ w.cell? ⟨b, o + k * 3 + 1, none⟩ = some (.int .i64 l[k].1.2.1) ∧ w.cell? ⟨b, o + k * 3 + 2, none⟩ = some (.int .i64 l[k].1.2.2)
theorem Vals.later {w w' : World} {A : Option Addr} {n : Nat} {l : List FV} (h : Vals w A n l) (hb : Below w.heap.size w w') : Vals w' A n l :=
  ⟨h.1, fun k hk => by
    obtain ⟨b, o, e, hl, h0, h1, h2⟩ := h.2 k hk
    exact ⟨b, o, e, Nat.lt_of_lt_of_le hl hb.size, (hb.cell (p := ⟨b, o + k * 3, none⟩) hl).trans h0, (hb.cell (p := ⟨b, o + k * 3 + 1, none⟩) hl).trans h1, (hb.cell (p := ⟨b, o + k * 3 + 2, none⟩) hl).trans h2⟩⟩
theorem Vals.take {w : World} {A : Option Addr} {n : Nat} {l : List FV} (h : Vals w A n l) (k : Nat) (hk : k ≤ n) : Vals w A k (l.take k) := by
  refine ⟨by rw [List.length_take, h.1]; omega, fun j hj => ?_⟩
  rw [List.length_take] at hj
  rw [List.getElem_take]
  exact h.2 j (by omega)
/-- the slice v reads as l -/
def Vrd (w : World) (v : Value) (l : List FV) : Prop := ∃ A cp, v = .slice A l.length cp ∧ l.length ≤ cp ∧ (A = none → cp = 0) ∧ Vals w A l.length l
theorem Vrd.later {w w' : World} {v : Value} {l : List FV} (h : Vrd w v l) (hb : Below w.heap.size w w') : Vrd w' v l := by
  obtain ⟨A, cp, e, h1, h2, h3⟩ := h
  exact ⟨A, cp, e, h1, h2, h3.later hb⟩
theorem vrd_nil (w : World) : Vrd w (.slice none 0 0) [] := ⟨none, 0, rfl, Nat.le_refl _, fun _ => rfl, rfl, fun k hk => by simp at hk⟩
/-- one's own row of documents with values -/
def FRow (w : World) (base : Nat) (v : Value) (l : List FV) : Prop := w.ownsRow base 35 3 v l.length (l.flatMap enc3)
theorem FRow.nil_ (w : World) (base : Nat) : FRow w base (.slice none 0 0) [] := World.ownsRow_nil _ _ _ _
theorem FRow.kept {w w' : World} {base : Nat} {v : Value} {l : List FV} (h : FRow w base v l) (hk : ∀ g, v.ownBlock = some g → w'.heap[g]? = w.heap[g]?) : FRow w' base v l := by
  refine ⟨h.1, ?_⟩
  rcases h.2 with hn | ⟨g, cap, cur, rfl, hbg, hgg, rest⟩
  · exact .inl hn
  · exact .inr ⟨g, cap, cur, rfl, hbg, (hk g rfl).trans hgg, rest⟩
theorem FRow.later {w w' : World} {base : Nat} {v : Value} {l : List FV} (h : FRow w base v l) (hb : Below w.heap.size w w') : FRow w' base v l :=
  h.kept fun g hg => hb.block g (World.ownsRow.lt h g hg).2
theorem FRow.cells {w : World} {base : Nat} {v : Value} {l : List FV} (h : FRow w base v l) (hne : 0 < l.length) :
    ∃ g cap, v = .slice (some ⟨g, 0, none⟩) l.length cap ∧ base ≤ g ∧ g < w.heap.size ∧ l.length ≤ cap ∧ (∀ j, w.frozen? ⟨g, j, none⟩ = false) ∧ ∀ k (hk : k < l.length), w.cell? ⟨g, k * 3, none⟩ = some (.int .i64 l[k].1.1) ∧ w.cell? ⟨g, k * 3 + 1, none⟩ = some (.int .i64 l[k].1.2.1) ∧ w.cell? ⟨g, k * 3 + 2, none⟩ = some (.int .i64 l[k].1.2.2) := by
  have h0 := h
  rcases h.2 with ⟨rfl, hn⟩ | ⟨g, cap, cur, rfl, hbg, hgg, hnc, rest⟩
  · omega
  · refine ⟨g, cap, rfl, hbg, (Array.getElem?_eq_some_iff.1 hgg).1, by omega, fun j => by unfold World.frozen?; simp only [hgg]; simp, fun k hk => ?_⟩
    obtain ⟨f0, f1, f2⟩ := flat_get l k hk
    have c0 := World.ownsRow.cells h0 (g := g) rfl _ _ f0
    have c1 := World.ownsRow.cells h0 (g := g) rfl _ _ f1
    have c2 := World.ownsRow.cells h0 (g := g) rfl _ _ f2
    rw [add_none, Nat.zero_add] at c0 c1 c2
    exact ⟨c0, c1, c2⟩
theorem FRow.form {w : World} {base : Nat} {v : Value} {l : List FV} (h : FRow w base v l) : ∃ A cap, v = .slice A l.length cap ∧ l.length ≤ cap ∧ (A = none → cap = 0) := by
  rcases h.2 with ⟨rfl, hn⟩ | ⟨g, cap, cur, rfl, hbg, hgg, hnc, rest⟩
  · rw [hn]; exact ⟨none, 0, rfl, Nat.le_refl _, fun _ => rfl⟩
  · exact ⟨_, cap, rfl, by omega, fun e => by cases e⟩
theorem FRow.prd {w : World} {base : Nat} {v : Value} {l : List FV} (h : FRow w base v l) : Vrd w v l := by
  by_cases hl : 0 < l.length
  · obtain ⟨g, cap, rfl, _, hg, hcap, _, hc⟩ := h.cells hl
    refine ⟨_, cap, rfl, hcap, (fun e => by cases e), rfl, fun k hk => ⟨g, 0, rfl, hg, ?_⟩⟩
    rw [Nat.zero_add]
    exact hc k hk
  · obtain ⟨A, cap, rfl, h1, h2⟩ := h.form
    exact ⟨A, cap, rfl, h1, h2, rfl, fun k hk => by omega⟩
/-- one of one's own row, turned -/
theorem FRow.set_ {w : World} {base g n cap : Nat} {l : List FV} (h : FRow w base (.slice (some ⟨g, 0, none⟩) n cap) l) (i : Nat) (p : FV) (hi : i < l.length) :
    FRow (((w.setCell ⟨g, i * 3, none⟩ (.int .i64 p.1.1)).setCell ⟨g, i * 3 + 1, none⟩ (.int .i64 p.1.2.1)).setCell ⟨g, i * 3 + 2, none⟩ (.int .i64 p.1.2.2)) base (.slice (some ⟨g, 0, none⟩) n cap) (l.set i p) := by
  refine ⟨by rw [flat_len, List.length_set], .inr ?_⟩
  rcases h.2 with ⟨e, _⟩ | ⟨g', cap', cur, e, hbg, hgg, h1, h2, h3, h4⟩
  · cases e
  · injection e with e1 e2 e3
    injection e1 with e1
    injection e1 with e1
    subst e1; subst e2; subst e3
    refine ⟨g, cap, ((cur.setIfInBounds (i * 3) (.int .i64 p.1.1)).setIfInBounds (i * 3 + 1) (.int .i64 p.1.2.1)).setIfInBounds (i * 3 + 2) (.int .i64 p.1.2.2), by simp, hbg, heap_setCell_row (heap_setCell_row (heap_setCell_row hgg _ _) _ _) _ _, by simpa using h1, h2, by simpa using h3, ?_⟩
    rw [Array.toList_setIfInBounds, Array.toList_setIfInBounds, Array.toList_setIfInBounds, List.take_set, List.take_set, List.take_set]
    simp only [List.length_set]
    rw [h4, flat_set l i p hi]
set_option maxRecDepth 100000 in
/-- append of what is read onto one's own row -/
theorem wp_append_fv {w : World} {o : Oper} {a : Act} {K : Act → World → Prop} {Q : Exit → Act → World → Prop} (s x : Operand)
    (ho : o.op = .call { callee := .builtin .append, args := #[s, x], argTypes := #[24, 24] })
    (base : Nat) (v0 : Value) (l0 : List FV) (hs : a.eval s = v0) (hown : FRow w base v0 l0) (hbase : base ≤ w.heap.size)
    (A : Option Addr) (n cp : Nat) (l : List FV) (hx : a.eval x = .slice A n cp) (hS : Vals w A n l) (hA : A = none → cp = 0) (hn : l0.length + n ≤ 1000000000)
    (h : ∀ v' w', FRow w' base v' (l0 ++ l) → w.grownBy w' v0.ownBlock → K (a.put o.dst v') w') : o.wp Try.prog a w K Q := by
  obtain ⟨i0, hi, hz0, hz1, hz2⟩ := info_parts fv_info
  rcases A with _ | ad
  · have hn0 : n = 0 := by
      rcases Nat.eq_zero_or_pos n with e | e
      · exact e
      · obtain ⟨b, o, e', _⟩ := hS.2 0 (by rw [hS.1]; exact e)
        cases e'
    subst hn0
    have hcp := hA rfl
    subst hcp
    have hl0 : l = [] := List.eq_nil_of_length_eq_zero hS.1
    subst hl0
    have hrun := run_append_owned_none (P := Try.prog) (w := w) base 24 o.type 35 i0 3 Try.underlying24 hi v0 l0.length (l0.flatMap enc3) hown
    have hfin := h v0 w (by rw [List.append_nil]; exact hown) (World.grownBy.refl w _)
    unfold Oper.wp
    simp [execOp, ho, resolve, invoke, builtin, hs, hx, hrun, Result.andThen]
    exact hfin
  · refine wp_append_own w s x 24 ho base 35 i0 _ 3 24 Try.underlying24 hi hz0 hz1 hz2 rfl (by omega) v0 l0.length (l0.flatMap enc3) hs hown ad n cp (l.flatMap enc3) hx (by rw [flat_len, hS.1]) (fun j u hu => ?_) (fun u hu => ?_) (by simp [maxLen]; omega) (by omega) hbase ?_
    · have hj : j < l.length * 3 := by
        have := (List.getElem?_eq_some_iff.1 hu).1
        rwa [flat_len] at this
      obtain ⟨b, o, e, _, h0, h1, h2⟩ := hS.2 (j / 3) (by omega)
      obtain ⟨g0, g1, g2⟩ := flat_get l (j / 3) (by omega)
      injection e with e
      subst e
      rw [add_none]
      have hm : j % 3 = 0 ∨ j % 3 = 1 ∨ j % 3 = 2 := by omega
      rcases hm with hm | hm | hm
      · have ej : j = j / 3 * 3 := by omega
        rw [ej, g0] at hu
        rw [ej]
        exact h0.trans hu
      · have ej : j = j / 3 * 3 + 1 := by omega
        rw [ej, g1] at hu
        rw [ej, ← Nat.add_assoc]
        exact h1.trans hu
      · have ej : j = j / 3 * 3 + 2 := by omega
        rw [ej, g2] at hu
        rw [ej, ← Nat.add_assoc]
        exact h2.trans hu
    · simp only [List.mem_flatMap, enc3] at hu
      obtain ⟨t, _, hu⟩ := hu
      simp at hu
      rcases hu with rfl | rfl | rfl <;> rfl
    · intro v' w' hown' hg' _
      refine h v' w' ?_ hg'
      unfold FRow
      rw [List.length_append, List.flatMap_append, hS.1]
      exact hown'
theorem wpList_append_fv {w : World} {ops : Array Oper} {rest : List Oper} {o : Oper} {a : Act} {Q : Exit → Act → World → Prop} (hgd : o.guard = none) (s x : Operand)
    (ho : o.op = .call { callee := .builtin .append, args := #[s, x], argTypes := #[24, 24] })
    (base : Nat) (v0 : Value) (l0 : List FV) (hs : a.eval s = v0) (hown : FRow w base v0 l0) (hbase : base ≤ w.heap.size)
    (A : Option Addr) (n cp : Nat) (l : List FV) (hx : a.eval x = .slice A n cp) (hS : Vals w A n l) (hA : A = none → cp = 0) (hn : l0.length + n ≤ 1000000000)
    (h : ∀ v' w', FRow w' base v' (l0 ++ l) → w.grownBy w' v0.ownBlock → wpList Try.prog ops Q rest (a.put o.dst v') w') : wpList Try.prog ops Q (o :: rest) a w :=
  wpList_plain hgd fun _ hK => wp_append_fv s x ho base v0 l0 hs hown hbase A n cp l hx hS hA hn fun v' w' h2 h3 => hK _ _ (h v' w' h2 h3)
/-- which is better: the program's -/
theorem fv_r64 (a : FV) : R64 a.1.2 := ⟨a.2.2.1, a.2.2.2⟩
theorem fv_rt (a : FV) : rtB a.1.2 = true := (rtB_iff _).2 a.2.1
theorem fv_cmp (a b : FV) (w : World) : Calls Try.prog 23 #[rv a.1.2, rv b.1.2] w fun e w' => e = .returned (.int .i64 (ExactM.cmp a.1.2 b.1.2)) ∧ Mo.Below w.heap.size w w' := by
  have h := Mo.compare_any a.1.2 b.1.2 w (fv_r64 a) (fv_r64 b)
  unfold cmpV at h
  rw [fv_rt a, fv_rt b] at h
  exact h
theorem keep_m {w w' : World} {p : Addr} {u : Value} (hb : Mo.Below w.heap.size w w') (h : w.cell? p = some u) : w'.cell? p = some u := (hb.cell (World.block_lt_of_cell? w p h)).trans h
set_option maxHeartbeats 2000000 in
set_option maxRecDepth 100000 in
theorem better_any (a b : FV) (w : World) :
    Calls Try.prog 11 #[sv a, sv b] w fun e w' => e = .returned (.bool (bet a b)) ∧ Mo.Below w.heap.size w w' := by
  have hc := fv_cmp a b ((w.alloc (.cells #[.int .i64 a.1.1, .int .i64 a.1.2.1, .int .i64 a.1.2.2] 35)).alloc (.cells #[.int .i64 b.1.1, .int .i64 b.1.2.1, .int .i64 b.1.2.2] 35))
  have hb2 : Mo.Below w.heap.size w ((w.alloc (.cells #[.int .i64 a.1.1, .int .i64 a.1.2.1, .int .i64 a.1.2.2] 35)).alloc (.cells #[.int .i64 b.1.1, .int .i64 b.1.2.1, .int .i64 b.1.2.2] 35)) := Mo.bl2 _ _ _
  have za : ((w.alloc (.cells #[.int .i64 a.1.1, .int .i64 a.1.2.1, .int .i64 a.1.2.2] 35)).alloc (.cells #[.int .i64 b.1.1, .int .i64 b.1.2.1, .int .i64 b.1.2.2] 35)).cell? ⟨w.heap.size, 0, none⟩ = some (.int .i64 a.1.1) := by go_simp
  have zb : ((w.alloc (.cells #[.int .i64 a.1.1, .int .i64 a.1.2.1, .int .i64 a.1.2.2] 35)).alloc (.cells #[.int .i64 b.1.1, .int .i64 b.1.2.1, .int .i64 b.1.2.2] 35)).cell? ⟨w.heap.size + 1, 0, none⟩ = some (.int .i64 b.1.1) := by go_simp
  have hbet : bet a b = if ExactM.cmp a.1.2 b.1.2 = 0 then decide (a.1.1 < b.1.1) else decide (0 < ExactM.cmp a.1.2 b.1.2) := rfl
  rw [hbet]
  unfold sv
  unfold rv at hc
  obtain ⟨c, hcE⟩ : ∃ c, c = ExactM.cmp a.1.2 b.1.2 := ⟨_, rfl⟩
  rw [← hcE] at hc ⊢
  clear hbet hcE
  generalize a.1.2.1 = a2 at hc hb2 za zb ⊢
  generalize a.1.2.2 = a3 at hc hb2 za zb ⊢
  generalize a.1.1 = a1 at hc hb2 za zb ⊢
  generalize b.1.2.1 = b2 at hc hb2 za zb ⊢
  generalize b.1.2.2 = b3 at hc hb2 za zb ⊢
  generalize b.1.1 = b1 at hc hb2 za zb ⊢
  have HC := Lib.hid hc
  clear hc
  by_cases h0 : c = 0
  · subst h0
    rw [if_pos rfl]
    obtain ⟨r, hr⟩ : ∃ r, r = decide (a1 < b1) := ⟨_, rfl⟩
    rw [← hr]
    have hr' := hr.symm
    clear hr
    go_enter Try.func11, Try.ntmps11
    go_wp2_with fail
    refine HC.out.mono ?_
    rintro e w3 ⟨rfl, hb3⟩
    have ya := keep_m hb3 za
    have yb := keep_m hb3 zb
    have HB := Lib.hid (hb2.trans (hb3.mono hb2.size))
    clear hb3 za zb hb2
    go_wp2
    go_ret
    exact ⟨rfl, HB.out⟩
  · rw [if_neg h0]
    have hd : (c != 0) = true := by simpa using h0
    obtain ⟨r, hr⟩ : ∃ r, r = decide (0 < c) := ⟨_, rfl⟩
    rw [← hr]
    have hr' := hr.symm
    clear hr h0
    go_enter Try.func11, Try.ntmps11
    go_wp2_with fail
    refine HC.out.mono ?_
    rintro e w3 ⟨rfl, hb3⟩
    have HB := Lib.hid (hb2.trans (hb3.mono hb2.size))
    clear hb3 za zb hb2
    go_wp2
    go_ret
    exact ⟨rfl, HB.out⟩
end Go.Proofs.Ytneofgaklofigaa.Fu

/- A bound in memory; two of its heap turned about. -/
namespace Go.Proofs.Ytneofgaklofigaa.Fu
open Go.RowKit Go.Proofs.Ytneofgaklofigaa FuM

def betF : Value := .func (.func 11) #[] #[]
def topC (k : Nat) (v : Value) : Array Value := #[.int .i64 k, betF, v]
/-- at t stands a bound of k, its heap, one's own row, reads h -/
structure TopAt (w : World) (base t k : Nat) (v : Value) (h : List FV) : Prop where
  old : base ≤ t
  blk : w.heap[t]? = some (.cells (topC k v) 82 (0, 0))
  row : FRow w base v h
/-- the blocks of a bound -/
def own2 (t : Nat) (v : Value) (b : Nat) : Prop := b = t ∨ v.ownBlock = some b

theorem own_ne {w : World} {base : Nat} {v : Value} {l : List FV} {t : Nat} {cs : Array Value} (h : FRow w base v l) (ht : w.heap[t]? = some (.cells cs 82 (0, 0))) : v.ownBlock ≠ some t := by
  rcases h.2 with ⟨rfl, _⟩ | ⟨g, cap, cur, rfl, _, hgg, _⟩
  · simp [Value.ownBlock]
  · intro e
    have e2 : g = t := by simpa [Value.ownBlock] using e
    subst e2
    rw [hgg] at ht
    injection ht with ht
    injection ht with _ ht
    revert ht
    decide
section
variable {w w' : World} {base t k : Nat} {v : Value} {h : List FV}
theorem TopAt.lt (x : TopAt w base t k v h) : t < w.heap.size := (Array.getElem?_eq_some_iff.1 x.blk).1
theorem TopAt.c0 (x : TopAt w base t k v h) : w.cell? ⟨t, 0, none⟩ = some (.int .i64 k) := by rw [cell_of_row w t 0 _ _ _ x.blk]; rfl
theorem TopAt.c1 (x : TopAt w base t k v h) : w.cell? ⟨t, 1, none⟩ = some betF := by rw [cell_of_row w t 1 _ _ _ x.blk]; rfl
theorem TopAt.c2 (x : TopAt w base t k v h) : w.cell? ⟨t, 2, none⟩ = some v := by rw [cell_of_row w t 2 _ _ _ x.blk]; rfl
theorem TopAt.f2 (x : TopAt w base t k v h) (i : Nat) : w.frozen? ⟨t, i, none⟩ = false := by simp [World.frozen?, x.blk]
theorem TopAt.later (x : TopAt w base t k v h) (hb : Below w.heap.size w w') : TopAt w' base t k v h := ⟨x.old, (hb.block t x.lt).trans x.blk, x.row.later hb⟩
theorem TopAt.drew (x : TopAt w base t k v h) : TopAt w.drew base t k v h := ⟨x.old, x.blk, x.row⟩
theorem TopAt.ne (x : TopAt w base t k v h) : v.ownBlock ≠ some t := own_ne x.row x.blk
theorem TopAt.set_ (x : TopAt w base t k v h) {g n cap : Nat} (hv : v = .slice (some ⟨g, 0, none⟩) n cap) (i : Nat) (p : FV) (hi : i < h.length) :
    TopAt (((w.setCell ⟨g, i * 3, none⟩ (.int .i64 p.1.1)).setCell ⟨g, i * 3 + 1, none⟩ (.int .i64 p.1.2.1)).setCell ⟨g, i * 3 + 2, none⟩ (.int .i64 p.1.2.2)) base t k v (h.set i p) := by
  have hne : t ≠ g := fun e => x.ne (by rw [hv, e]; simp [Value.ownBlock])
  refine ⟨x.old, ?_, ?_⟩
  · rw [Below.heap_setCell _ _ _ t hne, Below.heap_setCell _ _ _ t hne, Below.heap_setCell _ _ _ t hne]; exact x.blk
  · subst hv; exact x.row.set_ i p hi
end
/-- nothing but blocks of S has turned -/
structure Only (S : Nat → Prop) (w w' : World) : Prop where
  os : w'.os = w.os
  tape : w'.tape = w.tape
  output : w'.output = w.output
  size : w.heap.size ≤ w'.heap.size
  block : ∀ k, k < w.heap.size → ¬ S k → w'.heap[k]? = w.heap[k]?
section
variable {S : Nat → Prop} {w w' w'' : World}
theorem Only.refl (S : Nat → Prop) (w : World) : Only S w w := ⟨rfl, rfl, rfl, Nat.le_refl _, fun _ _ _ => rfl⟩
theorem Only.trans (h1 : Only S w w') (h2 : Only S w' w'') : Only S w w'' :=
  ⟨h2.os.trans h1.os, h2.tape.trans h1.tape, h2.output.trans h1.output, Nat.le_trans h1.size h2.size, fun k hk hs => (h2.block k (Nat.lt_of_lt_of_le hk h1.size) hs).trans (h1.block k hk hs)⟩
theorem Only.wide {T : Nat → Prop} (h : Only S w w') (hT : ∀ k, S k → T k) : Only T w w' := ⟨h.os, h.tape, h.output, h.size, fun k hk hs => h.block k hk (fun x => hs (hT k x))⟩
theorem Only.of_below (S : Nat → Prop) (h : Below w.heap.size w w') : Only S w w' := ⟨h.os, h.tape, h.output, h.size, fun k hk _ => h.block k hk⟩
theorem Only.of_grown {r : Option Nat} (h : w.grownBy w' r) (hS : ∀ b, r = some b → S b) : Only S w w' :=
  ⟨h.os, h.tape, h.output, h.size, fun k hk hs => h.block k hk (fun e => hs (hS k e.symm))⟩
theorem Only.set_ (h : Only S w w') {b : Nat} (hS : S b) (i : Nat) (u : Value) : Only S w (w'.setCell ⟨b, i, none⟩ u) :=
  h.trans (Only.of_grown (only_set (World.grownBy.refl w' _) i u) (fun c e => by injection e with e; rw [← e]; exact hS))
theorem Only.alloc (h : Only S w w') (o : Obj) : Only S w (w'.alloc o) :=
  ⟨h.os, h.tape, h.output, Nat.le_trans h.size (by simp), fun k hk hs => (Below.heap_alloc w' o k (Nat.lt_of_lt_of_le hk h.size)).trans (h.block k hk hs)⟩
theorem Only.drew (h : Only S w w') : Only S w w'.drew := ⟨h.os, h.tape, h.output, h.size, h.block⟩
theorem Only.drewN (h : Only S w w') (n : Nat) : Only S w (w'.drewN n) := ⟨h.os, h.tape, h.output, h.size, h.block⟩
theorem Only.later {B : Nat} (h : Only S w w') (hb : Below B w' w'') (hB : w.heap.size ≤ B) : Only S w w'' :=
  ⟨hb.os.trans h.os, hb.tape.trans h.tape, hb.output.trans h.output, Nat.le_trans h.size hb.size, fun k hk hs => (hb.block k (by omega)).trans (h.block k hk hs)⟩
theorem Only.cell (h : Only S w w') {p : Addr} (hp : p.block < w.heap.size) (hS : ¬ S p.block) : w'.cell? p = w.cell? p := World.cell?_of_block (h.block p.block hp hS)
theorem Only.below {B : Nat} (h : Only S w w') (hS : ∀ k, S k → B ≤ k) (hB : B ≤ w.heap.size) : Below B w w' :=
  ⟨h.os, h.tape, h.output, h.size, fun k hk => h.block k (by omega) (fun s => by have := hS k s; omega)⟩
/-- blocks that are new may turn besides -/
theorem Only.from_new (h1 : Only S w w') (h2 : Only (fun k => S k ∨ w.heap.size ≤ k) w' w'') : Only S w w'' :=
  ⟨h2.os.trans h1.os, h2.tape.trans h1.tape, h2.output.trans h1.output, Nat.le_trans h1.size h2.size, fun k hk hs => (h2.block k (Nat.lt_of_lt_of_le hk h1.size) (fun x => x.elim hs (fun y => by omega))).trans (h1.block k hk hs)⟩
end

set_option maxHeartbeats 4000000 in
set_option maxRecDepth 100000 in
theorem swap_any (base t k : Nat) (v : Value) (h : List FV) (i j : Nat) (w : World) (hx : TopAt w base t k v h) (hi : i < h.length) (hj : j < h.length) (hij : i ≠ j) (hl : h.length ≤ 1000000000) :
    Calls Try.prog 51 #[.pointer (some ⟨t, 0, none⟩), .int .i64 i, .int .i64 j] w fun e w' => e = .returned (.tuple #[]) ∧ TopAt w' base t k v (FuM.swp h i j) ∧ Only (own2 t v) w w' := by
  obtain ⟨g, cap, hv, hbg, hg, hcap, hfz, hc⟩ := hx.row.cells (by omega)
  have hx' := Lib.hid hx
  obtain ⟨ci0, ci1, ci2⟩ := hc i hi
  obtain ⟨cj0, cj1, cj2⟩ := hc j hj
  have c2 := hx.c2
  have hne : t ≠ g := fun e => hx.ne (by rw [hv, e]; simp [Value.ownBlock])
  rw [hv] at c2
  have ai := FuM.at_get hi
  have aj := FuM.at_get hj
  rw [← ai] at ci0 ci1 ci2
  rw [← aj] at cj0 cj1 cj2
  obtain ⟨x, hxe⟩ : ∃ x, x = FuM.at_ h i := ⟨_, rfl⟩
  obtain ⟨y, hye⟩ : ∃ y, y = FuM.at_ h j := ⟨_, rfl⟩
  obtain ⟨n, hn⟩ : ∃ n, n = h.length := ⟨_, rfl⟩
  have HX := Lib.hid hxe
  have HY := Lib.hid hye
  rw [← hxe] at ci0 ci1 ci2
  rw [← hye] at cj0 cj1 cj2
  rw [← hn] at hi hj hl hcap c2 hv
  have HN := Lib.hid hn
  have HV := Lib.hid hv
  have fi0 := hfz (i * 3)
  have fi1 := hfz (i * 3 + 1)
  have fi2 := hfz (i * 3 + 2)
  have fj0 := hfz (j * 3)
  have fj1 := hfz (j * 3 + 1)
  have fj2 := hfz (j * 3 + 2)
  clear hc hxe hye hn hx hfz ai aj hv
  have e00 : j * 3 ≠ i * 3 := by omega
  have e01 : j * 3 ≠ i * 3 + 1 := by omega
  have e02 : j * 3 ≠ i * 3 + 2 := by omega
  have e10 : j * 3 + 1 ≠ i * 3 := by omega
  have e11 : j * 3 + 1 ≠ i * 3 + 1 := by omega
  have e12 : j * 3 + 1 ≠ i * 3 + 2 := by omega
  have e20 : j * 3 + 2 ≠ i * 3 := by omega
  have e21 : j * 3 + 2 ≠ i * 3 + 1 := by omega
  have e22 : j * 3 + 2 ≠ i * 3 + 2 := by omega
  go_enter Try.func51, Try.ntmps51
  go_wp2
  go_region
  all_goals
    go_end0
    refine ⟨rfl, ?_, ?_⟩
    · have x1 := (hx'.out.set_ HV.out i y (by omega)).set_ HV.out j x (by simp; omega)
      have hswp : swp h i j = (h.set i y).set j x := by unfold swp; rw [HX.out, HY.out]
      rw [hswp]
      exact x1.drew
    · have hS : own2 t v g := Or.inr (by rw [HV.out]; rfl)
      exact (((((((Only.refl (own2 t v) w).set_ hS _ _).set_ hS _ _).set_ hS _ _).set_ hS _ _).set_ hS _ _).set_ hS _ _).drew
end Go.Proofs.Ytneofgaklofigaa.Fu

/- The heap's last moved up, its first moved down. -/
namespace Go.Proofs.Ytneofgaklofigaa.Fu
open Go.RowKit Go.Proofs.Ytneofgaklofigaa FuM

theorem TopAt.alloc {w : World} {base t k : Nat} {v : Value} {h : List FV} (x : TopAt w base t k v h) (o : Obj) : TopAt (w.alloc o) base t k v h := x.later ((Below.refl _ _).alloc (Nat.le_refl _) _)

set_option maxHeartbeats 4000000 in
set_option maxRecDepth 100000 in
theorem rise_any (base t k : Nat) (v : Value) (h : List FV) (m : Nat) (w : World) (hx : TopAt w base t k v h) (hm : h.length = m) (hm0 : 0 < m) (hu : FuM.Up h (m - 1)) (hl : h.length ≤ 1000000000) :
    Calls Try.prog 37 #[.pointer (some ⟨t, 0, none⟩)] w fun e w' => e = .returned (.tuple #[]) ∧ ∃ h', TopAt w' base t k v h' ∧ FuM.Heap h' ∧ h'.Perm h ∧ Only (own2 t v) w w' := by
  obtain ⟨g, cap, hv, hbg, hg, hcap, hfz, hc⟩ := hx.row.cells (by omega)
  have c2 := hx.c2
  rw [hv, hm] at c2
  have HX := Lib.hid hx
  have HV := Lib.hid hv
  have HM := Lib.hid hm
  have hml : m ≤ 1000000000 := by omega
  clear hx hv hc hfz hm hl
  go_enter Try.func37, Try.ntmps37
  go_wp2
  go_loopw [2] (fun x wr => ∃ (i : Nat) (hr : List FV), x = .int .i64 i ∧ i < hr.length ∧ hr.length = m ∧ TopAt wr base t k v hr ∧ FuM.Up hr i ∧ hr.Perm h ∧ Only (own2 t v) w wr) (fun x _ => (intOf x).toNat)
  case atStart => exact ⟨m - 1, h, by go_num, by rw [HM.out]; omega, HM.out, HX.out, hu, List.Perm.refl _, Only.refl _ _⟩
  case round =>
    clear hu c2 hcap hg
    obtain ⟨i, hr, rfl, hi, hrm, xr, ur, pr, onl⟩ := hrel
    by_cases h0 : i = 0
    · subst h0
      have hH := Lib.hid (FuM.up_end ur (.inl rfl))
      have hd : decide ((0 : Int) < ((0 : Nat) : Int)) = false := by simp
      clear ur hrm
      go_wp2
      go_end0
      exact ⟨rfl, hr, xr, hH.out, pr, onl⟩
    · obtain ⟨p, hp⟩ : ∃ p, p = FuM.par i := ⟨_, rfl⟩
      have hpi : p < i := by rw [hp]; unfold FuM.par; omega
      have hpe : ((i : Int) - 1) / 2 = (p : Int) := by rw [hp]; unfold FuM.par; omega
      have hd : decide ((0 : Int) < (i : Int)) = true := by simp; omega
      have c0 := xr.c0
      have c1 : wr.cell? ⟨t, 1, none⟩ = some (.func (.func 11) #[] #[]) := xr.c1
      have c2 := xr.c2
      obtain ⟨g2, cap2, hv2, hbg2, hg2, hcap2, hfz2, hc2⟩ := xr.row.cells (by omega)
      rw [hv2, hrm] at c2
      obtain ⟨ci0, ci1, ci2⟩ := hc2 i hi
      obtain ⟨cp0, cp1, cp2⟩ := hc2 p (by omega)
      have ai := FuM.at_get hi
      have ap := FuM.at_get (show p < hr.length by omega)
      rw [← ai] at ci0 ci1 ci2
      rw [← ap] at cp0 cp1 cp2
      obtain ⟨x, hxe⟩ : ∃ x, x = FuM.at_ hr p := ⟨_, rfl⟩
      obtain ⟨y, hye⟩ : ∃ y, y = FuM.at_ hr i := ⟨_, rfl⟩
      rw [← hye] at ci0 ci1 ci2
      rw [← hxe] at cp0 cp1 cp2
      have hbt := fun W => better_any x y W
      unfold sv at hbt
      have HI : Hid (FuM.bet (FuM.at_ hr (FuM.par i)) (FuM.at_ hr i) = FuM.bet x y) := Lib.hid (by rw [hxe, hye, hp])
      have HP := Lib.hid hp
      have HRM := Lib.hid hrm
      rw [hrm] at hi hcap2
      have hi1 : 0 < i := by omega
      have hpm : (p : Int) < (m : Int) := by omega
      have him : (i : Int) < (m : Int) := by omega
      have hp0 : (0 : Int) ≤ (p : Int) := by omega
      have hii0 : (0 : Int) ≤ (i : Int) := by omega
      clear ai ap hxe hye hp hrm hc2 hfz2 hv2
      cases hb : FuM.bet x y with
      | true =>
        rw [hb] at hbt HI
        have HB := Lib.hid hbt
        clear hbt hb
        go_wp2
        go_still_tail 18, (by kernel_rfl)
        change wpList _ _ _ _ _ wr.drew
        have xd := xr.drew
        have od := onl.drew
        clear xr onl
        generalize wr.drew = w2 at xd od ⊢
        clear c0 c1 c2 ci0 ci1 ci2 cp0 cp1 cp2
        go_wp2_with fail
        refine (HB.out _).mono ?_
        rintro e w3 ⟨rfl, hb3⟩
        have x3 := xd.later hb3.low
        have ol3 := od.later hb3.low od.size
        clear xd od hb3
        go_wp2_with fail
        refine (swap_any base t k v hr p i w3 x3 (by rw [HRM.out]; omega) (by rw [HRM.out]; omega) (by omega) (by rw [HRM.out]; omega)).mono ?_
        rintro e w4 ⟨rfl, x4, o4⟩
        have ol4 := ol3.trans o4
        clear x3 ol3 o4
        go_wp2
        go_roundw
        case rel =>
          refine ⟨p, _, rfl, by rw [FuM.swp_len, HRM.out]; omega, by rw [FuM.swp_len, HRM.out], x4, ?_, (FuM.swp_perm hr p i (by rw [HRM.out]; omega) (by rw [HRM.out]; omega)).trans pr, ol4⟩
          have := FuM.up_step ur hi1 (by rw [HRM.out]; omega) HI.out
          rw [← HP.out] at this
          exact this
        case measure => simp [intOf]; omega
      | false =>
        rw [hb] at hbt HI
        have HB := Lib.hid hbt
        have hH := Lib.hid (FuM.up_end ur (.inr HI.out))
        clear hbt hb ur
        go_wp2
        go_still_tail 18, (by kernel_rfl)
        change wpList _ _ _ _ _ wr.drew
        have xd := xr.drew
        have od := onl.drew
        clear xr onl
        generalize wr.drew = w2 at xd od ⊢
        clear c0 c1 c2 ci0 ci1 ci2 cp0 cp1 cp2
        go_wp2_with fail
        refine (HB.out _).mono ?_
        rintro e w3 ⟨rfl, hb3⟩
        have x3 := xd.later hb3.low
        have ol3 := od.later hb3.low od.size
        clear xd od hb3
        go_wp2
        exact bodyPost_ret (v := .tuple #[]) (by simp [results, Try.results37, go_sem]) rfl ⟨rfl, hr, x3, hH.out, pr, ol3⟩
end Go.Proofs.Ytneofgaklofigaa.Fu
