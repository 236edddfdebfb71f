
/- exact: Times. -/
import Derived.Test.YthkcpaanegjodaaExactH
namespace Go.Proofs.Ythkcpaanegjodaa
open Go.RowKit

/-- the blocks that a call has made, as they stand in V -/
def Bks (w V : World) (l : List Obj) : Prop := Below w.heap.size w V ∧ ∀ i o, l[i]? = some o → V.heap[w.heap.size + i]? = some o
theorem Bks.later {w V V' : World} {l : List Obj} (h : Bks w V l) (hb : Below V.heap.size V V') : Bks w V' l :=
  ⟨h.1.trans (hb.mono h.1.size), fun i o hi => (hb.block _ (Array.getElem?_eq_some_iff.1 (h.2 i o hi)).1).trans (h.2 i o hi)⟩
theorem Bks.drew {w V : World} {l : List Obj} (h : Bks w V l) : Bks w V.drew l := ⟨h.1.drew, h.2⟩
theorem Bks.drewN {w V : World} {l : List Obj} (h : Bks w V l) (n : Nat) : Bks w (V.drewN n) l := h.later (drewN_below V n)
theorem Bks.pair {w V : World} {l : List Obj} (h : Bks w V l) (i : Nat) {a b : Value} {t : TypeId} (hi : l[i]? = some (.cells #[a, b] t (0, 0))) :
    (V.cell? ⟨w.heap.size + i, 0, none⟩ = some a ∧ V.cell? ⟨w.heap.size + i, 1, none⟩ = some b) ∧ (V.frozen? ⟨w.heap.size + i, 0, none⟩ = false ∧ V.frozen? ⟨w.heap.size + i, 1, none⟩ = false) ∧ w.heap.size + i < V.heap.size :=
  ⟨cell_pair (h.2 i _ hi), ⟨by simp [World.frozen?, h.2 i _ hi], by simp [World.frozen?, h.2 i _ hi]⟩, (Array.getElem?_eq_some_iff.1 (h.2 i _ hi)).1⟩
theorem bks2 (w : World) (a b : Obj) : ∃ V, V = (w.alloc a).alloc b ∧ Bks w V [a, b] := by
  refine ⟨_, rfl, bl2 w a b, fun i o hi => ?_⟩
  match i, hi with
  | 0, hi => simp at hi; subst hi; rw [Nat.add_zero, Below.heap_alloc _ _ _ (by simp)]; exact heap_alloc_new _ _
  | 1, hi => simp at hi; subst hi; have := heap_alloc_new (w.alloc a) b; simpa using this
theorem bks3 (w : World) (a b c : Obj) : ∃ V, V = ((w.alloc a).alloc b).alloc c ∧ Bks w V [a, b, c] := by
  refine ⟨_, rfl, bl3 w a b c, fun i o hi => ?_⟩
  match i, hi with
  | 0, hi => simp at hi; subst hi; rw [Nat.add_zero, Below.heap_alloc _ _ _ (by simp; omega), Below.heap_alloc _ _ _ (by simp)]; exact heap_alloc_new _ _
  | 1, hi => simp at hi; subst hi; rw [Below.heap_alloc _ _ _ (by simp)]; have := heap_alloc_new (w.alloc a) b; simpa using this
  | 2, hi => simp at hi; subst hi; have := heap_alloc_new ((w.alloc a).alloc b) c; simpa using this

/-- the right rational n / d, or none -/
def ansB (n d : Int) : Bool := fitB (ExactM.low n d).1 && fitB (ExactM.low n d).2
def ansV (n d : Int) : Int × Int := if ansB n d = true then ExactM.low n d else (0, 0)
def ansC (n d : Int) : Int := if ansB n d = true then 0 else 1
def timV (p : Int × Int) (m : Int) : Int × Int := if rtB p = true then ansV (p.1 * m) p.2 else (0, 0)
def timC (p : Int × Int) (m : Int) : Int := if rtB p = true then ansC (p.1 * m) p.2 else 2
def sumV (p q : Int × Int) : Int × Int := if (rtB p && rtB q) = true then ansV (p.1 * q.2 + q.1 * p.2) (p.2 * q.2) else (0, 0)
def sumC (p q : Int × Int) : Int := if (rtB p && rtB q) = true then ansC (p.1 * q.2 + q.1 * p.2) (p.2 * q.2) else 2

set_option maxHeartbeats 1000000 in
set_option maxRecDepth 100000 in
theorem times_not (p : Int × Int) (m : Int) (w : World) (h : R64 p) (hr : rtB p = false) :
    Calls Try.prog 20 #[rv p, .int .i64 m] w fun e w' => e = .returned (.tuple #[rv (0, 0), .int .i64 2]) ∧ Below w.heap.size w w' := by
  obtain ⟨n, d⟩ := p
  have hR := fun w => right_any (n, d) w h
  rw [hr] at hR
  unfold rv at hR ⊢
  simp only at hR ⊢
  clear hr
  go_enter Try.func20, Try.ntmps20
  go_wp2_with fail
  obtain ⟨V, hV, hB⟩ := bks2 w (.cells #[.int .i64 n, .int .i64 d] 37) (.cells #[.int .i64 0, .int .i64 0] 37)
  rw [← hV]
  clear hV
  refine (hR _).mono ?_
  rintro e V1 ⟨rfl, hb1⟩
  have hB1 := hB.later hb1
  obtain ⟨⟨k1, k2⟩, ⟨k3, k4⟩, k5⟩ := hB1.pair 1 rfl
  have HB := Lib.hid hB1
  clear hB hb1 hB1
  go_wp2
  exact bodyPost_ret (v := .tuple #[.agg #[.int .i64 0, .int .i64 0], .int .i64 2]) (by simp [results, Try.results20, go_sem, k1, k2]) rfl ⟨rfl, (HB.out.1.setCell (by simp) _).setCell (by simp) _⟩
set_option maxHeartbeats 1000000 in
set_option maxRecDepth 100000 in
theorem times_yes (p : Int × Int) (m : Int) (w : World) (h : R64 p) (hm : I64n m) (hr : rtB p = true) :
    Calls Try.prog 20 #[rv p, .int .i64 m] w fun e w' => e = .returned (.tuple #[rv (ansV (p.1 * m) p.2), .int .i64 (ansC (p.1 * m) p.2)]) ∧ Below w.heap.size w w' := by
  obtain ⟨n, d⟩ := p
  obtain ⟨h1, h2⟩ := h
  simp only at h1 h2
  have hrt := (rtB_iff (n, d)).1 hr
  have hd0 : 0 < d := hrt.1
  have hrg : Nat.gcd n.natAbs d.natAbs = 1 := hrt.2
  obtain ⟨D, hDd⟩ : ∃ D : Nat, d = (D : Int) := ⟨d.toNat, by omega⟩
  subst hDd
  rw [Int.natAbs_natCast] at hrg
  have hR := fun w => right_any (n, (D : Int)) w ⟨h1, h2⟩
  rw [hr] at hR
  have hD2 : D ≤ 9223372036854775807 := by unfold I64n at h2; omega
  have lm := abs_lt m hm
  have hS := fun w => (size_any m w hm).mono (R' := fun e w' => e = .returned (.int .u64 (m.natAbs : Int)) ∧ w' = w) (fun _ _ h => ⟨h.1, h.2.symm⟩)
  have hG := fun w => (divisor_any m.natAbs D w (by omega) (by omega)).mono (R' := fun e w' => e = .returned (.int .u64 (Nat.gcd m.natAbs D : Int)) ∧ w' = w) (fun _ _ h => ⟨h.1, h.2.symm⟩)
  obtain ⟨g, hg⟩ : ∃ g, g = Nat.gcd m.natAbs D := ⟨_, rfl⟩
  obtain ⟨tl, g0, gm, gd⟩ := ExactM.times_low n m D g (by omega) hrg hg
  have hgl : g ≤ D := Nat.le_of_dvd (by omega) gd
  have b1 := div_fit m g (by omega) hm
  have q1 : m.tdiv (g : Int) = m / (g : Int) := Int.tdiv_eq_ediv_of_dvd gm
  have hM := fun w => mul_any n (m / (g : Int)) w h1 b1
  have q2 : (D : Int) / (g : Int) = ((D / g : Nat) : Int) := by simp
  have hq2 : D / g ≤ D := Nat.div_le_self _ _
  have hfd : fitB ((D / g : Nat) : Int) = true := fitB_true (by unfold I64n; have := Int.natCast_nonneg (D / g); omega)
  have hb : ansB (n * m) (D : Int) = fitB (n * (m / (g : Int))) := by unfold ansB; rw [tl]; simp only; rw [hfd, Bool.and_true]
  unfold ansV ansC
  simp only
  rw [hb, tl]
  unfold rv at hR ⊢
  simp only at hR
  rw [← hg] at hG
  obtain ⟨N, hN⟩ : ∃ N : Nat, N = m.natAbs := ⟨_, rfl⟩
  rw [← hN] at hS hG
  obtain ⟨x, hx⟩ : ∃ x, x = m / (g : Int) := ⟨_, rfl⟩
  rw [← hx] at b1 q1 hM ⊢
  obtain ⟨y, hy⟩ : ∃ y, y = D / g := ⟨_, rfl⟩
  rw [← hy] at q2 hq2 ⊢
  obtain ⟨z, hz⟩ : ∃ z, z = n * x := ⟨_, rfl⟩
  rw [← hz] at hM ⊢
  have wx : IntKind.i64.wrap x = x := by rw [IntKind.wrap_i64]; unfold I64n at b1; omega
  have gz : ¬ g = 0 := by omega
  have gi : ¬ (g : Int) = -1 := by omega
  have d0 : ((g : Int) == 0) = false := by simp; omega
  obtain ⟨fb, hfb⟩ : ∃ b, b = fitB z := ⟨_, rfl⟩
  obtain ⟨fv, hfv⟩ : ∃ b, b = fitV z := ⟨_, rfl⟩
  have hfz : fb = true → fv = z := fun e => by rw [hfv]; unfold fitV; rw [← hfb, e]; rfl
  rw [← hfb, ← hfv] at hM
  rw [← hfb]
  have HZ := Lib.hid hfz
  clear hrt hr hrg hg tl gm gd hfd hb hN hx hy hz hfb hfv hfz lm
  go_enter Try.func20, Try.ntmps20
  go_wp2_with fail
  obtain ⟨V, hV, hB⟩ := bks2 w (.cells #[.int .i64 n, .int .i64 (D : Int)] 37) (.cells #[.int .i64 0, .int .i64 0] 37)
  rw [← hV]
  clear hV
  refine (hR _).mono ?_
  rintro e V1 ⟨rfl, hb1⟩
  have hB1 := hB.later hb1
  obtain ⟨⟨c0, c1⟩, _, _⟩ := hB1.pair 0 rfl
  rw [Nat.add_zero] at c0 c1
  have HB := Lib.hid hB1
  clear hB hb1 hB1
  go_wp2
  go_quiet (first | (go_at_call 53; exact Calls.quiet_of_same (hS _)) | (go_at_call 56; exact Calls.quiet_of_same (hG _)))
  go_wp2
  go_region_with (go_at_call 13; refine (hM _).mono ?_; rintro e V2 ⟨rfl, hb2⟩)
  all_goals
    have hB2 := ((HB.out.drewN _).drew).later hb2
    obtain ⟨⟨c2, c3⟩, _, _⟩ := hB2.pair 0 rfl
    rw [Nat.add_zero] at c2 c3
    obtain ⟨⟨k1, k2⟩, ⟨k3, k4⟩, k5⟩ := hB2.pair 1 rfl
    have HB2 := Lib.hid hB2
    clear hB2 hb2 HB
    cases fb with
    | false =>
      go_wp2
      exact bodyPost_ret (v := .tuple #[.agg #[.int .i64 0, .int .i64 0], .int .i64 1]) (by simp [results, Try.results20, go_sem, k1, k2]) rfl ⟨rfl, (HB2.out.1.setCell (by simp) _).setCell (by simp) _⟩
    | true =>
      have hfz := HZ.out rfl
      subst hfz
      go_wp2
      exact bodyPost_ret (v := .tuple #[.agg #[.int .i64 fv, .int .i64 (y : Int)], .int .i64 0]) (by simp [results, Try.results20, go_sem, k1, k2]) rfl ⟨rfl, (HB2.out.1.setCell (by simp) _).setCell (by simp) _⟩
theorem times_any (p : Int × Int) (m : Int) (w : World) (h : R64 p) (hm : I64n m) :
    Calls Try.prog 20 #[rv p, .int .i64 m] w fun e w' => e = .returned (.tuple #[rv (timV p m), .int .i64 (timC p m)]) ∧ Below w.heap.size w w' := by
  unfold timV timC
  cases hr : rtB p with
  | true => exact times_yes p m w h hm hr
  | false => exact times_not p m w h hr
end Go.Proofs.Ythkcpaanegjodaa
