
/- The document's Ratio, Right. -/
import Derived.Test.YthkcpaanegjodaaExactAc
namespace Go.Proofs.Ythkcpaanegjodaa
open Go.RowKit

theorem low_fits {n d : Int} (hn : I64n n) (hd : I64n d) (h0 : 0 < d) : I64n (ExactM.low n d).1 ∧ I64n (ExactM.low n d).2 := by
  unfold ExactM.low
  have hg := ExactM.gcd_pos (n := n) h0
  obtain ⟨G, hG⟩ : ∃ G : Int, G = (Int.gcd n d : Int) := ⟨_, rfl⟩
  rw [← hG] at hg ⊢
  have key : ∀ x : Int, I64n x → I64n (x / G) := fun x hx => by
    have h1 : (x / G).natAbs ≤ x.natAbs := Int.natAbs_ediv_le_natAbs x G
    unfold I64n at *
    by_cases hs : 0 ≤ x
    · have := Int.ediv_nonneg hs (Int.le_of_lt hg)
      omega
    · have h2 : x / G ≤ 0 := by
        have := Int.ediv_le_ediv hg (show x ≤ 0 by omega)
        rwa [Int.zero_ediv] at this
      omega
  exact ⟨key n hn, key d hd⟩

set_option maxRecDepth 100000 in
theorem big_row (A : Option Addr) (n cp : Nat) (s : Bool) (w : World) : (Instr.field 29 (.agg #[.slice A n cp, .bool s]) 0).run Try.prog w = .ok (.slice A n cp) w := by
  simp [Instr.field, run_underlying Try.underlying29, asAgg, go_sem]
set_option maxHeartbeats 2000000 in
set_option maxRecDepth 100000 in
theorem rratio_any (n d : Int) (w : World) (hn : I64n n) (hd : I64n d) :
    Calls Try.prog 17 #[.int .i64 n, .int .i64 d] w fun e w' => e = .returned (.tuple #[rv (ratV n d), .int .i64 (ratC d)]) ∧ Below w.heap.size w w' := by
  by_cases h0 : 0 < d
  · have hd0 : decide (d ≤ 0) = false := decide_eq_false (by omega)
    obtain ⟨f1, f2⟩ := low_fits hn hd h0
    have hB : ansB n d = true := by unfold ansB; rw [fitB_true f1, fitB_true f2]; rfl
    have hr : ratV n d = ansV n d ∧ ratC d = ansC n d := by
      unfold ratV ratC ansV ansC
      rw [if_pos h0, if_pos h0, if_pos hB, if_pos hB]
      exact ⟨rfl, rfl⟩
    have HR1 := Lib.hid hr.1
    have HR2 := Lib.hid hr.2
    have ho1 := fun W => rof_any n W hn
    have ho2 := fun W => rof_any d W hd
    have HO1 := Lib.hid ho1
    have HO2 := Lib.hid ho2
    have hnd : Hid (n.natAbs < 2 ^ 200 ∧ d.natAbs < 2 ^ 200) := Lib.hid (by
      have h : (9223372036854775809 : Nat) ≤ 2 ^ 200 := by decide
      unfold I64n at hn hd
      omega)
    have hde : Hid (((d.natAbs : Nat) : Int) = d) := Lib.hid (by omega)
    have hdp : Hid (0 < d.natAbs) := Lib.hid (by omega)
    clear hr ho1 ho2 hB f1 f2 hn hd h0
    go_enter Try.func17, Try.ntmps17
    go_wp2_with fail
    have b0 := bl1 w (.cells #[.int .i64 0, .int .i64 0] 37)
    have q0 : (w.alloc (.cells #[.int .i64 0, .int .i64 0] 37)).cell? ⟨w.heap.size, 0, none⟩ = some (.int .i64 0) := by go_simp
    have q1 : (w.alloc (.cells #[.int .i64 0, .int .i64 0] 37)).cell? ⟨w.heap.size, 1, none⟩ = some (.int .i64 0) := by go_simp
    have g0 : (w.alloc (.cells #[.int .i64 0, .int .i64 0] 37)).frozen? ⟨w.heap.size, 0, none⟩ = false := by go_simp
    have g1 : (w.alloc (.cells #[.int .i64 0, .int .i64 0] 37)).frozen? ⟨w.heap.size, 1, none⟩ = false := by go_simp
    generalize w.alloc (.cells #[.int .i64 0, .int .i64 0] 37) = W at b0 q0 q1 g0 g1 ⊢
    have hq := World.block_lt_of_cell? W _ q0
    simp only at hq
    refine (HO1.out _).mono ?_
    rintro e w2 ⟨V1, rfl, g1b, c2⟩
    have b2 := b0.trans (c2.mono b0.size)
    have q0 := keepB4 c2 q0 hq
    have q1 := keepB4 c2 q1 hq
    have g0 := keepF4 c2 g0 hq
    have g1 := keepF4 c2 g1 hq
    have hq2 := Nat.lt_of_lt_of_le hq c2.size
    clear b0 c2 HO1
    go_wp2_with fail
    refine (HO2.out _).mono ?_
    rintro e w3 ⟨V2, rfl, g2b, c3⟩
    have b3 := b2.trans (c3.mono b2.size)
    have g1b := g1b.below c3
    have q0 := keepB4 c3 q0 hq2
    have q1 := keepB4 c3 q1 hq2
    have g0 := keepF4 c3 g0 hq2
    have g1 := keepF4 c3 g1 hq2
    have hq3 := Nat.lt_of_lt_of_le hq2 c3.size
    obtain ⟨v2, rfl, rd2⟩ := g2b
    obtain ⟨A2, cp2, rfl⟩ := rd2.len
    have hl := rlow_any V1 _ n d.natAbs w3 hnd.out.1 hdp.out hnd.out.2 g1b rd2
    rw [hde.out, ← HR1.out, ← HR2.out] at hl
    have HL := Lib.hid hl
    have hbr := big_row A2 (ExactM.ofN d.natAbs).length cp2 (decide (d < 0))
    clear b2 c3 HO2 hl g1b rd2
    go_wp2_with fail
    refine HL.out.mono ?_
    rintro e w4 ⟨rfl, c4⟩
    have b4 := b3.trans (c4.mono b3.size)
    have q0 := keepB4 c4 q0 hq3
    have q1 := keepB4 c4 q1 hq3
    have g0 := keepF4 c4 g0 hq3
    have g1 := keepF4 c4 g1 hq3
    clear b3 c4 HL
    unfold rv
    go_wp2
    exact bodyPost_ret (v := .tuple #[rv (ratV n d), .int .i64 (ratC d)]) (by simp [results, Try.results17, go_sem, q0, q1, rv]) rfl ⟨rfl, (b4.setCell (Nat.le_refl _) _).setCell (Nat.le_refl _) _⟩
  · have hd0 : decide (d ≤ 0) = true := decide_eq_true (by omega)
    have hr : ratV n d = (0, 0) ∧ ratC d = 1 := by unfold ratV ratC; rw [if_neg h0, if_neg h0]; exact ⟨rfl, rfl⟩
    have HR1 := Lib.hid hr.1
    have HR2 := Lib.hid hr.2
    clear hr hn hd h0
    go_enter Try.func17, Try.ntmps17
    go_wp2
    exact bodyPost_ret (v := .tuple #[rv (0, 0), .int .i64 1]) (by simp [results, Try.results17, go_sem, rv]) rfl ⟨by rw [HR1.out, HR2.out], bl1 w _⟩

theorem right_math (n d : Int) (h0 : 0 < d) : decide (ratV n d = (n, d)) = rtB (n, d) := by
  have hv : ratV n d = ExactM.low n d := by unfold ratV; rw [if_pos h0]
  rw [hv]
  have h1 := ExactM.low_num (n := n) (d := d)
  have h2 := ExactM.low_den (n := n) (d := d)
  have hg := ExactM.gcd_pos (n := n) h0
  have hrt : rtB (n, d) = decide ((Int.gcd n d : Int) = 1) := by
    unfold rtB
    simp only [h0, decide_true, Bool.true_and]
    have hgd : Int.gcd n d = Nat.gcd n.natAbs d.natAbs := rfl
    rw [hgd]
    clear h1 h2 hg hv
    generalize Nat.gcd n.natAbs d.natAbs = k
    rw [Bool.eq_iff_iff]
    simp
    omega
  rw [hrt]
  obtain ⟨G, hG⟩ : ∃ G : Int, G = (Int.gcd n d : Int) := ⟨_, rfl⟩
  rw [← hG] at h1 h2 hg ⊢
  obtain ⟨⟨a, b⟩, hab⟩ : ∃ x, x = ExactM.low n d := ⟨_, rfl⟩
  rw [← hab] at h1 h2 ⊢
  simp only at h1 h2
  rw [Bool.eq_iff_iff]
  simp only [decide_eq_true_eq, Prod.mk.injEq]
  constructor
  · rintro ⟨e1, e2⟩
    rw [e2] at h2
    have h3 : (G - 1) * d = 0 := by rw [Int.sub_mul, h2]; omega
    rcases Int.mul_eq_zero.1 h3 with h | h
    · omega
    · omega
  · intro e
    rw [e, Int.one_mul] at h1 h2
    exact ⟨h1, h2⟩

set_option maxHeartbeats 2000000 in
set_option maxRecDepth 100000 in
theorem rright_any (p : Int × Int) (w : World) (hp : R64 p) :
    Calls Try.prog 23 #[rv p] w fun e w' => e = .returned (.bool (rtB p)) ∧ Below w.heap.size w w' := by
  obtain ⟨n, d⟩ := p
  have hr := fun W => rratio_any n d W hp.1 hp.2
  have hm := right_math n d
  obtain ⟨⟨x1, x2⟩, hx⟩ : ∃ x, x = ratV n d := ⟨_, rfl⟩
  rw [← hx] at hr hm
  unfold rv at hr ⊢
  simp only at hr ⊢
  have hb := bl1 w (.cells #[.int .i64 n, .int .i64 d] 37)
  have k0 : (w.alloc (.cells #[.int .i64 n, .int .i64 d] 37)).cell? ⟨w.heap.size, 0, none⟩ = some (.int .i64 n) := by go_simp
  have k1 : (w.alloc (.cells #[.int .i64 n, .int .i64 d] 37)).cell? ⟨w.heap.size, 1, none⟩ = some (.int .i64 d) := by go_simp
  by_cases h0 : 0 < d
  · have hc : ratC d = 0 := by unfold ratC; rw [if_pos h0]
    rw [hc] at hr
    have hm := hm h0
    obtain ⟨r, hre⟩ : ∃ r, rtB (n, d) = r := ⟨_, rfl⟩
    rw [hre] at hm ⊢
    have HM := Lib.hid hm
    have HR := Lib.hid hr
    clear hm hre hr hc hx h0 hp
    go_enter Try.func23, Try.ntmps23
    go_wp2_with fail
    generalize w.alloc (.cells #[.int .i64 n, .int .i64 d] 37) = W at hb k0 k1 ⊢
    have hq := World.block_lt_of_cell? W _ k0
    simp only at hq
    refine (HR.out _).mono ?_
    rintro e w2 ⟨rfl, c2⟩
    have b2 := hb.trans (c2.mono hb.size)
    have k0 := keepB4 c2 k0 hq
    have k1 := keepB4 c2 k1 hq
    have hq2 := Nat.lt_of_lt_of_le hq c2.size
    clear hb c2 HR
    by_cases e1 : x1 = n
    · subst e1
      by_cases e2 : x2 = d
      · subst e2
        have hrt : r = true := by rw [← HM.out]; simp
        subst hrt
        go_wp2
        go_ret
        exact ⟨rfl, b2.alloc b2.size _⟩
      · have hrt : r = false := by rw [← HM.out]; simp [e2]
        subst hrt
        have hb2 : (x2 == d) = false := by simpa using e2
        clear e2
        go_wp2
        go_ret
        exact ⟨rfl, b2.alloc b2.size _⟩
    · have hrt : r = false := by rw [← HM.out]; simp [e1]
      subst hrt
      have hb2 : (x1 == n) = false := by simpa using e1
      clear e1
      go_wp2
      go_ret
      exact ⟨rfl, b2.alloc b2.size _⟩
  · have hc : ratC d = 1 := by unfold ratC; rw [if_neg h0]
    rw [hc] at hr
    have hrt : rtB (n, d) = false := by unfold rtB; simp; intro h; omega
    rw [hrt]
    have HR := Lib.hid hr
    clear hm hr hc hx h0 hp hrt
    go_enter Try.func23, Try.ntmps23
    go_wp2_with fail
    generalize w.alloc (.cells #[.int .i64 n, .int .i64 d] 37) = W at hb k0 k1 ⊢
    refine (HR.out _).mono ?_
    rintro e w2 ⟨rfl, c2⟩
    have b2 := hb.trans (c2.mono hb.size)
    clear hb c2 HR
    go_wp2
    go_ret
    exact ⟨rfl, b2.alloc b2.size _⟩
end Go.Proofs.Ythkcpaanegjodaa
