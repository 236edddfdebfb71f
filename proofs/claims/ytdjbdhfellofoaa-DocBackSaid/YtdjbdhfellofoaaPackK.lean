
/- The program's reader: Rising. -/
import Derived.Test.YtdjbdhfellofoaaPackJ
import Derived.Test.YtdjbdhfellofoaaLin
namespace Go.Proofs.Ytdjbdhfellofoaa
open Go.RowKit

def IntsAt (w : World) (g : Nat) (l : List Int) : Prop := ∀ j (h : j < l.length), w.cell? ⟨g, j, none⟩ = some (.int .i64 l[j]) ∧ w.frozen? ⟨g, j, none⟩ = false
theorem IntsAt.set_ {w : World} {g : Nat} {l : List Int} (h : IntsAt w g l) (i : Nat) (x : Int) : IntsAt (w.setCell ⟨g, i, none⟩ (.int .i64 x)) g (l.set i x) := by
  intro j hj
  have hj' : j < l.length := by simpa using hj
  refine ⟨?_, by simp [(h j hj').2]⟩
  by_cases e : i = j
  · subst e
    rw [World.cell?_setCell_same w _ _ (h i hj').1]
    simp
  · rw [World.cell?_setCell_other w _ _ _ (fun h => e (by injection h)), (h j hj').1]
    simp [e]
theorem IntsAt.turned {S : Nat → Prop} {w w' : World} {g : Nat} {l : List Int} (h : IntsAt w g l) (ht : Turned S w w') (hg : g < w.heap.size) (hS : ¬ S g) : IntsAt w' g l :=
  fun j hj => ⟨(ht.cell (p := ⟨g, j, none⟩) hg hS).trans (h j hj).1, (ht.frozen (p := ⟨g, j, none⟩) hg hS).trans (h j hj).2⟩
theorem IntsAt.ints {w : World} {g n : Nat} {l : List Int} (h : IntsAt w g l) (hg : g < w.heap.size) (hn : l.length = n) : Ints w (some ⟨g, 0, none⟩) n l :=
  ⟨hn, fun k hk => ⟨g, 0, rfl, hg, by rw [Nat.zero_add]; exact (h k hk).1⟩⟩
theorem set_fill (acc : List Int) (m : Nat) (x : Int) : (acc ++ List.replicate (m + 1) 0).set acc.length x = (acc ++ [x]) ++ List.replicate m 0 := by
  rw [List.set_append_right _ _ (Nat.le_refl _), Nat.sub_self, List.replicate_succ, List.set_cons_zero, List.append_assoc]
  rfl
theorem made_ints (w : World) (L : Nat) (hL : L ≤ 1000000000) : ∃ M, (Instr.makeSlice 23 (.int .i64 (L : Int)) (.int .i64 (L : Int))).run Try.prog w = .ok (.slice (some ⟨w.heap.size, 0, none⟩) L L) (w.alloc (.cells M 3)) ∧ IntsAt (w.alloc (.cells M 3)) w.heap.size (List.replicate L 0) := by
  obtain ⟨i0, hi, hz0, hz1, hz2⟩ := info_parts int_info
  have h := run_make (P := Try.prog) w 23 3 i0 (.int .i64 0) Try.underlying23 hi hz0 .i64 .i64 (L : Int) (L : Int) (by omega) (by omega) (by rw [hz2]; omega) (by omega)
  rw [hz1, Int.toNat_natCast, Nat.mul_one] at h
  obtain ⟨M, hM⟩ : ∃ M, M = madeCells (Value.int .i64 0).cells L := ⟨_, rfl⟩
  rw [← hM] at h
  refine ⟨M, h, ?_⟩
  intro j hj
  rw [List.length_replicate] at hj
  have hrow := heap_alloc_new w (.cells M 3)
  refine ⟨?_, by unfold World.frozen?; simp only [hrow]; simp⟩
  rw [cell_of_row _ _ _ _ _ _ hrow, hM, show (Value.int .i64 0).cells = #[Value.int .i64 0] from rfl, made_at _ _ _ hj]
  simp

/-- what a step of a rising row leaves -/
def RisStep (b B6 : Nat) (s : List UInt8) (la : Int) (e : Ending) (w' : World) : Prop :=
  (∃ d t, PackM.num PackM.MAXI 0 0 s = some (d, t) ∧ ¬ (PackM.MAXI : Int) - 1 - la < (d : Int) ∧ e = .returned (.int .i64 (la + 1 + d)) ∧ RD w' b t false ∧ w'.cell? ⟨B6, 0, none⟩ = some (.int .i64 (la + 1 + d)) ∧ w'.frozen? ⟨B6, 0, none⟩ = false) ∨
  ((∀ d t, PackM.num PackM.MAXI 0 0 s = some (d, t) → (PackM.MAXI : Int) - 1 - la < (d : Int)) ∧ (∃ v : Int, e = .returned (.int .i64 v)) ∧ RD w' b [] true)

set_option maxHeartbeats 800000 in
theorem rstep_any (w : World) (b B2 B6 : Nat) (s : List UInt8) (la : Int) (hl : s.length ≤ 100000000) (h1 : -1 ≤ la) (h2 : la ≤ 9223372036854775807) (h : RD w b s false) (hb2 : B2 ≠ b) (hb6 : B6 ≠ b) (hs2 : B2 < w.heap.size) (hs6 : B6 < w.heap.size)
    (c2 : w.cell? ⟨B2, 0, none⟩ = some (.pointer (some ⟨b, 0, none⟩))) (c6 : w.cell? ⟨B6, 0, none⟩ = some (.int .i64 la)) (f6 : w.frozen? ⟨B6, 0, none⟩ = false) :
    Calls Try.prog 74 #[.pointer (some ⟨B2, 0, none⟩), .pointer (some ⟨B6, 0, none⟩)] w fun e w' => RisStep b B6 s la e w' ∧ Turned (fun k => k = b ∨ k = B6) w w' := by
  go_enter Try.func74, Try.ntmps74
  go_wp2_with fail
  refine (rvarint_any w b s false hl h).mono ?_
  rintro e w1 ⟨rfl, hr, hg⟩
  have k2 : w1.cell? ⟨B2, 0, none⟩ = some (.pointer (some ⟨b, 0, none⟩)) := (cell_of_grown hg (p := ⟨B2, 0, none⟩) hs2 (fun e => hb2 (by injection e))).trans c2
  have k6 : w1.cell? ⟨B6, 0, none⟩ = some (.int .i64 la) := (cell_of_grown hg (p := ⟨B6, 0, none⟩) hs6 (fun e => hb6 (by injection e))).trans c6
  have k6f : w1.frozen? ⟨B6, 0, none⟩ = false := (World.frozen?_of_block (hg.block B6 hs6 (fun e => hb6 (by injection e)))).trans f6
  have hT : Turned (fun k => k = b ∨ k = B6) w w1 := Turned.of_grown hg (.inl rfl)
  have hv := nV_le PackM.MAXI s
  have hm : PackM.MAXI = 9223372036854775807 := rfl
  rw [hm] at hv
  have HM := Lib.hid hm
  obtain ⟨x, hx⟩ : ∃ x, x = nV PackM.MAXI s := ⟨_, rfl⟩
  rw [← hm, ← hx] at hv
  rw [hm] at hv
  rw [← hx]
  have HX := Lib.hid hx
  have HR := Lib.hid hr
  clear hx hm c2 c6 f6 hr
  by_cases hbig : 9223372036854775806 - la < (x : Int)
  · have hd : decide (9223372036854775806 - la < (x : Int)) = true := decide_eq_true hbig
    go_wp2_with fail
    refine (rfail_any _ _ _ _ HR.out).mono ?_
    rintro e w2 ⟨rfl, hr2, hg2⟩
    go_wp2
    go_ret
    refine ⟨.inr ⟨fun d t hd => ?_, ⟨_, rfl⟩, hr2⟩, hT.trans (Turned.of_grown hg2 (.inl rfl))⟩
    have : x = d := by rw [HX.out]; unfold nV; rw [hd]
    rw [HM.out]; omega
  · have hd : decide (9223372036854775806 - la < (x : Int)) = false := decide_eq_false hbig
    go_wp2
    go_ret
    have hw1 : wrap64 (la + wrap64 (1 + (x : Int))) = la + 1 + (x : Int) := by unfold wrap64; omega
    rw [hw1]
    have hT2 : Turned (fun k => k = b ∨ k = B6) w (w1.setCell ⟨B6, 0, none⟩ (.int .i64 (la + 1 + (x : Int)))) := hT.set_ (.inr rfl) _ _
    have hRb : ∀ s' bad', RD w1 b s' bad' → RD (w1.setCell ⟨B6, 0, none⟩ (.int .i64 (la + 1 + (x : Int)))) b s' bad' := fun s' bad' hr => hr.kept (Below.heap_setCell w1 _ _ b (fun e => hb6 e.symm))
    refine ⟨?_, hT2⟩
    cases hN : PackM.num PackM.MAXI 0 0 s with
    | none =>
      refine .inr ⟨fun d t hd => (by rw [hN] at hd; cases hd), ⟨_, rfl⟩, hRb _ _ ?_⟩
      have := HR.out
      unfold nS nB at this
      rw [hN] at this
      exact this
    | some y =>
      have hxd : x = y.1 := by rw [HX.out]; unfold nV; rw [hN]
      refine .inl ⟨y.1, y.2, hN, by rw [HM.out]; omega, by rw [hxd]; rfl, hRb _ _ ?_, by rw [← hxd]; exact World.cell?_setCell_same _ _ _ k6, by simp [k6f]⟩
      have := HR.out
      unfold nS nB at this
      rw [hN] at this
      exact this
end Go.Proofs.Ytdjbdhfellofoaa
