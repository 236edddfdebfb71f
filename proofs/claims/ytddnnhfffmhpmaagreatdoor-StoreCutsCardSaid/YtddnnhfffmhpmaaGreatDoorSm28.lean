/- Own texts, merged (28 of 42). -/
import Derived.Test.YtddnnhfffmhpmaaGreatDoorSm27
import Derived.Test.YtddnnhfffmhpmaaGreatDoorSm10
import Derived.Deep.RegionLaw
import Derived.Deep.DeepCutAuto

/- What the document reads, in plain words; an append into a variable's field, as one step; Read (the document's). -/
namespace Go.Proofs.YtddnnhfffmhpmaaGreatDoor.DocM
open Go.Proofs.YtddnnhfffmhpmaaGreatDoor
end Go.Proofs.YtddnnhfffmhpmaaGreatDoor.DocM
namespace Go.Proofs.YtddnnhfffmhpmaaGreatDoor.Do
open Go.RowKit Go.Proofs.YtddnnhfffmhpmaaGreatDoor DocM

end Go.Proofs.YtddnnhfffmhpmaaGreatDoor.Do
namespace Go.Proofs.YtddnnhfffmhpmaaGreatDoor.Do
open Go.RowKit Go.Proofs.YtddnnhfffmhpmaaGreatDoor DocM

section
variable {w w' : World} {B : Nat} {vs : Array Value}
end
end Go.Proofs.YtddnnhfffmhpmaaGreatDoor.Do

/- Parse and Same (the document's); what the laws ask with; awake of layer 10 answers true. -/
namespace Go.Proofs.YtddnnhfffmhpmaaGreatDoor.Do
open Go.RowKit Go.Proofs.YtddnnhfffmhpmaaGreatDoor DocM

end Go.Proofs.YtddnnhfffmhpmaaGreatDoor.Do
namespace Go.Proofs.YtddnnhfffmhpmaaGreatDoor.Do
open Go.RowKit Go.Proofs.YtddnnhfffmhpmaaGreatDoor DocM

set_option maxRecDepth 100000 in
theorem of_any (c : Ch) (T V : Value) (w : World) (hT : ∃ A n cp, T = .slice A n cp) (hV : ∃ A n cp, V = .slice A n cp) :
    Calls Tryz.prog 14 #[chV c T V] w fun e w' => e = .returned (chV c T V) ∧ Below w.heap.size w w' := by
  obtain ⟨A1, n1, p1, rfl⟩ := hT
  obtain ⟨A2, n2, p2, rfl⟩ := hV
  obtain ⟨d, ts, v, tg, gn⟩ := c
  unfold chV
  simp only
  go_enter Tryz.func14, Tryz.ntmps14
  go_wp2
  have hz := box5 (w.alloc (.cells #[.int .i64 d, .slice A1 n1 p1, .slice A2 n2 p2, .int .i64 tg, .bool gn] 35)) 48 (.int .i64 d) (.slice A1 n1 p1) (.slice A2 n2 p2) (.int .i64 tg) (.bool gn) _ (Below.refl _ _)
  have hs : (w.alloc (.cells #[.int .i64 d, .slice A1 n1 p1, .slice A2 n2 p2, .int .i64 tg, .bool gn] 35)).heap.size = w.heap.size + 1 := by simp
  rw [hs] at hz
  obtain ⟨z0, z1, z2, z3, z4⟩ := hz
  have hb : Below w.heap.size w ((w.alloc (.cells #[.int .i64 d, .slice A1 n1 p1, .slice A2 n2 p2, .int .i64 tg, .bool gn] 35)).alloc (.cells #[.int .i64 d, .slice A1 n1 p1, .slice A2 n2 p2, .int .i64 tg, .bool gn] 48)) := (pl1 _ _).trans ((pl1 _ _).mono (by simp))
  generalize ((w.alloc (.cells #[.int .i64 d, .slice A1 n1 p1, .slice A2 n2 p2, .int .i64 tg, .bool gn] 35)).alloc (.cells #[.int .i64 d, .slice A1 n1 p1, .slice A2 n2 p2, .int .i64 tg, .bool gn] 48)) = WZ at z0 z1 z2 z3 z4 hb ⊢
  exact bodyPost_ret (v := .agg #[.int .i64 d, .slice A1 n1 p1, .slice A2 n2 p2, .int .i64 tg, .bool gn]) (by simp [results, Tryz.results14, go_sem, z0, z1, z2, z3, z4]) rfl ⟨rfl, hb⟩
def fewB (n n2 : Nat) : Bool := decide (n ≤ 100) && decide (n2 ≤ 20)
set_option maxRecDepth 100000 in
theorem few_any (c : Ch) (A1 A2 : Option Addr) (n n2 p1 p2 : Nat) (w : World) :
    Calls Tryz.prog 26 #[chV c (.slice A1 n p1) (.slice A2 n2 p2)] w fun e w' => e = .returned (.bool (fewB n n2)) ∧ Below w.heap.size w w' := by
  obtain ⟨d, ts, v, tg, gn⟩ := c
  unfold chV fewB
  simp only
  by_cases h1 : n ≤ 100
  · have e1 : decide ((n : Int) ≤ 100) = true := decide_eq_true (by omega)
    rw [decide_eq_true h1]
    by_cases h2 : n2 ≤ 20
    · have e2 : decide ((n2 : Int) ≤ 20) = true := decide_eq_true (by omega)
      rw [decide_eq_true h2]
      go_enter Tryz.func26, Tryz.ntmps26
      go_wp2
      go_ret
      exact ⟨rfl, pl1 _ _⟩
    · have e2 : decide ((n2 : Int) ≤ 20) = false := decide_eq_false (by omega)
      rw [decide_eq_false h2]
      go_enter Tryz.func26, Tryz.ntmps26
      go_wp2
      go_ret
      exact ⟨rfl, pl1 _ _⟩
  · have e1 : decide ((n : Int) ≤ 100) = false := decide_eq_false (by omega)
    rw [decide_eq_false h1]
    go_enter Tryz.func26, Tryz.ntmps26
    go_wp2
    go_ret
    exact ⟨rfl, pl1 _ _⟩
theorem noughts_any (w : World) : Calls Tryz.prog 24 #[] w fun e w' => e = .returned (.slice (some ⟨w.heap.size, 0, none⟩) 8 8) ∧ w' = w.alloc (.cells #[.int .i64 0, .int .i64 0, .int .i64 0, .int .i64 0, .int .i64 0, .int .i64 0, .int .i64 0, .int .i64 0] 3) := by
  go_enter Tryz.func24, Tryz.ntmps24
  go_wp2
  go_ret
  exact ⟨rfl, rfl⟩
end Go.Proofs.YtddnnhfffmhpmaaGreatDoor.Do
namespace Go.Proofs.YtddnnhfffmhpmaaGreatDoor.DocM
open Go.Proofs.YtddnnhfffmhpmaaGreatDoor
def nz : List Int := [0, 0, 0, 0, 0, 0, 0, 0]
end Go.Proofs.YtddnnhfffmhpmaaGreatDoor.DocM
namespace Go.Proofs.YtddnnhfffmhpmaaGreatDoor.Do
open Go.RowKit Go.Proofs.YtddnnhfffmhpmaaGreatDoor DocM

end Go.Proofs.YtddnnhfffmhpmaaGreatDoor.Do
