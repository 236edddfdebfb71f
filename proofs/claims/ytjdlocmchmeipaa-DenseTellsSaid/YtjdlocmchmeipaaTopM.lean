
/- awake of layer 4 answers true. -/
import Derived.Test.YtjdlocmchmeipaaTopL
namespace Go.Proofs.Ytjdlocmchmeipaa
open Go.RowKit

theorem srt_one (x : Int × Int) : TopM.srt [x] = [x] := TopM.srt_is (List.pairwise_singleton _ _) (List.Perm.refl _)
theorem aw_b1 : TopM.best 1 [(3, 5)] = [(3, 5)] := by unfold TopM.best; rw [srt_one]; rfl
theorem aw_b2 : TopM.best 1 [(3, 5), (2, 5)] = [(2, 5)] := by
  unfold TopM.best
  rw [TopM.srt_is (a := [(2, 5), (3, 5)]) (by unfold TopM.Srt; simp; decide) (List.Perm.swap _ _ _)]
  rfl
theorem aw_b3 : TopM.best 1 [(3, 5), (2, 5), (9, 5)] = [(2, 5)] := by
  unfold TopM.best
  rw [TopM.srt_is (a := [(2, 5), (3, 5), (9, 5)]) (by unfold TopM.Srt; simp; decide) (List.Perm.swap _ _ _)]
  rfl
theorem bnd_one {k : Nat} {l h : List (Int × Int)} {x : Int × Int} (hb : TopM.Bnd k l h) (he : TopM.best k l = [x]) : h = [x] := by
  have := hb.2
  rw [he] at this
  exact List.perm_singleton.1 this
theorem only_below {S : Nat → Prop} {a w w' : World} {t : Nat} (hb : Below t a w) (ho : Only S w w') (hS : ∀ b, S b → t ≤ b) (ht : t ≤ w.heap.size) : Below t a w' := hb.trans (ho.below hS ht)
theorem own_from {w : World} {base t k : Nat} {v : Value} {h : List (Int × Int)} (hx : TopAt w base t k v h) : ∀ b, own2 t v b → base ≤ b := fun b hb => by
  rcases hb with e | e
  · rw [e]; exact hx.old
  · exact (World.ownsRow.lt hx.row b e).1
theorem TopAt.base {w : World} {base t k : Nat} {v : Value} {h : List (Int × Int)} (hx : TopAt w base t k v h) : base ≤ w.heap.size := Nat.le_trans hx.old (Nat.le_of_lt hx.lt)

end Go.Proofs.Ytjdlocmchmeipaa
