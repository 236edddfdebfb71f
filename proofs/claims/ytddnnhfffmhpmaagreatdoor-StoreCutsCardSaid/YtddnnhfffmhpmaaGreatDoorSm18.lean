/- Own texts, merged (18 of 42). -/
import Derived.Test.YtddnnhfffmhpmaaGreatDoorSm12
import Derived.Test.YtddnnhfffmhpmaaGreatDoorSm17

/- The answers that the document fixes. -/
namespace Go.Proofs.YtddnnhfffmhpmaaGreatDoor.Vd
open Go.RowKit Go.Proofs.YtddnnhfffmhpmaaGreatDoor VdM Go.Maps

section
variable {w0 w w' : World} {d : Nat} {s s' : Dsk}
end
theorem NameRow.at_ {w : World} {base : Nat} {v : Value} {l : List Name} (h : NameRow w base v l) : ∃ p c, v = .slice p l.length c ∧ ∀ i (hi : i < l.length), ∃ g, p = some ⟨g, 0, none⟩ ∧ base ≤ g ∧ g < w.heap.size ∧ w.cell? ⟨g, i, none⟩ = some (encStr l[i]) := by
  rcases h.2 with ⟨rfl, e⟩ | ⟨g, cap, cur, rfl, hb, hg, hnc, hcm, hcs, ht⟩
  · exact ⟨none, 0, by rw [e], fun i hi => by omega⟩
  · refine ⟨_, cap, rfl, fun i hi => ⟨g, rfl, hb, (Array.getElem?_eq_some_iff.1 hg).1, ?_⟩⟩
    rw [cell_of_row _ _ _ _ _ _ hg]
    have h1 : (cur.toList.take (l.length * 1))[i]? = (l.map encStr)[i]? := by rw [ht]
    rw [List.getElem?_take, if_pos (by omega)] at h1
    rw [← Array.getElem?_toList, h1, List.getElem?_map, List.getElem?_eq_getElem hi]
    rfl
end Go.Proofs.YtddnnhfffmhpmaaGreatDoor.Vd
