
/- One more is offered. -/
import Derived.Test.YtjdlocmchmeipaaTopE
import Derived.OwnWalk
import Derived.Laws.Pointers
import Derived.Deep.RegionHeld3
import Derived.Deep.RegionLaw
import Derived.Deep.AppendLies
namespace Go.Proofs.Ytjdlocmchmeipaa
open Go.RowKit

theorem keepAc {w : World} {o : Obj} {b i : Nat} {u : Value} (hc : w.cell? ⟨b, i, none⟩ = some u) (h : b < w.heap.size) : (w.alloc o).drew.cell? ⟨b, i, none⟩ = some u := (((Below.refl w.heap.size w).alloc (Nat.le_refl _) o).drew.cell (p := ⟨b, i, none⟩) h).trans hc
theorem keepAf {w : World} {o : Obj} {b i : Nat} {u : Bool} (hc : w.frozen? ⟨b, i, none⟩ = u) (h : b < w.heap.size) : (w.alloc o).drew.frozen? ⟨b, i, none⟩ = u := (((Below.refl w.heap.size w).alloc (Nat.le_refl _) o).drew.frozen (p := ⟨b, i, none⟩) h).trans hc
theorem laid_room {w2 w3 : World} {base t k n gg cap3 : Nat} {v : Value} {h : List (Int × Int)} {p : Int × Int} {o : Obj} (hx : TopAt w2 base t k v h) (hn : n = h.length)
    (hown3 : w3.ownsRow base 54 2 (.slice (some ⟨gg, 0, none⟩) (n + 1) cap3) (n + 1) (h.flatMap enc2 ++ enc2 p)) (hgrow : (w2.alloc o).drew.grownBy w3 v.ownBlock) (hat : v.ownBlock = some gg ∨ gg = w2.heap.size + 1) :
    TopAt (w3.setCell ⟨t, 2, none⟩ (.slice (some ⟨gg, 0, none⟩) (n + 1) cap3)) base t k (.slice (some ⟨gg, 0, none⟩) (n + 1) cap3) (h ++ [p]) ∧
    Only (own2 t v) w2 (w3.setCell ⟨t, 2, none⟩ (.slice (some ⟨gg, 0, none⟩) (n + 1) cap3)) ∧ (v.ownBlock = some gg ∨ w2.heap.size ≤ gg) := by
  have hne := hx.ne
  have hlt := hx.lt
  have hgt : gg ≠ t := by
    rintro rfl
    rcases hat with e | e
    · exact hne e
    · omega
  have hb3 : w3.heap[t]? = w2.heap[t]? := (hgrow.block t (by simp; omega) (Ne.symm hne)).trans (Below.heap_alloc w2 o t hlt)
  refine ⟨⟨hx.old, ?_, ?_⟩, ?_, ?_⟩
  · exact heap_setCell_row (hb3.trans hx.blk) 2 _
  · have hr : PairRow w3 base (.slice (some ⟨gg, 0, none⟩) (n + 1) cap3) (h ++ [p]) := by
      unfold PairRow
      rw [List.length_append, List.flatMap_append, ← hn]
      simpa using hown3
    refine hr.kept fun g hg => Below.heap_setCell w3 _ _ g (fun e => hgt ?_)
    have e2 : gg = g := by simpa [Value.ownBlock] using hg
    rw [e2]
    exact e
  · have h1 : Only (own2 t v) w2 w3 := ((Only.refl (own2 t v) w2).alloc o).drew.trans (Only.of_grown hgrow (fun b hb => .inr hb))
    exact h1.set_ (.inl rfl) 2 _
  · rcases hat with e | e
    · exact .inl e
    · exact .inr (by omega)
set_option maxHeartbeats 4000000 in
set_option maxRecDepth 100000 in
theorem offer_room (base t k : Nat) (v : Value) (h : List (Int × Int)) (p : Int × Int) (w : World) (hx : TopAt w base t k v h) (hh : TopM.Heap h) (hl : h.length ≤ 1000000) (hk : h.length < k) :
    Calls Try.prog 35 #[.pointer (some ⟨t, 0, none⟩), sv p] w fun e w' => e = .returned (.bool true) ∧ ∃ v' h', TopAt w' base t k v' h' ∧ TopM.Heap h' ∧ h'.Perm (h ++ [p]) ∧ Only (own2 t v) w w' ∧ ∀ b, v'.ownBlock = some b → v.ownBlock = some b ∨ w.heap.size ≤ b := by
  obtain ⟨A, cap, hv, hcap, hA⟩ := hx.row.form
  obtain ⟨p1, p2⟩ := p
  unfold sv
  obtain ⟨n, hn⟩ : ∃ n, n = h.length := ⟨_, rfl⟩
  have hb1 : Below w.heap.size w (w.alloc (.cells #[.int .i64 p1, .int .i64 p2] 54)) := (Below.refl _ w).alloc (Nat.le_refl _) _
  have x1 := hx.later hb1
  have z0 : (w.alloc (.cells #[.int .i64 p1, .int .i64 p2] 54)).cell? ⟨w.heap.size, 0, none⟩ = some (.int .i64 p1) := by go_simp
  have z1 : (w.alloc (.cells #[.int .i64 p1, .int .i64 p2] 54)).cell? ⟨w.heap.size, 1, none⟩ = some (.int .i64 p2) := by go_simp
  have hs1 : w.heap.size < (w.alloc (.cells #[.int .i64 p1, .int .i64 p2] 54)).heap.size := by simp
  have hd1 : decide ((n : Int) < (k : Int)) = true := decide_eq_true (by omega)
  have hd2 : decide (n < k) = true := decide_eq_true (by omega)
  have htw := hx.lt
  have hov : ∀ b, v.ownBlock = some b → b < w.heap.size := fun b hb => (World.ownsRow.lt hx.row b hb).2
  have HL := Lib.hid hl
  have HN := Lib.hid hn
  have HV := Lib.hid hv
  clear hx hn hv hl hk
  go_enter Try.func35, Try.ntmps35
  go_wp2
  obtain ⟨B, hB⟩ : ∃ B, B = w.heap.size := ⟨_, rfl⟩
  rw [← hB] at z0 z1 hs1 ⊢
  generalize w.alloc (.cells #[.int .i64 p1, .int .i64 p2] 54) = w1 at hb1 x1 z0 z1 hs1 ⊢
  have c0 := x1.c0
  have c2 := x1.c2
  rw [HV.out, ← HN.out] at c2
  go_quiet (fail)
  have x2 := x1.drewN nq
  have hb2 := bdrewN hb1 nq
  have s2 : B < (w1.drewN nq).heap.size := hs1
  have y0 : (w1.drewN nq).cell? ⟨B, 0, none⟩ = some (.int .i64 p1) := z0
  have y1 : (w1.drewN nq).cell? ⟨B, 1, none⟩ = some (.int .i64 p2) := z1
  clear x1 hb1 z0 z1 c0 c2 hs1
  generalize w1.drewN nq = w2 at x2 hb2 y0 y1 s2 ⊢
  go_wp2
  obtain ⟨i0, hi0, hz0, hz1, hz2⟩ := info_parts pair_info
  have hown : w2.ownsRow base 54 2 v n (h.flatMap enc2) := by have := x2.row; unfold PairRow at this; rw [← HN.out] at this; exact this
  have hbase : base ≤ w2.heap.size := Nat.le_trans x2.old (Nat.le_of_lt x2.lt)
  have htl := x2.lt
  have c2 := x2.c2
  have f2 := x2.f2 2
  have ag := x2.ne
  have ak : v.ownBlock ≠ some B := fun e => by have := hov B e; omega
  rw [HV.out] at hown c2 ag ak
  rw [← HN.out] at hown c2 ag ak
  have hn1 : n ≤ 1000000 := by rw [HN.out]; exact HL.out
  have HX := Lib.hid x2
  clear x2
  have HB := Lib.hid hB
  have hBt : B ≠ t := by omega
  clear hB
  go_region_law
    ((refine step_append_lies _ (by rfl) _ _ _ (by rfl) base 54 i0 _ 2 16 Try.underlying31 hi0 hz0 hz1 hz2 rfl (by omega) (.slice A n cap) n (h.flatMap enc2) (by rfl) ((hown.alloc _).drew)
        ⟨w2.heap.size, 0, none⟩ 1 1 [.int .i64 p1, .int .i64 p2] (by rfl) (by rfl) (World.news_of_block (cs := #[.int .i64 p1, .int .i64 p2]) (t := 54) (fr := (0, 0)) (heap_alloc_new w2 _)) (by simp [Value.oneCell'])
        (by omega) (by simp [maxLen]; omega) (by omega) (by simp; omega) (w2.heap.size + 1) (by simp) ?_; intro gg cap3 w3 hown3 hgrow hat hlt; have k2 := (hgrow.cell_far ⟨t, 2, none⟩ (by simp; omega) (Ne.symm ag)).trans (keepAc c2 htl); have k2f := (hgrow.frozen_far ⟨t, 2, none⟩ (by simp; omega) (Ne.symm ag)).trans (keepAf f2 htl)))
  all_goals
    obtain ⟨x4, o4, hat4⟩ := laid_room (p := (p1, p2)) HX.out HN.out hown3 (by rw [HV.out, ← HN.out]; exact hgrow) (by rw [HV.out, ← HN.out]; exact hat)
    clear hown3 hgrow hat hlt k2 k2f c2 f2 y0 y1 htl hown
    generalize w3.setCell ⟨t, 2, none⟩ (.slice (some ⟨gg, 0, none⟩) (n + 1) cap3) = w4 at x4 o4 ⊢
    have hup := TopM.up_start hh (p1, p2)
    have hlen : (h ++ [(p1, p2)]).length = n + 1 := by rw [HN.out]; simp
    have hrise := rise_any base t k (.slice (some ⟨gg, 0, none⟩) (n + 1) cap3) (h ++ [(p1, p2)]) (n + 1) w4 x4 hlen (by omega) (by rw [Nat.add_sub_cancel, HN.out]; exact hup) (by omega)
    have HH := Lib.hid hup
    have HLEN := Lib.hid hlen
    have HR := Lib.hid hrise
    clear hup hlen hrise x4
    go_wp2_with fail
    refine HR.out.mono ?_
    rintro e w5 ⟨rfl, h', x5, hh5, hp5, o5⟩
    go_wp2
    go_ret
    have hsz := hb2.size
    have o24 : Only (own2 t v) w w4 := (Only.of_below _ hb2).trans o4
    refine ⟨rfl, _, h', x5, hh5, hp5, o24.from_new (o5.wide fun b hb => ?_), fun b hb => ?_⟩
    · rcases hb with e | e
      · exact .inl (.inl e)
      · have e2 : gg = b := by simpa [Value.ownBlock] using e
        rw [← e2]
        rcases hat4 with h | h
        · exact .inl (.inr h)
        · exact .inr (by omega)
    · have e2 : gg = b := by simpa [Value.ownBlock] using hb
      rw [← e2]
      rcases hat4 with h | h
      · exact .inl h
      · exact .inr (by omega)
end Go.Proofs.Ytjdlocmchmeipaa
