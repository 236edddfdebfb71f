
/- A bound in memory; two of its heap turned about. -/
import Derived.Test.YtjdlocmchmeipaaTopA
import Derived.BigRegion
namespace Go.Proofs.Ytjdlocmchmeipaa
open Go.RowKit

def betF : Value := .func (.func 32) #[] #[]
def topC (k : Nat) (v : Value) : Array Value := #[.int .i64 k, betF, v]
/-- at t stands a bound of k, its heap, one's own row, reads h -/
structure TopAt (w : World) (base t k : Nat) (v : Value) (h : List (Int × Int)) : Prop where
  old : base ≤ t
  blk : w.heap[t]? = some (.cells (topC k v) 88 (0, 0))
  row : PairRow w base v h
/-- the blocks of a bound -/
def own2 (t : Nat) (v : Value) (b : Nat) : Prop := b = t ∨ v.ownBlock = some b

theorem own_ne {w : World} {base : Nat} {v : Value} {l : List (Int × Int)} {t : Nat} {cs : Array Value} (h : PairRow w base v l) (ht : w.heap[t]? = some (.cells cs 88 (0, 0))) : v.ownBlock ≠ some t := by
  rcases h.2 with ⟨rfl, _⟩ | ⟨g, cap, cur, rfl, _, hgg, _⟩
  · simp [Value.ownBlock]
  · intro e
    have e2 : g = t := by simpa [Value.ownBlock] using e
    subst e2
    rw [hgg] at ht
    injection ht with ht
    injection ht with _ ht
    revert ht
    decide
section
variable {w w' : World} {base t k : Nat} {v : Value} {h : List (Int × Int)}
theorem TopAt.lt (x : TopAt w base t k v h) : t < w.heap.size := (Array.getElem?_eq_some_iff.1 x.blk).1
theorem TopAt.c0 (x : TopAt w base t k v h) : w.cell? ⟨t, 0, none⟩ = some (.int .i64 k) := by rw [cell_of_row w t 0 _ _ _ x.blk]; rfl
theorem TopAt.c1 (x : TopAt w base t k v h) : w.cell? ⟨t, 1, none⟩ = some betF := by rw [cell_of_row w t 1 _ _ _ x.blk]; rfl
theorem TopAt.c2 (x : TopAt w base t k v h) : w.cell? ⟨t, 2, none⟩ = some v := by rw [cell_of_row w t 2 _ _ _ x.blk]; rfl
theorem TopAt.f2 (x : TopAt w base t k v h) (i : Nat) : w.frozen? ⟨t, i, none⟩ = false := by simp [World.frozen?, x.blk]
theorem TopAt.later (x : TopAt w base t k v h) (hb : Below w.heap.size w w') : TopAt w' base t k v h := ⟨x.old, (hb.block t x.lt).trans x.blk, x.row.later hb⟩
theorem TopAt.ne (x : TopAt w base t k v h) : v.ownBlock ≠ some t := own_ne x.row x.blk
theorem TopAt.set_ (x : TopAt w base t k v h) {g n cap : Nat} (hv : v = .slice (some ⟨g, 0, none⟩) n cap) (i : Nat) (p : Int × Int) (hi : i < h.length) :
    TopAt ((w.setCell ⟨g, i * 2, none⟩ (.int .i64 p.1)).setCell ⟨g, i * 2 + 1, none⟩ (.int .i64 p.2)) base t k v (h.set i p) := by
  have hne : t ≠ g := fun e => x.ne (by rw [hv, e]; simp [Value.ownBlock])
  refine ⟨x.old, ?_, ?_⟩
  · rw [Below.heap_setCell _ _ _ t hne, Below.heap_setCell _ _ _ t hne]; exact x.blk
  · subst hv; exact x.row.set_ i p hi
end
/-- nothing but blocks of S has turned -/
structure Only (S : Nat → Prop) (w w' : World) : Prop where
  os : w'.os = w.os
  tape : w'.tape = w.tape
  output : w'.output = w.output
  size : w.heap.size ≤ w'.heap.size
  block : ∀ k, k < w.heap.size → ¬ S k → w'.heap[k]? = w.heap[k]?
section
variable {S : Nat → Prop} {w w' w'' : World}
theorem Only.refl (S : Nat → Prop) (w : World) : Only S w w := ⟨rfl, rfl, rfl, Nat.le_refl _, fun _ _ _ => rfl⟩
theorem Only.trans (h1 : Only S w w') (h2 : Only S w' w'') : Only S w w'' :=
  ⟨h2.os.trans h1.os, h2.tape.trans h1.tape, h2.output.trans h1.output, Nat.le_trans h1.size h2.size, fun k hk hs => (h2.block k (Nat.lt_of_lt_of_le hk h1.size) hs).trans (h1.block k hk hs)⟩
theorem Only.wide {T : Nat → Prop} (h : Only S w w') (hT : ∀ k, S k → T k) : Only T w w' := ⟨h.os, h.tape, h.output, h.size, fun k hk hs => h.block k hk (fun x => hs (hT k x))⟩
theorem Only.of_below (S : Nat → Prop) (h : Below w.heap.size w w') : Only S w w' := ⟨h.os, h.tape, h.output, h.size, fun k hk _ => h.block k hk⟩
theorem Only.of_grown {r : Option Nat} (h : w.grownBy w' r) (hS : ∀ b, r = some b → S b) : Only S w w' :=
  ⟨h.os, h.tape, h.output, h.size, fun k hk hs => h.block k hk (fun e => hs (hS k e.symm))⟩
theorem Only.set_ (h : Only S w w') {b : Nat} (hS : S b) (i : Nat) (u : Value) : Only S w (w'.setCell ⟨b, i, none⟩ u) :=
  h.trans (Only.of_grown (only_set (World.grownBy.refl w' _) i u) (fun c e => by injection e with e; rw [← e]; exact hS))
theorem Only.alloc (h : Only S w w') (o : Obj) : Only S w (w'.alloc o) :=
  ⟨h.os, h.tape, h.output, Nat.le_trans h.size (by simp), fun k hk hs => (Below.heap_alloc w' o k (Nat.lt_of_lt_of_le hk h.size)).trans (h.block k hk hs)⟩
theorem Only.drew (h : Only S w w') : Only S w w'.drew := ⟨h.os, h.tape, h.output, h.size, h.block⟩
theorem Only.drewN (h : Only S w w') (n : Nat) : Only S w (w'.drewN n) := ⟨h.os, h.tape, h.output, h.size, h.block⟩
theorem Only.later {B : Nat} (h : Only S w w') (hb : Below B w' w'') (hB : w.heap.size ≤ B) : Only S w w'' :=
  ⟨hb.os.trans h.os, hb.tape.trans h.tape, hb.output.trans h.output, Nat.le_trans h.size hb.size, fun k hk hs => (hb.block k (by omega)).trans (h.block k hk hs)⟩
theorem Only.cell (h : Only S w w') {p : Addr} (hp : p.block < w.heap.size) (hS : ¬ S p.block) : w'.cell? p = w.cell? p := World.cell?_of_block (h.block p.block hp hS)
theorem Only.below {B : Nat} (h : Only S w w') (hS : ∀ k, S k → B ≤ k) (hB : B ≤ w.heap.size) : Below B w w' :=
  ⟨h.os, h.tape, h.output, h.size, fun k hk => h.block k (by omega) (fun s => by have := hS k s; omega)⟩
/-- blocks that are new may turn besides -/
theorem Only.from_new (h1 : Only S w w') (h2 : Only (fun k => S k ∨ w.heap.size ≤ k) w' w'') : Only S w w'' :=
  ⟨h2.os.trans h1.os, h2.tape.trans h1.tape, h2.output.trans h1.output, Nat.le_trans h1.size h2.size, fun k hk hs => (h2.block k (Nat.lt_of_lt_of_le hk h1.size) (fun x => x.elim hs (fun y => by omega))).trans (h1.block k hk hs)⟩
end

set_option maxHeartbeats 4000000 in
set_option maxRecDepth 100000 in
theorem swap_any (base t k : Nat) (v : Value) (h : List (Int × Int)) (i j : Nat) (w : World) (hx : TopAt w base t k v h) (hi : i < h.length) (hj : j < h.length) (hij : i ≠ j) (hl : h.length ≤ 1000000000) :
    Calls Try.prog 49 #[.pointer (some ⟨t, 0, none⟩), .int .i64 i, .int .i64 j] w fun e w' => e = .returned (.tuple #[]) ∧ TopAt w' base t k v (TopM.swp h i j) ∧ Only (own2 t v) w w' := by
  obtain ⟨g, cap, hv, hbg, hg, hcap, hfz, hc⟩ := hx.row.cells (by omega)
  have hx' := Lib.hid hx
  obtain ⟨ci0, ci1⟩ := hc i hi
  obtain ⟨cj0, cj1⟩ := hc j hj
  have c2 := hx.c2
  have hne : t ≠ g := fun e => hx.ne (by rw [hv, e]; simp [Value.ownBlock])
  rw [hv] at c2
  have ai := TopM.at_get hi
  have aj := TopM.at_get hj
  rw [← ai] at ci0 ci1
  rw [← aj] at cj0 cj1
  obtain ⟨x, hxe⟩ : ∃ x, x = TopM.at_ h i := ⟨_, rfl⟩
  obtain ⟨y, hye⟩ : ∃ y, y = TopM.at_ h j := ⟨_, rfl⟩
  obtain ⟨n, hn⟩ : ∃ n, n = h.length := ⟨_, rfl⟩
  have HX := Lib.hid hxe
  have HY := Lib.hid hye
  rw [← hxe] at ci0 ci1
  rw [← hye] at cj0 cj1
  rw [← hn] at hi hj hl hcap c2 hv
  have HN := Lib.hid hn
  have HV := Lib.hid hv
  have fi0 := hfz (i * 2)
  have fi1 := hfz (i * 2 + 1)
  have fj0 := hfz (j * 2)
  have fj1 := hfz (j * 2 + 1)
  clear hc hxe hye hn hx hfz ai aj hv
  have e1 : j * 2 ≠ i * 2 := by omega
  have e2 : j * 2 + 1 ≠ i * 2 := by omega
  have e3 : j * 2 ≠ i * 2 + 1 := by omega
  have e4 : j * 2 + 1 ≠ i * 2 + 1 := by omega
  go_enter Try.func49, Try.ntmps49
  go_wp2
  go_region
  all_goals
    go_end0
    refine ⟨rfl, ?_, ?_⟩
    · have x1 := (hx'.out.set_ HV.out i y (by omega)).set_ HV.out j x (by simp; omega)
      rw [HX.out, HY.out] at x1 ⊢
      exact ⟨x1.old, x1.blk, x1.row⟩
    · have hS : own2 t v g := Or.inr (by rw [HV.out]; rfl)
      exact (((((Only.refl (own2 t v) w).set_ hS _ _).set_ hS _ _).set_ hS _ _).set_ hS _ _).drew
end Go.Proofs.Ytjdlocmchmeipaa
