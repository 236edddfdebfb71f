
/- A region that draws its order, in a number of steps that grows with its operations, not with its orders: each operation's value is told by a property that stays as memory is made. -/
import Derived.Test.YtdjbdhfellofoaaBaseW
import Derived.Deep.RegionHeld3
import Derived.RangeFuncCalls
import Derived.OrdersIn
import Derived.OwnWalkIn
namespace Go.Proofs.Ytdjbdhfellofoaa
open Go.RowKit

/-- of what was there only blocks of S have turned -/
structure Turned (S : Nat → Prop) (w w' : World) : Prop where
  os : w'.os = w.os
  tape : w'.tape = w.tape
  output : w'.output = w.output
  size : w.heap.size ≤ w'.heap.size
  block : ∀ k, k < w.heap.size → ¬ S k → w'.heap[k]? = w.heap[k]?
section
variable {S : Nat → Prop} {w w' w'' : World}
theorem Turned.refl (S : Nat → Prop) (w : World) : Turned S w w := ⟨rfl, rfl, rfl, Nat.le_refl _, fun _ _ _ => rfl⟩
theorem Turned.trans (h1 : Turned S w w') (h2 : Turned S w' w'') : Turned S w w'' :=
  ⟨h2.os.trans h1.os, h2.tape.trans h1.tape, h2.output.trans h1.output, Nat.le_trans h1.size h2.size, fun k hk hs => (h2.block k (Nat.lt_of_lt_of_le hk h1.size) hs).trans (h1.block k hk hs)⟩
theorem Turned.wide {T : Nat → Prop} (h : Turned S w w') (hT : ∀ k, S k → T k) : Turned T w w' := ⟨h.os, h.tape, h.output, h.size, fun k hk hs => h.block k hk (fun x => hs (hT k x))⟩
theorem Turned.of_grown {b : Nat} (h : w.grownBy w' (some b)) (hS : S b) : Turned S w w' :=
  ⟨h.os, h.tape, h.output, h.size, fun k hk hs => h.block k hk (fun e => hs (by injection e with e; rw [e]; exact hS))⟩
theorem Turned.set_ (h : Turned S w w') {b : Nat} (hS : S b) (i : Nat) (u : Value) : Turned S w (w'.setCell ⟨b, i, none⟩ u) :=
  h.trans (Turned.of_grown (only_set (World.grownBy.refl w' _) i u) hS)
theorem Turned.alloc (h : Turned S w w') (o : Obj) : Turned S w (w'.alloc o) :=
  ⟨h.os, h.tape, h.output, Nat.le_trans h.size (by simp), fun k hk hs => (Below.heap_alloc w' o k (Nat.lt_of_lt_of_le hk h.size)).trans (h.block k hk hs)⟩
theorem Turned.cell (h : Turned S w w') {p : Addr} (hp : p.block < w.heap.size) (hS : ¬ S p.block) : w'.cell? p = w.cell? p := World.cell?_of_block (h.block p.block hp hS)
theorem Turned.frozen (h : Turned S w w') {p : Addr} (hp : p.block < w.heap.size) (hS : ¬ S p.block) : w'.frozen? p = w.frozen? p := World.frozen?_of_block (h.block p.block hp hS)
theorem Turned.grown (h : Turned S w w') {b : Nat} (hS : ∀ k, k < w.heap.size → S k → k = b) : w.grownBy w' (some b) :=
  ⟨h.os, h.tape, h.output, h.size, fun k hk hne => h.block k hk (fun s => hne (by rw [hS k hk s]))⟩
/-- blocks that are new may turn besides -/
theorem Turned.from_new (h1 : Turned S w w') (h2 : Turned (fun k => S k ∨ w.heap.size ≤ k) w' w'') : Turned S w w'' :=
  ⟨h2.os.trans h1.os, h2.tape.trans h1.tape, h2.output.trans h1.output, Nat.le_trans h1.size h2.size, fun k hk hs => (h2.block k (Nat.lt_of_lt_of_le hk h1.size) (fun x => x.elim hs (fun y => by omega))).trans (h1.block k hk hs)⟩
end
theorem Turned.drew {S : Nat → Prop} {w w' : World} (h : Turned S w w') : Turned S w w'.drew := ⟨h.os, h.tape, h.output, h.size, h.block⟩
theorem Turned.of_below {S : Nat → Prop} {w w' : World} (h : Below w.heap.size w w') : Turned S w w' := ⟨h.os, h.tape, h.output, h.size, fun k hk _ => h.block k hk⟩
/-- made memory behind a turned world -/
theorem Turned.on {S : Nat → Prop} {w w' w'' : World} (h : Turned S w w') (hb : Below w'.heap.size w' w'') : Turned S w w'' := h.trans (Turned.of_below hb)
/-- seen from a world ahead of the blocks that turned -/
theorem Turned.below {S : Nat → Prop} {u w w' : World} (h : Turned S w w') (hu : Below u.heap.size u w) (hS : ∀ k, S k → u.heap.size ≤ k) : Below u.heap.size u w' :=
  hu.trans ⟨h.os, h.tape, h.output, h.size, fun k hk => h.block k (Nat.lt_of_lt_of_le hk hu.size) (fun s => absurd (hS k s) (by omega))⟩
/-- a store into a block that is new, or S's -/
theorem Turned.put_ {S : Nat → Prop} {w w' : World} (h : Turned S w w') {b : Nat} (hb : S b ∨ w.heap.size ≤ b) (i : Nat) (u : Value) : Turned S w (w'.setCell ⟨b, i, none⟩ u) :=
  ⟨h.os, h.tape, h.output, by simpa [World.setCell] using h.size, fun k hk hs => (Below.heap_setCell w' _ u k (fun e => by
    have e' : k = b := e
    rcases hb with hb | hb
    · exact hs (e' ▸ hb)
    · omega)).trans (h.block k hk hs)⟩
/-- the frame, each of the temporaries ds holding what f tells -/
def linFill (t : Array Value) (ds : List Tmp) (f : Tmp → Value) : Array Value := ds.foldl (fun t d => t.setIfInBounds d (f d)) t
theorem linFill_get (ds : List Tmp) (f : Tmp → Value) : ∀ (t : Array Value) (k : Nat), (linFill t ds f)[k]? = if k ∈ ds then t[k]?.map (fun _ => f k) else t[k]? := by
  unfold linFill
  induction ds with
  | nil => intro t k; simp
  | cons d ds ih =>
    intro t k
    rw [List.foldl_cons, ih, Array.getElem?_setIfInBounds]
    by_cases h : d = k
    · subst h
      by_cases hs : d < t.size
      · by_cases hm : d ∈ ds <;> simp [hm, hs]
      · by_cases hm : d ∈ ds <;> simp [hm, hs]
    · have h' : ¬ k = d := fun e => h e.symm
      simp [h, h']
theorem linFill_self (t : Array Value) (ds : List Tmp) : linFill t ds (fun d => t.getD d undef) = t := by
  apply Array.ext_getElem?
  intro k
  rw [linFill_get]
  by_cases h : k ∈ ds
  · rw [if_pos h]
    by_cases hs : k < t.size
    · simp [hs]
    · simp [Array.getElem?_eq_none (Nat.le_of_not_lt hs)]
  · rw [if_neg h]
theorem linFill_size (ds : List Tmp) (f : Tmp → Value) : ∀ t : Array Value, (linFill t ds f).size = t.size := by
  unfold linFill
  induction ds with
  | nil => intro t; rfl
  | cons d ds ih => intro t; rw [List.foldl_cons, ih]; simp
theorem linFill_set (t : Array Value) (ds : List Tmp) (f : Tmp → Value) (d : Tmp) (v : Value) (hd : d ∈ ds) :
    (linFill t ds f).setIfInBounds d v = linFill t ds (fun k => if k = d then v else f k) := by
  apply Array.ext_getElem?
  intro k
  rw [linFill_get, Array.getElem?_setIfInBounds, linFill_size, linFill_get]
  by_cases h : d = k
  · subst h
    by_cases hs : d < t.size
    · simp [hd, hs]
    · simp [hd, hs]
  · have h' : ¬ k = d := fun e => h e.symm
    simp [h, h']

section
variable {P : Program} {ops : Array Oper} {Q : Exit → Act → World → Prop}

/-- whatever comes up, J stays: then the region is walked -/
theorem wpAny_inv {md : Region.Mode} {J : Array Bool → Act → World → Prop}
    (hstep : ∀ listed a w i, listed.size = ops.size → J listed a w → i ∈ Region.ready md ops listed → wpOp P ops Q i (J (listed.setIfInBounds i true)) a w)
    (hend : ∀ listed a w, listed.size = ops.size → J listed a w → Region.ready md ops listed = [] → Q .normal a w) :
    ∀ fuel listed a w, listed.size = ops.size → (listed.toList.filter (! ·)).length ≤ fuel → J listed a w → wpAny P md ops Q fuel listed a w
  | 0, listed, a, w, hsz, hf, hJ => by
    have hr : Region.ready md ops listed = [] := by
      cases hr : Region.ready md ops listed with
      | nil => rfl
      | cons j js =>
        have hj : j ∈ Region.ready md ops listed := by rw [hr]; exact List.mem_cons_self
        obtain ⟨h0, _⟩ := mem_ready.1 hj
        have hlt : j < listed.size := by
          rcases Nat.lt_or_ge j listed.size with h | h
          · exact h
          · simp [Array.getElem?_eq_none h] at h0
        have hm : listed[j] ∈ listed.toList.filter (! ·) := by
          rw [List.mem_filter]
          refine ⟨by simp, ?_⟩
          simp [hlt] at h0
          simp [h0]
        have := List.length_pos_of_mem hm
        omega
    exact ⟨hr, hend listed a w hsz hJ hr⟩
  | fuel + 1, listed, a, w, hsz, hf, hJ => by
    refine ⟨hend listed a w hsz hJ, fun i hi => wpOp_mono (fun a' w' hJ' => ?_) (hstep listed a w i hsz hJ hi)⟩
    refine wpAny_inv hstep hend fuel _ a' w' (by simpa using hsz) ?_ hJ'
    obtain ⟨h0, _⟩ := mem_ready.1 hi
    have hlt : i < listed.size := by
      rcases Nat.lt_or_ge i listed.size with h | h
      · exact h
      · simp [Array.getElem?_eq_none h] at h0
    have h0' : listed.toList[i]'(by simpa using hlt) = false := by simpa [hlt] using h0
    have key : ∀ (l : List Bool) (i : Nat) (h : i < l.length), l[i] = false → (l.set i true |>.filter (! ·)).length + 1 = (l.filter (! ·)).length := by
      intro l
      induction l with
      | nil => intro i h; simp at h
      | cons b l ih =>
        intro i h hb
        match i with
        | 0 => simp at hb; subst hb; simp
        | i + 1 =>
          simp at hb
          have := ih i (by simpa using h) hb
          cases b <;> simp <;> omega
    have := key listed.toList i (by simpa using hlt) h0'
    simp only [Array.toList_setIfInBounds]
    omega

/-- the temporaries that the region fills -/
def linDs (l : List Oper) : List Tmp := l.filterMap (·.dst)
/-- the order of the text is one of the orders; no two operations fill one temporary -/
def linB (l : List Oper) : Bool :=
  (l.zipIdx.all fun (o, i) => o.after.all fun e => !Region.binds .any e || decide (e.on < i)) && decide ((linDs l).Nodup)
/-- number k waits for number j -/
def linEdge (l : List Oper) (k j : Nat) : Bool := ((l[k]?).map fun o => o.after.any fun e => Region.binds .any e && e.on == j).getD false
/-- number j fills d -/
def linFills (l : List Oper) (j : Nat) (d : Tmp) : Bool := (l[j]?).bind (·.dst) == some d
/-- each of the row waits for the next one -/
def linPath (l : List Oper) : List Nat → Bool
  | k :: j :: r => linEdge l k j && linPath l (j :: r)
  | _ => true
/-- what has come up, and number i -/
def linUp (L : Nat → Bool) (i : Nat) : Nat → Bool := fun k => if k = i then true else L k
/-- what has come up is whole -/
def LinShut (l : List Oper) (L : Nat → Bool) : Prop := ∀ k j, L k = true → linEdge l k j = true → L j = true
theorem LinShut.late {l : List Oper} {L : Nat → Bool} (h : LinShut l L) (i : Nat) (hi : L i = false) : ∀ (r : List Nat) (k : Nat), linPath l (k :: r) = true → (k :: r).getLast? = some i → L k = false
  | [], k, _, hl => by simp at hl; rw [hl]; exact hi
  | j :: r, k, hp, hl => by
    simp only [linPath, Bool.and_eq_true] at hp
    have := LinShut.late h i hi r j hp.2 (by simpa [List.getLast?_cons_cons] using hl)
    cases hk : L k with
    | false => rfl
    | true => rw [h k j hk hp.1] at this; cases this
theorem linUp_late {L : Nat → Bool} {i k : Nat} (h : linUp L i k = false) : L k = false := by
  unfold linUp at h; split at h; cases h; exact h
theorem linUp_same (L : Nat → Bool) (i : Nat) : linUp L i i = true := by simp [linUp]

/-- one operation, whatever has come up of what it doesn't wait for -/
def LinStep (P : Program) (l : List Oper) (ds : List Tmp) (S : Nat → Prop) (lo : Nat → Bool) (I : (Nat → Bool) → World → Prop) (G : Nat → (Nat → Bool) → Value → World → Prop) (U : World) (a0 : Act) (Q : Exit → Act → World → Prop) (i : Nat) (o : Oper) : Prop :=
  ∀ (f : Tmp → Value) (L : Nat → Bool) (w1 : World), Turned S U w1 → I L w1 → LinShut l L → L i = false → (∀ j d, linEdge l i j = true → linFills l j d = true → G j L (f d) w1) →
    ∀ K : Act → World → Prop, Shut (∀ v w2, Turned S U w2 → (lo i = false ∧ Below w1.heap.size w1 w2 ∨ I (linUp L i) w2 ∧ ∀ j d, L j = true → linFills l j d = true → G j L (f d) w1 → G j (linUp L i) (f d) w2) → G i (linUp L i) v w2 → K ((Act.mk (linFill a0.tmps ds f) a0.defers).put o.dst v) w2) →
      if Region.wanted o (yielded l.toArray (linFill a0.tmps ds f)) = true then Oper.wp P o (Act.mk (linFill a0.tmps ds f) a0.defers) w1 K Q else K ((Act.mk (linFill a0.tmps ds f) a0.defers).put o.dst undef) w1
def LinSteps (P : Program) (l : List Oper) (ds : List Tmp) (S : Nat → Prop) (lo : Nat → Bool) (I : (Nat → Bool) → World → Prop) (G : Nat → (Nat → Bool) → Value → World → Prop) (U : World) (a0 : Act) (Q : Exit → Act → World → Prop) : Nat → List Oper → Prop
  | _, [] => True
  | i, o :: rest => LinStep P l ds S lo I G U a0 Q i o ∧ LinSteps P l ds S lo I G U a0 Q (i + 1) rest
theorem LinSteps.nil {l : List Oper} {ds : List Tmp} {S : Nat → Prop} {lo : Nat → Bool} {I : (Nat → Bool) → World → Prop} {G : Nat → (Nat → Bool) → Value → World → Prop} {U : World} {a0 : Act} {i : Nat} : LinSteps P l ds S lo I G U a0 Q i [] := trivial
theorem LinSteps.cons {l : List Oper} {ds : List Tmp} {S : Nat → Prop} {lo : Nat → Bool} {I : (Nat → Bool) → World → Prop} {G : Nat → (Nat → Bool) → Value → World → Prop} {U : World} {a0 : Act} {i : Nat} {o : Oper} {rest : List Oper}
    (h : ∀ (f : Tmp → Value) (L : Nat → Bool) (w1 : World), Turned S U w1 → I L w1 → LinShut l L → L i = false → (∀ j d, linEdge l i j = true → linFills l j d = true → G j L (f d) w1) →
      ∀ K : Act → World → Prop, Shut (∀ v w2, Turned S U w2 → (lo i = false ∧ Below w1.heap.size w1 w2 ∨ I (linUp L i) w2 ∧ ∀ j d, L j = true → linFills l j d = true → G j L (f d) w1 → G j (linUp L i) (f d) w2) → G i (linUp L i) v w2 → K ((Act.mk (linFill a0.tmps ds f) a0.defers).put o.dst v) w2) →
        if Region.wanted o (yielded l.toArray (linFill a0.tmps ds f)) = true then Oper.wp P o (Act.mk (linFill a0.tmps ds f) a0.defers) w1 K Q else K ((Act.mk (linFill a0.tmps ds f) a0.defers).put o.dst undef) w1)
    (hs : LinSteps P l ds S lo I G U a0 Q (i + 1) rest) : LinSteps P l ds S lo I G U a0 Q i (o :: rest) := ⟨h, hs⟩
theorem LinSteps.get {l : List Oper} {ds : List Tmp} {S : Nat → Prop} {lo : Nat → Bool} {I : (Nat → Bool) → World → Prop} {G : Nat → (Nat → Bool) → Value → World → Prop} {U : World} {a0 : Act} : ∀ (r : List Oper) (i : Nat), LinSteps P l ds S lo I G U a0 Q i r → ∀ j o, r[j]? = some o → LinStep P l ds S lo I G U a0 Q (i + j) o
  | [], _, _, j, o, h => by simp at h
  | x :: r, i, hs, 0, o, h => by simp at h; subst h; exact hs.1
  | x :: r, i, hs, j + 1, o, h => by
    have := LinSteps.get r (i + 1) hs.2 j o (by simpa using h)
    rw [show i + (j + 1) = i + 1 + j by omega]
    exact this

/-- A region that draws its order: S = the blocks of what was there that its stores turn; lo = which operations store; I L w = what holds of the world, those of L having come up; G i L v w = what number i's value v is then. Each operation is shown once. (The row of operations is handed on by a name: else each step bears it whole.) -/
theorem wpAny_lin {l : List Oper} {ds : List Tmp} {a : Act} {w : World} (hB : linB l = true) (hds : linDs l = ds) (S : Nat → Prop) (lo : Nat → Bool) (I : (Nat → Bool) → World → Prop) (G : Nat → (Nat → Bool) → Value → World → Prop)
    (hI0 : I (fun _ => false) w.drew) (hI : ∀ L k w1 w2, lo k = false → Below w1.heap.size w1 w2 → I L w1 → I (linUp L k) w2)
    (hG : ∀ i L k v w1 w2, lo k = false → Below w1.heap.size w1 w2 → G i L v w1 → G i (linUp L k) v w2)
    (hs0 : ∀ l', Hid (l' = l) → LinSteps P l' ds S lo I G w.drew a Q 0 l)
    (hend0 : ∀ l', Hid (l' = l) → ∀ f L w1, Turned S w.drew w1 → I L w1 → (∀ k, k < l.length → L k = true) → (∀ j d, linFills l' j d = true → G j L (f d) w1) → Q .normal (Act.mk (linFill a.tmps ds f) a.defers) w1) :
    wpAny P .any l.toArray Q l.toArray.size (Array.replicate l.toArray.size false) a w.drew := by
  have hs := hs0 l (Lib.hid rfl)
  have hend := hend0 l (Lib.hid rfl)
  clear hs0 hend0
  subst hds
  simp only [linB, Bool.and_eq_true, decide_eq_true_eq] at hB
  obtain ⟨hB1, hB2⟩ := hB
  let J : Array Bool → Act → World → Prop := fun listed a' w' => ∃ (f : Tmp → Value) (L : Nat → Bool), a' = Act.mk (linFill a.tmps (linDs l) f) a.defers ∧ (∀ k, L k = listed.getD k false) ∧ LinShut l L ∧ Turned S w.drew w' ∧ I L w' ∧ ∀ j d, L j = true → linFills l j d = true → G j L (f d) w'
  have huniq : ∀ (i j : Nat) (d : Tmp), linFills l i d = true → linFills l j d = true → i = j := by
    have gen : ∀ (r : List Oper), (linDs r).Nodup → ∀ (i j : Nat) (d : Tmp), linFills r i d = true → linFills r j d = true → i = j := by
      intro r
      induction r with
      | nil => intro _ i j d hi; simp [linFills] at hi
      | cons x r ih =>
        intro hn i j d hi hj
        have memd : ∀ (k : Nat), linFills r k d = true → d ∈ linDs r := fun k hk => by
          unfold linFills at hk
          cases hrk : r[k]? with
          | none => rw [hrk] at hk; simp at hk
          | some o => rw [hrk] at hk; simp at hk; exact List.mem_filterMap.2 ⟨o, List.mem_of_getElem? hrk, hk⟩
        have nodup0 : x.dst = some d → d ∉ linDs r := fun hx => by
          unfold linDs at hn ⊢
          rw [List.filterMap_cons_some hx] at hn
          exact (List.nodup_cons.1 hn).1
        match i, j with
        | 0, 0 => rfl
        | 0, j + 1 =>
          have hi' : x.dst = some d := by simpa [linFills] using hi
          have hj' : linFills r j d = true := by simpa [linFills] using hj
          exact absurd (memd j hj') (nodup0 hi')
        | i + 1, 0 =>
          have hj' : x.dst = some d := by simpa [linFills] using hj
          have hi' : linFills r i d = true := by simpa [linFills] using hi
          exact absurd (memd i hi') (nodup0 hj')
        | i + 1, j + 1 =>
          have hn2 : (linDs r).Nodup := by
            unfold linDs at hn ⊢
            cases hx : x.dst with
            | none => simpa [List.filterMap_cons, hx] using hn
            | some y => rw [List.filterMap_cons_some hx] at hn; exact (List.nodup_cons.1 hn).2
          rw [ih hn2 i j d (by simpa [linFills] using hi) (by simpa [linFills] using hj)]
    exact gen l hB2
  refine wpAny_inv (J := J) ?_ ?_ _ _ _ _ (by simp) (Nat.le_trans (List.length_filter_le _ _) (by simp)) ?_
  · rintro listed a' w' i hsz ⟨f, L, rfl, hL, hsh, hb, hIw, hv⟩ hi
    obtain ⟨h0, o, ho, hall⟩ := mem_ready.1 hi
    have ho' : l[i]? = some o := by simpa using ho
    have hil : i < listed.size := by rw [hsz]; simpa using (List.getElem?_eq_some_iff.1 ho').1
    have hLi : L i = false := by rw [hL]; simp [hil] at h0 ⊢; exact h0
    have hedge : ∀ j, linEdge l i j = true → L j = true := fun j hj => by
      unfold linEdge at hj
      rw [ho'] at hj
      simp only [Option.map_some, Option.getD_some] at hj
      obtain ⟨e, he, hbe⟩ := Array.any_eq_true'.1 hj
      simp only [Bool.and_eq_true, beq_iff_eq] at hbe
      rw [hL, ← hbe.2]
      exact hall e he hbe.1
    have hLup : ∀ k, linUp L i k = (listed.setIfInBounds i true).getD k false := fun k => by
      unfold linUp
      by_cases e : k = i
      · subst e; simp [hil]
      · rw [if_neg e, hL, getD_set_ne false (fun h => e h.symm)]
    have hshup : LinShut l (linUp L i) := fun k j hk hkj => by
      unfold linUp at hk ⊢
      by_cases e : k = i
      · subst e
        split
        · rfl
        · exact hedge j hkj
      · rw [if_neg e] at hk
        split
        · rfl
        · exact hsh k j hk hkj
    have hst := LinSteps.get l 0 hs i o ho'
    rw [Nat.zero_add] at hst
    refine wpOp_step ho (fun K' hK => hst f L w' hb hIw hsh hLi (fun j d hj hjd => hv j d (hedge j hj) hjd) K' ?_)
    intro v w2 hb3 hb2 hg
    refine hK _ _ ?_
    have hold : ∀ j d, L j = true → linFills l j d = true → G j (linUp L i) (f d) w2 := fun j d hj hjd => by
      rcases hb2 with hb2 | hb2
      · exact hG _ _ _ _ _ _ hb2.1 hb2.2 (hv j d hj hjd)
      · exact hb2.2 j d hj hjd (hv j d hj hjd)
    have hIup : I (linUp L i) w2 := by
      rcases hb2 with hb2 | hb2
      · exact hI _ _ _ _ hb2.1 hb2.2 hIw
      · exact hb2.1
    cases hd : o.dst with
    | none =>
      refine ⟨f, linUp L i, rfl, hLup, hshup, hb3, hIup, fun j d hl hjd => hold j d ?_ hjd⟩
      unfold linUp at hl
      split at hl
      · rename_i e; subst e; unfold linFills at hjd; rw [ho'] at hjd; simp [hd] at hjd
      · exact hl
    | some d =>
      refine ⟨fun k => if k = d then v else f k, linUp L i, ?_, hLup, hshup, hb3, hIup, fun j d' hl hjd => ?_⟩
      · simp only [Act.put]
        rw [linFill_set _ (linDs l) _ _ _ (List.mem_filterMap.2 ⟨o, List.mem_of_getElem? ho', hd⟩)]
      · have hid : linFills l i d = true := by unfold linFills; rw [ho']; simp [hd]
        by_cases hij : j = i
        · subst hij
          have : d' = d := by
            unfold linFills at hjd hid
            rw [ho'] at hjd hid
            simp at hjd hid
            rw [hjd] at hid
            injection hid
          subst this
          simpa using hg
        · have hne : ¬ d' = d := fun e => hij (huniq j i d (by rw [← e]; exact hjd) hid)
          simp only [if_neg hne]
          refine hold j d' ?_ hjd
          unfold linUp at hl
          rw [if_neg hij] at hl
          exact hl
  · rintro listed a' w' hsz ⟨f, L, rfl, hL, hsh, hb, hIw, hv⟩ hr
    have hall : ∀ n j : Nat, j < n → j < l.length → L j = true := by
      intro n
      induction n with
      | zero => intro j hj; omega
      | succ n ih =>
        intro j hjn hjl
        by_cases hlt : j < n
        · exact ih j hlt hjl
        · have hjs : j < listed.size := by rw [hsz]; simpa using hjl
          rw [hL]
          cases hg : listed.getD j true with
          | true => simp [hjs] at hg ⊢; exact hg
          | false =>
            exfalso
            have hmem : j ∈ Region.ready .any l.toArray listed := by
              refine mem_ready.2 ⟨hg, l[j], by simp [hjl], fun e he hbe => ?_⟩
              have h1 := List.all_eq_true.1 hB1 (l[j], j) (by rw [List.mem_zipIdx_iff_getElem?]; simp [hjl])
              have h2 := Array.all_eq_true_iff_forall_mem.1 h1 e he
              simp [hbe] at h2
              have h3 := ih e.on (by omega) (by omega)
              rw [hL] at h3
              exact h3
            rw [hr] at hmem
            cases hmem
    refine hend f L w' hb hIw (fun k hk => hall (k + 1) k (Nat.lt_succ_self k) hk) (fun j d hjd => hv j d ?_ hjd)
    have hjl : j < l.length := by
      rcases Nat.lt_or_ge j l.length with h | h
      · exact h
      · unfold linFills at hjd; rw [List.getElem?_eq_none h] at hjd; simp at hjd
    exact hall (j + 1) j (Nat.lt_succ_self j) hjl
  · refine ⟨fun d => a.tmps.getD d undef, fun k => (Array.replicate l.toArray.size false).getD k false, by rw [linFill_self], fun k => rfl, fun k j hk => ?_, Turned.refl _ _, ?_, fun j d hl => ?_⟩
    · simp [Array.getElem?_replicate] at hk; split at hk <;> simp at hk
    · have e : (fun k => (Array.replicate l.toArray.size false).getD k false) = fun _ => false := by
        funext k
        simp [Array.getElem?_replicate]
        split <;> rfl
      rw [e]
      exact hI0
    · simp [Array.getElem?_replicate] at hl; split at hl <;> simp at hl
theorem wp_region_lin {l : List Oper} {ds : List Tmp} {id : Nat} {a : Act} {w : World} (hm : P.follows .mixedOrders = true) (hB : linB l = true) (hds : linDs l = ds) (S : Nat → Prop) (lo : Nat → Bool) (I : (Nat → Bool) → World → Prop) (G : Nat → (Nat → Bool) → Value → World → Prop)
    (hI0 : I (fun _ => false) w.drew) (hI : ∀ L k w1 w2, lo k = false → Below w1.heap.size w1 w2 → I L w1 → I (linUp L k) w2)
    (hG : ∀ i L k v w1 w2, lo k = false → Below w1.heap.size w1 w2 → G i L v w1 → G i (linUp L k) v w2)
    (hs : ∀ l', Hid (l' = l) → LinSteps P l' ds S lo I G w.drew a Q 0 l)
    (hend : ∀ l', Hid (l' = l) → ∀ f L w1, Turned S w.drew w1 → I L w1 → (∀ k, k < l.length → L k = true) → (∀ j d, linFills l' j d = true → G j L (f d) w1) → Q .normal (Act.mk (linFill a.tmps ds f) a.defers) w1) : (Code.region id l.toArray true).wp P Q a w :=
  wp_region_any hm (wpAny_lin hB hds S lo I G hI0 hI hG hs hend)

/-! in a round of a range over a function -/
theorem rowsIn_round {r n : Nat} {row : String} {args : Array Value} {w : World} {R : Value → World → Prop} (h : Rows P row args w R) : RowsIn (Fence.wide.inRound r) n P row args w R :=
  fun c cs _ => let ⟨v, w', hr, hst⟩ := h c cs; ⟨v, w', hr, stepsIn_wide.2 hst⟩
/-- an operation that is no defer goes in a round as anywhere -/
theorem oper_round {o : Oper} {r n : Nat} {a : Act} {w : World} {K : Act → World → Prop} (ho : ∀ c, o.op ≠ .defer c) (hQ : ¬ LetsOut Q) (h : Oper.wp P o a w K Q) : o.wpIn (Fence.wide.inRound r) n P a w K Q := by
  refine ⟨fun _ _ => trivial, ?_⟩
  rw [Oper.semAt_eq _ _ _ ho]
  unfold Oper.wp at h
  generalize (execOp a.eval o).run P w = res at h ⊢
  cases res with
  | ok x w' =>
    cases x with
    | value v => exact h
    | skip => exact h
    | defer d => exact h
    | enter f args =>
      refine ⟨fun hd => (by cases hd), CallsIn.inRound r (callsIn_wide.2 (Calls.mono h (fun e w'' he => ?_)))⟩
      cases e with
      | returned v => exact he
      | panicked c => exact he
      | outgrown => exact absurd he hQ
    | row row args => exact ⟨fun hd => (by cases hd), rowsIn_round h⟩
    | round l f tmps assign body => exact h.elim
    | _ => first | exact h | exact h.elim
  | halt x w' => cases x <;> exact h
def noDefer (l : List Oper) : Bool := l.all fun o => match o.op with | .defer _ => false | _ => true
theorem wpOp_round {ops : Array Oper} {i r n : Nat} {a : Act} {w : World} {K : Act → World → Prop} (hd : ∀ o ∈ ops, ∀ c, o.op ≠ .defer c) (hQ : ¬ LetsOut Q) (h : wpOp P ops Q i K a w) : wpOpIn (Fence.wide.inRound r) n P ops Q i K a w := by
  unfold wpOp at h
  unfold wpOpIn
  cases ho : ops[i]? with
  | none => rw [ho] at h; exact h
  | some o =>
    rw [ho] at h
    simp only at h ⊢
    split
    · rename_i hw
      rw [if_pos hw] at h
      rcases h with h | h
      · exact oper_round (hd o (Array.mem_of_getElem? ho)) hQ h
      · exact absurd h.2 hQ
    · rename_i hw
      rw [if_neg hw] at h
      exact ⟨fun _ _ => trivial, h⟩
theorem wpAny_round {ops : Array Oper} {md : Region.Mode} {r n : Nat} (hd : ∀ o ∈ ops, ∀ c, o.op ≠ .defer c) (hQ : ¬ LetsOut Q) : ∀ (fuel : Nat) (listed : Array Bool) (a : Act) (w : World), wpAny P md ops Q fuel listed a w → wpAnyIn (Fence.wide.inRound r) n P md ops Q fuel listed a w
  | 0, _, _, _, h => h
  | fuel + 1, _, _, _, h => ⟨h.1, fun i hi => wpOp_round hd hQ (wpOp_mono (fun a' w' h' => wpAny_round hd hQ fuel _ a' w' h') (h.2 i hi))⟩
theorem wpIn_region_lin {l : List Oper} {ds : List Tmp} {id r n : Nat} {a : Act} {w : World} (hm : P.follows .mixedOrders = true) (hnd : noDefer l = true) (hQ : ¬ LetsOut Q) (hB : linB l = true) (hds : linDs l = ds) (S : Nat → Prop) (lo : Nat → Bool) (I : (Nat → Bool) → World → Prop) (G : Nat → (Nat → Bool) → Value → World → Prop)
    (hI0 : I (fun _ => false) w.drew) (hI : ∀ L k w1 w2, lo k = false → Below w1.heap.size w1 w2 → I L w1 → I (linUp L k) w2)
    (hG : ∀ i L k v w1 w2, lo k = false → Below w1.heap.size w1 w2 → G i L v w1 → G i (linUp L k) v w2)
    (hs : ∀ l', Hid (l' = l) → LinSteps P l' ds S lo I G w.drew a Q 0 l)
    (hend : ∀ l', Hid (l' = l) → ∀ f L w1, Turned S w.drew w1 → I L w1 → (∀ k, k < l.length → L k = true) → (∀ j d, linFills l' j d = true → G j L (f d) w1) → Q .normal (Act.mk (linFill a.tmps ds f) a.defers) w1) : (Code.region id l.toArray true).wpIn (Fence.wide.inRound r) n P Q a w :=
  wpIn_region_any hm (wpAny_round (fun o ho c e => by
    have := List.all_eq_true.1 hnd o (by simpa using ho)
    rw [e] at this
    cases this) hQ _ _ _ _ (wpAny_lin hB hds S lo I G hI0 hI hG hs hend))
end
/-! small things that every layer's walks use -/
theorem frozen_of_cells {w : World} {k i : Nat} {cs : Array Value} {t : TypeId} (h : w.heap[k]? = some (.cells cs t (0, 0))) : w.frozen? ⟨k, i, none⟩ = false := by simp [World.frozen?, h]
theorem cell_of_cells {w : World} {k i : Nat} {cs : Array Value} {t : TypeId} {v : Value} (h : w.heap[k]? = some (.cells cs t (0, 0))) (hv : cs[i]? = some v) : w.cell? ⟨k, i, none⟩ = some v := by simp [World.cell?, h, hv]
theorem below_block {B : Nat} {w w' : World} {k : Nat} {o : Obj} (hb : Below B w w') (hk : k < B) (h : w.heap[k]? = some o) : w'.heap[k]? = some o := (hb.block k hk).trans h
theorem blk_stay {w w' : World} {k : Nat} {o : Obj} (hb : Below w.heap.size w w') (h : w.heap[k]? = some o) : w'.heap[k]? = some o := below_block hb (Array.getElem?_eq_some_iff.1 h).1 h
theorem pl1 (w : World) (a : Obj) : Below w.heap.size w (w.alloc a) := (Below.refl _ _).alloc (Nat.le_refl _) _
theorem below_drewN_p (w : World) : ∀ n, Below w.heap.size w (w.drewN n)
  | 0 => Below.refl _ _
  | n + 1 => (below_drewN_p w n).drew
theorem linUp_at {L : Nat → Bool} {k s : Nat} (h : k ≠ s) : linUp L k s = L s := by unfold linUp; rw [if_neg (fun e => h e.symm)]
/-- the function that tells which documents may be: mayv is a function value, may what it answers, wherever nothing of w1 has turned -/
def MayIs (w1 : World) (mayv : Value) (may : Int → Bool) : Prop := ∃ F B, mayv = .func (.func F) #[] B ∧ (∀ args w, (callFunc F args).run Try.prog w = .ok (.enter F args) w) ∧ ∀ W, Below w1.heap.size w1 W → ∀ d : Int, Calls Try.prog F (#[.int .i64 d] ++ B) W fun e w' => e = .returned (.bool (may d)) ∧ Below W.heap.size W w'
/-- the function that tells which documents may be, wherever nothing of W has turned but block c -/
def MayC (W : World) (c : Nat) (mayv : Value) (may : Int → Bool) : Prop := ∃ F B, mayv = .func (.func F) #[] B ∧ (∀ args w, (callFunc F args).run Try.prog w = .ok (.enter F args) w) ∧ ∀ W', Turned (fun b => b = c) W W' → ∀ d : Int, Calls Try.prog F (#[.int .i64 d] ++ B) W' fun e w' => e = .returned (.bool (may d)) ∧ Below W'.heap.size W' w'
theorem MayIs.mayc {w1 W : World} {c : Nat} {mayv : Value} {may : Int → Bool} (h : MayIs w1 mayv may) (hb : Below w1.heap.size w1 W) (hc : w1.heap.size ≤ c) : MayC W c mayv may := by
  obtain ⟨F, B, e, eg, hm⟩ := h
  exact ⟨F, B, e, eg, fun W' hT d => hm W' (hT.below hb (fun k hk => by omega)) d⟩
end Go.Proofs.Ytdjbdhfellofoaa
