/- Own texts, merged (8 of 9). -/
import Derived.Sort.CutIn
import Derived.Laws.EntriesVeiled
import Derived.Test.YtlcmdnmifmjjgaaMo7

/- PackReads' parts: two rows that are the same, told by draws alone; a slice of asks; what a state keeps. -/
namespace Go.Proofs.Ytlcmdnmifmjjgaa
open Go.RowKit

/-- a slice of asks: kind, n, w -/
def Asks (w : World) (A : Option Addr) (n : Nat) (l : List (Int × Int × Int)) : Prop :=
  l.length = n ∧ ∀ k (h : k < l.length), ∃ b o, A = some ⟨b, o, none⟩ ∧ b < w.heap.size ∧ w.cell? ⟨b, o + k * 3, none⟩ = some (.int .i64 l[k].1) ∧ w.cell? ⟨b, o + k * 3 + 1, none⟩ = some (.int .i64 l[k].2.1) ∧ w.cell? ⟨b, o + k * 3 + 2, none⟩ = some (.int .i64 l[k].2.2)

/-- a reader's state: bad with nothing left, not too long -/
def StOk (s : List UInt8) (bad : Bool) : Prop := (bad = true → s = []) ∧ s.length ≤ 2000
theorem st_num {most : Nat} {s : List UInt8} {bad : Bool} (h : StOk s bad) : StOk (nS most s) (nB most s bad) := by
  refine ⟨fun hb => ?_, Nat.le_trans (nS_len most s) h.2⟩
  unfold nB at hb
  unfold nS
  cases hn : PackM.num most 0 0 s with
  | none => rfl
  | some x =>
    rw [hn] at hb
    have := h.1 hb
    rw [this] at hn
    cases hn
theorem st_ris {most : Int} {s : List UInt8} {bad : Bool} (h : StOk s bad) : StOk (rsS most s) (rsB most s bad) := by
  unfold rsS rsB
  cases hn : PackM.rRis most s with
  | none => exact ⟨fun _ => rfl, by simp⟩
  | some x =>
    refine ⟨fun hb => ?_, ?_⟩
    · have := h.1 hb
      rw [this] at hn
      cases hn
    · unfold PackM.rRis at hn
      cases hm : PackM.num PackM.MAXI 0 0 s with
      | none => rw [hm] at hn; cases hn
      | some y =>
        rw [hm] at hn
        simp only [Option.bind] at hn
        split at hn
        · cases hn
        · have h1 := PackM.ris_short _ _ _ x.1 x.2 hn
          have h2 := PackM.num_short (v := y.1) (t := y.2) hm
          have := h.2
          simp only
          omega
theorem st_by {n : Int} {s : List UInt8} {bad : Bool} (h : StOk s bad) : StOk (byS n s) (byB n s bad) := by
  unfold byS byB
  split
  · refine ⟨fun hb => by rw [h.1 hb]; simp, ?_⟩
    have := h.2
    simp only [List.length_drop]
    omega
  · exact ⟨fun _ => rfl, by simp⟩
theorem st_fix {m n : Int} {s : List UInt8} {bad : Bool} (h : StOk s bad) : StOk (fxS m n s bad) (fxB m n s bad) := by
  unfold fxS fxB
  cases hn : fxR m n s bad with
  | none => exact ⟨fun _ => rfl, by simp⟩
  | some x =>
    refine ⟨fun hb => (by cases hb), ?_⟩
    unfold fxR at hn
    split at hn
    · unfold PackM.rFix at hn
      split at hn
      · cases hn
      · split at hn
        · injection hn with hn
          rw [← hn]
          have := h.2
          simp only [List.length_drop]
          omega
        · cases hn
    · cases hn

theorem rfixed_all (w : World) (b : Nat) (s : List UInt8) (bad : Bool) (m n : Int) (hl : s.length ≤ 100000000) (hbad : bad = true → s = []) (h : RD w b s bad) :
    Calls Try.prog 50 #[.pointer (some ⟨b, 0, none⟩), .int .i64 m, .int .i64 n] w fun e w' => RowEnd w.heap.size b (fxV m n s bad) (fxS m n s bad) (fxB m n s bad) e w' ∧ w.grownBy w' (some b) := by
  by_cases hr : 0 ≤ m ∧ m ≤ 32 ∧ 0 ≤ n ∧ n ≤ 65536
  · obtain ⟨m', rfl⟩ := Int.eq_ofNat_of_zero_le hr.1
    obtain ⟨n', rfl⟩ := Int.eq_ofNat_of_zero_le hr.2.2.1
    exact rfixed_in w b s bad m' n' hl hbad h (by omega) (by omega)
  · exact rfixed_out w b s bad m n h hr
theorem rsV_len {most : Int} {s : List UInt8} {bad : Bool} (h : StOk s bad) : (rsV most s).length ≤ 2000 := by
  unfold rsV
  cases hn : PackM.rRis most s with
  | none => simp
  | some x =>
    unfold PackM.rRis at hn
    cases hm : PackM.num PackM.MAXI 0 0 s with
    | none => rw [hm] at hn; cases hn
    | some y =>
      rw [hm] at hn
      simp only [Option.bind] at hn
      split at hn
      · cases hn
      · have h1 := PackM.ris_short _ _ _ x.1 x.2 hn
        have h2 := PackM.num_short (v := y.1) (t := y.2) hm
        have := h.2
        simp only
        omega
theorem fxV_len {m n : Int} {s : List UInt8} {bad : Bool} : (fxV m n s bad).length ≤ 65536 := by
  unfold fxV
  cases hn : fxR m n s bad with
  | none => simp
  | some x =>
    unfold fxR at hn
    split at hn
    · rename_i hr
      unfold PackM.rFix at hn
      split at hn
      · cases hn
      · split at hn
        · injection hn with hn
          rw [← hn]
          simp only [toI_length, nums_length]
          omega
        · cases hn
    · cases hn
theorem Ints.setBoth {w : World} {A : Option Addr} {n X : Nat} {l : List Int} (h : Ints w A n l) (hne : ∀ ad, A = some ad → ad.block ≠ X) (x y : Value) : Ints ((w.setCell ⟨X, 0, none⟩ x).setCell ⟨X, 1, none⟩ y) A n l :=
  ⟨h.1, fun k hk => by
    obtain ⟨b, o, e, hlt, hc⟩ := h.2 k hk
    have hb : b ≠ X := hne _ e
    refine ⟨b, o, e, by simpa [World.setCell] using hlt, ?_⟩
    rw [World.cell?_setCell_other _ _ _ _ (fun e => by injection e with e1; omega), World.cell?_setCell_other _ _ _ _ (fun e => by injection e with e1; omega)]
    exact hc⟩
theorem MD.grown {w w' : World} {b c : Nat} {s : List UInt8} {bad : Bool} (h : MD w b s bad) (hg : w.grownBy w' (some c)) (hne : b ≠ c) : MD w' b s bad := (hg.block b h.lt (fun e => hne (by injection e))).trans h
end Go.Proofs.Ytlcmdnmifmjjgaa

/- Posts: what is read round by round, in plain words; what holds amid a round's statement. -/
namespace Go.Proofs.Ytlcmdnmifmjjgaa
open Go.RowKit Go.Shelf

/-- documents with weights -/
def zipD (docs vs : List Int) : List (Int × Int) := (List.range vs.length).map fun i => (docs.getD i 0, vs.getD i 0)
theorem zipD_len (docs vs : List Int) : (zipD docs vs).length = vs.length := by simp [zipD]
/-- what has come behind k rounds: the posts, what is left, whether it went wrong -/
def rdSt (docs : List Int) (s : List UInt8) (bad : Bool) : Nat → List (Int × Int) × List UInt8 × Bool
  | 0 => ([], s, bad)
  | k + 1 => ((rdSt docs s bad k).1 ++ zipD docs (fxV 16 docs.length (rdSt docs s bad k).2.1 (rdSt docs s bad k).2.2), fxS 16 docs.length (rdSt docs s bad k).2.1 (rdSt docs s bad k).2.2, fxB 16 docs.length (rdSt docs s bad k).2.1 (rdSt docs s bad k).2.2)
theorem fx16 {n : Nat} {s : List UInt8} (hn : n ≤ 65536) : fxR 16 n s false = if s.length < 2 * n then none else some (PackM.nums (s.take (2 * n)) 16 n, s.drop (2 * n)) := by
  unfold fxR
  rw [if_pos ⟨rfl, by omega, by omega, by omega, by omega⟩, show (16 : Int).toNat = 16 from rfl, Int.toNat_natCast, PostM.rFix_two]
theorem fx16_bad {n : Nat} {s : List UInt8} : fxR 16 n s true = none := by unfold fxR; simp
theorem fx16_some {n : Nat} {s : List UInt8} (hn : n ≤ 65536) (h : ¬ s.length < 2 * n) : fxV 16 n s false = toI (PackM.nums (s.take (2 * n)) 16 n) ∧ fxS 16 n s false = s.drop (2 * n) ∧ fxB 16 n s false = false := by
  unfold fxV fxS fxB; rw [fx16 hn, if_neg h]; exact ⟨rfl, rfl, rfl⟩
theorem fx16_none {n : Nat} {s : List UInt8} (hn : n ≤ 65536) (h : s.length < 2 * n) : fxV 16 n s false = [] ∧ fxS 16 n s false = [] ∧ fxB 16 n s false = true := fx_none (by rw [fx16 hn, if_pos h])
theorem nums_len (s : List UInt8) (w n : Nat) : (toI (PackM.nums s w n)).length = n := by simp [toI, PackM.nums]
/-- of a round: at most one number for each document, and as many bytes are gone -/
theorem fx16_len (n : Nat) (s : List UInt8) (bad : Bool) (hn : n ≤ 65536) : (fxV 16 n s bad).length ≤ n ∧ 2 * (fxV 16 n s bad).length + (fxS 16 n s bad).length ≤ s.length ∧ (fxB 16 n s bad = true → fxS 16 n s bad = []) := by
  cases bad with
  | true =>
    obtain ⟨a, b, c⟩ := fx_none (fx16_bad (n := n) (s := s))
    rw [a, b, c]; simp
  | false =>
    by_cases h : s.length < 2 * n
    · obtain ⟨a, b, c⟩ := fx16_none hn h
      rw [a, b, c]; simp
    · obtain ⟨a, b, c⟩ := fx16_some hn h
      rw [a, b, c, nums_len, List.length_drop]
      exact ⟨Nat.le_refl _, by omega, fun e => by cases e⟩
theorem rdSt_len (docs : List Int) (s : List UInt8) (bad : Bool) (hd : docs.length ≤ 65536) (hb : bad = true → s = []) : ∀ k, 2 * (rdSt docs s bad k).1.length + (rdSt docs s bad k).2.1.length ≤ s.length ∧ ((rdSt docs s bad k).2.2 = true → (rdSt docs s bad k).2.1 = [])
  | 0 => ⟨by simp [rdSt], hb⟩
  | k + 1 => by
    have ih := rdSt_len docs s bad hd hb k
    obtain ⟨_, h2, h3⟩ := fx16_len docs.length (rdSt docs s bad k).2.1 (rdSt docs s bad k).2.2 hd
    unfold rdSt
    refine ⟨?_, h3⟩
    simp only [List.length_append, zipD_len]
    omega
/-- what is read in all is what the bytes tell -/
theorem rdSt_end (t : List UInt8) (k : Nat) (hk : k = if (rsV 2147483648 t).length = 0 then 0 else 1) (hd : (rsV 2147483648 t).length ≤ 65536) (r : List (Int × Int) × List UInt8 × Bool) (hr : r = rdSt (rsV 2147483648 t) (rsS 2147483648 t) (rsB 2147483648 t false) k) :
    (r.2.2 = false ∧ r.2.1.length = 0 ∧ PostM.rdP t = some r.1) ∨ ((r.2.2 = true ∨ r.2.1.length ≠ 0) ∧ PostM.rdP t = none) := by
  unfold rsV at hk hd
  unfold rsV rsS rsB at hr
  unfold PostM.rdP
  cases hx : PackM.rRis 2147483648 t with
  | none =>
    rw [hx] at hk hr
    obtain rfl : k = 0 := by simpa using hk
    subst hr
    right; exact ⟨.inl rfl, rfl⟩
  | some x =>
    obtain ⟨docs, u⟩ := x
    rw [hx] at hk hd hr
    simp only at hk hd hr ⊢
    by_cases h0 : docs.length = 0
    · obtain rfl := List.eq_nil_of_length_eq_zero h0
      obtain rfl : k = 0 := by simpa using hk
      subst hr
      by_cases hu : u.length = 0
      · left; simp [rdSt, hu, PostM.parL]
      · right; exact ⟨.inr hu, if_neg (by simpa using hu)⟩
    · rw [if_neg h0] at hk
      subst hk
      simp only [rdSt, List.nil_append] at hr
      by_cases hs : u.length < 2 * docs.length
      · obtain ⟨a, b, c⟩ := fx16_none hd hs
        right
        rw [c] at hr
        exact ⟨.inl (by rw [hr]), if_neg (by omega)⟩
      · obtain ⟨a, b, c⟩ := fx16_some hd hs
        rw [a, b, c] at hr
        subst hr
        by_cases he : u.length = 2 * docs.length
        · left
          rw [if_pos he]
          refine ⟨rfl, by simp [he], ?_⟩
          congr 1
          unfold PostM.parL zipD
          rw [nums_len]
          refine List.map_congr_left (fun i hi => ?_)
          rw [List.mem_range] at hi
          congr 1
          unfold PostM.wtAt toI
          have := PostM.nums_two docs.length u i hi
          have hl : (PackM.nums (u.take (2 * docs.length)) 16 docs.length).length = docs.length := by have := nums_len (u.take (2 * docs.length)) 16 docs.length; simpa [toI] using this
          obtain ⟨ns, hns⟩ : ∃ ns, ns = PackM.nums (u.take (2 * docs.length)) 16 docs.length := ⟨_, rfl⟩
          rw [← hns] at this hl ⊢
          obtain ⟨A, hA⟩ : ∃ A, A = (u.getD (2 * i) 0).toNat := ⟨_, rfl⟩
          obtain ⟨B, hB⟩ : ∃ B, B = (u.getD (2 * i + 1) 0).toNat := ⟨_, rfl⟩
          rw [← hA, ← hB] at this ⊢
          rw [List.getD_eq_getElem?_getD] at this
          rw [List.getD_eq_getElem?_getD, List.getElem?_map]
          cases hq : ns[i]? with
          | none => rw [List.getElem?_eq_none_iff] at hq; omega
          | some q =>
            rw [hq] at this
            simp only [Option.getD_some, Option.map_some] at this ⊢
            rw [this]
            simp
        · right
          rw [if_neg he]
          refine ⟨.inr ?_, rfl⟩
          simp
          omega
set_option maxRecDepth 100000 in
/-- append of one onto one's own row, told where the answer lies: where the row lay, or in memory that is new -/
theorem wp_append_p2 {e : TypeId} {w : World} {o : Oper} {a : Act} {K : Act → World → Prop} {Q : Exit → Act → World → Prop} {T : TypeId} (ty : PairTy e T) (s x : Operand)
    (ho : o.op = .call { callee := .builtin .append, args := #[s, x], argTypes := #[T, T] })
    (base : Nat) (v0 : Value) (l0 : List (Int × Int)) (hs : a.eval s = v0) (hown : PRow e w base v0 l0) (hbase : base ≤ w.heap.size)
    (g c : Nat) (p : Int × Int) (hx : a.eval x = .slice (some ⟨g, 0, none⟩) 1 c) (hc0 : w.cell? ⟨g, 0, none⟩ = some (.int .i64 p.1)) (hc1 : w.cell? ⟨g, 1, none⟩ = some (.int .i64 p.2)) (hn : l0.length ≤ 1000000000)
    (h : ∀ v' w', PRow e w' base v' (l0 ++ [p]) → w.grownBy w' v0.ownBlock → (∀ k, v'.ownBlock = some k → v0.ownBlock = some k ∨ w.heap.size ≤ k) → K (a.put o.dst v') w') : o.wp Try.prog a w K Q := by
  obtain ⟨i0, hi, hz0, hz1, hz2⟩ := info_parts ty.info
  have hnews : ∀ j u, (enc2 p)[j]? = some u → w.cell? ((⟨g, 0, none⟩ : Addr).add j) = some u := fun j u hu => by
    match j, hu with
    | 0, hu => simp [enc2] at hu; subst hu; rw [add_none]; exact hc0
    | 1, hu => simp [enc2] at hu; subst hu; rw [add_none]; exact hc1
  have h1 : ∀ u ∈ enc2 p, u.oneCell' = true := fun u hu => by simp [enc2] at hu; rcases hu with rfl | rfl <;> rfl
  have hl : (enc2 p).length = 1 * i0.size := by rw [hz1]; rfl
  have hb2 : (l0.length + 1) * i0.bytes ≤ 140737488355328 := by rw [hz2]; omega
  obtain ⟨v', w', hr, hrow, hgr, _⟩ := run_append_own (P := Try.prog) w base T o.type e i0 _ 2 16 ty.sl hi hz0 hz1 hz2 rfl (by omega) v0 l0.length (l0.flatMap enc2) hown ⟨g, 0, none⟩ 1 c (enc2 p) (by rfl) hnews h1 (by simp [maxLen]; omega) (by omega) hbase
  have hwhere : ∀ k, v'.ownBlock = some k → v0.ownBlock = some k ∨ w.heap.size ≤ k := by
    intro k hk
    rcases hown.2 with ⟨rfl, h0⟩ | ⟨g0, cap, cur, rfl, hbg, hg, hnc, hcm, hcs, htake⟩
    · have hl0 : l0 = [] := List.eq_nil_of_length_eq_zero h0
      subst hl0
      obtain ⟨v2, w2, hr2, hrow2, _, _⟩ := run_append_own (P := Try.prog) w w.heap.size T o.type e i0 _ 2 16 ty.sl hi hz0 hz1 hz2 rfl (by omega) (.slice none 0 0) 0 [] (World.ownsRow_nil _ _ _ _) ⟨g, 0, none⟩ 1 c (enc2 p) (by rfl) hnews h1 (by simp [maxLen]) (by omega) (Nat.le_refl _)
      have hr' := hr
      rw [hr2] at hr'
      injection hr' with e1 e2
      subst e1
      exact .inr (World.ownsRow.lt hrow2 k hk).1
    · by_cases hroom : l0.length + 1 ≤ cap
      · have hfit : l0.length * i0.size + (enc2 p).length ≤ cur.size := by rw [hl, hcs, hz1, ← Nat.add_mul]; exact Nat.mul_le_mul_right _ hroom
        have hr2 := run_append_room (P := Try.prog) w T o.type e i0 ty.sl hi g0 l0.length cap cur hg ⟨g, 0, none⟩ 1 c (enc2 p) hl hnews h1 hroom hfit
        rw [hr] at hr2
        injection hr2 with e1 e2
        subst e1
        exact .inl (by simpa [Value.ownBlock] using hk)
      · have holds : ∀ j u, (l0.flatMap enc2)[j]? = some u → w.cell? ((⟨g0, 0, none⟩ : Addr).add j) = some u := World.ownsRow.cells hown (g := g0) rfl
        have hr2 := run_append_grow (P := Try.prog) w T o.type e i0 _ ty.sl hi hz0 ⟨g0, 0, none⟩ l0.length cap (l0.flatMap enc2) (by rw [flat_len, hz1]) holds ⟨g, 0, none⟩ 1 c (enc2 p) hl hnews (by omega) (by omega) (growslice_fits (by omega) hb2)
        rw [hr] at hr2
        injection hr2 with e1 e2
        subst e1
        have : w.heap.size = k := by simpa [Value.ownBlock] using hk
        exact .inr (by omega)
  have hfin := h v' w' (by unfold PRow; rw [List.length_append, List.flatMap_append]; simpa using hrow) hgr hwhere
  unfold Oper.wp execOp
  simp only [ho, resolve, invoke, builtin, Sem.run_bind, Sem.run_pure, Result.andThen_ok, List.map_toArray, List.map_cons, List.map_nil, hs, hx, hr]
  exact hfin
/-- a block of another type is not one's own row's -/
theorem prow_ne {e t : TypeId} {W : World} {base k : Nat} {v : Value} {l : List (Int × Int)} {cs : Array Value} {fr : Nat × Nat} (h : PRow e W base v l) (hk : W.heap[k]? = some (.cells cs t fr)) (hne : t ≠ e) : ∀ g, v.ownBlock = some g → g ≠ k := by
  intro g hg hgk
  subst hgk
  rcases h.2 with ⟨rfl, _⟩ | ⟨g', cap, cur, rfl, _, hgg, _⟩
  · simp [Value.ownBlock] at hg
  · have : g' = g := by simpa [Value.ownBlock] using hg
    subst this
    rw [hk] at hgg
    injection hgg with hgg
    injection hgg with _ hgg _
    exact hne hgg
/-- what turned lasts while the loop's own blocks are turned -/
theorem ownFrom_turned {β : Type} {S : Nat → Prop} {B : Nat} {w0 : World} (hB : w0.heap.size ≤ B) : OwnFrom B (fun (_ : β) W => Turned S w0 W) :=
  fun _ _ _ _ hs hg hr => ⟨hg.os.trans hs.os, hg.tape.trans hs.tape, hg.output.trans hs.output, Nat.le_trans hs.size hg.size, fun k hk hS => (hg.block k (Nat.lt_of_lt_of_le hk hs.size) (fun e => by have := (hr k e.symm).1; omega)).trans (hs.block k hk hS)⟩

theorem Ints.turned {S : Nat → Prop} {w w' : World} {A : Option Addr} {n : Nat} {l : List Int} (h : Ints w A n l) (hT : Turned S w w') (hS : ∀ ad, A = some ad → ¬ S ad.block) : Ints w' A n l :=
  ⟨h.1, fun k hk => by
    obtain ⟨b, o, e, hl, hc⟩ := h.2 k hk
    exact ⟨b, o, e, Nat.lt_of_lt_of_le hl hT.size, (hT.cell (p := ⟨b, o + k, none⟩) hl (hS ⟨b, o, none⟩ e)).trans hc⟩⟩
/-- what holds amid 'posts = append(posts, api.Post{..})' -/
structure R9I (K4 K5 ab ap base Y Z : Nat) (dv v : Value) (acc : List (Int × Int)) (d x : Int) (L : Nat → Bool) (W : World) : Prop where
  hd : W.heap[K4]? = some (.cells #[dv] 60 (0, 0))
  hx : W.cell? ⟨ab, ap, none⟩ = some (.int .i64 d)
  hal : ab < W.heap.size
  row : L 10 = false → PRow 47 W base v acc
  hc : L 11 = false → W.heap[K5]? = some (.cells #[v] 22 (0, 0))
  fin : L 11 = true → ∃ v', W.heap[K5]? = some (.cells #[v'] 22 (0, 0)) ∧ PRow 47 W base v' (acc ++ [(d, x)]) ∧ ∀ k, v'.ownBlock = some k → k < Y ∨ Z ≤ k
def R9G (K5 ab ap base Y Z i : Nat) (dv v : Value) (acc : List (Int × Int)) (d x : Int) (k : Nat) (L : Nat → Bool) (y : Value) (W : World) : Prop :=
  match k with
  | 0 => y = v
  | 1 => y = dv
  | 2 => y = .int .i64 0
  | 3 => y = .int .i64 i
  | 4 => y = .int .i64 i
  | 5 => y = .pointer (some ⟨ab, ap, none⟩)
  | 6 => y = .int .i64 d
  | 7 => y = .int .i64 x
  | 8 => y = .agg #[.int .i64 d, .int .i64 x]
  | 9 => ∃ g, y = .slice (some ⟨g, 0, none⟩) 1 1 ∧ g ≠ K5 ∧ (L 10 = false → g < W.heap.size ∧ W.cell? ⟨g, 0, none⟩ = some (.int .i64 d) ∧ W.cell? ⟨g, 1, none⟩ = some (.int .i64 x))
  | 10 => y = .slice (slA y) (slN y) (slC y) ∧ (L 11 = false → PRow 47 W base y (acc ++ [(d, x)])) ∧ ∀ k, y.ownBlock = some k → k < Y ∨ Z ≤ k
  | _ => True
section
variable {K4 K5 ab ap base Y Z i : Nat} {dv v : Value} {acc : List (Int × Int)} {d x : Int} {L : Nat → Bool} {k : Nat} {w w' : World}
theorem R9I_keep (hk : (k == 10 || k == 11) = false) (hb : Below w.heap.size w w') (h : R9I K4 K5 ab ap base Y Z dv v acc d x L w) : R9I K4 K5 ab ap base Y Z dv v acc d x (linUp L k) w' := by
  simp at hk
  have e10 : linUp L k 10 = L 10 := linUp_at hk.1
  have e11 : linUp L k 11 = L 11 := linUp_at hk.2
  refine ⟨blk_stay hb h.hd, (hb.cell (p := ⟨ab, ap, none⟩) h.hal).trans h.hx, Nat.lt_of_lt_of_le h.hal hb.size, fun e => (h.row (by rw [← e10]; exact e)).later hb, fun e => blk_stay hb (h.hc (by rw [← e11]; exact e)), fun e => ?_⟩
  obtain ⟨v', f1, f2, f3⟩ := h.fin (by rw [← e11]; exact e)
  exact ⟨v', blk_stay hb f1, f2.later hb, f3⟩
theorem R9G_keep : ∀ (q : Nat) {y : Value}, (k == 10 || k == 11) = false → Below w.heap.size w w' → R9G K5 ab ap base Y Z i dv v acc d x q L y w → R9G K5 ab ap base Y Z i dv v acc d x q (linUp L k) y w'
  | 0, _, _, _, h => h
  | 1, _, _, _, h => h
  | 2, _, _, _, h => h
  | 3, _, _, _, h => h
  | 4, _, _, _, h => h
  | 5, _, _, _, h => h
  | 6, _, _, _, h => h
  | 7, _, _, _, h => h
  | 8, _, _, _, h => h
  | 9, _, hk, hb, h => by
    obtain ⟨g, e, hne, hc⟩ := h
    simp at hk
    refine ⟨g, e, hne, fun e7 => ?_⟩
    rw [linUp_at hk.1] at e7
    obtain ⟨h1, h2, h3⟩ := hc e7
    exact ⟨Nat.lt_of_lt_of_le h1 hb.size, (hb.cell (p := ⟨g, 0, none⟩) h1).trans h2, (hb.cell (p := ⟨g, 1, none⟩) h1).trans h3⟩
  | 10, _, hk, hb, h => ⟨h.1, fun e => by
    simp at hk
    rw [linUp_at hk.2] at e
    exact (h.2.1 e).later hb, h.2.2⟩
  | _ + 11, _, _, _, _ => trivial
theorem R9I_ten (h : R9I K4 K5 ab ap base Y Z dv v acc d x L w) (hg : w.grownBy w' v.ownBlock) (hv : ∀ g, v.ownBlock = some g → base ≤ g ∧ g ≠ K5) (hB : K4 < base ∧ ab < base) (h11 : L 11 = false) : R9I K4 K5 ab ap base Y Z dv v acc d x (linUp L 10) w' := by
  have st : ∀ {q : Nat}, q < w.heap.size → (q < base ∨ q = K5) → w'.heap[q]? = w.heap[q]? := fun hq hc => (hg.block _ hq (fun e => by
    have := hv _ e.symm
    omega))
  have lt : ∀ {q : Nat} {o : Obj}, w.heap[q]? = some o → q < w.heap.size := fun hq => (Array.getElem?_eq_some_iff.1 hq).1
  exact ⟨(st (lt h.hd) (.inl hB.1)).trans h.hd, (World.cell?_of_block (a := ⟨ab, ap, none⟩) (st h.hal (.inl hB.2))).trans h.hx, Nat.lt_of_lt_of_le h.hal hg.size, fun e => (by rw [linUp_same] at e; cases e), fun e => (st (lt (h.hc h11)) (.inr rfl)).trans (h.hc h11), fun e => (by rw [linUp_at (by omega), h11] at e; cases e)⟩
theorem R9G_ten : ∀ (q : Nat) {y : Value}, q ≠ 10 → R9G K5 ab ap base Y Z i dv v acc d x q L y w → R9G K5 ab ap base Y Z i dv v acc d x q (linUp L 10) y w'
  | 0, _, _, h => h
  | 1, _, _, h => h
  | 2, _, _, h => h
  | 3, _, _, h => h
  | 4, _, _, h => h
  | 5, _, _, h => h
  | 6, _, _, h => h
  | 7, _, _, h => h
  | 8, _, _, h => h
  | 9, _, _, h => by
    obtain ⟨g, e, hne, _⟩ := h
    exact ⟨g, e, hne, fun e7 => (by rw [linUp_same] at e7; cases e7)⟩
  | 10, _, h7, _ => absurd rfl h7
  | _ + 11, _, _, _ => trivial
theorem R9I_fin {v' : Value} (h : R9I K4 K5 ab ap base Y Z dv v acc d x L w) (hL : L 11 = false) (hrow : PRow 47 w base v' (acc ++ [(d, x)])) (hz : ∀ k, v'.ownBlock = some k → k < Y ∨ Z ≤ k) (hne : K5 ≠ K4 ∧ K5 ≠ ab) : R9I K4 K5 ab ap base Y Z dv v acc d x (linUp L 11) (w.setCell ⟨K5, 0, none⟩ v') := by
  have st : ∀ {q : Nat}, q ≠ K5 → (w.setCell ⟨K5, 0, none⟩ v').heap[q]? = w.heap[q]? := fun hc => Below.heap_setCell w _ _ _ hc
  refine ⟨(st (fun e => hne.1 e.symm)).trans h.hd, (World.cell?_of_block (a := ⟨ab, ap, none⟩) (st (fun e => hne.2 e.symm))).trans h.hx, by simpa [World.setCell] using h.hal, fun e => (h.row (by rw [linUp_at (by omega)] at e; exact e)).kept (fun g hg => st (prow_ne (h.row (by rw [linUp_at (by omega)] at e; exact e)) (h.hc hL) (by decide) g hg)), fun e => (by rw [linUp_same] at e; cases e), fun _ => ⟨v', ?_, hrow.kept (fun g hg => st (prow_ne hrow (h.hc hL) (by decide) g hg)), hz⟩⟩
  rw [heap_setCell_row (h.hc hL) 0 _]
  simp
theorem R9G_fin {v' : Value} : ∀ (q : Nat) {y : Value}, R9G K5 ab ap base Y Z i dv v acc d x q L y w → R9G K5 ab ap base Y Z i dv v acc d x q (linUp L 11) y (w.setCell ⟨K5, 0, none⟩ v')
  | 0, _, h => h
  | 1, _, h => h
  | 2, _, h => h
  | 3, _, h => h
  | 4, _, h => h
  | 5, _, h => h
  | 6, _, h => h
  | 7, _, h => h
  | 8, _, h => h
  | 9, _, h => by
    obtain ⟨g, e, hne, hc⟩ := h
    refine ⟨g, e, hne, fun e7 => ?_⟩
    rw [linUp_at (by omega)] at e7
    obtain ⟨h1, h2, h3⟩ := hc e7
    refine ⟨by simpa [World.setCell] using h1, ?_, ?_⟩
    · rw [World.cell?_setCell_other _ _ _ _ (fun e => hne (by injection e with e; exact e.symm))]; exact h2
    · rw [World.cell?_setCell_other _ _ _ _ (fun e => hne (by injection e with e; exact e.symm))]; exact h3
  | 10, _, h => ⟨h.1, fun e => (by rw [linUp_same] at e; cases e), h.2.2⟩
  | _ + 11, _, _ => trivial
end
end Go.Proofs.Ytlcmdnmifmjjgaa

/- Posts: they are read. -/
namespace Go.Proofs.Ytlcmdnmifmjjgaa
open Go.RowKit Go.Shelf

attribute [local go_sem] Oper.semAt_some

theorem made_posts (n : Nat) (hn : n ≤ 1000000) : ∃ M, (∀ w : World, (Instr.makeSlice 22 (.int .i64 0) (.int .i64 (n : Int))).run Try.prog w = .ok (.slice (some ⟨w.heap.size, 0, none⟩) 0 n) (w.alloc (.cells M 47))) ∧ ∀ (w : World) (base : Nat), base ≤ w.heap.size → PRow 47 (w.alloc (.cells M 47)) base (.slice (some ⟨w.heap.size, 0, none⟩) 0 n) [] := by
  obtain ⟨i0, hi, hz0, hz1, hz2⟩ := info_parts post_ty.info
  have h := fun w => run_make (P := Try.prog) w 22 47 i0 _ post_ty.sl hi hz0 .i64 .i64 0 (n : Int) (by omega) (by omega) (by rw [hz2]; omega) (by omega)
  rw [hz1, Int.toNat_natCast] at h
  exact ⟨_, h, fun w base hb => World.ownsRow_made w _ n hb (by simp [maxLen]; omega) (size_madeCells _ _)⟩

/-- what stands behind k rounds -/
structure RdI (W0 : World) (b K4 : Nat) (docs : List Int) (s1 : List UInt8) (bad1 : Bool) (k : Nat) (W : World) : Prop where
  hT : Turned (fun q => q = b ∨ q = K4 + 1 + 1 ∨ q = K4 + 1) W0 W
  hrd : RD W b (rdSt docs s1 bad1 k).2.1 (rdSt docs s1 bad1 k).2.2
  hv : ∃ v, W.heap[K4 + 1 + 1]? = some (.cells #[v] 22 (0, 0)) ∧ PRow 47 W (K4 + 1) v (rdSt docs s1 bad1 k).1
theorem RdI.own {W0 : World} {b K4 : Nat} {docs : List Int} {s1 : List UInt8} {bad1 : Bool} {α : Type} : OwnFrom W0.heap.size (fun (pre : List α) W => RdI W0 b K4 docs s1 bad1 pre.length W) := by
  intro s W W' row h hg hr
  have hr2 : ∀ r, row = some r → ∃ o : Obj, W.heap[r]? = some o ∧ o.isCells = false := fun r e => (hr r e).2
  obtain ⟨v, h1, h2⟩ := h.hv
  exact ⟨ownFrom_turned (β := Unit) (Nat.le_refl _) () W W' row h.hT hg hr, cells_stay h.hrd hg hr2, v, cells_stay h1 hg hr2, prow_stay h2 hg hr2⟩

set_option maxHeartbeats 4000000 in
set_option maxRecDepth 100000 in
theorem read_any (t : List UInt8) (b : Nat) (w : World) (ht : t.length ≤ 60000) (h : RD w b t false) :
    Calls Try.prog 36 #[.pointer (some ⟨b, 0, none⟩)] w fun e W' => RdEnd t e W' ∧ Turned (fun k => k = b) w W' := by
  have hbl := h.lt
  have hTot := rrising_any (w.alloc (.cells #[.pointer (some ⟨b, 0, none⟩)] 71)) b t false 2147483648 (by omega) (fun e => by cases e) (h.alloc _)
  obtain ⟨docs, hdocs⟩ : ∃ d, d = rsV 2147483648 t := ⟨_, rfl⟩
  obtain ⟨s1, hs1⟩ : ∃ d, d = rsS 2147483648 t := ⟨_, rfl⟩
  obtain ⟨bad1, hbad1⟩ : ∃ d, d = rsB 2147483648 t false := ⟨_, rfl⟩
  have hlen : docs.length + s1.length ≤ t.length ∧ (bad1 = true → s1 = []) := by
    rw [hdocs, hs1, hbad1]
    unfold rsV rsS rsB
    cases hr : PackM.rRis 2147483648 t with
    | none => simp
    | some x =>
      have hr0 := hr
      unfold PackM.rRis at hr
      cases hn : PackM.num PackM.MAXI 0 0 t with
      | none => rw [hn] at hr; cases hr
      | some y =>
        obtain ⟨m, u⟩ := y
        rw [hn] at hr
        simp only [Option.bind_some] at hr
        split at hr
        · cases hr
        · obtain ⟨l, u2⟩ := x
          have := PackM.ris_short m (-1) u l u2 hr
          have := PackM.num_short hn
          exact ⟨by simp only; omega, fun e => by cases e⟩
  have hEnd := fun k hk r hr => rdSt_end t k hk (by rw [← hdocs]; omega) r hr
  rw [← hdocs, ← hs1, ← hbad1] at hTot hEnd
  obtain ⟨n, hn⟩ : ∃ n, n = docs.length := ⟨_, rfl⟩
  rw [← hn] at hlen hEnd
  have HEND := Lib.hid hEnd
  have HN := Lib.hid hn
  have HTOT := Lib.hid hTot
  clear hdocs hs1 hbad1 hEnd hn hTot
  refine (callsIn_wide (n := 4)).1 ?_
  refine callsIn_of_wp_marks Try.func36 rfl trivial ?_ rfl
  simp only [Try.ntmps36, List.size_toArray, List.length_cons, List.length_nil, Nat.reduceAdd, Nat.reduceSub, Array.replicate_succ, Array.replicate_zero, List.push_toArray, List.append_toArray, List.nil_append, List.cons_append]
  gi_wp2
  refine ⟨trivial, ?_⟩
  refine (callsIn_wide.2 HTOT.out).mono ?_
  rintro e w1 ⟨⟨A, cp, rfl, hA, hI, hR⟩, hg⟩
  rw [← HN.out] at hI ⊢
  obtain ⟨M, hmk, hmr⟩ := made_posts n (by omega)
  gi_wp2
  refine ⟨trivial, ?_⟩
  refine (callsIn_wide.2 (pieces_any _ _ _)).mono ?_
  rintro e w' ⟨rfl, rfl⟩
  gi_wp2
  obtain ⟨W0, hW0⟩ : ∃ W0, W0 = ((((w1.alloc (.cells #[.slice A n cp] 60)).alloc (.cells M 47)).alloc (.cells #[.slice (some ⟨w1.heap.size + 1, 0, none⟩) 0 n] 22)).alloc (.cells #[.int .i64 (n : Int)] 3)).alloc (.cells #[.int .i64 65536] 3) := ⟨_, rfl⟩
  obtain ⟨K4, hK4⟩ : ∃ K4, K4 = w1.heap.size := ⟨_, rfl⟩
  have sz : W0.heap.size = K4 + 5 := by rw [hW0]; simp [hK4]
  have b0 : Below K4 w1 W0 := by rw [hW0, hK4]; exact (((((Below.refl _ _).alloc (Nat.le_refl _) _).alloc (by simp) _).alloc (by simp; omega) _).alloc (by simp; omega) _).alloc (by simp; omega) _
  have g4 : W0.heap[K4]? = some (.cells #[.slice A n cp] 60 (0, 0)) := by rw [hW0, hK4]; exact old_at (old_at (old_at (old_at (heap_alloc_new _ _))))
  have g5 : W0.heap[K4 + 1 + 1]? = some (.cells #[.slice (some ⟨K4 + 1, 0, none⟩) 0 n] 22 (0, 0)) := by rw [hW0, hK4]; exact old_at (old_at (new_at (by simp)))
  have gr : PRow 47 W0 (K4 + 1) (.slice (some ⟨K4 + 1, 0, none⟩) 0 n) [] := by
    have := hmr (w1.alloc (.cells #[.slice A n cp] 60)) (K4 + 1) (by simp [hK4])
    rw [show (w1.alloc (.cells #[.slice A n cp] 60)).heap.size = K4 + 1 by simp [hK4]] at this
    rw [hW0]
    rw [show w1.heap.size + 1 = K4 + 1 by omega]
    exact ((this.later (pl1 _ _)).later (pl1 _ _)).later (pl1 _ _)
  have gn : W0.heap[K4 + 1 + 1 + 1]? = some (.cells #[.int .i64 (n : Int)] 3 (0, 0)) := by rw [hW0, hK4]; exact old_at (new_at (by simp))
  have gs : W0.heap[K4 + 1 + 1 + 1 + 1]? = some (.cells #[.int .i64 65536] 3 (0, 0)) := by rw [hW0, hK4]; exact new_at (by simp)
  rw [← hW0, ← hK4]
  have hbK : b < w.heap.size ∧ w.heap.size + 1 ≤ K4 := ⟨hbl, by have := hg.size; simp at this; omega⟩
  have hR0 : RD W0 b s1 bad1 := (b0.block b (by omega)).trans hR
  have gB : W0.heap[w.heap.size]? = some (.cells #[.pointer (some ⟨b, 0, none⟩)] 71 (0, 0)) := by
    rw [b0.block _ (by omega), hg.block _ (by simp) (fun e => by injection e with e; omega)]
    exact heap_alloc_new _ _
  have b1 : Below w1.heap.size w1 W0 := by rw [← hK4]; exact b0
  have hI0 : Ints W0 A n docs := hI.below b1
  have hAb : ∀ ad, A = some ad → w.heap.size + 1 ≤ ad.block := fun ad e => by have := hA ad e; simpa using this
  have hAk : ∀ k, k < docs.length → ∀ bb o s, A = some ⟨bb, o, s⟩ → bb < K4 := fun k hk bb o s e => by
    obtain ⟨b', o', e', h1, _⟩ := hI.2 k hk
    rw [e] at e'
    injection e' with e'
    injection e' with e1
    omega
  have hTw : Turned (fun k => k = b) w W0 := ((((Turned.refl (fun k => k = b) w).alloc _).trans (Turned.of_grown hg rfl))).on b1
  clear hW0 hK4 hI hR b0 b1 hA hg
  have kn := cell_of_cells (i := 0) gn rfl
  have ks := cell_of_cells (i := 0) gs rfl
  have R0 : RdI W0 b K4 docs s1 bad1 0 W0 := ⟨Turned.refl _ _, hR0, _, g5, gr⟩
  obtain ⟨FR, hFR⟩ : ∃ FR : Pc n 65536 → Array Value, FR = fun x => #[.pointer (some ⟨b, 0, none⟩), .pointer (some ⟨w.heap.size, 0, none⟩), .slice none 0 0, .bool false, .pointer (some ⟨K4, 0, none⟩), .pointer (some ⟨K4 + 1 + 1, 0, none⟩), .int .i64 ((x.1 * 65536 : Nat) : Int), .int .i64 ((min (x.1 * 65536 + 65536) n : Nat) : Int), undef, undef, .pointer (some ⟨b, 0, none⟩), .slice A n cp, .slice A n cp, .int .i64 (n : Int), .slice (some ⟨K4 + 1, 0, none⟩) 0 n, .slice A n cp, .int .i64 (n : Int), .func (.func 57) #[] #[.pointer (some ⟨K4 + 1 + 1 + 1, 0, none⟩), .pointer (some ⟨K4 + 1 + 1 + 1 + 1, 0, none⟩)], .int .i64 ((x.1 * 65536 : Nat) : Int), .int .i64 ((min (x.1 * 65536 + 65536) n : Nat) : Int), undef, undef, undef, undef, undef, undef, undef, undef, undef, undef, undef, undef, undef, undef, undef, undef, undef, undef, undef, undef, undef, undef, undef, undef, undef, undef, undef, undef, undef, undef, undef, undef] := ⟨_, rfl⟩
  refine wpIn_rangeFunc_ownF (F := Fence.wide) (n := 4) rfl (by omega) (gf := 57) (lb := #[.pointer (some ⟨K4 + 1 + 1 + 1, 0, none⟩), .pointer (some ⟨K4 + 1 + 1 + 1 + 1, 0, none⟩)]) rfl trivial (enters_of Try.func57 (by kernel_rfl) rfl)
    (pieces_stops Fence.wide 3 trivial rfl (by omega) (K4 + 1 + 1 + 1) (K4 + 1 + 1 + 1 + 1) n 65536 (by omega) (by omega) (by omega) W0 kn ks)
    (fun h k => Keep2.trans h k) (fun W r o o' hr hW hc _ => Keep2.put_ (by omega) (by omega)) (Below.refl _ _) (fun _ => rfl)
    (fun pre W => RdI W0 b K4 docs s1 bad1 pre.length W)
    (fun _ _ _ => False)
    RdI.own
    (fun _ _ _ _ _ hs _ _ => hs)
    R0
    (fun x => { tmps := FR x, defers := [] }) ?assign ?body ?done ?stop
  case stop =>
    rintro D c pre W _ _ h _
    exact h.elim
  case assign =>
    rintro r ⟨x, hx⟩ W K hK
    subst hFR
    simp only [encP] at hK ⊢
    generalize x * 65536 = f at hK ⊢
    generalize min (f + 65536) n = t at hK ⊢
    gi_wp2
    exact hK
  case body =>
    rintro r pre ⟨x0, hx0⟩ W hRI hplen
    subst hFR
    obtain ⟨f, hf⟩ : ∃ f, f = x0 * 65536 := ⟨_, rfl⟩
    obtain ⟨t2, ht2⟩ : ∃ t2, t2 = min (f + 65536) n := ⟨_, rfl⟩
    simp only
    rw [← hf, ← ht2]
    obtain ⟨xx, hxx⟩ : ∃ xx : Pc n 65536, xx = ⟨x0, hx0⟩ := ⟨_, rfl⟩
    rw [← hxx]
    have hf0 : f = 0 := by omega
    have ht0 : n = t2 := by omega
    have hzn : 0 < n := by omega
    clear ht2 hf hxx hx0
    subst hf0
    subst ht0
    rw [show ((0 : Nat) : Int) = 0 from rfl]
    obtain ⟨⟨acc, s, bad⟩, hst⟩ : ∃ q, q = rdSt docs s1 bad1 pre.length := ⟨_, rfl⟩
    have hlenk := rdSt_len docs s1 bad1 (by rw [← HN.out]; omega) hlen.2 pre.length
    have hsucc : rdSt docs s1 bad1 (pre.length + 1) = (acc ++ zipD docs (fxV 16 n s bad), fxS 16 n s bad, fxB 16 n s bad) := by rw [rdSt, ← hst, HN.out]
    obtain ⟨hT, hrd, v0, hv0, hrow0⟩ := hRI
    rw [← hst] at hrd hrow0 hlenk
    simp only at hrd hrow0 hlenk
    have hfl := fx16_len n s bad (by omega)
    have hFX := rfixed_all W b s bad 16 (n : Int) (by omega) hlenk.2 hrd
    obtain ⟨vs, hvs⟩ : ∃ q, q = fxV 16 n s bad := ⟨_, rfl⟩
    obtain ⟨s2, hs2⟩ : ∃ q, q = fxS 16 n s bad := ⟨_, rfl⟩
    obtain ⟨bad2, hbad2⟩ : ∃ q, q = fxB 16 n s bad := ⟨_, rfl⟩
    rw [← hvs, ← hs2, ← hbad2] at hsucc hfl hFX
    obtain ⟨m, hm⟩ : ∃ m, m = vs.length := ⟨_, rfl⟩
    rw [← hm] at hfl
    have HSUC := Lib.hid hsucc
    have HM := Lib.hid hm
    have HFX := Lib.hid hFX
    have kB := cell_of_cells (i := 0) ((hT.block w.heap.size (by omega) (by omega)).trans gB) rfl
    have HV0 := Lib.hid (And.intro hv0 hrow0)
    have HTW := Lib.hid hTw
    have HG := Lib.hid (And.intro g4 (And.intro g5 (And.intro gr (And.intro gn (And.intro gs gB)))))
    clear hst hsucc hm hFX hvs hs2 hbad2 hv0 hrow0 R0 hR0 hTw g4 g5 gr gn gs gB kn ks hmk hmr
    gi_wp2
    refine ⟨trivial, ?_⟩
    refine (CallsIn.inRound r (callsIn_wide.2 HFX.out)).mono ?_
    rintro e W2 ⟨⟨A2, cp2, rfl, hA2, hI2, hR2⟩, hg2⟩
    rw [← HM.out] at hI2 ⊢
    clear kB
    gi_wp2
    have hW2 : W.heap.size ≤ W2.heap.size := hg2.size
    have hT2 : Turned (fun q => q = b ∨ q = K4 + 1 + 1 ∨ q = K4 + 1) W0 W2 := hT.trans (Turned.of_grown hg2 (.inl rfl))
    have hKO2 : KeepsOthers W W2 := KeepsOthers.of_grownBy hg2 (fun j o e ho => by
      injection e with e
      subst e
      rw [show W.heap[b]? = _ from hrd] at ho
      injection ho with ho
      subst ho; rfl)
    have st2 : ∀ q, q < W0.heap.size → q ≠ b → W2.heap[q]? = W.heap[q]? := fun q hq hne => hg2.block q (Nat.lt_of_lt_of_le hq hT.size) (fun e => hne (by injection e))
    have hv2 : W2.heap[K4 + 1 + 1]? = some (.cells #[v0] 22 (0, 0)) := (st2 _ (by omega) (by omega)).trans HV0.out.1
    have hrow2 : PRow 47 W2 (K4 + 1) v0 acc := HV0.out.2.kept (fun g hg => hg2.block g (World.ownsRow.lt HV0.out.2 g hg).2 (fun e => by injection e with e; have := (World.ownsRow.lt HV0.out.2 g hg).1; omega))
    have hvz0 : ∀ k, v0.ownBlock = some k → k < W.heap.size ∨ W2.heap.size ≤ k := fun k hk => .inl (World.ownsRow.lt HV0.out.2 k hk).2
    have hA2b : ∀ bb o, A2 = some ⟨bb, o, none⟩ → W.heap.size ≤ bb := fun bb o e => hA2 _ e
    have HT2 := Lib.hid (And.intro hT2 (And.intro hKO2 (And.intro hrd hT)))
    clear hT hrd hg2 hKO2 st2 hT2 hA2
    gi_loopw [26] (fun y wr => ∃ (i : Nat) (v : Value), y = .int .i64 i ∧ i ≤ m ∧ wr.heap[K4 + 1 + 1]? = some (.cells #[v] 22 (0, 0)) ∧ PRow 47 wr (K4 + 1) v (acc ++ (zipD docs vs).take i) ∧ (∀ k, v.ownBlock = some k → k < W.heap.size ∨ W2.heap.size ≤ k) ∧ Turned (fun q => q = b ∨ q = K4 + 1 + 1 ∨ q = K4 + 1) W0 wr ∧ KeepsOthers W wr ∧ RD wr b s2 bad2 ∧ Ints wr A2 m vs ∧ W2.heap.size ≤ wr.heap.size) (fun y _ => m - (intOf y).toNat)
    case atStart => exact ⟨0, v0, rfl, by omega, hv2, by simpa using hrow2, hvz0, HT2.out.1, HT2.out.2.1, hR2, hI2, Nat.le_refl _⟩
    case round =>
      obtain ⟨i, v, rfl, him, hcv, hrow, hvz, hT, hKO, hR, hI, hsz⟩ := hrel
      by_cases hlt : i < m
      · obtain ⟨b2, o2, hA2e, hb2l, hc2⟩ := hI.2 i (by rw [← HM.out]; exact hlt)
        have hb2 := hA2b b2 o2 hA2e
        obtain ⟨_, _, hA2e', hb2u, _⟩ := hI2.2 i (by rw [← HM.out]; exact hlt)
        rw [hA2e] at hA2e'
        injection hA2e' with hA2e'
        injection hA2e' with hA2e' hA2f _
        subst hA2e'
        subst hA2f
        obtain ⟨ab, ao, hAe, _, hca⟩ := hI0.2 i (by rw [← HN.out]; omega)
        have hab : ab < K4 := hAk i (by rw [← HN.out]; omega) ab ao none hAe
        have hab2 : w.heap.size + 1 ≤ ab := hAb _ hAe
        have hget : (zipD docs vs)[i]? = some (docs[i]'(by rw [← HN.out]; omega), vs[i]'(by rw [← HM.out]; exact hlt)) := by
          unfold zipD
          rw [List.getElem?_map, List.getElem?_range (by rw [← HM.out]; exact hlt)]
          simp only [Option.map_some, List.getD_eq_getElem?_getD]
          rw [List.getElem?_eq_getElem (by rw [← HN.out]; omega), List.getElem?_eq_getElem (by rw [← HM.out]; exact hlt)]
          rfl
        have hzl : (zipD docs vs).length = m := by rw [zipD_len, HM.out]
        have htk : acc ++ (zipD docs vs).take (i + 1) = acc ++ (zipD docs vs).take i ++ [(docs[i]'(by rw [← HN.out]; omega), vs[i]'(by rw [← HM.out]; exact hlt))] := by
          rw [List.take_add_one, hget, List.append_assoc]; rfl
        obtain ⟨d, hd⟩ : ∃ d, d = docs[i]'(by rw [← HN.out]; omega) := ⟨_, rfl⟩
        obtain ⟨x, hx⟩ : ∃ x, x = vs[i]'(by rw [← HM.out]; exact hlt) := ⟨_, rfl⟩
        have hcd : wr.cell? ⟨ab, ao + i, none⟩ = some (.int .i64 d) := by rw [hT.cell (p := ⟨ab, ao + i, none⟩) (show ab < W0.heap.size by omega) (show ¬ (ab = b ∨ ab = K4 + 1 + 1 ∨ ab = K4 + 1) by omega), hca, hd]
        rw [← hx] at hc2
        rw [← hd, ← hx] at htk
        have hd4 := (hT.block K4 (by omega) (by omega)).trans HG.out.1
        obtain ⟨acc', hacc⟩ : ∃ q, q = acc ++ (zipD docs vs).take i := ⟨_, rfl⟩
        rw [← hacc] at hrow htk
        have hal : acc'.length ≤ 1000000000 := by
          rw [hacc, List.length_append, List.length_take]
          omega
        have hvb : ∀ g, v.ownBlock = some g → K4 + 1 ≤ g ∧ g ≠ K4 + 1 + 1 := fun g hg => ⟨(World.ownsRow.lt hrow g hg).1, prow_ne hrow hcv (by decide) g hg⟩
        have hvn : ∀ g, v.ownBlock = some g → g ≠ K4 + 1 + 1 + 1 ∧ g ≠ K4 + 1 + 1 + 1 + 1 := fun g hg => ⟨prow_ne hrow ((hT.block _ (by omega) (by omega)).trans HG.out.2.2.2.1) (by decide) g hg, prow_ne hrow ((hT.block _ (by omega) (by omega)).trans HG.out.2.2.2.2.1) (by decide) g hg⟩
        have hle : K4 + 1 ≤ wr.heap.size := by have := hT.size; omega
        have hle5 : K4 + 5 ≤ wr.heap.size := by have := hT.size; omega
        have hS9 : ∀ g, v.ownBlock = some g → (fun k => k = K4 + 1 + 1 ∨ v.ownBlock = some k) g := fun g hg => .inr hg
        have hB : K4 < K4 + 1 ∧ ab < K4 + 1 := by omega
        have hne : K4 + 1 + 1 ≠ K4 ∧ K4 + 1 + 1 ≠ ab := by omega
        have hin : i < n := by omega
        have hinI : (i : Int) < (n : Int) := by omega
        have hwi : IntKind.i64.wrap (i : Int) = (i : Int) := by rw [IntKind.wrap_i64]; omega
        have hnb : (n : Int) ≤ 60000 := by omega
        have hmi : (i : Int) < (m : Int) := by omega
        have HH := Lib.hid htk
        clear hd hx htk hacc hget hzl hca
        subst hA2e
        subst hAe
        gi_wp2
        refine wpIn_region_lin (ds := [31, 32, 33, 34, 35, 36, 37, 38, 39, 40, 41]) (by kernel_rfl) (by kernel_rfl) (by rintro ⟨a', w', h⟩; exact h) (by kernel_rfl) (by kernel_rfl) (fun k => k = K4 + 1 + 1 ∨ v.ownBlock = some k) (fun k => k == 10 || k == 11)
          (R9I K4 (K4 + 1 + 1) ab (ao + i) (K4 + 1) W.heap.size W2.heap.size (.slice (some ⟨ab, ao, none⟩) n cp) v acc' d x) (R9G (K4 + 1 + 1) ab (ao + i) (K4 + 1) W.heap.size W2.heap.size i (.slice (some ⟨ab, ao, none⟩) n cp) v acc' d x) ⟨hd4, hcd, (show ab < wr.heap.size by omega), fun _ => hrow, fun _ => hcv, fun e => by cases e⟩ (fun L k w1 w2 hk hb h => R9I_keep hk hb h) (fun i L k v w1 w2 hk hb h => R9G_keep i hk hb h) ?_ ?_
        · intro l' HL'
          refine LinSteps.cons (fun f L w1 hT hI hsh hL hd K hK => ?_) ?_
          · have h11 : L 11 = false := hsh.late 0 hL [10, 0] 11 (by rw [HL'.out]; kernel_rfl) rfl
            have kk := cell_of_cells (i := 0) (hI.hc h11) rfl
            simp only [linFill, List.foldl_cons, List.foldl_nil, Act.put, List.setIfInBounds_toArray, List.set_cons_zero, List.set_cons_succ] at hK ⊢
            go_simp
            exact hK.out _ _ hT (.inl ⟨rfl, Below.refl _ _⟩) rfl
          refine LinSteps.cons (fun f L w1 hT hI hsh hL hd K hK => ?_) ?_
          · have kk := cell_of_cells (i := 0) hI.hd rfl
            simp only [linFill, List.foldl_cons, List.foldl_nil, Act.put, List.setIfInBounds_toArray, List.set_cons_zero, List.set_cons_succ] at hK ⊢
            go_simp
            exact hK.out _ _ hT (.inl ⟨rfl, Below.refl _ _⟩) rfl
          refine LinSteps.cons (fun f L w1 hT hI hsh hL hd K hK => ?_) ?_
          · simp only [linFill, List.foldl_cons, List.foldl_nil, Act.put, List.setIfInBounds_toArray, List.set_cons_zero, List.set_cons_succ] at hK ⊢
            go_simp
            exact hK.out _ _ hT (.inl ⟨rfl, Below.refl _ _⟩) rfl
          refine LinSteps.cons (fun f L w1 hT hI hsh hL hd K hK => ?_) ?_
          · simp only [linFill, List.foldl_cons, List.foldl_nil, Act.put, List.setIfInBounds_toArray, List.set_cons_zero, List.set_cons_succ] at hK ⊢
            go_simp
            exact hK.out _ _ hT (.inl ⟨rfl, Below.refl _ _⟩) rfl
          refine LinSteps.cons (fun f L w1 hT hI hsh hL hd K hK => ?_) ?_
          · have d2 : f 33 = .int .i64 0 := hd 2 33 (by rw [HL'.out]; kernel_rfl) (by rw [HL'.out]; kernel_rfl)
            have d3 : f 34 = .int .i64 (i : Nat) := hd 3 34 (by rw [HL'.out]; kernel_rfl) (by rw [HL'.out]; kernel_rfl)
            simp only [linFill, List.foldl_cons, List.foldl_nil, Act.put, List.setIfInBounds_toArray, List.set_cons_zero, List.set_cons_succ, d2, d3] at hK ⊢
            clear d2 d3
            go_simp
            exact hK.out _ _ hT (.inl ⟨rfl, Below.refl _ _⟩) rfl
          refine LinSteps.cons (fun f L w1 hT hI hsh hL hd K hK => ?_) ?_
          · have d1 : f 32 = .slice (some ⟨ab, ao, none⟩) n cp := hd 1 32 (by rw [HL'.out]; kernel_rfl) (by rw [HL'.out]; kernel_rfl)
            have d4 : f 35 = .int .i64 (i : Nat) := hd 4 35 (by rw [HL'.out]; kernel_rfl) (by rw [HL'.out]; kernel_rfl)
            simp only [linFill, List.foldl_cons, List.foldl_nil, Act.put, List.setIfInBounds_toArray, List.set_cons_zero, List.set_cons_succ, d1, d4] at hK ⊢
            clear d1 d4
            go_simp
            exact hK.out _ _ hT (.inl ⟨rfl, Below.refl _ _⟩) rfl
          refine LinSteps.cons (fun f L w1 hT hI hsh hL hd K hK => ?_) ?_
          · have d5 : f 36 = .pointer (some ⟨ab, ao + i, none⟩) := hd 5 36 (by rw [HL'.out]; kernel_rfl) (by rw [HL'.out]; kernel_rfl)
            have kk := hI.hx
            simp only [linFill, List.foldl_cons, List.foldl_nil, Act.put, List.setIfInBounds_toArray, List.set_cons_zero, List.set_cons_succ, d5] at hK ⊢
            clear d5
            go_simp
            exact hK.out _ _ hT (.inl ⟨rfl, Below.refl _ _⟩) rfl
          refine LinSteps.cons (fun f L w1 hT hI hsh hL hd K hK => ?_) ?_
          · simp only [linFill, List.foldl_cons, List.foldl_nil, Act.put, List.setIfInBounds_toArray, List.set_cons_zero, List.set_cons_succ] at hK ⊢
            go_simp
            exact hK.out _ _ hT (.inl ⟨rfl, Below.refl _ _⟩) rfl
          refine LinSteps.cons (fun f L w1 hT hI hsh hL hd K hK => ?_) ?_
          · have d6 : f 37 = .int .i64 d := hd 6 37 (by rw [HL'.out]; kernel_rfl) (by rw [HL'.out]; kernel_rfl)
            have d7 : f 38 = .int .i64 x := hd 7 38 (by rw [HL'.out]; kernel_rfl) (by rw [HL'.out]; kernel_rfl)
            simp only [linFill, List.foldl_cons, List.foldl_nil, Act.put, List.setIfInBounds_toArray, List.set_cons_zero, List.set_cons_succ, d6, d7] at hK ⊢
            clear d6 d7
            go_simp
            exact hK.out _ _ hT (.inl ⟨rfl, Below.refl _ _⟩) rfl
          refine LinSteps.cons (fun f L w1 hT hI hsh hL hd K hK => ?_) ?_
          · have d8 : f 39 = .agg #[.int .i64 d, .int .i64 x] := hd 8 39 (by rw [HL'.out]; kernel_rfl) (by rw [HL'.out]; kernel_rfl)
            simp only [linFill, List.foldl_cons, List.foldl_nil, Act.put, List.setIfInBounds_toArray, List.set_cons_zero, List.set_cons_succ, d8] at hK ⊢
            clear d8
            go_simp
            exact hK.out _ _ (hT.alloc _) (.inl ⟨rfl, pl1 _ _⟩) ⟨_, rfl, (by have hs9 : wr.heap.size ≤ w1.heap.size := hT.size; have := hle5; omega), fun _ => ⟨by simp, by go_simp, by go_simp⟩⟩
          refine LinSteps.cons (fun f L w1 hT hI hsh hL hd K hK => ?_) ?_
          · have d0 : f 31 = v := hd 0 31 (by rw [HL'.out]; kernel_rfl) (by rw [HL'.out]; kernel_rfl)
            have d9 : ∃ g, f 40 = .slice (some ⟨g, 0, none⟩) 1 1 ∧ g ≠ (K4 + 1 + 1) ∧ (L 10 = false → g < w1.heap.size ∧ w1.cell? ⟨g, 0, none⟩ = some (.int .i64 d) ∧ w1.cell? ⟨g, 1, none⟩ = some (.int .i64 x)) := hd 9 40 (by rw [HL'.out]; kernel_rfl) (by rw [HL'.out]; kernel_rfl)
            have h11 : L 11 = false := hsh.late 10 hL [10] 11 (by rw [HL'.out]; kernel_rfl) rfl
            obtain ⟨g, hge, _, hgc⟩ := d9
            obtain ⟨hg1, hg2, hg3⟩ := hgc hL
            simp only [linFill, List.foldl_cons, List.foldl_nil, Act.put, List.setIfInBounds_toArray, List.set_cons_zero, List.set_cons_succ, d0, hge] at hK ⊢
            clear d0
            rw [if_pos (by rfl)]
            refine wp_append_p2 post_ty _ _ rfl (K4 + 1) v acc' rfl (hI.row hL) (Nat.le_trans hle hT.size) g 1 (d, x) rfl hg2 hg3 (by omega) ?_
            intro v' w2 hown hg hwh
            exact hK.out _ _ (hT.trans (turned_of_own hg hS9)) (.inr ⟨R9I_ten hI hg hvb hB h11, fun j d hj _ h => R9G_ten j (fun e => by subst e; rw [hL] at hj; cases hj) h⟩) ⟨hown.shape, fun _ => hown, fun k hk => by
              rcases hwh k hk with h | h
              · exact hvz k h
              · exact .inr (Nat.le_trans (Nat.le_trans hsz hT.size) h)⟩
          refine LinSteps.cons (fun f L w1 hT hI hsh hL hd K hK => ?_) ?_
          · have d10 : f 41 = .slice (slA (f 41)) (slN (f 41)) (slC (f 41)) ∧ (L 11 = false → PRow 47 w1 (K4 + 1) (f 41) (acc' ++ [(d, x)])) ∧ ∀ k, (f 41).ownBlock = some k → k < W.heap.size ∨ W2.heap.size ≤ k := hd 10 41 (by rw [HL'.out]; kernel_rfl) (by rw [HL'.out]; kernel_rfl)
            have hv' := d10.1
            have hrow := d10.2.1 hL
            have hz := d10.2.2
            clear d10
            generalize slA (f 41) = A' at hv'
            generalize slN (f 41) = mm at hv'
            generalize slC (f 41) = cap' at hv'
            rw [hv'] at hrow hz
            have hb1 := hI.hc hL
            have kk := cell_of_cells (i := 0) hb1 rfl
            have ff := frozen_of_cells (i := 0) hb1
            simp only [linFill, List.foldl_cons, List.foldl_nil, Act.put, List.setIfInBounds_toArray, List.set_cons_zero, List.set_cons_succ, hv'] at hK ⊢
            go_simp
            exact hK.out undef _ (hT.put_ (.inl (.inl rfl)) _ _) (.inr ⟨R9I_fin hI hL hrow hz hne, fun j d _ _ h => R9G_fin j h⟩) trivial
          exact LinSteps.nil
        · intro l' HL' f9 L9 w4 hT9 hI9 hall9 hf9
          obtain ⟨v', z1, z2, z3⟩ := hI9.fin (hall9 11 (by decide))
          clear hf9
          simp only [linFill, List.foldl_cons, List.foldl_nil, List.setIfInBounds_toArray, List.set_cons_zero, List.set_cons_succ]
          gi_wp2
          have htk := HH.out
          have hnS : ∀ q, q < W0.heap.size → ¬ (q = b ∨ q = K4 + 1 + 1 ∨ q = K4 + 1) → ¬ (q = K4 + 1 + 1 ∨ v.ownBlock = some q) := fun q hq hn h => by
            rcases h with h | h
            · omega
            · have h1 := hvb q h
              have h2 := hvn q h
              omega
          have hT4 : Turned (fun q => q = b ∨ q = K4 + 1 + 1 ∨ q = K4 + 1) W0 w4 := ⟨hT9.os.trans hT.os, hT9.tape.trans hT.tape, hT9.output.trans hT.output, Nat.le_trans hT.size hT9.size, fun k hk hs => (hT9.block k (Nat.lt_of_lt_of_le hk hT.size) (hnS k hk hs)).trans (hT.block k hk hs)⟩
          have hK9 : KeepsOthers wr w4 := (KeepsOthers.drew wr).trans (Turned.others hT9 (fun k o h ho => by
            rcases h with h | h
            · rw [h] at ho
              rw [show wr.drew.heap[K4 + 1 + 1]? = wr.heap[K4 + 1 + 1]? from rfl, hcv] at ho
              injection ho with ho
              subst ho; rfl
            · rcases hrow.2 with ⟨e, _⟩ | ⟨g, cap, cur, e, _, hgg, _⟩
              · rw [e] at h; simp [Value.ownBlock] at h
              · rw [e] at h
                have h' : g = k := by simpa [Value.ownBlock] using h
                subst h'
                rw [show wr.drew.heap[g]? = wr.heap[g]? from rfl, hgg] at ho
                injection ho with ho
                subst ho; rfl))
          go_roundw
          case rel => exact ⟨i + 1, v', by go_num, by omega, z1, by rw [htk]; exact z2, z3, hT4, hKO.trans hK9, (hT9.block b (show b < wr.heap.size by omega) (fun h => by
            rcases h with h | h
            · omega
            · have := (hvb b h).1; omega)).trans hR, Ints.turned (w := wr.drew) hI hT9 (fun ad e => by
              injection e with e
              subst e
              intro h
              rcases h with h | h
              · have hW : W0.heap.size ≤ W.heap.size := HT2.out.2.2.2.size
                have h' : b2 = K4 + 1 + 1 := h
                omega
              · have := hvz b2 h
                omega), Nat.le_trans hsz hT9.size⟩
          case measure => simp [intOf]; omega
      · have hmi : (m : Int) ≤ (i : Int) := by omega
        obtain rfl : i = m := by omega
        clear hlt him
        gi_wp2
        refine ⟨hKO, ⟨(hT.block _ (by omega) (by omega)).trans (HT2.out.2.2.2.block _ (by omega) (by omega)).symm, (hT.block _ (by omega) (by omega)).trans (HT2.out.2.2.2.block _ (by omega) (by omega)).symm⟩, ?_⟩
        rw [List.take_of_length_le (by rw [zipD_len, HM.out]; exact Nat.le_refl _)] at hrow
        rw [List.length_append, List.length_cons, List.length_nil]
        exact ⟨hT, by rw [HSUC.out]; exact hR, v, hcv, by rw [HSUC.out]; exact hrow⟩
  case done =>
    rintro D xs W hD ⟨k, hk1, hk2⟩ ⟨hT, hrd, v, hcv, hrow⟩ hK
    have hkl : xs.length = k := pcNo_len hk1
    have hkn : k = if n = 0 then 0 else 1 := by
      by_cases h0 : n = 0
      · rw [if_pos h0]
        cases xs with
        | nil => simpa using hkl.symm
        | cons x _ => have := x.2; omega
      · rw [if_neg h0]
        rcases Nat.lt_or_ge k 2 with h | h
        · omega
        · have hm : 1 ∈ pcNo xs := by rw [hk1, List.mem_range]; omega
          unfold pcNo at hm
          obtain ⟨x, _, hx⟩ := List.mem_map.1 hm
          have := x.2
          omega
    rw [hkl] at hrd hrow
    obtain ⟨⟨acc, s, bad⟩, hst⟩ : ∃ q, q = rdSt docs s1 bad1 k := ⟨_, rfl⟩
    have hcase := HEND.out k hkn _ hst
    have hlenk := rdSt_len docs s1 bad1 (by rw [← HN.out]; omega) hlen.2 k
    rw [← hst] at hrd hrow hlenk
    simp only at hrd hrow hlenk hcase
    have hP := hrow.prd
    have hal : acc.length ≤ 1000000 := by omega
    have k5 := cell_of_cells (i := 0) hcv rfl
    have kB := cell_of_cells (i := 0) ((hT.block w.heap.size (by omega) (by omega)).trans gB) rfl
    have hbad : ∀ q, Calls Try.prog 51 #[.pointer (some ⟨b, 0, none⟩)] (W.drewN q) fun e w' => e = .returned (.bool bad) ∧ w' = W.drewN q := fun q => (rbad_any (W.drewN q) b s bad hrd).mono (fun _ _ h => ⟨h.1, h.2.symm⟩)
    have hleft : ∀ q, Calls Try.prog 52 #[.pointer (some ⟨b, 0, none⟩)] (W.drewN q) fun e w' => e = .returned (.int .i64 (s.length : Nat)) ∧ w' = W.drewN q := fun q => (rleft_any (W.drewN q) b s bad hrd).mono (fun _ _ h => ⟨h.1, h.2.symm⟩)
    obtain ⟨ns, hns⟩ : ∃ ns, ns = s.length := ⟨_, rfl⟩
    rw [← hns] at hleft hcase hlenk
    have HTS : Hid (w.heap.size ≤ D) := Lib.hid (by have := hTw.size; omega)
    have HBAD := Lib.hid hbad
    have HLEFT := Lib.hid hleft
    have hTT : Turned (fun q => q = b) w W := ⟨hT.os.trans hTw.os, hT.tape.trans hTw.tape, hT.output.trans hTw.output, Nat.le_trans hTw.size hT.size, fun q hq hs => (hT.block q (Nat.lt_of_lt_of_le hq hTw.size) (by rintro (h | h | h) <;> omega)).trans (hTw.block q hq hs)⟩
    have HH := Lib.hid (And.intro hTT (And.intro hrow (And.intro hcase hal)))
    clear hbad hleft hTT hP hcase hk1 hk2 hkl hkn hst hrd hrow hns R0 hR0 hTw g4 g5 gr gn gs gB kn ks hmk hmr hI0 hAb hAk
    subst hFR
    gi_upto_region 11 with fail
    refine wpIn_wide.2 ?_
    cases bad with
    | true =>
      go_quiet ((first | (go_at_call 51; exact Calls.quiet_of_same (HBAD.out _))))
      gi_wp2
      refine ⟨by simp, .inl ⟨_, _, rfl, run_takeDeferred (show (W.drewN nq).heap[D]? = some (.deferred (some [])) from hK), ?_⟩⟩
      have hg := grownBy_putObj' (W.drewN nq) D (.deferred none)
      have hr : ∀ r, some D = some r → ∃ o : Obj, (W.drewN nq).heap[r]? = some o ∧ o.isCells = false := fun r e => by cases e; exact ⟨_, hK, rfl⟩
      obtain ⟨hTT, hrow, hcase, hal⟩ := HH.out
      refine ⟨_, results_tmp2 rfl _ _ _, ⟨v, false, acc, rfl, (prow_stay (W := W.drewN nq) hrow hg hr).prd, hal, ?_⟩, ⟨hg.os.trans hTT.os, hg.tape.trans hTT.tape, hg.output.trans hTT.output, Nat.le_trans hTT.size hg.size, fun q hq hs => (hg.block q (Nat.lt_of_lt_of_le hq hTT.size) (fun e => by injection e with e; have := HTS.out; omega)).trans (hTT.block q hq hs)⟩⟩
      exact .inr ⟨rfl, hcase.elim (fun h => by cases h.1) (fun h => h.2)⟩
    | false =>
      by_cases h0 : ns = 0
      · have hd0 : decide ((ns : Int) = 0) = true := decide_eq_true (by omega)
        have hn0 : (ns : Int) = 0 := by omega
        go_quiet ((first | (go_at_call 51; exact Calls.quiet_of_same (HBAD.out _)) | (go_at_call 52; exact Calls.quiet_of_same (HLEFT.out _))))
        gi_wp2
        refine ⟨by simp, .inl ⟨_, _, rfl, run_takeDeferred (show (W.drewN nq).heap[D]? = some (.deferred (some [])) from hK), ?_⟩⟩
        have hg := grownBy_putObj' (W.drewN nq) D (.deferred none)
        have hr : ∀ r, some D = some r → ∃ o : Obj, (W.drewN nq).heap[r]? = some o ∧ o.isCells = false := fun r e => by cases e; exact ⟨_, hK, rfl⟩
        obtain ⟨hTT, hrow, hcase, hal⟩ := HH.out
        refine ⟨_, results_tmp2 rfl _ _ _, ⟨v, true, acc, rfl, (prow_stay (W := W.drewN nq) hrow hg hr).prd, hal, ?_⟩, ⟨hg.os.trans hTT.os, hg.tape.trans hTT.tape, hg.output.trans hTT.output, Nat.le_trans hTT.size hg.size, fun q hq hs => (hg.block q (Nat.lt_of_lt_of_le hq hTT.size) (fun e => by injection e with e; have := HTS.out; omega)).trans (hTT.block q hq hs)⟩⟩
        exact .inl ⟨rfl, hcase.elim (fun h => h.2.2) (fun h => h.1.elim (fun e => by cases e) (fun e => absurd h0 e))⟩
      · have hd0 : decide ((ns : Int) = 0) = false := decide_eq_false (by omega)
        have hn0 : ¬ (ns : Int) = 0 := by omega
        have hb0 : ((ns : Int) == 0) = false := by simpa using h0
        go_quiet ((first | (go_at_call 51; exact Calls.quiet_of_same (HBAD.out _)) | (go_at_call 52; exact Calls.quiet_of_same (HLEFT.out _))))
        gi_wp2
        refine ⟨by simp, .inl ⟨_, _, rfl, run_takeDeferred (show (W.drewN nq).heap[D]? = some (.deferred (some [])) from hK), ?_⟩⟩
        have hg := grownBy_putObj' (W.drewN nq) D (.deferred none)
        have hr : ∀ r, some D = some r → ∃ o : Obj, (W.drewN nq).heap[r]? = some o ∧ o.isCells = false := fun r e => by cases e; exact ⟨_, hK, rfl⟩
        obtain ⟨hTT, hrow, hcase, hal⟩ := HH.out
        refine ⟨_, results_tmp2 rfl _ _ _, ⟨v, false, acc, rfl, (prow_stay (W := W.drewN nq) hrow hg hr).prd, hal, ?_⟩, ⟨hg.os.trans hTT.os, hg.tape.trans hTT.tape, hg.output.trans hTT.output, Nat.le_trans hTT.size hg.size, fun q hq hs => (hg.block q (Nat.lt_of_lt_of_le hq hTT.size) (fun e => by injection e with e; have := HTS.out; omega)).trans (hTT.block q hq hs)⟩⟩
        exact .inr ⟨rfl, hcase.elim (fun h => absurd h.2.1 h0) (fun h => h.2)⟩
end Go.Proofs.Ytlcmdnmifmjjgaa

/- Bits that are turned one by one: plain mathematics, no condition. -/
namespace CrcM

theorem err_succ (at_ turn i p : Nat) : err at_ turn (i + 1) p = (err at_ turn i p ^^ (decide (p = at_ + i) && turn.testBit i)) := by
  unfold err
  by_cases e : p = at_ + i
  · subst e
    have a : at_ + i - at_ = i := by omega
    simp [a]
  · by_cases l : p < at_ + i
    · have l' : p < at_ + (i + 1) := by omega
      simp [e, l, l']
    · have l' : ¬ p < at_ + (i + 1) := by omega
      simp [e, l, l']

theorem flip_no {at_ turn i : Nat} {t l : List UInt8} (h : Flipped at_ turn i t l) (hb : turn.testBit i = false) : Flipped at_ turn (i + 1) t l := by
  refine ⟨h.1, fun j k hj hk => ?_⟩
  rw [h.2 j k hj hk, err_succ, hb, Bool.and_false, Bool.xor_false]

def turnAt (l : List UInt8) (q : Nat) : UInt8 := l.getD (q / 8) 0 ^^^ UInt8.ofNat (2 ^ (q % 8))

theorem turnAt_bit (l : List UInt8) (q k : Nat) : (turnAt l q).toNat.testBit k = ((l.getD (q / 8) 0).toNat.testBit k ^^ decide (q % 8 = k)) := by
  unfold turnAt
  have hp : 2 ^ (q % 8) < 256 := by
    calc 2 ^ (q % 8) < 2 ^ 8 := Nat.pow_lt_pow_right (by decide) (by omega)
      _ = 256 := by decide
  rw [UInt8.toNat_xor, Nat.testBit_xor, UInt8.toNat_ofNat', Nat.mod_eq_of_lt (by exact hp), Nat.testBit_two_pow]

theorem flip_yes {at_ turn i : Nat} {t l : List UInt8} (h : Flipped at_ turn i t l) (hb : turn.testBit i = true) :
    Flipped at_ turn (i + 1) t (l.set ((at_ + i) / 8) (turnAt l (at_ + i))) := by
  refine ⟨by rw [List.length_set, h.1], fun j k hj hk => ?_⟩
  rw [err_succ, hb, Bool.and_true, ← Bool.xor_assoc, ← h.2 j k hj hk]
  have hjl : j < l.length := by rw [h.1]; exact hj
  by_cases e : (at_ + i) / 8 = j
  · have e1 : (l.set ((at_ + i) / 8) (turnAt l (at_ + i))).getD j 0 = turnAt l (at_ + i) := by
      subst e
      simp [hjl]
    rw [e1, turnAt_bit l _ k, e]
    congr 1
    rw [decide_eq_decide]
    omega
  · have e1 : (l.set ((at_ + i) / 8) (turnAt l (at_ + i))).getD j 0 = l.getD j 0 := by
      simp [e]
    have e2 : decide (8 * j + k = at_ + i) = false := decide_eq_false (by omega)
    rw [e1, e2, Bool.xor_false]

theorem mod_step (turn i : Nat) : turn % 2 ^ (i + 1) = turn % 2 ^ i + 2 ^ i * (turn / 2 ^ i % 2) := by
  rw [Nat.pow_succ, Nat.mod_mul]

theorem bit_of (turn i : Nat) : turn.testBit i = decide (turn / 2 ^ i % 2 = 1) := Nat.testBit_eq_decide_div_mod_eq

def flag (turn k : Nat) : Bool := decide (turn % 2 ^ k ≠ 0)
theorem flag_zero (turn : Nat) : flag turn 0 = false := by simp [flag, Nat.mod_one]
theorem turned_no (turn i : Nat) (h : turn / 2 ^ i % 2 = 0) : flag turn (i + 1) = flag turn i := by
  unfold flag
  rw [mod_step, h, Nat.mul_zero, Nat.add_zero]
theorem turned_yes (turn i : Nat) (h : turn / 2 ^ i % 2 = 1) : flag turn (i + 1) = true := by
  unfold flag
  rw [mod_step, h, Nat.mul_one]
  have := Nat.two_pow_pos i
  simp
theorem sealed_length (l : List UInt8) : (sealed l).length = l.length + 4 := by simp [sealed, le4]
end CrcM

/- Posts: Parse; what was printed is parsed. -/
namespace Go.Proofs.Ytlcmdnmifmjjgaa
open Go.RowKit

theorem parse_any (x : List UInt8) (w : World) (hx : x.length ≤ 60000) :
    Calls Try.prog 17 #[.string (ofBytes x)] w fun e w' => PaEnd w x e w' ∧ Below w.heap.size w w' :=
  parse_walk x w hx (fun W b _ hR => read_any _ b W (by
    have hz : (ofBytes (x.take (x.length - 4))).data.toList.length ≤ x.length := by rw [ofBytes_list, List.length_take]; omega
    unfold openV
    split
    · simp
    · split
      · omega
      · simp) hR)
theorem parA_seal_ok (t : List UInt8) : openC (CrcM.sealed t) = 0 ∧ (openV (CrcM.sealed t)).data.toList = t := by
  have hl : (CrcM.sealed t).length = t.length + 4 := CrcM.sealed_length t
  have ht : (CrcM.sealed t).take ((CrcM.sealed t).length - 4) = t := by
    rw [hl, Nat.add_sub_cancel]
    unfold CrcM.sealed
    rw [List.take_left]
  unfold openC openV
  have h4 : ¬ (CrcM.sealed t).length < 4 := by omega
  rw [if_neg h4, if_neg h4, ht, if_pos rfl, if_pos rfl, ofBytes_list]
  exact ⟨rfl, rfl⟩
theorem parA_print (l : List (Int × Int)) (h : PostM.rightL l = true) (hl : l.length ≤ 300) : parA (printB l) = (some l, 0) := by
  obtain ⟨h1, h2⟩ := parA_seal_ok (risS (docsL l) ++ fixS 16 (wtsL l))
  exact parA_good h1 (by rw [show (openV (printB l)).data.toList = _ from h2]; exact rd_print l h hl) h
theorem printB_len (l : List (Int × Int)) (h : PostM.rightL l = true) (hl : l.length ≤ 300) : (printB l).length ≤ 60000 := by
  have h1 := risS_len (docsL l) (by simp [docsL]; omega) (docs_64 h)
  have h2 := fixS_len 16 (wtsL l) (by simp [wtsL]; omega)
  unfold printB
  rw [CrcM.sealed_length, List.length_append]
  omega
end Go.Proofs.Ytlcmdnmifmjjgaa

/- Posts: the first block that isn't behind. -/
namespace Go.Proofs.Ytlcmdnmifmjjgaa
open Go.RowKit

theorem below_drewN_p (w : World) : ∀ n, Below w.heap.size w (w.drewN n)
  | 0 => Below.refl _ _
  | n + 1 => (below_drewN_p w n).drew
/-- i is the first place at which g is doc or greater, of m -/
def Fst (g : Nat → Int) (m : Nat) (doc : Int) (i : Nat) : Prop := i ≤ m ∧ (∀ k, k < i → g k < doc) ∧ (i < m → doc ≤ g i)

set_option maxHeartbeats 1000000 in
set_option maxRecDepth 100000 in
theorem search_any (K m : Nat) (x1 x2 : Value) (g : Nat → Int) (doc : Int) (w : World) (hm : m ≤ 1000000) (hmono : ∀ a b, a ≤ b → b < m → g a ≤ g b)
    (hf : ∀ W, Below w.heap.size w W → ∀ i : Nat, i < m → Calls Try.prog K #[.int .i64 (i : Int), x1, x2] W fun e w' => e = .returned (.bool (decide (doc ≤ g i))) ∧ Below W.heap.size W w') (hE : ∀ args W, (callFunc K args).run Try.prog W = .ok (.enter K args) W) :
    Calls Try.prog 55 #[.int .i64 (m : Int), .func (.func K) #[] #[x1, x2]] w fun e w' => (∃ i : Nat, e = .returned (.int .i64 (i : Int)) ∧ Fst g m doc i) ∧ Below w.heap.size w w' := by
  have HF := Lib.hid hf
  have HM := Lib.hid hmono
  clear hf hmono
  go_enter Try.func55, Try.ntmps55
  go_wp2
  go_loopw [5, 6] (fun x y wr => ∃ i j : Nat, x = .int .i64 i ∧ y = .int .i64 j ∧ i ≤ j ∧ j ≤ m ∧ (∀ k, k < i → g k < doc) ∧ (∀ k, j ≤ k → k < m → doc ≤ g k) ∧ Below w.heap.size w wr) (fun x y _ => (intOf y - intOf x).toNat)
  case atStart => exact ⟨0, m, rfl, rfl, by omega, by omega, fun k hk => by omega, fun k h1 h2 => by omega, Below.refl _ _⟩
  case round =>
    obtain ⟨i, j, rfl, rfl, hij, hjm, hlo, hhi, hb⟩ := hrel
    have HLO := Lib.hid hlo
    have HHI := Lib.hid hhi
    clear hlo hhi
    by_cases hlt : i < j
    · obtain ⟨h, hh⟩ : ∃ h, h = (i + j) / 2 := ⟨_, rfl⟩
      have hhi2 : ((i : Int) + (j : Int)) / 2 = (h : Int) := by omega
      have hhl : i ≤ h ∧ h < j := by omega
      have hcall := HF.out _ hb h (by omega)
      obtain ⟨hl1, hl2⟩ := hhl
      obtain ⟨t, ht⟩ : ∃ t, t = decide (doc ≤ g h) := ⟨_, rfl⟩
      rw [← ht] at hcall
      have HT := Lib.hid ht
      have HC := Lib.hid hcall
      have HH := Lib.hid hh
      clear ht hcall hh
      go_wp2_with fail
      refine HC.out.mono ?_
      rintro e W1 ⟨rfl, hb1⟩
      have hb2 := hb.trans (hb1.mono hb.size)
      cases t with
      | true =>
        have hge : doc ≤ g h := of_decide_eq_true HT.out.symm
        have HN : Hid (∀ k, h ≤ k → k < m → doc ≤ g k) := Lib.hid (fun k h1 h2 => Int.le_trans hge (HM.out h k h1 h2))
        clear hge
        go_wp2
        go_roundw
        case rel => exact ⟨i, h, rfl, rfl, hl1, by omega, HLO.out, HN.out, hb2⟩
        case measure => simp [intOf]; omega
      | false =>
        have hge : ¬ doc ≤ g h := of_decide_eq_false HT.out.symm
        have HN : Hid (∀ k, k < h + 1 → g k < doc) := Lib.hid (fun k h1 => by
          have := HM.out k h (by omega) (by omega)
          omega)
        clear hge
        go_wp2
        go_roundw
        case rel => exact ⟨h + 1, j, by go_num, rfl, by omega, hjm, HN.out, HHI.out, hb2⟩
        case measure => simp [intOf]; omega
    · have hie : i = j := by omega
      subst hie
      go_wp2
      go_ret
      exact ⟨⟨i, rfl, hjm, HLO.out, fun hi => HHI.out i (Nat.le_refl _) hi⟩, hb⟩

set_option maxHeartbeats 1000000 in
set_option maxRecDepth 100000 in
theorem fb1_any (i x1 x2 q : Nat) (A : Option Addr) (m c : Nat) (B : List (Int × Int)) (doc : Int) (w : World) (hP : Prd w (.slice A m c) B) (hi : i < m) (hml : m = B.length) (k1 : w.cell? ⟨x1, 0, none⟩ = some (.pointer (some ⟨q, 0, none⟩))) (k2 : w.cell? ⟨x2, 0, none⟩ = some (.int .i64 doc)) (k3 : w.cell? ⟨q, 1, none⟩ = some (.slice A m c)) :
    Calls Try.prog 56 #[.int .i64 (i : Int), .pointer (some ⟨x1, 0, none⟩), .pointer (some ⟨x2, 0, none⟩)] w fun e w' => e = .returned (.bool (decide (doc ≤ (B.getD i (0, 0)).2))) ∧ Below w.heap.size w w' := by
  have hg : B.getD i (0, 0) = B[i]'(by omega) := by rw [List.getD_eq_getElem?_getD, List.getElem?_eq_getElem (by omega)]; rfl
  obtain ⟨b, o, rfl, hb0, hc0, c1⟩ := hP.at_ i (by omega)
  rw [hg]
  obtain ⟨y, hy⟩ : ∃ y, y = (B[i]'(by omega)).2 := ⟨_, rfl⟩
  rw [← hy] at c1 ⊢
  have q1 : (0 : Int) ≤ (i : Int) := by omega
  have q2 : (i : Int) < (m : Int) := by omega
  clear hg hy hP hb0 hc0 hml
  go_enter Try.func56, Try.ntmps56
  go_wp2
  go_quiet (fail)
  go_wp2
  go_ret
  exact ⟨rfl, below_drewN_p _ _⟩
end Go.Proofs.Ytlcmdnmifmjjgaa

/- Posts: a cursor; At, Next, Block. -/
namespace Go.Proofs.Ytlcmdnmifmjjgaa
open Go.RowKit

/-- the last document of block i -/
def lastG (B : List (Int × Int)) (i : Nat) : Int := (B.getD i (0, 0)).2
set_option maxHeartbeats 1000000 in
set_option maxRecDepth 100000 in
theorem firstblock_any (q : Nat) (A : Option Addr) (m c : Nat) (B : List (Int × Int)) (doc : Int) (w : World) (hP : Prd w (.slice A m c) B) (hml : m = B.length) (hm : m ≤ 1000000) (hmono : ∀ a b, a ≤ b → b < m → lastG B a ≤ lastG B b) (k3 : w.cell? ⟨q, 1, none⟩ = some (.slice A m c)) :
    Calls Try.prog 40 #[.pointer (some ⟨q, 0, none⟩), .int .i64 doc] w fun e w' => (∃ i : Nat, e = .returned (.int .i64 (i : Int)) ∧ Fst (lastG B) m doc i) ∧ Below w.heap.size w w' := by
  obtain ⟨W, hW⟩ : ∃ W, W = (w.alloc (.cells #[.pointer (some ⟨q, 0, none⟩)] 24)).alloc (.cells #[.int .i64 doc] 3) := ⟨_, rfl⟩
  have hb : Below w.heap.size w W := by rw [hW]; exact (pl1 w _).alloc (by simp) _
  have b1 : W.cell? ⟨w.heap.size, 0, none⟩ = some (.pointer (some ⟨q, 0, none⟩)) := by rw [hW]; go_simp
  have b2 : W.cell? ⟨w.heap.size + 1, 0, none⟩ = some (.int .i64 doc) := by rw [hW]; go_simp
  have b3 : W.cell? ⟨q, 1, none⟩ = some (.slice A m c) := (hb.cell (p := ⟨q, 1, none⟩) (World.block_lt_of_cell? w _ k3)).trans k3
  have hS := search_any 56 m (.pointer (some ⟨w.heap.size, 0, none⟩)) (.pointer (some ⟨w.heap.size + 1, 0, none⟩)) (lastG B) doc W hm hmono
    (fun W2 h2 i hi => fb1_any i _ _ q A m c B doc W2 ((hP.later hb).later h2) hi hml
      ((h2.cell (p := ⟨w.heap.size, 0, none⟩) (World.block_lt_of_cell? W _ b1)).trans b1) ((h2.cell (p := ⟨w.heap.size + 1, 0, none⟩) (World.block_lt_of_cell? W _ b2)).trans b2) ((h2.cell (p := ⟨q, 1, none⟩) (World.block_lt_of_cell? W _ b3)).trans b3))
    (enters_of Try.func56 (by kernel_rfl) rfl)
  have HS := Lib.hid hS
  have HW := Lib.hid hW
  have HB := Lib.hid hb
  have q1 := World.block_lt_of_cell? w _ k3
  simp only at q1
  clear hP hml hmono hS hW hb b1 b2 b3
  go_enter Try.func40, Try.ntmps40
  go_wp2_with fail
  rw [← HW.out]
  refine HS.out.mono ?_
  rintro e W1 ⟨⟨i, rfl, hi⟩, hb1⟩
  go_wp2
  go_ret
  exact ⟨⟨i, rfl, hi⟩, HB.out.trans (hb1.mono HB.out.size)⟩

/-- a cursor of l at block c, made behind w1, standing at a -/
structure PC (w1 w : World) (c : Nat) (l : List (Int × Int)) (a : Nat) : Prop where
  low : Below w1.heap.size w1 w
  new : w1.heap.size ≤ c
  le : a ≤ l.length
  obj : ∃ vp vb, Prd w1 vp l ∧ Prd w1 vb (PostM.blks l) ∧ w.heap[c]? = some (.cells #[vp, vb, .int .i64 (PostM.mx l), .int .i64 (a : Int)] 79 (0, 0))
theorem PC.below {w1 w w' : World} {c : Nat} {l : List (Int × Int)} {a : Nat} (h : PC w1 w c l a) (hb : Below w.heap.size w w') : PC w1 w' c l a := by
  obtain ⟨h1, h2, h3, vp, vb, h4, h5, h6⟩ := h
  exact ⟨h1.trans (hb.mono h1.size), h2, h3, vp, vb, h4, h5, below_block hb (Array.getElem?_eq_some_iff.1 h6).1 h6⟩
theorem PC.cells {w1 w : World} {c : Nat} {l : List (Int × Int)} {a : Nat} (h : PC w1 w c l a) : ∃ A k A' k', w.cell? ⟨c, 0, none⟩ = some (.slice A l.length k) ∧ w.cell? ⟨c, 1, none⟩ = some (.slice A' (PostM.cnt l.length) k') ∧ w.cell? ⟨c, 3, none⟩ = some (.int .i64 (a : Int)) ∧ (∀ i, w.frozen? ⟨c, i, none⟩ = false) ∧ Prd w (.slice A l.length k) l ∧ Prd w (.slice A' (PostM.cnt l.length) k') (PostM.blks l) ∧ c < w.heap.size := by
  obtain ⟨h1, h2, h3, vp, vb, h4, h5, h6⟩ := h
  have g4 := h4.later h1
  have g5 := h5.later h1
  obtain ⟨A, k, rfl, _⟩ := h4.form
  obtain ⟨A', k', rfl, _⟩ := h5.form
  rw [PostM.blks_len] at *
  exact ⟨A, k, A', k', cell_of_cells h6 rfl, cell_of_cells h6 rfl, cell_of_cells h6 rfl, fun i => frozen_of_cells h6, g4, g5, (Array.getElem?_eq_some_iff.1 h6).1⟩
/-- moved -/
theorem PC.move {w1 w : World} {c : Nat} {l : List (Int × Int)} {a : Nat} (h : PC w1 w c l a) (a' : Nat) (ha : a' ≤ l.length) : PC w1 (w.setCell ⟨c, 3, none⟩ (.int .i64 (a' : Int))) c l a' := by
  obtain ⟨h1, h2, h3, vp, vb, h4, h5, h6⟩ := h
  refine ⟨h1.setCell h2 _, h2, ha, vp, vb, h4, h5, ?_⟩
  rw [heap_setCell_row h6 3 _]
  simp

set_option maxHeartbeats 1000000 in
set_option maxRecDepth 100000 in
theorem cursor_any (b : Nat) (l : List (Int × Int)) (w1 w : World) (h1 : PL w1 b l) (hb : Below w1.heap.size w1 w) :
    Calls Try.prog 19 #[.pointer (some ⟨b, 0, none⟩)] w fun e w' => ∃ c, e = .returned (.pointer (some ⟨c, 0, none⟩)) ∧ w.heap.size ≤ c ∧ PC w1 w' c l 0 ∧ Below w.heap.size w w' := by
  obtain ⟨vp, vb, g1, g2, g3⟩ := h1
  have g := below_block hb (Array.getElem?_eq_some_iff.1 g1).1 g1
  have k0 := cell_of_cells (i := 0) g rfl
  have k1 := cell_of_cells (i := 1) g rfl
  have k2 := cell_of_cells (i := 2) g rfl
  have HB := Lib.hid hb
  have H2 := Lib.hid g2
  have H3 := Lib.hid g3
  obtain ⟨A, k, rfl, _⟩ := g2.form
  obtain ⟨A', k', rfl, _⟩ := g3.form
  clear g1 g2 g3 g hb
  go_enter Try.func19, Try.ntmps19
  go_wp2
  go_ret
  exact ⟨_, rfl, Nat.le_refl _, ⟨HB.out.alloc HB.out.size _, HB.out.size, by omega, _, _, H2.out, H3.out, heap_alloc_new _ _⟩, pl1 _ _⟩

/-- what At tells -/
def atP (l : List (Int × Int)) (a : Nat) : Int × Int := l.getD a (0, 0)
set_option maxHeartbeats 1000000 in
set_option maxRecDepth 100000 in
theorem at_any (c : Nat) (l : List (Int × Int)) (a : Nat) (w1 w : World) (h : PC w1 w c l a) :
    Calls Try.prog 23 #[.pointer (some ⟨c, 0, none⟩)] w fun e w' => e = .returned (.tuple #[sv (atP l a), .bool (decide (a < l.length))]) ∧ Below w.heap.size w w' := by
  obtain ⟨A, k, A', k', k0, k1, k3, _, hP, _, hc⟩ := h.cells
  have hle := h.le
  obtain ⟨n, hn⟩ : ∃ n, n = l.length := ⟨_, rfl⟩
  rw [← hn] at k0 hP hle ⊢
  unfold sv
  have hcn : c ≠ w.heap.size := by omega
  have W0 : Below w.heap.size w (w.alloc (.cells #[.int .i64 0, .int .i64 0] 47)) := pl1 w _
  have e0 := (W0.cell (p := ⟨c, 0, none⟩) hc).trans k0
  have e3 := (W0.cell (p := ⟨c, 3, none⟩) hc).trans k3
  by_cases ha : a < n
  · obtain ⟨b, o, rfl, hb0, c0, c1⟩ := hP.at_ a (by omega)
    have hp : atP l a = l[a]'(by omega) := by unfold atP; rw [List.getD_eq_getElem?_getD, List.getElem?_eq_getElem (by omega)]; rfl
    obtain ⟨⟨p1, p2⟩, hpp⟩ : ∃ p, p = l[a]'(by omega) := ⟨_, rfl⟩
    rw [← hpp] at c0 c1 hp
    rw [hp]
    simp only at c0 c1
    have d0 := (W0.cell (p := ⟨b, o + a * 2, none⟩) hb0).trans c0
    have d1 := (W0.cell (p := ⟨b, o + a * 2 + 1, none⟩) hb0).trans c1
    have q1 : (0 : Int) ≤ (a : Int) := by omega
    have q2 : (a : Int) < (n : Int) := by omega
    have q3 : ((a : Int) == (n : Int)) = false := by simp; omega
    have q4 : ¬ a = n := by omega
    have hdt : decide (a < n) = true := decide_eq_true ha
    rw [hdt]
    have hbn : b ≠ w.heap.size := by omega
    clear hp hpp hP hn h k1 hdt c0 c1 k0 k3
    go_enter Try.func23, Try.ntmps23
    go_wp2
    go_quiet (fail)
    go_wp2
    go_region
    all_goals
      go_wp2
      refine bodyPost_ret (v := .tuple #[.agg #[.int .i64 p1, .int .i64 p2], .bool true]) (by simp [results, Try.results23, go_sem]) rfl ⟨rfl, ?_⟩
      exact (((pl1 w _).trans ((below_drewN_p _ _).mono (by simp))).setCell (Nat.le_refl _) _).setCell (Nat.le_refl _) _
  · have han : a = n := by omega
    subst han
    have hp : atP l a = (0, 0) := by unfold atP; rw [List.getD_eq_getElem?_getD, List.getElem?_eq_none (by omega)]; rfl
    rw [hp]
    have hdt : decide (a < a) = false := by simp
    rw [hdt]
    have q3 : ((a : Int) == (a : Int)) = true := by simp
    clear hp hP hn h k1 hdt k0 k3
    go_enter Try.func23, Try.ntmps23
    go_wp2
    go_quiet (fail)
    go_wp2
    refine bodyPost_ret (v := .tuple #[.agg #[.int .i64 0, .int .i64 0], .bool false]) (by simp [results, Try.results23, go_sem]) rfl ⟨rfl, ?_⟩
    exact (((pl1 w _).trans ((below_drewN_p _ _).mono (by simp))).setCell (Nat.le_refl _) _).setCell (Nat.le_refl _) _

set_option maxHeartbeats 1000000 in
set_option maxRecDepth 100000 in
theorem next_any (c : Nat) (l : List (Int × Int)) (a : Nat) (w1 w : World) (h : PC w1 w c l a) (hl : l.length ≤ 1000000) :
    Calls Try.prog 20 #[.pointer (some ⟨c, 0, none⟩)] w fun e w' => e = .returned (.tuple #[]) ∧ PC w1 w' c l (min (a + 1) l.length) ∧ Turned (fun k => k = c) w w' := by
  obtain ⟨A, k, A', k', k0, k1, k3, hf, hP, _, hc⟩ := h.cells
  have hle := h.le
  have f3 := hf 3
  have HH := Lib.hid h
  have HLE := Lib.hid hle
  obtain ⟨n, hn⟩ : ∃ n, n = l.length := ⟨_, rfl⟩
  rw [← hn] at k0 hle hl
  have HN := Lib.hid hn
  clear hf hP h hn k1
  by_cases ha : a < n
  · have q2 : (a : Int) < (n : Int) := by omega
    go_enter Try.func20, Try.ntmps20
    go_wp2
    go_quiet (fail)
    go_wp2
    go_end0
    refine ⟨rfl, ?_, (Turned.of_below (S := fun k => k = c) (below_drewN_p w _)).set_ (b := c) rfl _ _⟩
    have := (HH.out.below (below_drewN_p w nq)).move (a + 1) (by rw [← HN.out]; omega)
    rw [show min (a + 1) l.length = a + 1 by rw [← HN.out]; omega]
    simpa using this
  · have q2 : ¬ (a : Int) < (n : Int) := by omega
    have q3 : decide ((a : Int) < (n : Int)) = false := decide_eq_false q2
    have q4 : decide (a < n) = false := decide_eq_false ha
    go_enter Try.func20, Try.ntmps20
    go_wp2
    go_quiet (fail)
    go_wp2
    go_end0
    refine ⟨rfl, ?_, Turned.of_below (below_drewN_p w _)⟩
    rw [show min (a + 1) l.length = a by rw [← HN.out]; omega]
    exact HH.out.below (below_drewN_p w _)

/-- what Block tells -/
def BlkEnd (l : List (Int × Int)) (doc : Int) (e : Ending) : Prop :=
  ∃ i : Nat, Fst (lastG (PostM.blks l)) (PostM.cnt l.length) doc i ∧ e = .returned (.tuple #[.int .i64 (if i < PostM.cnt l.length then ((PostM.blks l).getD i (0, 0)).1 else 0), .int .i64 (if i < PostM.cnt l.length then ((PostM.blks l).getD i (0, 0)).2 else -1)])
set_option maxHeartbeats 2000000 in
set_option maxRecDepth 100000 in
theorem block_any (c : Nat) (l : List (Int × Int)) (a : Nat) (doc : Int) (w1 w : World) (h : PC w1 w c l a) (hl : l.length ≤ 1000000) (hmono : ∀ a b, a ≤ b → b < PostM.cnt l.length → lastG (PostM.blks l) a ≤ lastG (PostM.blks l) b) :
    Calls Try.prog 24 #[.pointer (some ⟨c, 0, none⟩), .int .i64 doc] w fun e w' => BlkEnd l doc e ∧ Below w.heap.size w w' := by
  obtain ⟨A, k, A', k', k0, k1, k3, _, _, hP, hc⟩ := h.cells
  have hml : PostM.cnt l.length = (PostM.blks l).length := (PostM.blks_len l).symm
  unfold BlkEnd
  obtain ⟨B, hB⟩ : ∃ B, B = PostM.blks l := ⟨_, rfl⟩
  obtain ⟨m, hm⟩ : ∃ m, m = PostM.cnt l.length := ⟨_, rfl⟩
  have hm2 : m ≤ 1000000 := by rw [hm]; unfold PostM.cnt; omega
  rw [← hB, ← hm] at hmono hP hml ⊢
  rw [← hm] at k1
  have hF := firstblock_any c A' m k' B doc w hP hml hm2 hmono k1
  have HF := Lib.hid hF
  have HP := Lib.hid hP
  have HML := Lib.hid hml
  clear hF hP hml hmono hB hm h k0 k3 hl
  go_enter Try.func24, Try.ntmps24
  go_wp2_with fail
  refine HF.out.mono ?_
  rintro e W1 ⟨⟨i, rfl, hi⟩, hb⟩
  have HI := Lib.hid hi
  have hil := hi.1
  have k1 := (hb.cell (p := ⟨c, 1, none⟩) hc).trans k1
  clear hi HF
  by_cases him : i < m
  · obtain ⟨b, o, rfl, hb0, c0, c1⟩ := HP.out.at_ i (by rw [← HML.out]; exact him)
    have hp : B.getD i (0, 0) = B[i]'(by rw [← HML.out]; exact him) := by rw [List.getD_eq_getElem?_getD, List.getElem?_eq_getElem (by rw [← HML.out]; exact him)]; rfl
    obtain ⟨⟨p1, p2⟩, hpp⟩ : ∃ p, p = B.getD i (0, 0) := ⟨_, rfl⟩
    rw [← hp, ← hpp] at c0 c1
    simp only at c0 c1
    have c0 := (hb.cell (p := ⟨b, o + i * 2, none⟩) hb0).trans c0
    have c1 := (hb.cell (p := ⟨b, o + i * 2 + 1, none⟩) hb0).trans c1
    have q1 : (0 : Int) ≤ (i : Int) := by omega
    have q2 : (i : Int) < (m : Int) := by omega
    have q3 : ((i : Int) == (m : Int)) = false := by simp; omega
    have q4 : ¬ i = m := by omega
    have HPP := Lib.hid hpp
    have HB := Lib.hid hb
    clear hp hpp hb
    go_wp2
    go_quiet (fail)
    go_wp2
    go_ret2
    refine ⟨⟨i, HI.out, ?_⟩, HB.out.trans ((below_drewN_p _ _).mono HB.out.size)⟩
    rw [if_pos him, if_pos him, ← HPP.out]
    rfl
  · have him2 : i = m := by omega
    subst him2
    have q3 : ((i : Int) == (i : Int)) = true := by simp
    have HB := Lib.hid hb
    clear hb
    go_wp2
    go_ret2
    refine ⟨⟨i, HI.out, ?_⟩, HB.out⟩
    rw [if_neg him, if_neg him]
    rfl
end Go.Proofs.Ytlcmdnmifmjjgaa

/- Posts: Seek. -/
namespace Go.Proofs.Ytlcmdnmifmjjgaa
open Go.RowKit

theorem blks_get (l : List (Int × Int)) (i : Nat) (h : i < PostM.cnt l.length) : (PostM.blks l).getD i (0, 0) = PostM.blk (PostM.piece l i) := by
  rw [List.getD_eq_getElem?_getD, List.getElem?_eq_getElem (by rw [PostM.blks_len]; exact h)]
  simp [PostM.blks]
theorem lastG_is (l : List (Int × Int)) (i : Nat) (h : i < PostM.cnt l.length) : ∃ hj : min (4 * i + 4) l.length - 1 < l.length, lastG (PostM.blks l) i = (l[min (4 * i + 4) l.length - 1]).1 := by
  obtain ⟨hj, e⟩ := PostM.lastOf_piece l i h
  exact ⟨hj, by unfold lastG; rw [blks_get l i h]; exact e⟩
theorem rise_le {la : Int} {l : List (Int × Int)} (h : PostM.rgt la l = true) (i j : Nat) (hi : i < l.length) (hj : j < l.length) (hij : i ≤ j) : l[i].1 ≤ l[j].1 := by
  rcases Nat.lt_or_ge i j with h' | h'
  · exact Int.le_of_lt (PostM.rgt_rise h i j hi hj h')
  · have : i = j := by omega
    subst this
    exact Int.le_refl _
theorem lastG_mono {l : List (Int × Int)} (h : PostM.rightL l = true) : ∀ a b, a ≤ b → b < PostM.cnt l.length → lastG (PostM.blks l) a ≤ lastG (PostM.blks l) b := by
  intro a b hab hb
  obtain ⟨h1, e1⟩ := lastG_is l a (by omega)
  obtain ⟨h2, e2⟩ := lastG_is l b hb
  rw [e1, e2]
  exact rise_le h _ _ h1 h2 (by omega)
theorem post_le_last {l : List (Int × Int)} (h : PostM.rightL l = true) (k : Nat) (hk : k < l.length) : k / 4 < PostM.cnt l.length ∧ (atP l k).1 ≤ lastG (PostM.blks l) (k / 4) := by
  have hc : k / 4 < PostM.cnt l.length := by unfold PostM.cnt; omega
  obtain ⟨h1, e1⟩ := lastG_is l (k / 4) hc
  refine ⟨hc, ?_⟩
  rw [e1]
  have : atP l k = l[k] := by unfold atP; rw [List.getD_eq_getElem?_getD, List.getElem?_eq_getElem hk]; rfl
  rw [this]
  exact rise_le h _ _ hk h1 (by omega)
/-- where Seek comes to, from a on -/
def Sk (l : List (Int × Int)) (a : Nat) (doc : Int) (a' : Nat) : Prop := a ≤ a' ∧ a' ≤ l.length ∧ (∀ k, a ≤ k → k < a' → (atP l k).1 < doc) ∧ (a' < l.length → doc ≤ (atP l a').1)
/-- the place at which a cursor stands, read off the world -/
def atM (w : World) (c : Nat) : Nat := match w.cell? ⟨c, 3, none⟩ with
  | some (.int _ k) => k.toNat
  | _ => 0
theorem PC.atM {w1 w : World} {c : Nat} {l : List (Int × Int)} {a : Nat} (h : PC w1 w c l a) : atM w c = a := by
  obtain ⟨_, _, _, _, _, _, k3, _⟩ := h.cells
  unfold Go.Proofs.Ytlcmdnmifmjjgaa.atM
  rw [k3]
  simp
theorem PC.turned {w1 w w' : World} {c d : Nat} {l : List (Int × Int)} {a : Nat} (h : PC w1 w c l a) (ht : Turned (fun k => k = d) w w') (hd : w1.heap.size ≤ d) (hne : c ≠ d) : PC w1 w' c l a := by
  obtain ⟨h1, h2, h3, vp, vb, h4, h5, h6⟩ := h
  exact ⟨ht.below h1 (fun k e => by rw [e]; exact hd), h2, h3, vp, vb, h4, h5, (ht.block c (Array.getElem?_eq_some_iff.1 h6).1 hne).trans h6⟩

set_option maxHeartbeats 2000000 in
set_option maxRecDepth 100000 in
theorem seek_any (c : Nat) (l : List (Int × Int)) (a : Nat) (doc : Int) (w1 w : World) (h : PC w1 w c l a) (hl : l.length ≤ 1000000) (hr : PostM.rightL l = true) :
    Calls Try.prog 21 #[.pointer (some ⟨c, 0, none⟩), .int .i64 doc] w fun e w' => e = .returned (.tuple #[]) ∧ (∃ a', PC w1 w' c l a' ∧ Sk l a doc a') ∧ Turned (fun k => k = c) w w' := by
  obtain ⟨A, k, A', k', k0, k1, k3, hf, _, hP, hc⟩ := h.cells
  have hle := h.le
  have hF := firstblock_any c A' (PostM.cnt l.length) k' (PostM.blks l) doc w hP (PostM.blks_len l).symm (by unfold PostM.cnt; omega) (lastG_mono hr) k1
  have HF := Lib.hid hF
  have HH := Lib.hid h
  have HR := Lib.hid hr
  have HHL := Lib.hid hl
  obtain ⟨n, hn⟩ : ∃ n, n = l.length := ⟨_, rfl⟩
  rw [← hn] at k0 hle hl
  have HN := Lib.hid hn
  have hml : PostM.cnt l.length ≤ 250001 := by rw [← hn]; unfold PostM.cnt; omega
  clear hF hP h hr hn k1 hf
  go_enter Try.func21, Try.ntmps21
  go_wp2_with fail
  refine HF.out.mono ?_
  rintro e W1 ⟨⟨i, rfl, hi⟩, hb⟩
  have hil : i ≤ 250001 := Nat.le_trans hi.1 hml
  have HI := Lib.hid hi
  have HP1 := Lib.hid (HH.out.below hb)
  have e0 := (hb.cell (p := ⟨c, 0, none⟩) hc).trans k0
  have e3 := (hb.cell (p := ⟨c, 3, none⟩) hc).trans k3
  obtain ⟨_, _, _, _, _, _, _, hf, _⟩ := HP1.out.cells
  have f3 := hf 3
  obtain ⟨t1, ht1⟩ : ∃ t1, t1 = min (i * 4) n := ⟨_, rfl⟩
  obtain ⟨t2, ht2⟩ : ∃ t2, t2 = max a t1 := ⟨_, rfl⟩
  have m1 : (if (n : Int) < (i : Int) * 4 then (n : Int) else (i : Int) * 4) = (t1 : Int) := by split <;> omega
  have m2 : (if (a : Int) < (t1 : Int) then (t1 : Int) else (a : Int)) = (t2 : Int) := by split <;> omega
  have HT := Lib.hid (And.intro ht1 ht2)
  have HB := Lib.hid hb
  clear hf hi hb ht1 ht2 k0 k3 hml
  go_wp2
  go_region
  have m2n : (if a < t1 then (t1 : Int) else (a : Int)) = (t2 : Int) := by
    obtain ⟨_, h2⟩ := HT.out
    split <;> omega
  rw [m2n]
  clear m1 m2 m2n
  have ht2n : t2 ≤ l.length := by
    obtain ⟨h1, h2⟩ := HT.out
    rw [← HN.out]
    omega
  obtain ⟨W3, hW3⟩ : ∃ W3, W3 = (W1.setCell ⟨c, 3, none⟩ (.int .i64 (t2 : Int))).drew := ⟨_, rfl⟩
  have hP3 : PC w1 W3 c l t2 := by rw [hW3]; exact (HP1.out.move t2 ht2n).below (Below.refl _ _).drew
  have hT3 : Turned (fun k => k = c) w W3 := by rw [hW3]; exact ((Turned.of_below (S := fun k => k = c) HB.out).set_ (b := c) rfl _ _).drew
  rw [← hW3]
  have hA := at_any c l t2 w1 W3 hP3
  have HA := Lib.hid hA
  have HP3 := Lib.hid hP3
  have HT3 := Lib.hid hT3
  clear hW3 hA hP3 hT3 e0 e3 f3
  go_wp2_with fail
  refine HA.out.mono ?_
  rintro e W4 ⟨rfl, hb4⟩
  unfold sv
  have HP4 := Lib.hid (HP3.out.below hb4)
  have HT4 := Lib.hid (HT3.out.on hb4)
  have hsz : w.heap.size ≤ W4.heap.size := HT4.out.size
  rw [← HN.out]
  obtain ⟨⟨p1, p2⟩, hp⟩ : ∃ p, p = atP l t2 := ⟨_, rfl⟩
  rw [← hp]
  have HPP := Lib.hid hp
  clear hp hb4 HA HP3 HT3
  go_wp2
  go_loopw [5, 6] (fun y z wr => ∃ (a' kp : Nat), y = .pointer (some ⟨kp, 0, none⟩) ∧ z = .bool (decide (a' < n)) ∧ wr.heap[kp]? = some (.cells #[.int .i64 (atP l a').1, .int .i64 (atP l a').2] 47 (0, 0)) ∧ w.heap.size ≤ kp ∧ PC w1 wr c l a' ∧ Turned (fun k => k = c) w wr ∧ t2 ≤ a' ∧ ∀ k, t2 ≤ k → k < a' → (atP l k).1 < doc) (fun _ _ wr => n - atM wr c)
  case atStart =>
    refine ⟨t2, W4.heap.size, rfl, rfl, ?_, hsz, HP4.out.below (pl1 _ _), HT4.out.alloc _, Nat.le_refl _, fun k h1 h2 => by omega⟩
    rw [← HPP.out]
    exact heap_alloc_new _ _
  case round =>
    obtain ⟨a', kp, rfl, rfl, hkp, hkw, hPC, hTr, hta, hall⟩ := hrel
    have hale : a' ≤ n := by rw [HN.out]; exact hPC.le
    have kq := cell_of_cells (i := 0) hkp rfl
    have kq1 := cell_of_cells (i := 1) hkp rfl
    obtain ⟨⟨d1, d2⟩, hd⟩ : ∃ p, p = atP l a' := ⟨_, rfl⟩
    rw [← hd] at kq kq1 hkp
    have HD := Lib.hid hd
    have HAL := Lib.hid hall
    have HPC := Lib.hid hPC
    have HTR := Lib.hid hTr
    have HKP := Lib.hid hkp
    clear hd hall hPC hTr hkp
    have fin : ¬ (a' < n ∧ d1 < doc) → (∃ a'', PC w1 wr c l a'' ∧ Sk l a doc a'') := fun hno => by
      refine ⟨a', HPC.out, ?_, by rw [← HN.out]; exact hale, ?_, ?_⟩
      · obtain ⟨_, h2⟩ := HT.out; omega
      · intro k h1 h2
        by_cases hk : t2 ≤ k
        · exact HAL.out k hk h2
        · obtain ⟨g1, g2⟩ := HT.out
          have hkl : k < l.length := by rw [← HN.out]; omega
          obtain ⟨q1, q2⟩ := post_le_last HR.out k hkl
          have := HI.out.2.1 (k / 4) (by omega)
          omega
      · intro h1
        rw [← HD.out]
        have : ¬ d1 < doc := fun h => hno ⟨by rw [HN.out]; exact h1, h⟩
        omega
    have HFIN := Lib.hid fin
    clear fin
    by_cases hlt : a' < n
    · have b1 : decide (a' < n) = true := decide_eq_true hlt
      by_cases hdd : d1 < doc
      · have b2 : decide (d1 < doc) = true := decide_eq_true hdd
        have hnx := next_any c l a' w1 wr HPC.out HHL.out
        rw [show min (a' + 1) l.length = a' + 1 by rw [← HN.out]; omega] at hnx
        have HNX := Lib.hid hnx
        have HDD := Lib.hid hdd
        clear hnx hdd
        rw [b1]
        go_wp2_with fail
        refine HNX.out.mono ?_
        rintro e w2 ⟨rfl, hP2, hT2⟩
        have hkp2 := (hT2.block kp (Array.getElem?_eq_some_iff.1 HKP.out).1 (by omega)).trans HKP.out
        have kq := cell_of_cells (i := 0) hkp2 rfl
        have kq1 := cell_of_cells (i := 1) hkp2 rfl
        obtain ⟨w3, hw3⟩ : ∃ w3, w3 = w2.alloc (.cells #[.int .i64 d1, .int .i64 d2] 47) := ⟨_, rfl⟩
        have hP3 : PC w1 w3 c l (a' + 1) := by rw [hw3]; exact hP2.below (pl1 _ _)
        have hT3 : Turned (fun k => k = c) w w3 := by rw [hw3]; exact (HTR.out.trans hT2).alloc _
        have hk3 : w3.heap[w2.heap.size]? = some (.cells #[.int .i64 d1, .int .i64 d2] 47 (0, 0)) := by rw [hw3]; exact heap_alloc_new _ _
        have hA := at_any c l (a' + 1) w1 w3 hP3
        have HA := Lib.hid hA
        have HW3 := Lib.hid hw3
        have HP3 := Lib.hid hP3
        have HT3 := Lib.hid hT3
        have HK3 := Lib.hid hk3
        have hsz2 : w.heap.size ≤ w2.heap.size := Nat.le_trans HTR.out.size hT2.size
        clear hP2 hT2 hkp2 hw3 hP3 hT3 hk3 hA
        go_wp2_with fail
        rw [← HW3.out]
        refine HA.out.mono ?_
        rintro e w4 ⟨rfl, hb5⟩
        unfold sv
        obtain ⟨⟨g1, g2⟩, hg⟩ : ∃ p, p = atP l (a' + 1) := ⟨_, rfl⟩
        rw [← hg, ← HN.out]
        have hk4 := below_block hb5 (Array.getElem?_eq_some_iff.1 HK3.out).1 HK3.out
        have y0 := cell_of_cells (i := 0) hk4 rfl
        have y1 := cell_of_cells (i := 1) hk4 rfl
        have z0 := frozen_of_cells (i := 0) hk4
        have z1 := frozen_of_cells (i := 1) hk4
        have HG := Lib.hid hg
        have HK4 := Lib.hid hk4
        have HP4 := Lib.hid (HP3.out.below hb5)
        have HT4 := Lib.hid (HT3.out.on hb5)
        clear hg hk4 hb5 HP3 HT3 HK3 HA HW3 kq kq1
        go_wp2
        have hlow := HH.out.low.size
        have hts : Turned (fun k => k = w2.heap.size) w4 ((w4.setCell ⟨w2.heap.size, 0, none⟩ (.int .i64 g1)).setCell ⟨w2.heap.size, 1, none⟩ (.int .i64 g2)) := ((Turned.refl (fun k => k = w2.heap.size) w4).set_ (b := w2.heap.size) rfl _ _).set_ (b := w2.heap.size) rfl _ _
        have hPz := HP4.out.turned hts (by omega) (by omega)
        have hne : (HK4.out = HK4.out) := rfl
        clear hne
        refine ⟨⟨a' + 1, w2.heap.size, rfl, rfl, ?_, hsz2, hPz, (HT4.out.put_ (.inr hsz2) _ _).put_ (.inr hsz2) _ _, by omega, fun k h1 h2 => ?_⟩, ?_⟩
        · rw [heap_setCell_row (heap_setCell_row HK4.out 0 _) 1 _, ← HG.out]
          simp
        · by_cases hk : k = a'
          · rw [hk, ← HD.out]; exact HDD.out
          · exact HAL.out k h1 (by omega)
        · rw [hPz.atM, HPC.out.atM]
          omega
      · have b2 : decide (d1 < doc) = false := decide_eq_false hdd
        have hz := HFIN.out (fun h => hdd h.2)
        have HZ := Lib.hid hz
        clear hz hdd
        rw [b1]
        go_wp2
        go_end0
        exact ⟨rfl, HZ.out, HTR.out⟩
    · have b1 : decide (a' < n) = false := decide_eq_false hlt
      have hz := HFIN.out (fun h => hlt h.1)
      have HZ := Lib.hid hz
      clear hz hlt
      rw [b1]
      go_wp2
      go_end0
      exact ⟨rfl, HZ.out, HTR.out⟩
end Go.Proofs.Ytlcmdnmifmjjgaa
