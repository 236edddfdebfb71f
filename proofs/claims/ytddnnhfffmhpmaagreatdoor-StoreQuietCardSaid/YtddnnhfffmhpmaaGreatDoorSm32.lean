/- Own texts, merged (32 of 42). -/
import Derived.Test.YtddnnhfffmhpmaaGreatDoorSm31
import Derived.Test.YtddnnhfffmhpmaaGreatDoorSm28

/- What acts do to a store and to what its disk tells: put. -/
namespace Go.Proofs.YtddnnhfffmhpmaaGreatDoor.St
open Go.RowKit Go.Proofs.YtddnnhfffmhpmaaGreatDoor DocM StoM Do
open VdM

/-- what a disk tells -/
structure Kept (k : Dsk) (g : Gst) (P : List Int) (L S : Nat) : Prop where
  told : StoM.Told k.fs g
  ok : GOk P L S g
  nm : Nm L S k.fs
  cnt : (logCh g).length ≤ L
/-- a store, and what its disk tells -/
structure Alive (w : World) (F : Nat → Prop) (p : Pl) (k : Dsk) (g : Gst) (P : List Int) (L S : Nat) : Prop where
  st : StAt w F p k g.first (segNos g) (logNo g) g.begun false (live g) (settled g) (came g)
  kept : Kept k g P L S
  up : k.down = false
/-- a store that is lost -/
def Dead (w : World) (F : Nat → Prop) (p : Pl) (k : Dsk) : Prop := k.down = true ∧ ∃ lg begun, StAt w F p k 0 [] lg begun true [] [] []
theorem Alive.later {w w' : World} {F : Nat → Prop} {p : Pl} {k : Dsk} {g : Gst} {P : List Int} {L S : Nat} (h : Alive w F p k g P L S) (hb : Below w.heap.size w w') : Alive w' F p k g P L S := ⟨h.st.later hb, h.kept, h.up⟩
theorem is_rise {w : World} {F : Nat → Prop} {d : Nat} {k : Dsk} (h : Vd.Is w F d k) : Rising k.fs := by
  obtain ⟨m, D, V, h⟩ := h
  exact h.ok.rise
/-- behind w nothing has turned but the store's own -/
def After (w : World) (F : Nat → Prop) (p : Pl) (w' : World) (R : (Nat → Prop) → Dsk → Prop) : Prop := Turned (fullF p F) w w' ∧ ∃ F' k', (∀ b, F' b → F b ∨ w.heap.size ≤ b) ∧ R F' k'
theorem at1_after {w w' : World} {F : Nat → Prop} {p : Pl} {k' : Dsk} {f lg : Nat} {segs : List Nat} {begun lost : Bool} {lv st cm : Chs} {R : (Nat → Prop) → Dsk → Prop} (h : At1 w F p k' f segs lg begun lost lv st cm w') (hR : ∀ F', StAt w' F' p k' f segs lg begun lost lv st cm → R F' k') : After w F p w' R := by
  obtain ⟨hT, F', hS, hF⟩ := h
  exact ⟨hT, F', k', hF, hR F' hS⟩
theorem put_same (g : Gst) (c : Ch) : logNo (gPut g c) = logNo g := by
  have h : front (gPut g c) = front g := by
    show (if true = true then (front g ++ [_]).dropLast else _) = _
    rw [if_pos rfl, List.dropLast_concat]
  unfold logNo
  rw [h]
  rfl
def PutLaw (w : World) (F : Nat → Prop) (p : Pl) (k : Dsk) (g : Gst) (P : List Int) (L S : Nat) (c : Ch) (r : Int) (w' : World) : Prop :=
  After w F p w' fun F' k' =>
    (rightC c ≠ 0 ∧ r = rightC c ∧ k' = k ∧ Alive w' F' p k g P L S) ∨ (rightC c = 0 ∧ admC false (live g) c ≠ 0 ∧ r = admC false (live g) c ∧ k' = k ∧ Alive w' F' p k g P L S) ∨
    (rightC c = 0 ∧ admC false (live g) c = 0 ∧ Wnt k k' r 2 (frameB c).length [logN (logNo g)] ∧ ((r = 6 ∧ k' = k ∧ roomB k (logN (logNo g)) (frameB c).length = false ∧ Alive w' F' p k g P L S) ∨ (r = 0 ∧ Alive w' F' p k' (gPut g c) (c.doc :: P) (L + 1) S) ∨
      (r = 7 ∧ Dead w' F' p k' ∧ ∃ g', (live g' = live g ∨ live g' = live (gPut g c)) ∧ Kept k' g' (c.doc :: P) (L + 1) S)))
theorem put_law (w : World) (F : Nat → Prop) (p : Pl) (k : Dsk) (g : Gst) (P : List Int) (L S : Nat) (c : Ch) (T V : Value) (h : Alive w F p k g P L S) (hc : Ct w (fullF p F) c T V) (hts : c.ts.length ≤ 1000000) (hvs : c.v.length ≤ 1000000) (hL : L ≤ 90) (hP : P.length ≤ 1000) (he : k.eff + 2 ≤ 1000000000) :
    Calls Tryz.prog 25 #[.pointer (some ⟨p.s, 0, none⟩), chV c T V] w fun e w' => ∃ r : Int, e = .returned (.int .i64 r) ∧ PutLaw w F p k g P L S c r w' := by
  have hfew := h.kept.ok.few
  have hfl := front_len h.kept.ok
  have hnl := h.kept.ok.nlog
  have hPc : ∀ d ∈ P, d ∈ c.doc :: P := fun d hd => List.mem_cons_of_mem _ hd
  refine (put_any w F p k g.first (segNos g) (logNo g) g.begun false (live g) (settled g) (came g) c T V h.st hc hts hvs (by omega) (by omega) (by omega) he).mono ?_
  rintro e w' ⟨r, he, h1 | h1 | h1⟩
  · obtain ⟨h1, h2, hb⟩ := h1
    exact ⟨r, he, Turned.of_below hb, F, k, fun _ h => .inl h, .inl ⟨h1, h2, rfl, h.later hb⟩⟩
  · obtain ⟨h1, h2, h3, hb⟩ := h1
    exact ⟨r, he, Turned.of_below hb, F, k, fun _ h => .inl h, .inr (.inl ⟨h1, h2, h3, rfl, h.later hb⟩)⟩
  · obtain ⟨hc0, ha0, hr, h1⟩ := h1
    obtain ⟨hw, ho⟩ := put_told h.kept.ok (by omega) h.kept.told h.up hc0
    have hkn : ∀ m ∈ [logN (logNo g)], Known (L + 1) S m := fun m hm => by
      obtain rfl : m = logN (logNo g) := by simpa using hm
      exact .inr (.inr (.inl ⟨_, by omega, rfl⟩))
    have hnm := hw.nm (L + 1) S (h.kept.nm.mono (Nat.le_succ _) (Nat.le_refl _)) hkn
    change _ = (putK k g c).2 at hr
    obtain ⟨kk, hkk⟩ : ∃ x, x = putK k g c := ⟨_, rfl⟩
    have h1' : (r = 0 ∧ At1 w F p kk.1 g.first (segNos g) (logNo g) true false (doC c (live g)) (settled g) (ptC c (came g)) w') ∨ (r = 7 ∧ At1 w F p kk.1 0 [] (logNo g) g.begun true [] [] [] w') ∨ (r ≠ 0 ∧ r ≠ 7 ∧ At1 w F p kk.1 g.first (segNos g) (logNo g) g.begun false (live g) (settled g) (came g) w') := by rw [hkk]; exact h1
    have hcp : (logCh (gPut g c)).length ≤ L + 1 := by
      rw [put_logch h.kept.ok c, List.length_append]
      exact Nat.succ_le_succ h.kept.cnt
    have hct : ∀ t, (logCh (gTorn g t)).length ≤ L + 1 := fun t => by
      rw [torn_logch h.kept.ok t]
      exact Nat.le_succ_of_le h.kept.cnt
    rw [← hkk] at hw ho hnm hr
    rw [← hr] at hw ho
    refine ⟨r, he, ?_⟩
    rcases ho with ⟨h6, hk, hroom⟩ | ⟨h0, hup, ht⟩ | ⟨h7, hdn, ht⟩
    · rcases h1' with ⟨q, _⟩ | ⟨q, _⟩ | ⟨_, _, hA⟩
      · omega
      · omega
      · rw [hk] at hA
        exact at1_after hA fun F' hS => .inr (.inr ⟨hc0, ha0, by rw [hk] at hw; exact hw, .inl ⟨h6, rfl, hroom, hS, h.kept, h.up⟩⟩)
    · rcases h1' with ⟨_, hA⟩ | ⟨q, _⟩ | ⟨q, _⟩
      · refine at1_after hA fun F' hS => .inr (.inr ⟨hc0, ha0, hw, .inr (.inl ⟨h0, ?_, ⟨ht, h.kept.ok.put hc0, hnm, hcp⟩, hup⟩)⟩)
        obtain ⟨e1, e2, e3⟩ := put_live h.kept.ok c
        rw [e1, e2, e3, put_same]
        exact hS
      · omega
      · omega
    · rcases h1' with ⟨q, _⟩ | ⟨_, hA⟩ | ⟨_, q, _⟩
      · omega
      · refine at1_after hA fun F' hS => .inr (.inr ⟨hc0, ha0, hw, .inr (.inr ⟨h7, ⟨hdn, _, _, hS⟩, ?_⟩)⟩)
        rcases ht with ht | ⟨t, htn, ht⟩
        · exact ⟨gPut g c, .inr rfl, ht, h.kept.ok.put hc0, hnm, hcp⟩
        · exact ⟨gTorn g t, .inl (torn_live h.kept.ok t), ht, (h.kept.ok.torn htn).mono hPc (Nat.le_refl _) (Nat.le_refl _), hnm, hct t⟩
      · exact absurd h7 q
end Go.Proofs.YtddnnhfffmhpmaaGreatDoor.St

/- What acts do to a store and to what its disk tells: flush, merge, opening. -/
namespace Go.Proofs.YtddnnhfffmhpmaaGreatDoor.St
open Go.RowKit Go.Proofs.YtddnnhfffmhpmaaGreatDoor DocM StoM Do
open VdM

theorem rise_nums : ∀ {l : List Nat} {m n : Nat}, l.Pairwise (· < ·) → (∀ x ∈ l, m ≤ x ∧ x < n) → m ≤ n → l.length + m ≤ n
  | [], m, n, _, _, h => by simpa using h
  | x :: t, m, n, hp, hb, h => by
    obtain ⟨h1, h2⟩ := List.pairwise_cons.1 hp
    have hx := hb x List.mem_cons_self
    have := rise_nums (l := t) (m := x + 1) (n := n) h2 (fun y hy => ⟨h1 y hy, (hb y (List.mem_cons_of_mem _ hy)).2⟩) (by omega)
    rw [List.length_cons]
    omega
theorem segs_few {g : Gst} {P : List Int} {L S : Nat} (h : GOk P L S g) : (segNos g).length ≤ S := by
  have h1 := rise_nums (m := 0) (n := nextSeg g) h.segR (fun x hx => ⟨Nat.zero_le _, h.seg_lt x hx⟩) (Nat.zero_le _)
  have h2 := h.nseg
  omega
theorem next_log {g : Gst} {P : List Int} {L S : Nat} (h : GOk P L S g) : nextL (logNo g) g.begun = nextLog g := by
  obtain ⟨_, _, h3, h4⟩ := front_len h
  unfold nextL
  cases hb : g.begun with
  | true => exact h4 hb
  | false => exact h3 hb
theorem map_snoc (l : List Nat) (x : Nat) : (l ++ [x]).map Int.ofNat = l.map Int.ofNat ++ [(x : Int)] := by simp
/-- how a flush or a merge that is done ends -/
def ReplLaw (w : World) (F : Nat → Prop) (p : Pl) (k : Dsk) (g g' : Gst) (n : Nat) (l : Chs) (P : List Int) (L S : Nat) (r : Int) (w' : World) : Prop :=
  After w F p w' fun F' k' =>
    Wnt k k' r 200 ((segB l).length + (manB g'.first (segNos g')).length) [segN n, newN, manN] ∧ ((r = 6 ∧ Alive w' F' p k' g P L (S + 1) ∧ Full k ((segB l).length + (manB g'.first (segNos g')).length) [segN n, newN, manN]) ∨ (r = 0 ∧ Alive w' F' p k' g' P L (S + 1)) ∨
      (r = 7 ∧ Dead w' F' p k' ∧ (Kept k' g P L (S + 1) ∨ Kept k' g' P L (S + 1))))
def FlushLaw (w : World) (F : Nat → Prop) (p : Pl) (k : Dsk) (g : Gst) (P : List Int) (L S : Nat) (r : Int) (w' : World) : Prop :=
  (came g = [] ∧ r = 0 ∧ w' = w) ∨ (came g ≠ [] ∧ ReplLaw w F p k g (gFlush g) (nextSeg g) (came g) P L S r w')
def MergeLaw (w : World) (F : Nat → Prop) (p : Pl) (k : Dsk) (g : Gst) (P : List Int) (L S : Nat) (r : Int) (w' : World) : Prop :=
  (segNos g = [] ∧ r = 0 ∧ w' = w) ∨ (segNos g ≠ [] ∧ ReplLaw w F p k g (gMerge g) (nextSeg g) (settled g) P L S r w')
theorem kept_names {k k' : Dsk} {r : Int} {n x m : Nat} {L S : Nat} (hw : Wnt k k' r n x [segN m, newN, manN]) (hn : Nm L S k.fs) (hm : m < S + 1) : Nm L (S + 1) k'.fs :=
  hw.nm L (S + 1) (hn.mono (Nat.le_refl _) (Nat.le_succ _)) fun y hy => by
    simp at hy
    rcases hy with rfl | rfl | rfl
    · exact .inr (.inr (.inr ⟨m, hm, rfl⟩))
    · exact .inr (.inl rfl)
    · exact .inl rfl
theorem flush_law (w : World) (F : Nat → Prop) (p : Pl) (k : Dsk) (g : Gst) (P : List Int) (L S : Nat) (h : Alive w F p k g P L S) (hLS : L + S ≤ 80) (hP : P.length ≤ 1000) (he : k.eff + 5000 ≤ 1000000000) :
    Calls Tryz.prog 21 #[.pointer (some ⟨p.s, 0, none⟩)] w fun e w' => ∃ r : Int, e = .returned (.int .i64 r) ∧ FlushLaw w F p k g P L S r w' := by
  have hfew := h.kept.ok.few
  have hok := h.kept.ok
  have hfl := front_len hok
  have hnl := hok.nlog
  have hns := hok.nseg
  have hsf := segs_few hok
  have hsg : ∀ y ∈ segNos g, y < 100 := hok.seg_few (by omega)
  by_cases hc0 : came g = []
  · have hs := h.st
    rw [hc0] at hs
    refine (flush_none w F p k g.first (segNos g) (logNo g) g.begun (live g) (settled g) hs).mono ?_
    rintro e w' ⟨he, hw⟩
    exact ⟨0, he, .inl ⟨hc0, rfl, hw⟩⟩
  have hrise := is_rise h.st.disk
  obtain ⟨hw, ho⟩ := repl_told (l := came g) hok (by omega) hok.flush (by omega) h.kept.told h.up hrise (nexts_flush g) (h.kept.nm.mono (Nat.le_refl L) (Nat.le_succ S)) (by omega) (by omega)
  rw [repl_chain] at hw ho
  have hs' : segNos (gFlush g) = segNos g ++ [nextN (segNos g)] := by simp [segNos, gFlush, nextN_eq]
  have hf' : (gFlush g).first = nextLog g := rfl
  rw [hs', hf'] at hw ho
  obtain ⟨kk, hkk⟩ : ∃ x, x = chainK (replR g.first (segNos g) (nextLog g) (segNos g ++ [nextN (segNos g)]) (nextSeg g) (came g)) k := ⟨_, rfl⟩
  rw [← hkk] at hw ho
  have hri : (segNos g ++ [nextN (segNos g)]).Pairwise (· < ·) := by rw [← hs']; exact hok.flush.segR
  have hsg' : ∀ y ∈ segNos g ++ [nextN (segNos g)], y < 100 := fun y hy => by
    rcases List.mem_append.1 hy with hy | hy
    · exact hsg y hy
    · obtain rfl : y = nextN (segNos g) := by simpa using hy
      rw [← nextN_eq]
      omega
  have hgf : g.first < 100 := by
    have : g.first ≤ nextLog g := Nat.le_add_right _ _
    omega
  refine (flush_any w F p k g.first (segNos g) (logNo g) g.begun (live g) (settled g) (came g) h.st hc0 hsg (by omega) (by omega) (by omega) (fun c hc => (hok.came.2 c hc).1) (if kk.2 = 0 then kk.1 else { kk.1 with quota := 0 })
    (fun W w' c => c = kk.2 ∧ ((c = 7 ∧ At1 W F p kk.1 0 [] (logNo g) g.begun true [] [] [] w') ∨ (c ≠ 7 ∧ Repl W F p kk.1 g.first (segNos g) (nextLog g) (segNos g ++ [nextN (segNos g)]) (logNo g) g.begun false (live g) (settled g) (came g) c w')))
    (fun W A' n' cp' hb hI hN => ?_)).mono ?_
  · have hn' : n' = (segNos g).length + 1 := by
      have := hI.1
      simp at this
      omega
    rw [next_log hok] at *
    rw [← map_snoc] at hI
    have hra := repl_any W F p k g.first (nextLog g) n' cp' (segNos g) (segNos g ++ [nextN (segNos g)]) (logNo g) g.begun false (live g) (settled g) (came g) p.mc (nextSeg g) L (S + 1) A' (came g) (h.st.later hb) (.inl ⟨rfl, rfl⟩) hI
      (Away.new hN fun b hb => h.st.lt b hb) (by rw [nextN_eq]; simp) (by omega) (by omega) (fun c hc => (hok.came.2 c hc).1) (by omega) (h.kept.nm.mono (Nat.le_refl _) (Nat.le_succ _)) (by omega) (by omega) hgf (by omega) (by omega) hsg hsg' hri he
    rw [← hkk] at hra
    refine hra.mono ?_
    rintro e w' ⟨c, he, hc, h1⟩
    refine ⟨c, he, ?_⟩
    by_cases hz : c = 0
    · rcases h1 with ⟨q, _⟩ | ⟨_, h1⟩
      · omega
      · rcases h1 with ⟨_, h1⟩ | ⟨q, _⟩ | ⟨q, _⟩
        · exact .inl ⟨hz, by rw [if_pos (by rw [← hc]; exact hz)]; exact h1⟩
        · exact absurd hz q
        · exact absurd hz q
    · exact .inr ⟨hz, hc, h1⟩
  · rintro e w' ⟨r, he, h1⟩
    refine ⟨r, he, .inr ⟨hc0, ?_⟩⟩
    unfold ReplLaw
    rw [hs', hf']
    rcases h1 with ⟨rfl, hA⟩ | ⟨hne, W, hbW, hr, h1⟩
    · by_cases hz : kk.2 = 0
      · rw [if_pos hz] at hA
        rw [hz] at hw ho
        rcases ho with ⟨q, _⟩ | ⟨_, hup, ht⟩ | ⟨q, _⟩
        · omega
        · refine at1_after hA fun F' hS => ⟨hw, .inr (.inl ⟨rfl, ?_, ⟨ht, hok.flush, kept_names hw h.kept.nm (by omega), Nat.zero_le _⟩, hup⟩)⟩
          obtain ⟨e1, e2, e3⟩ := flush_live g
          have e4 : doAll (settled g) (came g) = live g := do_last _ _ hok.settled.1
          have e5 : logNo (gFlush g) = nextLog g := by simp [logNo, front, gFlush]
          rw [next_log hok, e4] at hS
          rw [hs', hf', e1, e2, e3, e5]
          exact hS
        · omega
      · rw [if_neg hz] at hA
        obtain ⟨_, F', hS, _⟩ := hA
        obtain ⟨m, D, V, hI⟩ := hS.disk
        have := hI.ok.q1
        exact absurd this (by simp)
    · have hbT : Turned (fullF p F) w W := Turned.of_below hbW
      rw [← hr] at hw ho
      rcases ho with ⟨h6, hup, ht, hfull⟩ | ⟨q, _⟩ | ⟨h7, hdn, ht⟩
      · rcases h1 with ⟨q, _⟩ | ⟨_, h1⟩
        · omega
        · rcases h1 with ⟨q, _⟩ | ⟨_, hA⟩ | ⟨_, q, _⟩
          · omega
          · exact at1_after (hA.trans hbT fun _ h => .inl h) fun F' hS => ⟨hw, .inl ⟨h6, ⟨hS, ⟨ht, hok.mono (fun _ h => h) (Nat.le_refl _) (Nat.le_succ _), kept_names hw h.kept.nm (by omega), h.kept.cnt⟩, hup⟩, hfull⟩⟩
          · exact absurd h6 q
      · exact absurd q hne
      · rcases h1 with ⟨_, hA⟩ | ⟨q, _⟩
        · refine at1_after (hA.trans hbT fun _ h => .inl h) fun F' hS => ⟨hw, .inr (.inr ⟨h7, ⟨hdn, _, _, hS⟩, ?_⟩)⟩
          rcases ht with ht | ht
          · exact .inl ⟨ht, hok.mono (fun _ h => h) (Nat.le_refl _) (Nat.le_succ _), kept_names hw h.kept.nm (by omega), h.kept.cnt⟩
          · exact .inr ⟨ht, hok.flush, kept_names hw h.kept.nm (by omega), Nat.zero_le _⟩
        · exact absurd h7 q
theorem merge_law (w : World) (F : Nat → Prop) (p : Pl) (k : Dsk) (g : Gst) (P : List Int) (L S : Nat) (h : Alive w F p k g P L S) (hLS : L + S ≤ 80) (hP : P.length ≤ 1000) (he : k.eff + 5000 ≤ 1000000000) :
    Calls Tryz.prog 22 #[.pointer (some ⟨p.s, 0, none⟩)] w fun e w' => ∃ r : Int, e = .returned (.int .i64 r) ∧ MergeLaw w F p k g P L S r w' := by
  have hfew := h.kept.ok.few
  have hok := h.kept.ok
  have hns := hok.nseg
  have hnl := hok.nlog
  have hsf := segs_few hok
  have hsg : ∀ y ∈ segNos g, y < 100 := hok.seg_few (by omega)
  by_cases hc0 : segNos g = []
  · have hs := h.st
    rw [hc0] at hs
    refine (merge_none w F p k g.first (logNo g) g.begun (live g) (settled g) (came g) hs).mono ?_
    rintro e w' ⟨he, hw⟩
    exact ⟨0, he, .inl ⟨hc0, rfl, hw⟩⟩
  have hrise := is_rise h.st.disk
  obtain ⟨hw, ho⟩ := repl_told (l := settled g) hok (by omega) hok.merge (by omega) h.kept.told h.up hrise (nexts_merge g) (h.kept.nm.mono (Nat.le_refl L) (Nat.le_succ S)) (by omega) (by omega)
  rw [repl_chain] at hw ho
  have hs' : segNos (gMerge g) = [nextN (segNos g)] := by simp [segNos, gMerge, nextN_eq]
  have hf' : (gMerge g).first = g.first := rfl
  rw [hs', hf'] at hw ho
  obtain ⟨kk, hkk⟩ : ∃ x, x = chainK (replR g.first (segNos g) g.first [nextN (segNos g)] (nextSeg g) (settled g)) k := ⟨_, rfl⟩
  rw [← hkk] at hw ho
  have hgf : g.first < 100 := by
    have : g.first ≤ nextLog g := Nat.le_add_right _ _
    omega
  refine (merge_any w F p k g.first (segNos g) (logNo g) g.begun (live g) (settled g) (came g) h.st hc0 hsg (by omega)
    (fun w' c => c = kk.2 ∧ ((c = 7 ∧ At1 w F p kk.1 0 [] (logNo g) g.begun true [] [] [] w') ∨ (c ≠ 7 ∧ Repl w F p kk.1 g.first (segNos g) g.first [nextN (segNos g)] (logNo g) g.begun false (live g) (settled g) (came g) c w')))
    (fun W y hb hcell hy => ?_)).mono ?_
  · have hbT : Turned (fullF p F) w W := Turned.of_below hb
    have hI : Ivs W (some ⟨y, 0, none⟩) 1 ([nextN (segNos g)].map Int.ofNat) := ⟨rfl, fun j hj => by
      obtain rfl : j = 0 := by simp at hj; exact hj
      exact ⟨y, 0, rfl, World.block_lt_of_cell? W _ hcell, hcell⟩⟩
    have hra := repl_any W F p k g.first g.first 1 1 (segNos g) [nextN (segNos g)] (logNo g) g.begun false (live g) (settled g) (came g) p.ms (nextSeg g) L (S + 1) (some ⟨y, 0, none⟩) (settled g) (h.st.later hb) (.inr ⟨rfl, rfl⟩) hI
      (Away.new (N := w.heap.size) (fun A n cp e a ha => by
        injection e with e1
        rw [← e1] at ha
        injection ha with ha
        rw [← ha]
        exact hy) fun b hb => h.st.lt b hb) (by rw [nextN_eq]; rfl) (by omega) (by omega) (fun c hc => (hok.settled.2.2 c hc).1) (by omega) (h.kept.nm.mono (Nat.le_refl _) (Nat.le_succ _)) (by omega) (by omega) hgf hgf (by omega) hsg (fun z hz => by
        obtain rfl : z = nextN (segNos g) := by simpa using hz
        rw [← nextN_eq]
        omega) (List.pairwise_singleton _ _) he
    rw [← hkk] at hra
    refine hra.mono ?_
    rintro e w' ⟨c, he, hc, h1⟩
    refine ⟨c, he, hc, ?_⟩
    rcases h1 with ⟨q, h1⟩ | ⟨q, h1⟩
    · exact .inl ⟨q, h1.trans hbT fun _ h => .inl h⟩
    · exact .inr ⟨q, h1.trans hbT fun _ h => .inl h⟩
  · rintro e w' ⟨r, he, hr, h1⟩
    refine ⟨r, he, .inr ⟨hc0, ?_⟩⟩
    unfold ReplLaw
    rw [hs', hf']
    rw [← hr] at hw ho
    rcases ho with ⟨h6, hup, ht, hfull⟩ | ⟨h0, hup, ht⟩ | ⟨h7, hdn, ht⟩
    · rcases h1 with ⟨q, _⟩ | ⟨_, h1⟩
      · omega
      · rcases h1 with ⟨q, _⟩ | ⟨_, hA⟩ | ⟨_, q, _⟩
        · omega
        · exact at1_after hA fun F' hS => ⟨hw, .inl ⟨h6, ⟨hS, ⟨ht, hok.mono (fun _ h => h) (Nat.le_refl _) (Nat.le_succ _), kept_names hw h.kept.nm (by omega), h.kept.cnt⟩, hup⟩, hfull⟩⟩
        · exact absurd h6 q
    · rcases h1 with ⟨q, _⟩ | ⟨_, h1⟩
      · omega
      · rcases h1 with ⟨_, hA⟩ | ⟨q, _⟩ | ⟨q, _⟩
        · refine at1_after hA fun F' hS => ⟨hw, .inr (.inl ⟨h0, ?_, ⟨ht, hok.merge, kept_names hw h.kept.nm (by omega), h.kept.cnt⟩, hup⟩)⟩
          obtain ⟨e1, e2, e3⟩ := merge_live hok
          have e5 : logNo (gMerge g) = logNo g := rfl
          have e6 : (gMerge g).begun = g.begun := rfl
          rw [hs', hf', e1, e2, e3, e5, e6]
          exact hS
        · exact absurd h0 q
        · exact absurd h0 q
    · rcases h1 with ⟨_, hA⟩ | ⟨q, _⟩
      · refine at1_after hA fun F' hS => ⟨hw, .inr (.inr ⟨h7, ⟨hdn, _, _, hS⟩, ?_⟩)⟩
        rcases ht with ht | ht
        · exact .inl ⟨ht, hok.mono (fun _ h => h) (Nat.le_refl _) (Nat.le_succ _), kept_names hw h.kept.nm (by omega), h.kept.cnt⟩
        · exact .inr ⟨ht, hok.merge, kept_names hw h.kept.nm (by omega), h.kept.cnt⟩
      · exact absurd h7 q
end Go.Proofs.YtddnnhfffmhpmaaGreatDoor.St

/- A store is opened on what its disk tells. -/
namespace Go.Proofs.YtddnnhfffmhpmaaGreatDoor.St
open Go.RowKit Go.Proofs.YtddnnhfffmhpmaaGreatDoor DocM StoM Do
open VdM

theorem segs_rd : ∀ (l : List (Nat × Chs)) (a : Chs), segsRd (l.map fun x => some x.2) a = some (doAll a (l.flatMap (·.2)))
  | [], _ => rfl
  | x :: t, a => by
    rw [List.map_cons, segsRd, segs_rd t, List.flatMap_cons, doAll_append]
theorem segs_count : ∀ (l : List (Nat × Chs)) (n : Nat), (∀ x ∈ l, x.2.length ≤ n) → chCount (l.map fun x => some x.2) ≤ l.length * n
  | [], _, _ => by simp [chCount]
  | x :: t, n, h => by
    have h1 := segs_count t n fun y hy => h y (List.mem_cons_of_mem _ hy)
    have h2 := h x List.mem_cons_self
    have e : chCount ((x :: t).map fun x => some x.2) = x.2.length + chCount (t.map fun x => some x.2) := by simp [chCount]
    rw [e, List.length_cons, Nat.succ_mul]
    omega
theorem man_is {k : Dsk} {g : Gst} {P : List Int} {L S : Nat} (h : Kept k g P L S) (hLS : L + S ≤ 90) : ManIs k.fs (some (g.first, segNos g)) := by
  have hf : g.first ≤ nextLog g := Nat.le_add_right _ _
  have hnl := h.ok.nlog
  have hsf := segs_few h.ok
  rcases h.told.man with ⟨h1, h2, h3⟩ | h1
  · refine .inl ⟨h1, ?_⟩
    have : segNos g = [] := by unfold segNos; rw [h3]; rfl
    rw [h2, this]
  · exact .inr (.inl ⟨_, g.first, segNos g, h1, rfl, h.ok.segR, h.ok.seg_few (by omega), by omega, by omega, rfl⟩)
theorem seg_is {k : Dsk} {g : Gst} {P : List Int} {L S : Nat} (h : Kept k g P L S) (hLS : L + S ≤ 90) (hP : P.length ≤ 1000) : SegsIs k.fs (segNos g) (g.segs.map fun x => some x.2) := by
  have hsf := segs_few h.ok
  have hlen : ∀ x ∈ g.segs, x.2.length ≤ 1000 := fun x hx => Nat.le_trans (rise_few (h.ok.segC x hx).1 fun c hc => ((h.ok.segC x hx).2 c hc).2) hP
  refine ⟨by omega, h.ok.seg_few (by omega), by unfold segNos; simp, fun i h1 h2 => ?_, ?_⟩
  · have h3 : i < g.segs.length := by simpa using h2
    have hm := List.getElem_mem h3
    have e1 : (segNos g)[i] = g.segs[i].1 := List.getElem_map _
    have e2 : (g.segs.map fun x => some x.2)[i] = some g.segs[i].2 := List.getElem_map _
    rw [e1, e2]
    exact .inl ⟨_, g.segs[i].2, h.told.seg _ hm, rfl, fun c hc => ((h.ok.segC _ hm).2 c hc).1, (h.ok.segC _ hm).1, hlen _ hm, rfl⟩
  · have h1 := segs_count g.segs 1000 hlen
    have h2 : g.segs.length = (segNos g).length := by unfold segNos; simp
    have h3 : g.segs.length * 1000 ≤ 90 * 1000 := Nat.mul_le_mul_right _ (by omega)
    omega
/-- the store at p, made behind w -/
def NewP (w : World) (p : Pl) : Prop := w.heap.size ≤ p.s ∧ w.heap.size ≤ p.ml ∧ w.heap.size ≤ p.ms ∧ w.heap.size ≤ p.mc
theorem open_law (w : World) (F : Nat → Prop) (d : Nat) (k : Dsk) (g : Gst) (P : List Int) (L S : Nat) (h : Vd.Is w F d k) (hk : Kept k g P L S) (hd : k.down = false) (hLS : L + S ≤ 90) (hP : P.length ≤ 1000) :
    Calls Tryz.prog 11 #[.pointer (some ⟨d, 0, none⟩)] w fun e w' => ∃ p, e = .returned (.tuple #[.pointer (some ⟨p.s, 0, none⟩), .int .i64 0]) ∧ p.d = d ∧ NewP w p ∧ Below w.heap.size w w' ∧ Alive w' F p k (gOpen g) P L S := by
  have hcnt := hk.cnt
  have hset : (settled g).length ≤ 1000 := Nat.le_trans hk.ok.few.2.1 hP
  have hrd : segsRd (g.segs.map fun x => some x.2) [] = some (settled g) := segs_rd g.segs []
  refine (open_any w F d k g _ (g.segs.map fun x => some x.2) h hd (man_is hk hLS) (fun f l e => ?_) (fun f l st e1 e2 => ?_)).mono ?_
  · injection e with e
    injection e with e1 e2
    rw [← e2]
    exact seg_is hk hLS hP
  · injection e1 with e1
    injection e1 with e3 e4
    rw [hrd] at e2
    injection e2 with e2
    refine ⟨e3, hk.told, fun y hy => ⟨fun c hc => ((hk.ok.logC y hy).1 c hc).1, (hk.ok.logC y hy).2⟩, ?_⟩
    rw [← e2]
    omega
  · rintro e w' ⟨hb, h1⟩
    rcases h1 with ⟨f, l, st, p, e1, e2, he, hpd, hpn, hS⟩ | ⟨hbad, _⟩
    · injection e1 with e1
      injection e1 with e3 e4
      rw [hrd] at e2
      injection e2 with e2
      subst e3 e4 e2
      refine ⟨p, he, hpd, hpn, hb, ?_, ⟨hk.told.open_, hk.ok.open_, hk.nm, hk.cnt⟩, hd⟩
      have e5 : logNo (gOpen g) = nextLog g := rfl
      have e6 : came (gOpen g) = ptAll [] (logCh g) := rfl
      have e7 : live (gOpen g) = doAll (settled g) (logCh g) := rfl
      have e8 : settled (gOpen g) = settled g := rfl
      have e9 : segNos (gOpen g) = segNos g := rfl
      rw [e5, e6, e7, e8, e9]
      exact hS
    · rcases hbad with hbad | hbad
      · cases hbad
      · rw [hrd] at hbad
        cases hbad
end Go.Proofs.YtddnnhfffmhpmaaGreatDoor.St

/- The document's list: rows of its changes; where one stands; what Put answers. -/
namespace Go.Proofs.YtddnnhfffmhpmaaGreatDoor.St
open Go.RowKit Go.Proofs.YtddnnhfffmhpmaaGreatDoor DocM StoM Do

theorem dchTy : RowTy 48 29 (.agg #[.int .i64 0, .slice none 0 0, .slice none 0 0, .int .i64 0, .bool false]) 5 72 := ⟨by kernel_rfl, Tryz.underlying29, rfl, by decide, by decide⟩
/-- a row of the document's changes; their slices are as they lay in W0 -/
structure Drow (W0 w : World) (base : Nat) (v : Value) (xs : List Cx) : Prop where
  own : w.ownsRow base 48 5 v xs.length (xs.flatMap enc5)
  rd : ∀ x ∈ xs, Prd W0 x.2.1 x.1.ts ∧ Vrd W0 x.2.2 x.1.v
theorem Drow.nil_ (W0 w : World) (base : Nat) : Drow W0 w base (.slice none 0 0) [] := ⟨World.ownsRow_nil _ _ _ _, fun x hx => by simp at hx⟩
theorem Drow.later {W0 w w' : World} {base : Nat} {v : Value} {xs : List Cx} (h : Drow W0 w base v xs) (hb : Below w.heap.size w w') : Drow W0 w' base v xs := ⟨row_later h.own hb, h.rd⟩
/-- one element's cells -/
theorem Drow.at_ {W0 w : World} {base : Nat} {v : Value} {xs : List Cx} (h : Drow W0 w base v xs) {i : Nat} (hi : i < xs.length) : ∃ g cap, v = .slice (some ⟨g, 0, none⟩) xs.length cap ∧ base ≤ g ∧ g < w.heap.size ∧ ∃ (p q : Option Addr) (n1 k1 m1 j1 : Nat), xs[i].2.1 = .slice p n1 k1 ∧ xs[i].2.2 = .slice q m1 j1 ∧
    w.cell? ⟨g, i * 5, none⟩ = some (.int .i64 xs[i].1.doc) ∧ w.cell? ⟨g, i * 5 + 1, none⟩ = some (.slice p n1 k1) ∧ w.cell? ⟨g, i * 5 + 2, none⟩ = some (.slice q m1 j1) ∧ w.cell? ⟨g, i * 5 + 3, none⟩ = some (.int .i64 xs[i].1.tags) ∧ w.cell? ⟨g, i * 5 + 4, none⟩ = some (.bool xs[i].1.gone) := by
  obtain ⟨f0, f1, f2, f3, f4⟩ := flat5_get xs i hi
  obtain ⟨hP, hV⟩ := h.rd xs[i] (List.getElem_mem hi)
  obtain ⟨p, k1, e1, _⟩ := hP
  obtain ⟨q, j1, e2, _⟩ := hV
  rcases row_form h.own with ⟨_, h0⟩ | ⟨g, cap, e, _, hb, hl, hc⟩
  · omega
  · rw [e1] at f1
    rw [e2] at f2
    exact ⟨g, cap, e, hb, hl, p, q, _, k1, _, j1, e1, e2, hc _ _ f0, hc _ _ f1, hc _ _ f2, hc _ _ f3, hc _ _ f4⟩
/-- where a document stands -/
def fdI : Chs → Int → Int
  | [], _ => -1
  | x :: t, n => if x.doc = n then 0 else if fdI t n < 0 then -1 else fdI t n + 1
theorem fd_ge : ∀ (l : Chs) (n : Int), -1 ≤ fdI l n
  | [], _ => Int.le_refl _
  | x :: t, n => by
    have := fd_ge t n
    unfold fdI
    split
    · omega
    · split <;> omega
theorem fd_here : ∀ (l : Chs) (n : Int) (i : Nat) (hi : i < l.length), l[i].doc = n → (∀ j (hj : j < l.length), j < i → l[j].doc ≠ n) → fdI l n = (i : Int)
  | [], _, i, hi, _, _ => by simp at hi
  | x :: t, n, 0, _, h, _ => by
    have h' : x.doc = n := h
    unfold fdI
    rw [if_pos h']
    rfl
  | x :: t, n, i + 1, hi, h, hb => by
    have h0 : x.doc ≠ n := hb 0 (by simp) (by omega)
    have := fd_here t n i (by simpa using hi) (by simpa using h) fun j hj hji => by
      have := hb (j + 1) (by simpa using hj) (by omega)
      simpa using this
    unfold fdI
    rw [if_neg h0, this, if_neg (by omega)]
    omega
theorem fd_none : ∀ (l : Chs) (n : Int), (∀ j (hj : j < l.length), l[j].doc ≠ n) → fdI l n = -1
  | [], _, _ => rfl
  | x :: t, n, hb => by
    have h0 : x.doc ≠ n := hb 0 (by simp)
    have := fd_none t n fun j hj => by
      have := hb (j + 1) (by simpa using hj)
      simpa using this
    unfold fdI
    rw [if_neg h0, this]
    rfl
theorem fd_lk : ∀ (l : Chs) (n : Int), fdI l n < 0 ↔ (lkC l n).isSome = false
  | [], _ => by simp [fdI, lkC]
  | x :: t, n => by
    unfold fdI
    rw [lkC]
    by_cases h : x.doc = n
    · rw [if_pos h, if_pos h]; simp
    · rw [if_neg h, if_neg h, ← fd_lk t n]
      have := fd_ge t n
      split <;> omega
set_option maxHeartbeats 1000000 in
set_option maxRecDepth 100000 in
theorem find11_any (W0 w : World) (base : Nat) (v : Value) (xs : List Cx) (n : Int) (h : Drow W0 w base v xs) (hn : xs.length ≤ 1000000) :
    Calls Tryz.prog 34 #[v, .int .i64 n] w fun e w' => e = .returned (.int .i64 (fdI (xs.map (·.1)) n)) ∧ w = w' := by
  obtain ⟨A, cap, rfl⟩ := Go.Proofs.YtddnnhfffmhpmaaGreatDoor.row_shape h.own
  have H := Lib.hid h
  obtain ⟨m, hm⟩ : ∃ m, m = xs.length := ⟨_, rfl⟩
  rw [← hm] at hn ⊢
  have HM := Lib.hid hm
  clear h hm
  go_enter Tryz.func34, Tryz.ntmps34
  go_wp2
  go_loop [5] (fun x => ∃ i : Nat, x = .int .i64 (i : Int) ∧ i ≤ m ∧ ∀ j (hj : j < xs.length), j < i → xs[j].1.doc ≠ n) (fun x => m - (intOf x).toNat)
  case atStart => exact ⟨0, rfl, Nat.zero_le _, fun j _ h => by omega⟩
  case round =>
    obtain ⟨i, rfl, hi, hb⟩ := hrel
    by_cases hil : i < m
    · have hib : (i : Int) < (m : Int) := by omega
      have hix : i < xs.length := by have := HM.out; omega
      obtain ⟨g, cap2, hA, _, _, p, q, n1, k1, m1, j1, _, _, c0, _⟩ := H.out.at_ hix
      obtain ⟨o, ho⟩ : ∃ o : Nat, o = 0 := ⟨_, rfl⟩
      have hA9 : A = some ⟨g, o, none⟩ := by
        injection hA with e1
        rw [e1, ho]
      subst hA9
      obtain ⟨d, hd⟩ : ∃ d, d = xs[i].1.doc := ⟨_, rfl⟩
      rw [← hd] at c0
      have d0 : w.cell? ⟨g, o + i * 5, none⟩ = some (.int .i64 d) := by rw [ho, Nat.zero_add]; exact c0
      have HB := Lib.hid hb
      have HD := Lib.hid hd
      clear c0 hA ho hb hd
      by_cases hdn : d = n
      · have hbb : (d == n) = true := by simpa using hdn
        have HE : Hid (fdI (xs.map (·.1)) n = (i : Int)) := Lib.hid (fd_here _ n i (by simpa using hix) (by simp; rw [← HD.out]; exact hdn) fun j hj hji => by simp; exact HB.out j (by simpa using hj) hji)
        clear hdn
        go_wp2
        go_ret
        exact ⟨ret_int HE.out.symm, rfl⟩
      · have hbb : (d == n) = false := by simpa using hdn
        have HN : Hid (∀ j (hj : j < xs.length), j < i + 1 → xs[j].1.doc ≠ n) := Lib.hid (fun j hj hji => by
          by_cases e : j = i
          · subst e
            rw [← HD.out]
            exact hdn
          · exact HB.out j hj (by omega))
        clear hdn
        go_wp2
        go_round
        case rel => exact ⟨i + 1, by go_num, by omega, HN.out⟩
        case measure => simp [intOf]; omega
    · have hib : ¬ (i : Int) < (m : Int) := by omega
      have HE : Hid (fdI (xs.map (·.1)) n = -1) := Lib.hid (fd_none _ n fun j hj => by
        simp
        exact hb j (by simpa using hj) (by have h1 := HM.out; have h2 : j < xs.length := (by simpa using hj); omega))
      clear hb
      go_wp2
      go_ret
      exact ⟨ret_int HE.out.symm, rfl⟩
end Go.Proofs.YtddnnhfffmhpmaaGreatDoor.St

/- What the document's Put answers. -/
namespace Go.Proofs.YtddnnhfffmhpmaaGreatDoor.St
open Go.RowKit Go.Proofs.YtddnnhfffmhpmaaGreatDoor DocM StoM Do

/-- a step of its loop -/
def stO (y : Cx) (s : List Cx × Bool) (x : Cx) : List Cx × Bool :=
  let a := if s.2 = false ∧ y.1.doc ≤ x.1.doc then (s.1 ++ [y], true) else s
  (if x.1.doc ≠ y.1.doc then a.1 ++ [x] else a.1, a.2)
def finO (y : Cx) (s : List Cx × Bool) : List Cx := if s.2 = false then s.1 ++ [y] else s.1
def outO (y : Cx) (xs : List Cx) : List Cx := finO y (xs.foldl (stO y) ([], y.1.gone))
theorem st_done (y : Cx) : ∀ (xs a : List Cx), xs.foldl (stO y) (a, true) = (a ++ xs.filter (fun x => decide (x.1.doc ≠ y.1.doc)), true)
  | [], a => by simp
  | x :: t, a => by
    rw [List.foldl_cons]
    have e : stO y (a, true) x = (if x.1.doc ≠ y.1.doc then a ++ [x] else a, true) := by
      unfold stO
      rw [if_neg (by simp)]
    rw [e, st_done y t, List.filter_cons]
    by_cases h : x.1.doc ≠ y.1.doc
    · rw [if_pos h, if_pos (by simpa using h)]
      simp
    · rw [if_neg h, if_neg (by simpa using h)]
theorem dl_filter (n : Int) : ∀ l : Chs, dlC n l = l.filter fun x => decide (x.doc ≠ n)
  | [] => rfl
  | x :: t => by
    unfold dlC
    rw [List.filter_cons, dl_filter n t]
    by_cases h : x.doc = n
    · rw [if_pos h, if_neg (by simpa using h)]
    · rw [if_neg h, if_pos (by simpa using h)]
theorem filter_fst (n : Int) (xs : List Cx) : (xs.filter fun x => decide (x.1.doc ≠ n)).map (·.1) = dlC n (xs.map (·.1)) := by
  rw [dl_filter, List.filter_map]
  rfl
theorem st_open (y : Cx) : ∀ (xs a : List Cx), RiseC (xs.map (·.1)) → (finO y (xs.foldl (stO y) (a, false))).map (·.1) = a.map (·.1) ++ ptC y.1 (xs.map (·.1))
  | [], a, _ => by simp [finO, ptC]
  | x :: t, a, h => by
    obtain ⟨h1, h2⟩ := List.pairwise_cons.1 h
    rw [List.foldl_cons, List.map_cons, ptC]
    by_cases hle : y.1.doc ≤ x.1.doc
    · have e : stO y (a, false) x = (if x.1.doc ≠ y.1.doc then (a ++ [y]) ++ [x] else a ++ [y], true) := by
        unfold stO
        rw [if_pos ⟨rfl, hle⟩]
      rw [e, st_done]
      have hf : dlC y.1.doc (t.map (·.1)) = t.map (·.1) := del_none (lk_none.2 fun hm => by
        obtain ⟨z, hz, ez⟩ := List.mem_map.1 hm
        have := h1 z hz
        have hx : x.1.doc < z.doc := this
        omega)
      have hf2 := filter_fst y.1.doc t
      rw [hf] at hf2
      unfold finO
      rw [if_neg (by simp)]
      by_cases he : x.1.doc = y.1.doc
      · rw [if_neg (by simpa using he), if_neg (by omega), if_pos he]
        simp only [List.map_append, hf2]
        simp
      · rw [if_pos he, if_pos (by omega)]
        simp only [List.map_append, hf2]
        simp
    · have e : stO y (a, false) x = (a ++ [x], false) := by
        have hne : x.1.doc ≠ y.1.doc := by omega
        unfold stO
        rw [if_neg (fun hc => hle hc.2)]
        simp [hne]
      rw [e, st_open y t (a ++ [x]) h2, if_neg (by omega), if_neg (by omega)]
      simp
theorem out_is (y : Cx) (xs : List Cx) (h : RiseC (xs.map (·.1))) : (outO y xs).map (·.1) = doC y.1 (xs.map (·.1)) := by
  unfold outO doC
  cases hg : y.1.gone with
  | true =>
    rw [st_done, if_pos rfl]
    unfold finO
    rw [if_neg (by simp), List.nil_append]
    exact filter_fst _ _
  | false =>
    rw [st_open y xs [] h, if_neg (by simp)]
    rfl
theorem st_mem (y : Cx) : ∀ (xs : List Cx) (s : List Cx × Bool) (z : Cx), z ∈ (xs.foldl (stO y) s).1 → z ∈ s.1 ∨ z = y ∨ z ∈ xs
  | [], s, z, h => .inl h
  | x :: t, s, z, h => by
    rw [List.foldl_cons] at h
    have hs : z ∈ (stO y s x).1 → z ∈ s.1 ∨ z = y ∨ z = x := fun h => by
      unfold stO at h
      simp only at h
      have hm : ∀ {a : List Cx}, z ∈ (if x.1.doc ≠ y.1.doc then a ++ [x] else a) → z ∈ a ∨ z = x := fun {a} h => by
        split at h
        · simpa using h
        · exact .inl h
      rcases hm h with h | h
      · split at h
        · simp at h
          rcases h with h | h
          · exact .inl h
          · exact .inr (.inl h)
        · exact .inl h
      · exact .inr (.inr h)
    rcases st_mem y t _ z h with h | h | h
    · rcases hs h with h | h | h
      · exact .inl h
      · exact .inr (.inl h)
      · exact .inr (.inr (by rw [h]; exact List.mem_cons_self))
    · exact .inr (.inl h)
    · exact .inr (.inr (List.mem_cons_of_mem _ h))
theorem st_len (y : Cx) : ∀ (xs : List Cx) (s : List Cx × Bool), (xs.foldl (stO y) s).1.length ≤ s.1.length + 2 * xs.length
  | [], s => by simp
  | x :: t, s => by
    rw [List.foldl_cons]
    have h1 := st_len y t (stO y s x)
    have h2 : (stO y s x).1.length ≤ s.1.length + 2 := by
      unfold stO
      simp only
      split <;> split <;> simp
    rw [List.length_cons]
    omega
/-- the code of the document's Put -/
def putE (l : Chs) (c : Ch) : Int := if rightC c ≠ 0 then rightC c else admC false l c
def putD (l : Chs) (c : Ch) : Chs := if putE l c = 0 then doC c l else l
def C5 (W : World) (g o : Nat) (d : Int) (T V : Value) (t : Int) (b : Bool) : Prop := W.cell? ⟨g, o, none⟩ = some (.int .i64 d) ∧ W.cell? ⟨g, o + 1, none⟩ = some T ∧ W.cell? ⟨g, o + 2, none⟩ = some V ∧ W.cell? ⟨g, o + 3, none⟩ = some (.int .i64 t) ∧ W.cell? ⟨g, o + 4, none⟩ = some (.bool b)
/-- its loop's state behind i elements -/
def SS (y : Cx) (xs : List Cx) (i : Nat) : List Cx × Bool := (xs.take i).foldl (stO y) ([], y.1.gone)
theorem ss_next (y : Cx) (xs : List Cx) (i : Nat) (h : i < xs.length) : SS y xs (i + 1) = stO y (SS y xs i) xs[i] := by
  unfold SS
  rw [List.take_succ_eq_append_getElem h, List.foldl_append]
  rfl
theorem ss_all (y : Cx) (xs : List Cx) : outO y xs = finO y (SS y xs xs.length) := by
  unfold SS outO
  rw [List.take_length]
theorem row5_at {W : World} {g j : Nat} {u a0 a1 a2 a3 a4 : Value} {e : TypeId} (hg : W.heap[g]? = some (.cells #[a0, a1, a2, a3, a4] e (0, 0))) (hu : [a0, a1, a2, a3, a4][j]? = some u) : W.cell? ⟨g, j, none⟩ = some u := by
  match j, hu with
  | 0, hu => exact cell_of_cells (i := 0) hg (by simpa using hu)
  | 1, hu => exact cell_of_cells (i := 1) hg (by simpa using hu)
  | 2, hu => exact cell_of_cells (i := 2) hg (by simpa using hu)
  | 3, hu => exact cell_of_cells (i := 3) hg (by simpa using hu)
  | 4, hu => exact cell_of_cells (i := 4) hg (by simpa using hu)
theorem row5_one {d t : Int} {p q : Option Addr} {n k m j : Nat} {b : Bool} : ∀ u ∈ [Value.int .i64 d, .slice p n k, .slice q m j, .int .i64 t, .bool b], u.oneCell' = true := fun u hu => by
  simp only [List.mem_cons, List.not_mem_nil, or_false] at hu
  rcases hu with rfl | rfl | rfl | rfl | rfl <;> rfl
theorem cx_snoc {w : World} {B : Nat} {e : TypeId} {v : Value} {so : List Cx} {z : Cx} {l : List Value} (h : w.ownsRow B e 5 v (so.length + 1) (so.flatMap enc5 ++ l)) (hz : enc5 z = l) : w.ownsRow B e 5 v (so ++ [z]).length ((so ++ [z]).flatMap enc5) := by
  rw [List.length_append, List.flatMap_append, List.flatMap_singleton, hz]
  exact h
def PutDoc (W0 w : World) (v : Value) (xs : List Cx) (y : Cx) (e : Ending) (w' : World) : Prop :=
  Below w.heap.size w w' ∧ ((putE (xs.map (·.1)) y.1 ≠ 0 ∧ e = .returned (.tuple #[v, .int .i64 (putE (xs.map (·.1)) y.1)])) ∨ (putE (xs.map (·.1)) y.1 = 0 ∧ ∃ v', e = .returned (.tuple #[v', .int .i64 0]) ∧ Drow W0 w' w.heap.size v' (outO y xs)))
set_option maxHeartbeats 4000000 in
set_option maxRecDepth 100000 in
theorem refput11_any (W0 w : World) (base : Nat) (v : Value) (xs : List Cx) (c : Ch) (A1 A2 : Option Addr) (n1 k1 n2 k2 : Nat) (h : Drow W0 w base v xs) (hn : xs.length ≤ 1000) (hT : Prd W0 (.slice A1 n1 k1) c.ts) (hV : Vrd W0 (.slice A2 n2 k2) c.v) (hw : Below W0.heap.size W0 w) (hts : n1 ≤ 1000000) (hvs : n2 ≤ 1000000) (hd : ∀ x ∈ xs, -9223372036854775808 ≤ x.1.doc ∧ x.1.doc ≤ 9223372036854775807) :
    Calls Tryz.prog 13 #[v, chV c (.slice A1 n1 k1) (.slice A2 n2 k2)] w (PutDoc W0 w v xs (c, .slice A1 n1 k1, .slice A2 n2 k2)) := by
  obtain ⟨A, cap, rfl⟩ := Go.Proofs.YtddnnhfffmhpmaaGreatDoor.row_shape h.own
  obtain ⟨m, hm⟩ : ∃ m, m = xs.length := ⟨_, rfl⟩
  rw [← hm] at hn ⊢
  have hb0 := pl1 w (.cells #[.int .i64 c.doc, .slice A1 n1 k1, .slice A2 n2 k2, .int .i64 c.tags, .bool c.gone] 48)
  have hbk := heap_alloc_new w (.cells #[.int .i64 c.doc, .slice A1 n1 k1, .slice A2 n2 k2, .int .i64 c.tags, .bool c.gone] 48)
  have hpairs : ∀ W, Below W0.heap.size W0 W → Pairs W A1 n1 c.ts ∧ Ivs W A2 n2 c.v := fun W hW => by
    obtain ⟨B1, c1, e1, _, _, g1⟩ := hT.later hW
    obtain ⟨B2, c2, e2, g2⟩ := hV.later hW
    injection e1 with e11 e12 e13
    injection e2 with e21 e22 e23
    subst e11 e12 e13 e21 e22 e23
    exact ⟨g1, g2⟩
  have hX := hw.trans (hb0.mono hw.size)
  have HRC := Lib.hid (refright10_any c A1 A2 n1 k1 n2 k2 _ (hpairs _ hX).1 (hpairs _ hX).2 hts hvs)
  have HFD := Lib.hid (fun W (hb : Below w.heap.size w W) => find11_any W0 W base (.slice A xs.length cap) xs c.doc (h.later hb) (by omega))
  rw [← hm] at HFD
  have HD := Lib.hid h
  have HB0 := Lib.hid hb0
  have HBK := Lib.hid hbk
  have HM := Lib.hid hm
  have HX := Lib.hid hX
  have HVW := Lib.hid hT
  have HVV := Lib.hid hV
  obtain ⟨N, hN⟩ : ∃ N, N = w.heap.size := ⟨_, rfl⟩
  rw [← hN] at hbk HBK
  have HNE := Lib.hid hN
  have hdc := hd
  obtain ⟨fz, hfz⟩ : ∃ z, z = fdI (xs.map (·.1)) c.doc := ⟨_, rfl⟩
  rw [← hfz] at HFD
  have HFZ := Lib.hid hfz
  have hfg := fd_ge (xs.map (·.1)) c.doc
  rw [← hfz] at hfg
  obtain ⟨rc, hrc⟩ : ∃ z, z = rightC c := ⟨_, rfl⟩
  rw [← hrc] at HRC
  have HRR := Lib.hid hrc
  have HPE : Hid (putE (xs.map (·.1)) c = if rc ≠ 0 then rc else admC false (xs.map (·.1)) c) := Lib.hid (by unfold putE; rw [← hrc])
  have HML : Hid ((xs.map (·.1)).length = m) := Lib.hid (by rw [List.length_map, hm])
  unfold chV at HRC ⊢
  clear h hT hV hw hb0 hbk hpairs hX hm hN hfz hrc hd
  obtain ⟨gn, hgn⟩ : ∃ b, b = c.gone := ⟨_, rfl⟩
  rw [← hgn] at HRC HB0 HBK HX ⊢
  generalize hwx : w.alloc (.cells #[.int .i64 c.doc, .slice A1 n1 k1, .slice A2 n2 k2, .int .i64 c.tags, .bool gn] 48) = X at HRC HB0 HBK HX
  have HWX := Lib.hid hwx
  have HGN := Lib.hid hgn
  obtain ⟨y, hy⟩ : ∃ y : Cx, y = (c, .slice A1 n1 k1, .slice A2 n2 k2) := ⟨_, rfl⟩
  rw [← hy]
  have HY := Lib.hid hy
  have HY1 : Hid (y.1 = c) := Lib.hid (by rw [hy])
  clear hwx hgn hy
  by_cases hr0 : rc = 0
  rotate_left
  · have hrb : (rc != 0) = true := by simpa using hr0
    have HF : Hid (∀ w', Below w.heap.size w w' → PutDoc W0 w (.slice A m cap) xs y (.returned (.tuple #[.slice A m cap, .int .i64 rc])) w') := Lib.hid (fun w' hb => by
      have hp : putE (xs.map (·.1)) y.1 = rc := by rw [HY1.out, HPE.out, if_pos hr0]
      exact ⟨hb, .inl ⟨by rw [hp]; exact hr0, by rw [hp]⟩⟩)
    clear hr0
    go_enter Tryz.func13, Tryz.ntmps13
    go_wp2_with fail
    rw [HWX.out]
    refine HRC.out.mono ?_
    rintro e w1 ⟨rfl, hb1⟩
    have HB1 := Lib.hid (HF.out w1 (HB0.out.trans (hb1.mono HB0.out.size)))
    clear hb1
    go_wp2
    go_ret2
    exact HB1.out
  have hrb : (rc != 0) = false := by simpa using hr0
  have HPE2 : Hid (putE (xs.map (·.1)) c = admC false (xs.map (·.1)) c) := Lib.hid (by rw [HPE.out, if_neg (by simpa using hr0)])
  have HLK : Hid (decide (fz < 0) = !(lkC (xs.map (·.1)) c.doc).isSome) := Lib.hid (by
    have := fd_lk (xs.map (·.1)) c.doc
    rw [← HFZ.out] at this
    cases hq : (lkC (xs.map (·.1)) c.doc).isSome with
    | true =>
      rw [hq] at this
      exact decide_eq_false (fun h => by have := this.1 h; cases this)
    | false =>
      rw [hq] at this
      exact decide_eq_true (this.2 rfl))
  obtain ⟨is, his⟩ : ∃ b, b = (lkC (xs.map (·.1)) c.doc).isSome := ⟨_, rfl⟩
  rw [← his] at HLK
  have HADM : Hid (admC false (xs.map (·.1)) c = if gn = true ∧ is = false then 4 else if gn = false ∧ is = false ∧ 256 ≤ m then 3 else 0) := Lib.hid (by
    unfold admC
    rw [if_neg (by simp), ← his, ← HGN.out, HML.out])
  clear his HPE
  subst hr0
  go_enter Tryz.func13, Tryz.ntmps13
  go_wp2_with fail
  rw [HWX.out, ← HNE.out]
  refine HRC.out.mono ?_
  rintro e w1 ⟨rfl, hb1⟩
  have hbw := HB0.out.trans (hb1.mono HB0.out.size)
  have HFD1 := Lib.hid (HFD.out w1 hbw)
  have hbk1 := blk_stay hb1 HBK.out
  have c0 : w1.cell? ⟨N, 0, none⟩ = some (.int .i64 c.doc) := cell_of_cells hbk1 rfl
  have c1 : w1.cell? ⟨N, 1, none⟩ = some (.slice A1 n1 k1) := cell_of_cells hbk1 rfl
  have c2 : w1.cell? ⟨N, 2, none⟩ = some (.slice A2 n2 k2) := cell_of_cells hbk1 rfl
  have c3 : w1.cell? ⟨N, 3, none⟩ = some (.int .i64 c.tags) := cell_of_cells hbk1 rfl
  have c4 : w1.cell? ⟨N, 4, none⟩ = some (.bool gn) := cell_of_cells hbk1 rfl
  have HBW := Lib.hid hbw
  have HBK1 := Lib.hid hbk1
  clear hbw hb1 hbk1 HFD HRC HBK HX HB0
  go_wp2_with fail
  refine HFD1.out.mono ?_
  rintro e w2 ⟨rfl, rfl⟩
  have hlk := HLK.out
  have HNO : Hid (∀ z, z ≠ 0 → admC false (xs.map (·.1)) c = z → PutDoc W0 w (.slice A m cap) xs y (.returned (.tuple #[.slice A m cap, .int .i64 z])) w1) := Lib.hid (fun z hz he => by
    have hp : putE (xs.map (·.1)) y.1 = z := by rw [HY1.out, HPE2.out, he]
    exact ⟨HBW.out, .inl ⟨by rw [hp]; exact hz, by rw [hp]⟩⟩)
  have HFIN : Hid (admC false (xs.map (·.1)) c = 0 → ∀ v' W, Below w1.heap.size w1 W → W.ownsRow w1.heap.size 48 5 v' (outO y xs).length ((outO y xs).flatMap enc5) → PutDoc W0 w (.slice A m cap) xs y (.returned (.tuple #[v', .int .i64 0])) W) := Lib.hid (fun ha v' W hb hr => by
    have hp : putE (xs.map (·.1)) y.1 = 0 := by rw [HY1.out, HPE2.out, ha]
    refine ⟨HBW.out.trans (hb.mono HBW.out.size), .inr ⟨hp, v', rfl, row_wider hr HBW.out.size, fun z hz => ?_⟩⟩
    have hm : z = y ∨ z ∈ xs := by
      have h1 : z ∈ (xs.foldl (stO y) ([], y.1.gone)).1 ∨ z = y := by
        unfold outO finO at hz
        split at hz
        · simpa using hz
        · exact .inl hz
      rcases h1 with h1 | h1
      · rcases st_mem _ _ _ _ h1 with h1 | h1 | h1
        · simp at h1
        · exact .inl h1
        · exact .inr h1
      · exact .inl h1
    rcases hm with rfl | hm
    · rw [HY.out]
      exact ⟨HVW.out, HVV.out⟩
    · exact HD.out.rd z hm)
  have HBX : Hid (∀ W, Below w1.heap.size w1 W → W.cell? ⟨N, 0, none⟩ = some (.int .i64 c.doc) ∧ W.cell? ⟨N, 1, none⟩ = some (.slice A1 n1 k1) ∧ W.cell? ⟨N, 2, none⟩ = some (.slice A2 n2 k2) ∧ W.cell? ⟨N, 3, none⟩ = some (.int .i64 c.tags) ∧ W.cell? ⟨N, 4, none⟩ = some (.bool c.gone)) := Lib.hid (fun W hb => ⟨cell_of_cells (blk_stay hb HBK1.out) rfl, cell_of_cells (blk_stay hb HBK1.out) rfl, cell_of_cells (blk_stay hb HBK1.out) rfl, cell_of_cells (blk_stay hb HBK1.out) rfl, by rw [← HGN.out]; exact cell_of_cells (blk_stay hb HBK1.out) rfl⟩)
  have HDR := Lib.hid (fun W (hb : Below w1.heap.size w1 W) => HD.out.later (HBW.out.trans (hb.mono HBW.out.size)))
  have HGG : Hid (c.gone = gn) := Lib.hid HGN.out.symm
  clear HBK1 HD HBW
  rcases (show (gn = true ∧ is = false) ∨ (gn = false ∧ is = false ∧ 256 ≤ m) ∨ (((gn = true ∧ is = true) ∨ (gn = false ∧ is = true)) ∨ (gn = false ∧ is = false ∧ ¬ 256 ≤ m)) by cases gn <;> cases is <;> simp <;> omega) with ⟨rfl, rfl⟩ | ⟨rfl, rfl, h256⟩ | hgo
  · have HF := Lib.hid (HNO.out 4 (by omega) (by rw [HADM.out]; rfl))
    clear HNO HFIN HBX HDR
    go_wp2
    go_ret2
    exact HF.out
  · have h2i : (256 : Int) ≤ (m : Int) := by omega
    have HF := Lib.hid (HNO.out 3 (by omega) (by rw [HADM.out, if_neg (by simp), if_pos ⟨rfl, rfl, h256⟩]))
    clear HNO HFIN HBX HDR h256
    go_wp2
    go_ret2
    exact HF.out
  · have HAZ : Hid (admC false (xs.map (·.1)) c = 0) := Lib.hid (by
      rw [HADM.out]
      rcases hgo with (⟨rfl, rfl⟩ | ⟨rfl, rfl⟩) | ⟨rfl, rfl, h⟩
      · simp
      · simp
      · rw [if_neg (by simp), if_neg (fun h' => h h'.2.2)])
    rcases hgo with (⟨rfl, rfl⟩ | ⟨rfl, rfl⟩) | ⟨rfl, rfl, h256⟩
    rotate_left 2
    have h2i : ¬ (256 : Int) ≤ (m : Int) := by omega
    clear h256
    rotate_left
    all_goals
      go_wp2_with fail
      go_loopw [8, 9, 10] (fun vo db x wr => ∃ i : Nat, x = .int .i64 (i : Int) ∧ i ≤ m ∧ db = .bool (SS y xs i).2 ∧ wr.ownsRow w1.heap.size 48 5 vo (SS y xs i).1.length ((SS y xs i).1.flatMap enc5) ∧ Below w1.heap.size w1 wr) (fun _ _ x _ => m - (intOf x).toNat)
      case atStart => exact ⟨0, rfl, Nat.zero_le _, by unfold SS; rw [HY1.out, HGG.out]; rfl, World.ownsRow_nil _ _ _ _, Below.refl _ _⟩
      case round =>
        obtain ⟨i, rfl, hi, rfl, hr, hb⟩ := hrel
        by_cases hil : i < m
        · have hib : (i : Int) < (m : Int) := by omega
          have hix : i < xs.length := by have := HM.out; omega
          have hnext := ss_next y xs i hix
          obtain ⟨g, cap2, hA, -, -, p, q, n3, k3, n4, k4, eT, eV, -⟩ := (HDR.out wr hb).at_ hix
          obtain ⟨o, ho⟩ : ∃ o : Nat, o = 0 := ⟨_, rfl⟩
          have hA9 : A = some ⟨g, o, none⟩ := by
            injection hA with e1
            rw [e1, ho]
          have HEL : Hid (∀ W, Below w1.heap.size w1 W → C5 W g (o + i * 5) xs[i].1.doc (.slice p n3 k3) (.slice q n4 k4) xs[i].1.tags xs[i].1.gone) := Lib.hid (fun W hW => by
            obtain ⟨g', cap', hA', _, _, p', q', a1, a2, a3, a4, eT', eV', d0, d1, d2, d3, d4⟩ := (HDR.out W hW).at_ hix
            rw [hA] at hA'
            injection hA' with e1
            injection e1 with e1
            injection e1 with e1
            rw [eT] at eT'
            rw [eV] at eV'
            subst e1
            rw [ho, Nat.zero_add]
            exact ⟨d0, by rw [eT']; exact d1, by rw [eV']; exact d2, d3, d4⟩)
          have HDC := Lib.hid (hdc xs[i] (List.getElem_mem hix))
          obtain ⟨z, hz⟩ : ∃ z : Cx, z = xs[i] := ⟨_, rfl⟩
          have hze : enc5 z = [.int .i64 z.1.doc, .slice p n3 k3, .slice q n4 k4, .int .i64 z.1.tags, .bool z.1.gone] := by
            unfold enc5
            rw [hz, eT, eV]
          rw [← hz] at HEL hnext HDC
          have HZE := Lib.hid hze
          obtain ⟨s, hs⟩ : ∃ s, s = SS y xs i := ⟨_, rfl⟩
          rw [← hs] at hnext hr ⊢
          have HNX := Lib.hid hnext
          have HR := Lib.hid hr
          have HB := Lib.hid hb
          have HIM : Hid (i + 1 ≤ m) := Lib.hid (by omega)
          have hslen : s.1.length ≤ 1000000 := by
            have := st_len y (xs.take i) ([], y.1.gone)
            rw [hs]
            unfold SS
            simp at this ⊢
            omega
          have HSL := Lib.hid hslen
          obtain ⟨so, sd⟩ := s
          subst hA9
          clear hA ho eT eV hz hze hs hnext hr hslen hix hil hi
          clear hb c0 c1 c2 c3 c4 hdc
          cases sd with
          | true =>
            by_cases hne : z.1.doc = c.doc
            · have hnb : (z.1.doc != c.doc) = false := by simpa using hne
              have HST : Hid (SS y xs (i + 1) = (so, true)) := Lib.hid (by
                rw [HNX.out]
                unfold stO
                rw [if_neg (by simp), HY1.out]
                simp [hne])
              clear hne
              obtain ⟨b0, b1, b2, b3, b4⟩ := HBX.out wr HB.out
              obtain ⟨d0, d1, d2, d3, d4⟩ := HEL.out wr HB.out
              go_wp2_with fail
              go_quiet (fail)
              have HB3 := Lib.hid (HB.out.trans ((below_drewN_p wr nq).mono HB.out.size))
              have HR3 := Lib.hid (row_later HR.out (below_drewN_p wr nq))
              generalize wr.drewN nq = w3 at HB3 HR3 ⊢
              clear b0 b1 b2 b3 b4 d0 d1 d2 d3 d4 HB HR
              obtain ⟨b0, b1, b2, b3, b4⟩ := HBX.out w3 HB3.out
              obtain ⟨d0, d1, d2, d3, d4⟩ := HEL.out w3 HB3.out
              go_wp2_with fail
              go_quiet (fail)
              have HB4 := Lib.hid (HB3.out.trans ((below_drewN_p w3 nq).mono HB3.out.size))
              have HR4 := Lib.hid (row_later HR3.out (below_drewN_p w3 nq))
              generalize w3.drewN nq = w4 at HB4 HR4 ⊢
              clear b0 b1 b2 b3 b4 d0 d1 d2 d3 d4 HB3 HR3
              go_wp2
              go_roundw
              case rel => exact ⟨i + 1, by go_num, HIM.out, by rw [HST.out], by rw [HST.out]; exact HR4.out, HB4.out⟩
              case measure => simp [intOf]; omega
            · have hnb : (z.1.doc != c.doc) = true := by simpa using hne
              have HST : Hid (SS y xs (i + 1) = (so ++ [z], true)) := Lib.hid (by
                rw [HNX.out]
                unfold stO
                rw [if_neg (by simp), HY1.out]
                simp [hne])
              clear hne
              obtain ⟨b0, b1, b2, b3, b4⟩ := HBX.out wr HB.out
              obtain ⟨d0, d1, d2, d3, d4⟩ := HEL.out wr HB.out
              go_wp2_with fail
              go_quiet (fail)
              have HB3 := Lib.hid (HB.out.trans ((below_drewN_p wr nq).mono HB.out.size))
              have HR3 := Lib.hid (row_later HR.out (below_drewN_p wr nq))
              generalize wr.drewN nq = w3 at HB3 HR3 ⊢
              clear b0 b1 b2 b3 b4 d0 d1 d2 d3 d4 HB HR
              obtain ⟨b0, b1, b2, b3, b4⟩ := HBX.out w3 HB3.out
              obtain ⟨d0, d1, d2, d3, d4⟩ := HEL.out w3 HB3.out
              go_wp2_with fail
              go_quiet (fail)
              have HB4 := Lib.hid (HB3.out.trans ((below_drewN_p w3 nq).mono HB3.out.size))
              have HR4 := Lib.hid (row_later HR3.out (below_drewN_p w3 nq))
              generalize w3.drewN nq = w4 at HB4 HR4 ⊢
              clear b0 b1 b2 b3 b4 d0 d1 d2 d3 d4 HB3 HR3
              obtain ⟨A9, cp9, hv9⟩ := Go.Proofs.YtddnnhfffmhpmaaGreatDoor.row_shape HR4.out
              rw [hv9] at HR4 ⊢
              clear hv9
              obtain ⟨b0, b1, b2, b3, b4⟩ := HBX.out w4 HB4.out
              obtain ⟨d0, d1, d2, d3, d4⟩ := HEL.out w4 HB4.out
              have hbz := pl1 w4 (.cells #[.int .i64 z.1.doc, .slice p n3 k3, .slice q n4 k4, .int .i64 z.1.tags, .bool z.1.gone] 48)
              have HXx9 := Lib.hid (heap_alloc_new w4 (.cells #[.int .i64 z.1.doc, .slice p n3 k3, .slice q n4 k4, .int .i64 z.1.tags, .bool z.1.gone] 48))
              have HBx9 := Lib.hid (HB4.out.trans (hbz.mono HB4.out.size))
              have HRx9 := Lib.hid (row_later HR4.out hbz)
              clear hbz HB4 HR4
              go_wp2_with (at_builtin; refine wpList_append_one dchTy rfl _ _ rfl w1.heap.size _ _ _ rfl HRx9.out _ _ [.int .i64 z.1.doc, .slice p n3 k3, .slice q n4 k4, .int .i64 z.1.tags, .bool z.1.gone] rfl rfl (fun j u hu => ?_) ?_ HBx9.out.size (Nat.le_trans HSL.out (by decide)) ?_; rotate_left 2; intro v9 w9 hr6 hg6 _; have HB9 := Lib.hid (HBx9.out.grown hg6 HBx9.out.size (fun k hk => (World.ownsRow.lt HRx9.out k hk).1)); have HR9 := Lib.hid (cx_snoc hr6 HZE.out); clear hr6 hg6)
              · exact ⟨⟨i + 1, by go_num, HIM.out, by rw [HST.out], by rw [HST.out]; exact HR9.out, HB9.out⟩, by simp [intOf]; omega⟩
              · exact row5_at HXx9.out hu
              · exact row5_one
          | false =>
            by_cases hle : c.doc ≤ z.1.doc
            · have hlb : decide (c.doc ≤ z.1.doc) = true := decide_eq_true hle
              by_cases hne : z.1.doc = c.doc
              · have hnb : (z.1.doc != c.doc) = false := by simpa using hne
                have HST : Hid (SS y xs (i + 1) = (so ++ [y], true)) := Lib.hid (by
                  rw [HNX.out]
                  unfold stO
                  rw [if_pos ⟨rfl, by rw [HY1.out]; exact hle⟩, HY1.out]
                  simp [hne])
                clear hne hle
                obtain ⟨b0, b1, b2, b3, b4⟩ := HBX.out wr HB.out
                obtain ⟨d0, d1, d2, d3, d4⟩ := HEL.out wr HB.out
                go_wp2_with fail
                go_quiet (fail)
                have HB3 := Lib.hid (HB.out.trans ((below_drewN_p wr nq).mono HB.out.size))
                have HR3 := Lib.hid (row_later HR.out (below_drewN_p wr nq))
                generalize wr.drewN nq = w3 at HB3 HR3 ⊢
                clear b0 b1 b2 b3 b4 d0 d1 d2 d3 d4 HB HR
                have HYE : Hid (enc5 y = [.int .i64 c.doc, .slice A1 n1 k1, .slice A2 n2 k2, .int .i64 c.tags, .bool c.gone]) := Lib.hid (by rw [HY.out]; rfl)
                obtain ⟨A4, cp4, hv4⟩ := Go.Proofs.YtddnnhfffmhpmaaGreatDoor.row_shape HR3.out
                rw [hv4] at HR3 ⊢
                clear hv4
                obtain ⟨b0, b1, b2, b3, b4⟩ := HBX.out w3 HB3.out
                obtain ⟨d0, d1, d2, d3, d4⟩ := HEL.out w3 HB3.out
                have hbz := pl1 w3 (.cells #[.int .i64 c.doc, .slice A1 n1 k1, .slice A2 n2 k2, .int .i64 c.tags, .bool c.gone] 48)
                have HXx4 := Lib.hid (heap_alloc_new w3 (.cells #[.int .i64 c.doc, .slice A1 n1 k1, .slice A2 n2 k2, .int .i64 c.tags, .bool c.gone] 48))
                have HBx4 := Lib.hid (HB3.out.trans (hbz.mono HB3.out.size))
                have HRx4 := Lib.hid (row_later HR3.out hbz)
                clear hbz HB3 HR3
                go_wp2_with (at_builtin; refine wpList_append_one dchTy rfl _ _ rfl w1.heap.size _ _ _ rfl HRx4.out _ _ [.int .i64 c.doc, .slice A1 n1 k1, .slice A2 n2 k2, .int .i64 c.tags, .bool c.gone] rfl rfl (fun j u hu => ?_) ?_ HBx4.out.size (Nat.le_trans HSL.out (by decide)) ?_; rotate_left 2; intro v4 w4 hr6 hg6 _; have HB4 := Lib.hid (HBx4.out.grown hg6 HBx4.out.size (fun k hk => (World.ownsRow.lt HRx4.out k hk).1)); have HR4 := Lib.hid (cx_snoc hr6 HYE.out); clear hr6 hg6; obtain ⟨b0, b1, b2, b3, b4⟩ := HBX.out w4 HB4.out; obtain ⟨d0, d1, d2, d3, d4⟩ := HEL.out w4 HB4.out)
                · go_quiet (fail)
                  have HB5 := Lib.hid (HB4.out.trans ((below_drewN_p w4 nq).mono HB4.out.size))
                  have HR5 := Lib.hid (row_later HR4.out (below_drewN_p w4 nq))
                  generalize w4.drewN nq = w5 at HB5 HR5 ⊢
                  clear b0 b1 b2 b3 b4 d0 d1 d2 d3 d4 HB4 HR4
                  go_wp2
                  go_roundw
                  case rel => exact ⟨i + 1, by go_num, HIM.out, by rw [HST.out], by rw [HST.out]; exact HR5.out, HB5.out⟩
                  case measure => simp [intOf]; omega
                · exact row5_at HXx4.out hu
                · exact row5_one
              · have hnb : (z.1.doc != c.doc) = true := by simpa using hne
                have HST : Hid (SS y xs (i + 1) = ((so ++ [y]) ++ [z], true)) := Lib.hid (by
                  rw [HNX.out]
                  unfold stO
                  rw [if_pos ⟨rfl, by rw [HY1.out]; exact hle⟩, HY1.out]
                  simp [hne])
                clear hne hle
                obtain ⟨b0, b1, b2, b3, b4⟩ := HBX.out wr HB.out
                obtain ⟨d0, d1, d2, d3, d4⟩ := HEL.out wr HB.out
                go_wp2_with fail
                go_quiet (fail)
                have HB3 := Lib.hid (HB.out.trans ((below_drewN_p wr nq).mono HB.out.size))
                have HR3 := Lib.hid (row_later HR.out (below_drewN_p wr nq))
                generalize wr.drewN nq = w3 at HB3 HR3 ⊢
                clear b0 b1 b2 b3 b4 d0 d1 d2 d3 d4 HB HR
                have HYE : Hid (enc5 y = [.int .i64 c.doc, .slice A1 n1 k1, .slice A2 n2 k2, .int .i64 c.tags, .bool c.gone]) := Lib.hid (by rw [HY.out]; rfl)
                have HSL2 : Hid ((so ++ [y]).length ≤ 1000001) := Lib.hid (by have := HSL.out; simp at this ⊢; omega)
                obtain ⟨A4, cp4, hv4⟩ := Go.Proofs.YtddnnhfffmhpmaaGreatDoor.row_shape HR3.out
                rw [hv4] at HR3 ⊢
                clear hv4
                obtain ⟨b0, b1, b2, b3, b4⟩ := HBX.out w3 HB3.out
                obtain ⟨d0, d1, d2, d3, d4⟩ := HEL.out w3 HB3.out
                have hbz := pl1 w3 (.cells #[.int .i64 c.doc, .slice A1 n1 k1, .slice A2 n2 k2, .int .i64 c.tags, .bool c.gone] 48)
                have HXx4 := Lib.hid (heap_alloc_new w3 (.cells #[.int .i64 c.doc, .slice A1 n1 k1, .slice A2 n2 k2, .int .i64 c.tags, .bool c.gone] 48))
                have HBx4 := Lib.hid (HB3.out.trans (hbz.mono HB3.out.size))
                have HRx4 := Lib.hid (row_later HR3.out hbz)
                clear hbz HB3 HR3
                go_wp2_with (at_builtin; refine wpList_append_one dchTy rfl _ _ rfl w1.heap.size _ _ _ rfl HRx4.out _ _ [.int .i64 c.doc, .slice A1 n1 k1, .slice A2 n2 k2, .int .i64 c.tags, .bool c.gone] rfl rfl (fun j u hu => ?_) ?_ HBx4.out.size (Nat.le_trans HSL.out (by decide)) ?_; rotate_left 2; intro v4 w4 hr6 hg6 _; have HB4 := Lib.hid (HBx4.out.grown hg6 HBx4.out.size (fun k hk => (World.ownsRow.lt HRx4.out k hk).1)); have HR4 := Lib.hid (cx_snoc hr6 HYE.out); clear hr6 hg6; obtain ⟨b0, b1, b2, b3, b4⟩ := HBX.out w4 HB4.out; obtain ⟨d0, d1, d2, d3, d4⟩ := HEL.out w4 HB4.out)
                · go_quiet (fail)
                  have HB5 := Lib.hid (HB4.out.trans ((below_drewN_p w4 nq).mono HB4.out.size))
                  have HR5 := Lib.hid (row_later HR4.out (below_drewN_p w4 nq))
                  generalize w4.drewN nq = w5 at HB5 HR5 ⊢
                  clear b0 b1 b2 b3 b4 d0 d1 d2 d3 d4 HB4 HR4
                  obtain ⟨A9, cp9, hv9⟩ := Go.Proofs.YtddnnhfffmhpmaaGreatDoor.row_shape HR5.out
                  rw [hv9] at HR5 ⊢
                  clear hv9
                  obtain ⟨b0, b1, b2, b3, b4⟩ := HBX.out w5 HB5.out
                  obtain ⟨d0, d1, d2, d3, d4⟩ := HEL.out w5 HB5.out
                  have hbz := pl1 w5 (.cells #[.int .i64 z.1.doc, .slice p n3 k3, .slice q n4 k4, .int .i64 z.1.tags, .bool z.1.gone] 48)
                  have HXx9 := Lib.hid (heap_alloc_new w5 (.cells #[.int .i64 z.1.doc, .slice p n3 k3, .slice q n4 k4, .int .i64 z.1.tags, .bool z.1.gone] 48))
                  have HBx9 := Lib.hid (HB5.out.trans (hbz.mono HB5.out.size))
                  have HRx9 := Lib.hid (row_later HR5.out hbz)
                  clear hbz HB5 HR5
                  go_wp2_with (at_builtin; refine wpList_append_one dchTy rfl _ _ rfl w1.heap.size _ _ _ rfl HRx9.out _ _ [.int .i64 z.1.doc, .slice p n3 k3, .slice q n4 k4, .int .i64 z.1.tags, .bool z.1.gone] rfl rfl (fun j u hu => ?_) ?_ HBx9.out.size (Nat.le_trans HSL2.out (by decide)) ?_; rotate_left 2; intro v9 w9 hr6 hg6 _; have HB9 := Lib.hid (HBx9.out.grown hg6 HBx9.out.size (fun k hk => (World.ownsRow.lt HRx9.out k hk).1)); have HR9 := Lib.hid (cx_snoc hr6 HZE.out); clear hr6 hg6)
                  · exact ⟨⟨i + 1, by go_num, HIM.out, by rw [HST.out], by rw [HST.out]; exact HR9.out, HB9.out⟩, by simp [intOf]; omega⟩
                  · exact row5_at HXx9.out hu
                  · exact row5_one
                · exact row5_at HXx4.out hu
                · exact row5_one
            · have hlb : decide (c.doc ≤ z.1.doc) = false := decide_eq_false hle
              have hne : z.1.doc ≠ c.doc := fun h => hle (by omega)
              have hnb : (z.1.doc != c.doc) = true := by simpa using hne
              have HST : Hid (SS y xs (i + 1) = (so ++ [z], false)) := Lib.hid (by
                rw [HNX.out]
                unfold stO
                rw [if_neg (fun h => hle (by have := h.2; rwa [HY1.out] at this)), HY1.out]
                simp [hne])
              clear hne hle
              obtain ⟨b0, b1, b2, b3, b4⟩ := HBX.out wr HB.out
              obtain ⟨d0, d1, d2, d3, d4⟩ := HEL.out wr HB.out
              go_wp2_with fail
              go_quiet (fail)
              have HB3 := Lib.hid (HB.out.trans ((below_drewN_p wr nq).mono HB.out.size))
              have HR3 := Lib.hid (row_later HR.out (below_drewN_p wr nq))
              generalize wr.drewN nq = w3 at HB3 HR3 ⊢
              clear b0 b1 b2 b3 b4 d0 d1 d2 d3 d4 HB HR
              obtain ⟨b0, b1, b2, b3, b4⟩ := HBX.out w3 HB3.out
              obtain ⟨d0, d1, d2, d3, d4⟩ := HEL.out w3 HB3.out
              go_wp2_with fail
              go_quiet (fail)
              have HB4 := Lib.hid (HB3.out.trans ((below_drewN_p w3 nq).mono HB3.out.size))
              have HR4 := Lib.hid (row_later HR3.out (below_drewN_p w3 nq))
              generalize w3.drewN nq = w4 at HB4 HR4 ⊢
              clear b0 b1 b2 b3 b4 d0 d1 d2 d3 d4 HB3 HR3
              obtain ⟨A9, cp9, hv9⟩ := Go.Proofs.YtddnnhfffmhpmaaGreatDoor.row_shape HR4.out
              rw [hv9] at HR4 ⊢
              clear hv9
              obtain ⟨b0, b1, b2, b3, b4⟩ := HBX.out w4 HB4.out
              obtain ⟨d0, d1, d2, d3, d4⟩ := HEL.out w4 HB4.out
              have hbz := pl1 w4 (.cells #[.int .i64 z.1.doc, .slice p n3 k3, .slice q n4 k4, .int .i64 z.1.tags, .bool z.1.gone] 48)
              have HXx9 := Lib.hid (heap_alloc_new w4 (.cells #[.int .i64 z.1.doc, .slice p n3 k3, .slice q n4 k4, .int .i64 z.1.tags, .bool z.1.gone] 48))
              have HBx9 := Lib.hid (HB4.out.trans (hbz.mono HB4.out.size))
              have HRx9 := Lib.hid (row_later HR4.out hbz)
              clear hbz HB4 HR4
              go_wp2_with (at_builtin; refine wpList_append_one dchTy rfl _ _ rfl w1.heap.size _ _ _ rfl HRx9.out _ _ [.int .i64 z.1.doc, .slice p n3 k3, .slice q n4 k4, .int .i64 z.1.tags, .bool z.1.gone] rfl rfl (fun j u hu => ?_) ?_ HBx9.out.size (Nat.le_trans HSL.out (by decide)) ?_; rotate_left 2; intro v9 w9 hr6 hg6 _; have HB9 := Lib.hid (HBx9.out.grown hg6 HBx9.out.size (fun k hk => (World.ownsRow.lt HRx9.out k hk).1)); have HR9 := Lib.hid (cx_snoc hr6 HZE.out); clear hr6 hg6)
              · exact ⟨⟨i + 1, by go_num, HIM.out, by rw [HST.out], by rw [HST.out]; exact HR9.out, HB9.out⟩, by simp [intOf]; omega⟩
              · exact row5_at HXx9.out hu
              · exact row5_one
        · have hmi : ¬ (i : Int) < (m : Int) := by omega
          have him : i = xs.length := by have := HM.out; omega
          have hsf := ss_all y xs
          rw [← him] at hsf
          have hslen : (SS y xs i).1.length ≤ 1000000 := by
            have := st_len y (xs.take i) ([], y.1.gone)
            unfold SS
            simp at this ⊢
            omega
          generalize SS y xs i = s at hsf hr hslen ⊢
          obtain ⟨so, sd⟩ := s
          have HSF := Lib.hid hsf
          have HSL := Lib.hid hslen
          have HR := Lib.hid hr
          have HB := Lib.hid hb
          clear hsf hslen hr hb him hi c0 c1 c2 c3 c4
          cases sd with
          | true =>
            have he : outO y xs = so := by rw [HSF.out]; unfold finO; rw [if_neg (by simp)]
            have HF := Lib.hid (HFIN.out HAZ.out _ _ HB.out (by rw [he]; exact HR.out))
            clear he HR HSL
            go_wp2
            go_ret2
            exact HF.out
          | false =>
            have he : Hid (outO y xs = so ++ [y]) := Lib.hid (by rw [HSF.out]; unfold finO; rw [if_pos rfl])
            have HYE : Hid (enc5 y = [.int .i64 c.doc, .slice A1 n1 k1, .slice A2 n2 k2, .int .i64 c.tags, .bool c.gone]) := Lib.hid (by rw [HY.out]; rfl)
            obtain ⟨A9, cp9, hv9⟩ := Go.Proofs.YtddnnhfffmhpmaaGreatDoor.row_shape HR.out
            rw [hv9] at HR ⊢
            clear hv9
            obtain ⟨b0, b1, b2, b3, b4⟩ := HBX.out wr HB.out
            have hbz := pl1 wr (.cells #[.int .i64 c.doc, .slice A1 n1 k1, .slice A2 n2 k2, .int .i64 c.tags, .bool c.gone] 48)
            have HXx9 := Lib.hid (heap_alloc_new wr (.cells #[.int .i64 c.doc, .slice A1 n1 k1, .slice A2 n2 k2, .int .i64 c.tags, .bool c.gone] 48))
            have HBx9 := Lib.hid (HB.out.trans (hbz.mono HB.out.size))
            have HRx9 := Lib.hid (row_later HR.out hbz)
            clear hbz HB HR
            go_wp2_with (at_builtin; refine wpList_append_one dchTy rfl _ _ rfl w1.heap.size _ _ _ rfl HRx9.out _ _ [.int .i64 c.doc, .slice A1 n1 k1, .slice A2 n2 k2, .int .i64 c.tags, .bool c.gone] rfl rfl (fun j u hu => ?_) ?_ HBx9.out.size (Nat.le_trans HSL.out (by decide)) ?_; rotate_left 2; intro v9 w9 hr6 hg6 _; have HB9 := Lib.hid (HBx9.out.grown hg6 HBx9.out.size (fun k hk => (World.ownsRow.lt HRx9.out k hk).1)); have HR9 := Lib.hid (cx_snoc hr6 HYE.out); clear hr6 hg6)
            · go_ret2
              exact HFIN.out HAZ.out _ _ HB9.out (by rw [he.out]; exact HR9.out)
            · exact ⟨rfl, rfl, rfl, rfl, rfl⟩
end Go.Proofs.YtddnnhfffmhpmaaGreatDoor.St

/- The document's Same, of any two changes. -/
namespace Go.Proofs.YtddnnhfffmhpmaaGreatDoor.St
open Go.RowKit Go.Proofs.YtddnnhfffmhpmaaGreatDoor DocM StoM Do

instance : DecidableEq Ch := fun a b => match a, b with
  | ⟨d, ts, v, tg, gn⟩, ⟨d', ts', v', tg', gn'⟩ => if h : d = d' ∧ ts = ts' ∧ v = v' ∧ tg = tg' ∧ gn = gn' then isTrue (by obtain ⟨rfl, rfl, rfl, rfl, rfl⟩ := h; rfl) else isFalse (fun e => h (by injection e with a1 a2 a3 a4 a5; exact ⟨a1, a2, a3, a4, a5⟩))
theorem pair_ext {α : Type} {l m : List α} {n : Nat} (h1 : l.length = n) (h2 : m.length = n) (h : l.take n = m.take n) : l = m := by
  rwa [List.take_of_length_le (by omega), List.take_of_length_le (by omega)] at h
theorem take_snoc {α : Type} {l m : List α} {k : Nat} (h1 : k < l.length) (h2 : k < m.length) (h : l.take k = m.take k) (he : l[k] = m[k]) : l.take (k + 1) = m.take (k + 1) := by
  rw [List.take_succ_eq_append_getElem h1, List.take_succ_eq_append_getElem h2, h, he]
set_option maxHeartbeats 8000000 in
set_option maxRecDepth 100000 in
theorem same_any (c x : Ch) (A1 A2 A3 A4 : Option Addr) (n n2 n3 n4 p1 p2 p3 p4 : Nat) (w : World) (h1 : Pairs w A1 n c.ts) (h2 : Ivs w A2 n2 c.v) (h3 : Pairs w A3 n3 x.ts) (h4 : Ivs w A4 n4 x.v) (l1 : n ≤ 1000000) (l2 : n2 ≤ 1000000) (l4 : n4 ≤ 1000000) :
    Calls Tryz.prog 35 #[chV c (.slice A1 n p1) (.slice A2 n2 p2), chV x (.slice A3 n3 p3) (.slice A4 n4 p4)] w fun e w' => e = .returned (.bool (decide (c = x))) ∧ Below w.heap.size w w' := by
  have H1 := Lib.hid h1
  have H2 := Lib.hid h2
  have H3 := Lib.hid h3
  have H4 := Lib.hid h4
  have HL := Lib.hid h1.1
  have HL3 := Lib.hid h3.1
  obtain ⟨d, ts, v, tg, gn⟩ := c
  obtain ⟨dx, tsx, vx, tgx, gnx⟩ := x
  unfold chV
  simp only at H1 H2 H3 H4 HL HL3 ⊢
  obtain ⟨z, hz⟩ : ∃ z, z = decide ((⟨d, ts, v, tg, gn⟩ : Ch) = ⟨dx, tsx, vx, tgx, gnx⟩) := ⟨_, rfl⟩
  have HZ : Hid (¬ (d = dx ∧ ts = tsx ∧ v = vx ∧ tg = tgx ∧ gn = gnx) → z = false) := Lib.hid (fun h => by
    rw [hz]
    exact decide_eq_false (fun e => h (by injection e with a1 a2 a3 a4 a5; exact ⟨a1, a2, a3, a4, a5⟩)))
  have HZ1 : Hid ((d = dx ∧ ts = tsx ∧ v = vx ∧ tg = tgx ∧ gn = gnx) → z = true) := Lib.hid (fun h => by
    obtain ⟨rfl, rfl, rfl, rfl, rfl⟩ := h
    rw [hz]
    exact decide_eq_true rfl)
  rw [← hz]
  have Q2 := Lib.hid (fun W (hW : Below w.heap.size w W) => rsame_any A2 A4 n2 n4 p2 p4 v vx W (H2.out.later hW) (H4.out.later hW) l2 l4)
  have B0 : Hid (∀ o1 o2, Below w.heap.size w ((w.alloc o1).alloc o2)) := Lib.hid (fun o1 o2 => (pl1 w o1).trans ((pl1 _ o2).mono (by simp)))
  clear h1 h2 h3 h4 H2 H4 hz
  by_cases e1 : d = dx
  rotate_left
  · have e1b : (d != dx) = true := by simpa using e1
    have HF : Hid (z = false) := Lib.hid (HZ.out (fun h => e1 h.1))
    clear e1
    go_enter Tryz.func35, Tryz.ntmps35
    go_wp2
    go_ret
    exact ⟨by (rw [HF.out]); first | done | rfl, B0.out _ _⟩
  have e1b : (d != dx) = false := by simpa using e1
  have HE1 := Lib.hid e1
  clear e1
  by_cases e2 : tg = tgx
  rotate_left
  · have e2b : (tg != tgx) = true := by simpa using e2
    have HF : Hid (z = false) := Lib.hid (HZ.out (fun h => e2 h.2.2.2.1))
    clear e2
    go_enter Tryz.func35, Tryz.ntmps35
    go_wp2
    go_ret
    exact ⟨by (rw [HF.out]); first | done | rfl, B0.out _ _⟩
  have e2b : (tg != tgx) = false := by simpa using e2
  have HE2 := Lib.hid e2
  clear e2
  by_cases e3 : gn = gnx
  rotate_left
  · have HF : Hid (z = false) := Lib.hid (HZ.out (fun h => e3 h.2.2.2.2))
    rcases (show (gn = true ∧ gnx = false) ∨ (gn = false ∧ gnx = true) by cases gn <;> cases gnx <;> simp at e3 ⊢) with ⟨rfl, rfl⟩ | ⟨rfl, rfl⟩
    all_goals
      clear e3
      go_enter Tryz.func35, Tryz.ntmps35
      go_wp2
      go_ret
      exact ⟨by (rw [HF.out]); first | done | rfl, B0.out _ _⟩
  subst e3
  have e3b : (gn != gn) = false := by simp
  by_cases e4 : n = n3
  rotate_left
  · have e4b : ((n : Int) != (n3 : Int)) = true := by simp; omega
    have HF : Hid (z = false) := Lib.hid (HZ.out (fun h => e4 (by rw [← HL.out, ← HL3.out, h.2.1])))
    clear e4
    go_enter Tryz.func35, Tryz.ntmps35
    go_wp2
    go_ret
    exact ⟨by (rw [HF.out]); first | done | rfl, B0.out _ _⟩
  subst e4
  have e4b : ((n : Int) != (n : Int)) = false := by simp
  obtain ⟨sv, hsv⟩ : ∃ sv, sv = decide (v = vx) := ⟨_, rfl⟩
  rw [← hsv] at Q2
  have HSV := Lib.hid hsv
  clear hsv
  have HQ := Lib.hid (fun W (hW : Below (w.alloc (.cells #[.int .i64 d, .slice A1 n p1, .slice A2 n2 p2, .int .i64 tg, .bool gn] 48)).heap.size (w.alloc (.cells #[.int .i64 d, .slice A1 n p1, .slice A2 n2 p2, .int .i64 tg, .bool gn] 48)) W) => box5 w 48 (.int .i64 d) (.slice A1 n p1) (.slice A2 n2 p2) (.int .i64 tg) (.bool gn) W hW)
  go_enter Tryz.func35, Tryz.ntmps35
  go_wp2_with fail
  refine (Q2.out _ (B0.out _ _)).mono ?_
  rintro e w1 ⟨rfl, q, rfl⟩
  obtain ⟨wb, hwb⟩ : ∃ wb, wb = w.alloc (.cells #[.int .i64 d, .slice A1 n p1, .slice A2 n2 p2, .int .i64 tg, .bool gn] 48) := ⟨_, rfl⟩
  have hC : wb.heap.size = w.heap.size + 1 := by rw [hwb]; simp
  rw [← hwb] at HQ ⊢
  have HQ2 := Lib.hid (fun W hW => box5 wb 48 (.int .i64 dx) (.slice A3 n p3) (.slice A4 n4 p4) (.int .i64 tgx) (.bool gn) W hW)
  have hbb : Below wb.heap.size wb (wb.alloc (.cells #[.int .i64 dx, .slice A3 n p3, .slice A4 n4 p4, .int .i64 tgx, .bool gn] 48)) := pl1 _ _
  have hbw : Below w.heap.size w wb := by rw [hwb]; exact pl1 _ _
  have HB2 : Hid (Below w.heap.size w ((wb.alloc (.cells #[.int .i64 dx, .slice A3 n p3, .slice A4 n4 p4, .int .i64 tgx, .bool gn] 48)).drewN q)) := Lib.hid ((hbw.trans (hbb.mono hbw.size)).trans ((below_drewN_p _ q).mono (Nat.le_trans hbw.size hbb.size)))
  rw [hC] at HQ2
  have HX : Hid (∀ W, Below ((wb.alloc (.cells #[.int .i64 dx, .slice A3 n p3, .slice A4 n4 p4, .int .i64 tgx, .bool gn] 48)).drewN q).heap.size ((wb.alloc (.cells #[.int .i64 dx, .slice A3 n p3, .slice A4 n4 p4, .int .i64 tgx, .bool gn] 48)).drewN q) W →
      W.cell? ⟨w.heap.size, 1, none⟩ = some (.slice A1 n p1) ∧ W.cell? ⟨w.heap.size + 1, 1, none⟩ = some (.slice A3 n p3)) := Lib.hid (fun W hW => by
    have h1 : Below (wb.alloc (.cells #[.int .i64 dx, .slice A3 n p3, .slice A4 n4 p4, .int .i64 tgx, .bool gn] 48)).heap.size (wb.alloc (.cells #[.int .i64 dx, .slice A3 n p3, .slice A4 n4 p4, .int .i64 tgx, .bool gn] 48)) W := (below_drewN_p _ q).trans hW
    exact ⟨(HQ.out W (hbb.trans (h1.mono hbb.size))).2.1, (HQ2.out W h1).2.1⟩)
  clear hC hbb hbw hwb HQ HQ2 Q2 B0
  cases sv with
  | false =>
    have HF : Hid (z = false) := Lib.hid (HZ.out (fun h => of_decide_eq_false HSV.out.symm h.2.2.1))
    go_wp2
    go_ret
    exact ⟨by (rw [HF.out]); first | done | rfl, HB2.out⟩
  | true =>
    have HV : Hid (v = vx) := Lib.hid (of_decide_eq_true HSV.out.symm)
    clear HSV
    go_wp2
    generalize ((wb.alloc (.cells #[.int .i64 dx, .slice A3 n p3, .slice A4 n4 p4, .int .i64 tgx, .bool gn] 48)).drewN q) = W2 at HX HB2 ⊢
    go_loopw [5] (fun x wr => ∃ k : Nat, x = .int .i64 k ∧ k ≤ n ∧ ts.take k = tsx.take k ∧ Below W2.heap.size W2 wr) (fun x _ => n - (intOf x).toNat)
    case atStart => exact ⟨0, by go_num, Nat.zero_le _, rfl, Below.refl _ _⟩
    case round =>
      obtain ⟨k, rfl, hk, htk, hb⟩ := hrel
      obtain ⟨q1, q2⟩ := HX.out wr hb
      have HB := Lib.hid (HB2.out.trans (hb.mono HB2.out.size))
      have HTK := Lib.hid htk
      clear htk
      by_cases hlt : k < n
      · have hd1 : decide ((k : Int) < (n : Int)) = true := decide_eq_true (by omega)
        have hmi : (k : Int) < (n : Int) := by omega
        have hk0 : (0 : Int) ≤ (k : Int) := by omega
        have hkl : k < ts.length := by rw [HL.out]; exact hlt
        have hkm : k < tsx.length := by rw [HL3.out]; exact hlt
        obtain ⟨b1, o1, rfl, _, c0, c1⟩ := (H1.out.later HB.out).2 k hkl
        obtain ⟨b2, o2, rfl, _, r0, r1⟩ := (H3.out.later HB.out).2 k hkm
        have HNO : Hid (ts[k] ≠ tsx[k] → z = false) := Lib.hid (fun h => HZ.out (fun hh => h (by
          have h2 := hh.2.1
          subst h2
          rfl)))
        have HYES : Hid (ts[k] = tsx[k] → ts.take (k + 1) = tsx.take (k + 1)) := Lib.hid (fun h => take_snoc hkl hkm HTK.out h)
        generalize ts[k] = X at c0 c1 HNO HYES
        generalize tsx[k] = Y at r0 r1 HNO HYES
        obtain ⟨x1, x2⟩ := X
        obtain ⟨y1, y2⟩ := Y
        simp only at c0 c1 r0 r1
        have HBB := Lib.hid hb
        clear hb hkl hkm
        by_cases hxy : x1 = y1 ∧ x2 = y2
        · obtain ⟨rfl, rfl⟩ := hxy
          have HT := Lib.hid (HYES.out rfl)
          clear HYES HNO
          go_wp2
          go_quiet (fail)
          go_wp2
          go_roundw
          case rel => exact ⟨k + 1, by go_num, by omega, HT.out, HBB.out.trans ((below_drewN_p _ _).mono HBB.out.size)⟩
          case measure => simp [intOf]; omega
        · have HF := Lib.hid (HNO.out (fun e => hxy (by injection e with a b; exact ⟨a, b⟩)))
          clear HYES HNO
          by_cases hx1 : x1 = y1
          · subst hx1
            have hx2 : x2 ≠ y2 := fun h => hxy ⟨rfl, h⟩
            have hx2b : (x2 == y2) = false := by simpa using hx2
            clear hxy
            go_wp2
            go_quiet (fail)
            go_wp2
            go_ret
            exact ⟨by (rw [HF.out]); first | done | rfl, HB.out.trans ((below_drewN_p _ _).mono HB.out.size)⟩
          · have hx1b : (x1 == y1) = false := by simpa using hx1
            clear hxy
            go_wp2
            go_quiet (fail)
            go_wp2
            go_ret
            exact ⟨by (rw [HF.out]); first | done | rfl, HB.out.trans ((below_drewN_p _ _).mono HB.out.size)⟩
      · have hd1 : decide ((k : Int) < (n : Int)) = false := decide_eq_false (by omega)
        have hkn : k = n := by omega
        have htt := HTK.out
        rw [hkn] at htt
        have HT : Hid (z = true) := Lib.hid (HZ1.out ⟨HE1.out, pair_ext HL.out HL3.out htt, HV.out, HE2.out, trivial⟩)
        clear hkn htt
        clear hb
        go_wp2
        go_ret
        exact ⟨by (rw [HT.out]); first | done | rfl, HB.out⟩
end Go.Proofs.YtddnnhfffmhpmaaGreatDoor.St
