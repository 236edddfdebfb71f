/- Own texts, merged (15 of 42). -/
import Derived.Test.YtddnnhfffmhpmaaGreatDoorSm1
import Derived.Test.YtddnnhfffmhpmaaGreatDoorSm10
import Derived.Test.YtddnnhfffmhpmaaGreatDoorSm14

/- A change in plain words: is it right, its bytes, what is read of bytes; there and back. -/
namespace Go.Proofs.YtddnnhfffmhpmaaGreatDoor.DocM
open Go.Proofs.YtddnnhfffmhpmaaGreatDoor

/-- a change: its document, its terms with their weights, its vector, its tags, is it gone -/
structure Ch where
  doc : Int
  ts : List (Int × Int)
  v : List Int
  tags : Int
  gone : Bool
def ch0 : Ch := ⟨0, [], [], 0, false⟩
def tms (l : List (Int × Int)) : List Int := l.map (·.1)
def wts (l : List (Int × Int)) : List Int := l.map (·.2)
theorem tms_len (l : List (Int × Int)) : (tms l).length = l.length := by simp [tms]
theorem wts_len (l : List (Int × Int)) : (wts l).length = l.length := by simp [wts]
def isin (n a b : Int) : Bool := decide (a ≤ n) && decide (n ≤ b)
theorem isin_iff {n a b : Int} : isin n a b = true ↔ a ≤ n ∧ n ≤ b := by unfold isin; simp
def tOk (p : Int × Int) : Bool := isin p.1 0 1048575 && isin p.2 1 65535
def inR (c : Ch) : Bool := isin c.doc 0 2147483647 && isin c.tags 0 255 && c.ts.all tOk
def twice (l : List Int) : Bool := !decide l.Nodup
def sorted (l : List Int) : Bool := decide (l.Pairwise (· ≤ ·))
def form (c : Ch) : Bool := if c.gone = true then decide (c.ts.length = 0) && decide (c.v.length = 0) && decide (c.tags = 0) else DenM.vec c.v && sorted (tms c.ts)
/-- why it is no change; 0, if it is one -/
def rightC (c : Ch) : Int := if inR c = false then 1 else if 64 < c.ts.length then 3 else if twice (tms c.ts) = true then 9 else if form c = false then 2 else 0
theorem sorted_rises {l : List Int} (h : l.Nodup) : sorted l = decide (l.Pairwise (· < ·)) := by
  unfold sorted
  congr 1
  apply propext
  constructor
  · intro hs
    refine List.Pairwise.imp₂ (fun a b h1 h2 => ?_) hs h
    omega
  · intro hs
    exact hs.imp (fun h => by omega)
theorem rises_of : ∀ (l : List Int) (la : Int), (∀ v ∈ l, la < v) → l.Pairwise (· < ·) → PackM.rises la l = true
  | [], _, _, _ => rfl
  | a :: t, la, h, hp => by
    rw [List.pairwise_cons] at hp
    simp only [PackM.rises, Bool.and_eq_true, decide_eq_true_eq]
    exact ⟨h a (by simp), rises_of t a (fun v hv => hp.1 v hv) hp.2⟩
/-- what a right change is -/
structure Rgt (c : Ch) : Prop where
  doc : 0 ≤ c.doc ∧ c.doc ≤ 2147483647
  tags : 0 ≤ c.tags ∧ c.tags ≤ 255
  ts : ∀ p ∈ c.ts, (0 ≤ p.1 ∧ p.1 ≤ 1048575) ∧ (1 ≤ p.2 ∧ p.2 ≤ 65535)
  len : c.ts.length ≤ 64
  up : (tms c.ts).Pairwise (· < ·)
  there : c.gone = false → DenM.vec c.v = true
  none_ : c.gone = true → c.ts = [] ∧ c.v = [] ∧ c.tags = 0
theorem rgt_of {c : Ch} (h : rightC c = 0) : Rgt c := by
  unfold rightC at h
  split at h
  · cases h
  · rename_i h1
    split at h
    · cases h
    · rename_i h2
      split at h
      · cases h
      · rename_i h3
        split at h
        · cases h
        · rename_i h4
          have h1 : inR c = true := by cases hh : inR c <;> simp [hh] at h1 ⊢
          have h4 : form c = true := by cases hh : form c <;> simp [hh] at h4 ⊢
          have hn : (tms c.ts).Nodup := by
            unfold twice at h3
            simpa using h3
          unfold inR at h1
          simp only [Bool.and_eq_true, isin_iff, List.all_eq_true] at h1
          have hts : ∀ p ∈ c.ts, (0 ≤ p.1 ∧ p.1 ≤ 1048575) ∧ (1 ≤ p.2 ∧ p.2 ≤ 65535) := fun p hp => by
            have := h1.2 p hp
            unfold tOk at this
            simpa only [Bool.and_eq_true, isin_iff] using this
          refine ⟨h1.1.1, h1.1.2, hts, by omega, ?_, fun hg => ?_, fun hg => ?_⟩
          · unfold form at h4
            cases hg : c.gone with
            | true =>
              rw [hg] at h4
              simp at h4
              rw [h4.1.1]
              exact List.Pairwise.nil
            | false =>
              rw [hg] at h4
              simp only [Bool.false_eq_true, if_false, Bool.and_eq_true] at h4
              rw [sorted_rises hn] at h4
              exact of_decide_eq_true h4.2
          · unfold form at h4
            rw [hg] at h4
            simp only [Bool.false_eq_true, if_false, Bool.and_eq_true] at h4
            exact h4.1
          · unfold form at h4
            rw [hg] at h4
            simp at h4
            exact ⟨h4.1.1, h4.1.2, h4.2⟩
/-- its bytes -/
def cont (c : Ch) : List UInt8 := risS (tms c.ts) ++ fixS 16 (wts c.ts) ++ fixS 8 (c.v.map (· + 128)) ++ fixS 8 [c.tags]
def prB (c : Ch) : List UInt8 := if c.gone = true then varB c.doc ++ varB 1 else varB c.doc ++ varB 0 ++ cont c
/-- what bytes tell: a change, right or not, and what is left -/
def rawC (s : List UInt8) : Option (Ch × List UInt8) :=
  (PackM.num PackM.MAXI 0 0 s).bind fun x => (PackM.num PackM.MAXI 0 0 x.2).bind fun y =>
    if y.1 = 1 then some (⟨x.1, [], [], 0, true⟩, y.2)
    else if y.1 = 0 then (PackM.rRis 64 y.2).bind fun a => (PackM.rFix 16 a.1.length a.2).bind fun b => (PackM.rFix 8 8 b.2).bind fun v => (PackM.rFix 8 1 v.2).bind fun t =>
      some (⟨x.1, a.1.zip (toI b.1), (toI v.1).map (· - 128), (toI t.1).getD 0 0, false⟩, t.2)
    else none
/-- the change at the front, and what is left -/
def rdC (s : List UInt8) : Option (Ch × List UInt8) := (rawC s).bind fun x => if rightC x.1 = 0 then some x else none

theorem var_one : varB 1 = [1] := by unfold varB; rw [if_neg (by decide), PackM.vw_lt (by decide)]; rfl
theorem var_nought : varB 0 = [0] := by unfold varB; rw [if_neg (by decide), PackM.vw_lt (by decide)]; rfl
theorem var_of {d : Int} (h : 0 ≤ d) : varB d = PackM.vw d.toNat := by unfold varB; rw [if_neg (by omega)]
theorem fits_of {w : Nat} {l : List Int} (h : ∀ v ∈ l, 0 ≤ v ∧ v < 2 ^ w) : fits w l = true := by
  unfold fits
  rw [List.all_eq_true]
  intro v hv
  simpa using h v hv
theorem fix_of {w : Nat} (hw : w ≤ 32) {l : List Int} (h : ∀ v ∈ l, 0 ≤ v ∧ v < 2 ^ w) : fixS (w : Int) l = PackM.fixB w (l.map Int.toNat) := by
  unfold fixS
  rw [Int.toNat_natCast, if_pos ⟨by omega, by omega, fits_of h⟩]
theorem fix_there {w : Nat} (hw : w ≤ 32) {l : List Int} (h : ∀ v ∈ l, 0 ≤ v ∧ v < 2 ^ w) (n : Nat) (hn : l.length = n) (s : List UInt8) : PackM.rFix w n (fixS (w : Int) l ++ s) = some (l.map Int.toNat, s) := by
  rw [fix_of hw h]
  have := PackM.rFix_there w (l.map Int.toNat) s (fun v hv => by
    simp only [List.mem_map] at hv
    obtain ⟨x, hx, rfl⟩ := hv
    obtain ⟨h1, h2⟩ := h x hx
    obtain ⟨y, rfl⟩ := Int.eq_ofNat_of_zero_le h1
    rw [Int.toNat_natCast]
    exact_mod_cast h2)
  rw [List.length_map, hn] at this
  exact this
theorem zip_un (l : List (Int × Int)) : (tms l).zip (wts l) = l := by
  unfold tms wts
  induction l with
  | nil => rfl
  | cons a t ih => simp [ih]
theorem off_on (l : List Int) : (l.map (· + 128)).map (· - 128) = l := by
  rw [List.map_map]
  have : ∀ v ∈ l, ((· - 128) ∘ (· + 128)) v = v := fun v _ => by
    show v + 128 - 128 = v
    omega
  rw [List.map_congr_left this, List.map_id']
theorem on_off (l : List Int) : (l.map (· - 128)).map (· + 128) = l := by
  rw [List.map_map]
  have : ∀ v ∈ l, ((· + 128) ∘ (· - 128)) v = v := fun v _ => by
    show v - 128 + 128 = v
    omega
  rw [List.map_congr_left this, List.map_id']
/-- what was printed is read, whatever stands behind it -/
theorem rd_there {c : Ch} (h : rightC c = 0) (s : List UInt8) : rdC (prB c ++ s) = some (c, s) := by
  have g := rgt_of h
  have hraw : rawC (prB c ++ s) = some (c, s) := by
    unfold rawC prB
    cases hg : c.gone with
    | true =>
      obtain ⟨e1, e2, e3⟩ := g.none_ hg
      rw [if_pos rfl, var_of g.doc.1, List.append_assoc, PackM.num_there _ _ _ (by unfold PackM.MAXI; have := g.doc.2; omega)]
      simp only [Option.bind_some]
      rw [show varB 1 = PackM.vw 1 from by rw [var_of (by omega)]; rfl, PackM.num_there _ _ _ (by unfold PackM.MAXI; omega)]
      simp only [Option.bind_some, if_true]
      obtain ⟨d, ts, v, tags, gone⟩ := c
      simp only at e1 e2 e3 hg
      subst e1; subst e2; subst e3; subst hg
      have := g.doc.1
      simp only at this ⊢
      rw [Int.toNat_of_nonneg this]
    | false =>
      have hv := (DenM.vec_iff _).1 (g.there hg)
      rw [if_neg (by simp), var_of g.doc.1, List.append_assoc, List.append_assoc, PackM.num_there _ _ _ (by unfold PackM.MAXI; have := g.doc.2; omega)]
      simp only [Option.bind_some]
      rw [show varB 0 = PackM.vw 0 from by rw [var_of (by omega)]; rfl, PackM.num_there _ _ _ (by unfold PackM.MAXI; omega)]
      simp only [Option.bind_some]
      rw [if_neg (by omega), if_pos trivial]
      unfold cont
      have hr : PackM.rises (-1) (tms c.ts) = true := rises_of _ _ (fun v hv => by
        unfold tms at hv
        obtain ⟨p, hp, rfl⟩ := List.mem_map.1 hv
        have := (g.ts p hp).1.1
        omega) g.up
      have h1 : PackM.rRis 64 (PackM.risB (tms c.ts) ++ (fixS 16 (wts c.ts) ++ (fixS 8 (c.v.map (· + 128)) ++ (fixS 8 [c.tags] ++ s)))) = some (tms c.ts, fixS 16 (wts c.ts) ++ (fixS 8 (c.v.map (· + 128)) ++ (fixS 8 [c.tags] ++ s))) :=
        PackM.rRis_wide (PackM.rRis_there _ _ (by rw [tms_len]; have := g.len; omega) hr (fun v hv => by
          unfold tms at hv
          obtain ⟨p, hp, rfl⟩ := List.mem_map.1 hv
          have := (g.ts p hp).1.2
          omega)) (by rw [tms_len]; have := g.len; omega)
      rw [show risS (tms c.ts) = PackM.risB (tms c.ts) from by unfold risS; rw [if_pos hr]]
      simp only [List.append_assoc]
      rw [h1]
      simp only [Option.bind_some]
      rw [show (16 : Int) = ((16 : Nat) : Int) from rfl, show (8 : Int) = ((8 : Nat) : Int) from rfl]
      have hw : ∀ v ∈ wts c.ts, 0 ≤ v ∧ v < 2 ^ 16 := fun v hv => by
        unfold wts at hv
        obtain ⟨p, hp, rfl⟩ := List.mem_map.1 hv
        have := (g.ts p hp).2
        omega
      have hv8 : ∀ v ∈ c.v.map (· + 128), 0 ≤ v ∧ v < 2 ^ 8 := fun v hv' => by
        obtain ⟨p, hp, rfl⟩ := List.mem_map.1 hv'
        have := hv.2 p hp
        show 0 ≤ p + 128 ∧ p + 128 < 2 ^ 8
        omega
      have ht : ∀ v ∈ [c.tags], 0 ≤ v ∧ v < 2 ^ 8 := fun v hv' => by
        simp at hv'
        subst hv'
        have := g.tags
        omega
      rw [fix_there (by omega) hw (tms c.ts).length (by rw [tms_len, wts_len])]
      simp only [Option.bind_some]
      rw [fix_there (by omega) hv8 8 (by rw [List.length_map, hv.1])]
      simp only [Option.bind_some]
      rw [fix_there (by omega) ht 1 rfl]
      simp only [Option.bind_some]
      rw [map_back _ (fun v hv => (hw v hv).1), map_back _ (fun v hv => (hv8 v hv).1), map_back _ (fun v hv => (ht v hv).1), zip_un, off_on]
      have := g.doc.1
      rw [Int.toNat_of_nonneg this, List.getD_cons_zero, ← hg]
  unfold rdC
  rw [hraw]
  simp only [Option.bind_some]
  rw [if_pos h]
theorem toI_nat (l : List Nat) : (toI l).map Int.toNat = l := by
  unfold toI
  rw [List.map_map]
  have : ∀ v ∈ l, (Int.toNat ∘ Int.ofNat) v = v := fun v _ => rfl
  rw [List.map_congr_left this, List.map_id']
theorem toI_fits {w : Nat} {l : List Nat} (h : ∀ v ∈ l, v < 2 ^ w) : ∀ v ∈ toI l, 0 ≤ v ∧ v < 2 ^ w := fun v hv => by
  unfold toI at hv
  obtain ⟨x, hx, rfl⟩ := List.mem_map.1 hv
  have := h x hx
  refine ⟨Int.natCast_nonneg x, ?_⟩
  show (x : Int) < 2 ^ w
  exact_mod_cast this
theorem fix_here {w n : Nat} (hw : w ≤ 32) {s : List UInt8} {ns : List Nat} {t : List UInt8} (h : PackM.rFix w n s = some (ns, t)) : s = fixS (w : Int) (toI ns) ++ t ∧ ns.length = n := by
  obtain ⟨h1, h2, h3⟩ := PackM.rFix_here h
  refine ⟨?_, h2⟩
  rw [fix_of hw (toI_fits h3), toI_nat]
  exact h1
theorem raw_here {s : List UInt8} {c : Ch} {t : List UInt8} (h : rawC s = some (c, t)) : s = prB c ++ t ∧ c.ts.length ≤ 64 ∧ c.v.length ≤ 8 := by
  unfold rawC at h
  cases h1 : PackM.num PackM.MAXI 0 0 s with
  | none => rw [h1] at h; cases h
  | some x =>
    rw [h1] at h
    simp only [Option.bind_some] at h
    have e1 := PackM.num_here (v := x.1) (t := x.2) h1
    cases h2 : PackM.num PackM.MAXI 0 0 x.2 with
    | none => rw [h2] at h; cases h
    | some y =>
      rw [h2] at h
      simp only [Option.bind_some] at h
      have e2 := PackM.num_here (v := y.1) (t := y.2) h2
      by_cases hy : y.1 = 1
      · rw [if_pos hy] at h
        injection h with h; injection h with h3 h4
        subst h3
        refine ⟨?_, by simp, by simp⟩
        unfold prB
        rw [if_pos rfl, var_of (by simp), List.append_assoc, var_of (by omega)]
        rw [hy] at e2
        rw [e1, e2, h4]
        simp
      · rw [if_neg hy] at h
        by_cases hy0 : y.1 = 0
        · rw [if_pos hy0] at h
          cases h3 : PackM.rRis 64 y.2 with
          | none => rw [h3] at h; cases h
          | some a =>
            rw [h3] at h
            simp only [Option.bind_some] at h
            obtain ⟨a1, a2, a3, a4⟩ := PackM.rRis_here (l := a.1) (t := a.2) h3
            cases h4 : PackM.rFix 16 a.1.length a.2 with
            | none => rw [h4] at h; cases h
            | some b =>
              rw [h4] at h
              simp only [Option.bind_some] at h
              obtain ⟨b1, b2⟩ := fix_here (ns := b.1) (t := b.2) (by omega) h4
              cases h5 : PackM.rFix 8 8 b.2 with
              | none => rw [h5] at h; cases h
              | some v =>
                rw [h5] at h
                simp only [Option.bind_some] at h
                obtain ⟨v1, v2⟩ := fix_here (ns := v.1) (t := v.2) (by omega) h5
                cases h6 : PackM.rFix 8 1 v.2 with
                | none => rw [h6] at h; cases h
                | some q =>
                  rw [h6] at h
                  simp only [Option.bind_some] at h
                  obtain ⟨q1, q2⟩ := fix_here (ns := q.1) (t := q.2) (by omega) h6
                  injection h with h; injection h with h7 h8
                  subst h7
                  have hz : a.1.length = (toI b.1).length := by rw [toI_length, b2]
                  refine ⟨?_, by rw [List.length_zip, toI_length]; omega, by rw [List.length_map, toI_length]; omega⟩
                  unfold prB cont
                  have hr : risS a.1 = PackM.risB a.1 := by unfold risS; rw [if_pos a2]
                  have et : tms (a.1.zip (toI b.1)) = a.1 := by unfold tms; exact List.map_fst_zip (by omega)
                  have ew : wts (a.1.zip (toI b.1)) = toI b.1 := by unfold wts; exact List.map_snd_zip (by omega)
                  have eq1 : [(toI q.1).getD 0 0] = toI q.1 := by
                    match q.1, q2 with
                    | [z], _ => rfl
                  simp only [Bool.false_eq_true, if_false]
                  rw [et, ew, on_off, eq1, hr, var_of (Int.natCast_nonneg _), Int.toNat_natCast, var_of (by omega), show (0 : Int).toNat = 0 from rfl]
                  rw [hy0] at e2
                  simp only [List.append_assoc]
                  rw [← h8]
                  rw [← show v.2 = fixS 8 (toI q.1) ++ q.2 from q1, ← show b.2 = fixS 8 (toI v.1) ++ v.2 from v1, ← show a.2 = fixS 16 (toI b.1) ++ b.2 from b1, ← a1, ← e2, ← e1]
        · rw [if_neg hy0] at h; cases h
end Go.Proofs.YtddnnhfffmhpmaaGreatDoor.DocM

/- Documents by the words: rows of changes by rising documents; what comes of a row of changes. -/
namespace Go.Proofs.YtddnnhfffmhpmaaGreatDoor.StoM
open DocM

abbrev Chs := List Ch
def RiseC (l : Chs) : Prop := l.Pairwise (fun a b => a.doc < b.doc)
def lkC : Chs → Int → Option Ch
  | [], _ => none
  | x :: t, n => if x.doc = n then some x else lkC t n
def ptC (c : Ch) : Chs → Chs
  | [] => [c]
  | x :: t => if c.doc < x.doc then c :: x :: t else if x.doc = c.doc then c :: t else x :: ptC c t
def dlC (n : Int) : Chs → Chs
  | [] => []
  | x :: t => if x.doc = n then dlC n t else x :: dlC n t
def doC (c : Ch) (l : Chs) : Chs := if c.gone = true then dlC c.doc l else ptC c l
theorem lk_doc {n : Int} {c : Ch} : ∀ {l : Chs}, lkC l n = some c → c.doc = n ∧ c ∈ l
  | [], h => by cases h
  | x :: t, h => by
    rw [lkC] at h
    split at h
    · rename_i he
      injection h with h
      rw [← h]
      exact ⟨he, List.mem_cons_self⟩
    · exact ⟨(lk_doc h).1, List.mem_cons_of_mem _ (lk_doc h).2⟩
theorem lk_of_mem {c : Ch} : ∀ {l : Chs}, RiseC l → c ∈ l → lkC l c.doc = some c
  | [], _, h => by simp at h
  | x :: t, hr, h => by
    obtain ⟨h1, h2⟩ := List.pairwise_cons.1 hr
    rw [lkC]
    rcases List.mem_cons.1 h with h | h
    · rw [← h, if_pos rfl]
    · have := h1 c h
      rw [if_neg (by omega)]
      exact lk_of_mem h2 h
theorem lk_none {n : Int} : ∀ {l : Chs}, lkC l n = none ↔ n ∉ l.map (·.doc)
  | [] => by simp [lkC]
  | x :: t => by
    rw [lkC]
    by_cases e : x.doc = n
    · rw [if_pos e]; simp [e]
    · rw [if_neg e, lk_none]; simp [Ne.symm e]
theorem lk_put_same (c : Ch) : ∀ l : Chs, lkC (ptC c l) c.doc = some c
  | [] => by simp [ptC, lkC]
  | x :: t => by
    unfold ptC
    split
    · simp [lkC]
    · split
      · simp [lkC]
      · rename_i h
        rw [lkC, if_neg h]
        exact lk_put_same c t
theorem lk_put_other {m : Int} (c : Ch) (hne : m ≠ c.doc) : ∀ l : Chs, lkC (ptC c l) m = lkC l m
  | [] => by simp [ptC, lkC, Ne.symm hne]
  | x :: t => by
    unfold ptC
    split
    · rw [lkC, if_neg (Ne.symm hne)]
    · split
      · rename_i h
        rw [lkC, if_neg (Ne.symm hne), lkC, h, if_neg (Ne.symm hne)]
      · rw [lkC, lkC, lk_put_other c hne t]
theorem lk_del_same (n : Int) : ∀ l : Chs, lkC (dlC n l) n = none
  | [] => rfl
  | x :: t => by
    unfold dlC
    split
    · exact lk_del_same n t
    · rename_i h
      rw [lkC, if_neg h]
      exact lk_del_same n t
theorem lk_del_other {n m : Int} (hne : m ≠ n) : ∀ l : Chs, lkC (dlC n l) m = lkC l m
  | [] => rfl
  | x :: t => by
    unfold dlC
    split
    · rename_i h
      rw [lkC, h, if_neg (Ne.symm hne)]
      exact lk_del_other hne t
    · rw [lkC, lkC, lk_del_other hne t]
theorem mem_put {c x : Ch} : ∀ {l : Chs}, x ∈ ptC c l → x = c ∨ x ∈ l
  | [], h => by left; simpa [ptC] using h
  | y :: t, h => by
    unfold ptC at h
    split at h
    · rcases List.mem_cons.1 h with h | h
      · exact .inl h
      · exact .inr h
    · split at h
      · rcases List.mem_cons.1 h with h | h
        · exact .inl h
        · exact .inr (List.mem_cons_of_mem _ h)
      · rcases List.mem_cons.1 h with h | h
        · exact .inr (h ▸ List.mem_cons_self)
        · rcases mem_put h with h | h
          · exact .inl h
          · exact .inr (List.mem_cons_of_mem _ h)
theorem mem_del {n : Int} {x : Ch} : ∀ {l : Chs}, x ∈ dlC n l → x ∈ l
  | [], h => by simp [dlC] at h
  | y :: t, h => by
    unfold dlC at h
    split at h
    · exact List.mem_cons_of_mem _ (mem_del h)
    · rcases List.mem_cons.1 h with h | h
      · rw [h]; exact List.mem_cons_self
      · exact List.mem_cons_of_mem _ (mem_del h)
theorem rise_put (c : Ch) : ∀ {l : Chs}, RiseC l → RiseC (ptC c l)
  | [], _ => by simp [ptC, RiseC]
  | x :: t, h => by
    obtain ⟨h1, h2⟩ := List.pairwise_cons.1 h
    unfold ptC
    split
    · rename_i hlt
      refine List.pairwise_cons.2 ⟨fun y hy => ?_, h⟩
      rcases List.mem_cons.1 hy with hy | hy
      · rw [hy]; exact hlt
      · have := h1 y hy; omega
    · split
      · rename_i he
        exact List.pairwise_cons.2 ⟨fun y hy => by rw [← he]; exact h1 y hy, h2⟩
      · rename_i hlt hne
        refine List.pairwise_cons.2 ⟨fun y hy => ?_, rise_put c h2⟩
        rcases mem_put hy with hy | hy
        · rw [hy]; omega
        · exact h1 y hy
theorem rise_del (n : Int) : ∀ {l : Chs}, RiseC l → RiseC (dlC n l)
  | [], _ => by simp [dlC, RiseC]
  | x :: t, h => by
    obtain ⟨h1, h2⟩ := List.pairwise_cons.1 h
    unfold dlC
    split
    · exact rise_del n h2
    · exact List.pairwise_cons.2 ⟨fun y hy => h1 y (mem_del hy), rise_del n h2⟩
theorem rise_do (c : Ch) {l : Chs} (h : RiseC l) : RiseC (doC c l) := by
  unfold doC
  split
  · exact rise_del _ h
  · exact rise_put _ h
theorem mem_do {c x : Ch} {l : Chs} (h : x ∈ doC c l) : (x = c ∧ c.gone = false) ∨ x ∈ l := by
  unfold doC at h
  split at h
  · exact .inr (mem_del h)
  · rename_i hg
    rcases mem_put h with h | h
    · exact .inl ⟨h, by simpa using hg⟩
    · exact .inr h
theorem del_none {n : Int} : ∀ {l : Chs}, lkC l n = none → dlC n l = l
  | [], _ => rfl
  | x :: t, h => by
    rw [lkC] at h
    split at h
    · cases h
    · rename_i e
      rw [dlC, if_neg e, del_none h]
/-- two rising rows in which each document is the same are one -/
theorem rise_ext : ∀ {a b : Chs}, RiseC a → RiseC b → (∀ n, lkC a n = lkC b n) → a = b
  | [], [], _, _, _ => rfl
  | [], y :: t, _, _, h => by
    have := h y.doc
    rw [lkC, lkC, if_pos rfl] at this
    cases this
  | x :: t, [], _, _, h => by
    have := h x.doc
    rw [lkC, lkC, if_pos rfl] at this
    cases this
  | x :: s, y :: t, ha, hb, h => by
    obtain ⟨a1, a2⟩ := List.pairwise_cons.1 ha
    obtain ⟨b1, b2⟩ := List.pairwise_cons.1 hb
    have hx := h x.doc
    have hy := h y.doc
    have e0 : lkC (x :: s) x.doc = some x := by rw [lkC, if_pos rfl]
    have e1 : lkC (y :: t) y.doc = some y := by rw [lkC, if_pos rfl]
    rw [e0] at hx
    rw [e1] at hy
    have hxy : x.doc = y.doc := by
      by_cases e : x.doc = y.doc
      · exact e
      · rw [lkC, if_neg (fun e' => e e'.symm)] at hx
        rw [lkC, if_neg e] at hy
        have m1 := b1 x (lk_doc hx.symm).2
        have m2 := a1 y (lk_doc hy).2
        omega
    rw [lkC, if_pos hxy.symm] at hx
    injection hx with hx
    subst hx
    congr 1
    refine rise_ext a2 b2 fun n => ?_
    have := h n
    rw [lkC, lkC] at this
    by_cases e : x.doc = n
    · have e1 : lkC s n = none := lk_none.2 fun hm => by
        obtain ⟨z, hz, ez⟩ := List.mem_map.1 hm
        have := a1 z hz
        omega
      have e2 : lkC t n = none := lk_none.2 fun hm => by
        obtain ⟨z, hz, ez⟩ := List.mem_map.1 hm
        have := b1 z hz
        omega
      rw [e1, e2]
    · rw [if_neg e, if_neg e] at this
      exact this
theorem docs_nodup {l : Chs} (h : RiseC l) : (l.map (·.doc)).Nodup := List.pairwise_map.2 (h.imp fun hlt e => by omega)
theorem docs_sorted {l : Chs} (h : RiseC l) {ss : List Int} (hp : ss.Perm (l.map (·.doc))) : ss.mergeSort (fun x y => decide (x ≤ y)) = l.map (·.doc) := by
  have h1 : (ss.mergeSort (fun x y => decide (x ≤ y))).Pairwise (fun x y => (decide (x ≤ y)) = true) :=
    List.pairwise_mergeSort (le := fun x y : Int => decide (x ≤ y)) (fun a b c h1 h2 => decide_eq_true (Int.le_trans (of_decide_eq_true h1) (of_decide_eq_true h2))) (fun a b => by
      rcases Int.le_total a b with h | h
      · simp [h]
      · simp [h]) ss
  exact List.Perm.eq_of_pairwise (fun a b _ _ h1 h2 => Int.le_antisymm (of_decide_eq_true h1) (of_decide_eq_true h2)) h1 (List.pairwise_map.2 (h.imp fun hlt => decide_eq_true (Int.le_of_lt hlt))) ((List.mergeSort_perm ss _).trans hp)
theorem length_put {c : Ch} : ∀ {l : Chs}, RiseC l → (ptC c l).length = l.length + if (lkC l c.doc).isSome then 0 else 1
  | [], _ => by simp [ptC, lkC]
  | x :: t, h => by
    obtain ⟨h1, h2⟩ := List.pairwise_cons.1 h
    unfold ptC
    split
    · rename_i hlt
      have hn : lkC (x :: t) c.doc = none := lk_none.2 (fun hm => by
        obtain ⟨y, hy, e⟩ := List.mem_map.1 hm
        rcases List.mem_cons.1 hy with hy | hy
        · rw [hy] at e; omega
        · have := h1 y hy; omega)
      rw [hn]; simp
    · split
      · rename_i he
        rw [lkC, if_pos he]; simp
      · rename_i hne
        rw [lkC, if_neg hne, List.length_cons, List.length_cons, length_put h2]
        omega

/-! ### rows of changes -/
def doAll (s : Chs) (l : Chs) : Chs := l.foldl (fun s c => doC c s) s
def ptAll (s : Chs) (l : Chs) : Chs := l.foldl (fun s c => ptC c s) s
/-- the last change of a document -/
def upd (n : Int) (o : Option Ch) (c : Ch) : Option Ch := if c.doc = n then some c else o
def lastC (l : Chs) (n : Int) : Option Ch := l.foldl (upd n) none
def overO (o x : Option Ch) : Option Ch :=
  match o with
  | none => x
  | some c => if c.gone = true then none else some c
theorem doAll_snoc (s l : Chs) (c : Ch) : doAll s (l ++ [c]) = doC c (doAll s l) := by simp [doAll]
theorem ptAll_snoc (s l : Chs) (c : Ch) : ptAll s (l ++ [c]) = ptC c (ptAll s l) := by simp [ptAll]
theorem doAll_append (s l m : Chs) : doAll s (l ++ m) = doAll (doAll s l) m := by simp [doAll]
theorem ptAll_append (s l m : Chs) : ptAll s (l ++ m) = ptAll (ptAll s l) m := by simp [ptAll]
theorem lk_do (c : Ch) (l : Chs) (n : Int) : lkC (doC c l) n = if c.doc = n then (if c.gone = true then none else some c) else lkC l n := by
  unfold doC
  by_cases e : c.doc = n
  · subst e
    rw [if_pos rfl]
    split
    · exact lk_del_same _ _
    · exact lk_put_same _ _
  · rw [if_neg e]
    split
    · exact lk_del_other (Ne.symm e) _
    · exact lk_put_other _ (Ne.symm e) _
theorem lk_doAll' (n : Int) : ∀ (l s : Chs) (o x : Option Ch), lkC s n = overO o x → lkC (doAll s l) n = overO (l.foldl (upd n) o) x
  | [], _, _, _, h => h
  | c :: t, s, o, x, h => by
    show lkC (doAll (doC c s) t) n = overO (t.foldl (upd n) (upd n o c)) x
    refine lk_doAll' n t _ _ _ ?_
    rw [lk_do]
    unfold upd
    by_cases e : c.doc = n
    · rw [if_pos e, if_pos e]; rfl
    · rw [if_neg e, if_neg e]; exact h
theorem lk_doAll (l s : Chs) (n : Int) : lkC (doAll s l) n = overO (lastC l n) (lkC s n) := lk_doAll' n l s none _ rfl
theorem lk_ptAll' (n : Int) : ∀ (l s : Chs), lkC (ptAll s l) n = l.foldl (upd n) (lkC s n)
  | [], _ => rfl
  | c :: t, s => by
    show lkC (ptAll (ptC c s) t) n = t.foldl (upd n) (upd n (lkC s n) c)
    rw [lk_ptAll' n t]
    congr 1
    unfold upd
    by_cases e : c.doc = n
    · subst e; rw [if_pos rfl, lk_put_same]
    · rw [if_neg e, lk_put_other _ (Ne.symm e)]
theorem lk_ptAll (l : Chs) (n : Int) : lkC (ptAll [] l) n = lastC l n := lk_ptAll' n l []
theorem rise_doAll : ∀ (l : Chs) {s : Chs}, RiseC s → RiseC (doAll s l)
  | [], _, h => h
  | c :: t, _, h => rise_doAll t (rise_do c h)
theorem rise_ptAll : ∀ (l : Chs) {s : Chs}, RiseC s → RiseC (ptAll s l)
  | [], _, h => h
  | c :: t, _, h => rise_ptAll t (rise_put c h)
theorem rise_nil : RiseC [] := List.Pairwise.nil
theorem last_rise (n : Int) : ∀ {l : Chs} (o : Option Ch), RiseC l → l.foldl (upd n) o = match lkC l n with | some c => some c | none => o
  | [], _, _ => rfl
  | x :: t, o, h => by
    obtain ⟨h1, h2⟩ := List.pairwise_cons.1 h
    show t.foldl (upd n) (upd n o x) = _
    rw [last_rise n _ h2, lkC]
    unfold upd
    by_cases e : x.doc = n
    · have e1 : lkC t n = none := lk_none.2 fun hm => by
        obtain ⟨z, hz, ez⟩ := List.mem_map.1 hm
        have := h1 z hz
        omega
      rw [if_pos e, if_pos e, e1]
    · rw [if_neg e, if_neg e]
theorem last_of_rise {l : Chs} (h : RiseC l) (n : Int) : lastC l n = lkC l n := by
  unfold lastC
  rw [last_rise n none h]
  cases lkC l n <;> rfl
/-- what came last of each, done to what was there, is all that came done to it -/
theorem do_last (s l : Chs) (hs : RiseC s) : doAll s (ptAll [] l) = doAll s l := by
  refine rise_ext (rise_doAll _ hs) (rise_doAll _ hs) fun n => ?_
  rw [lk_doAll, lk_doAll, last_of_rise (rise_ptAll _ rise_nil), lk_ptAll]
def AllThere (l : Chs) : Prop := ∀ c ∈ l, c.gone = false
theorem doAll_self {s : Chs} (h : RiseC s) (hg : AllThere s) : doAll [] s = s := by
  refine rise_ext (rise_doAll _ rise_nil) h fun n => ?_
  rw [lk_doAll, last_of_rise h]
  cases hl : lkC s n with
  | none => rfl
  | some c =>
    have := hg c (lk_doc hl).2
    simp [overO, this]
theorem mem_doAll {x : Ch} : ∀ {l s : Chs}, x ∈ doAll s l → (x ∈ l ∧ x.gone = false) ∨ x ∈ s
  | [], _, h => .inr h
  | c :: t, s, h => by
    rcases mem_doAll (l := t) (s := doC c s) h with h | h
    · exact .inl ⟨List.mem_cons_of_mem _ h.1, h.2⟩
    · rcases mem_do h with ⟨e, hg⟩ | h
      · exact .inl ⟨by rw [e]; exact List.mem_cons_self, by rw [e]; exact hg⟩
      · exact .inr h
theorem mem_ptAll {x : Ch} : ∀ {l s : Chs}, x ∈ ptAll s l → x ∈ l ∨ x ∈ s
  | [], _, h => .inr h
  | c :: t, s, h => by
    rcases mem_ptAll (l := t) (s := ptC c s) h with h | h
    · exact .inl (List.mem_cons_of_mem _ h)
    · rcases mem_put h with e | h
      · exact .inl (by rw [e]; exact List.mem_cons_self)
      · exact .inr h
theorem there_doAll {l : Chs} : AllThere (doAll [] l) := fun c hc => by
  rcases mem_doAll hc with h | h
  · exact h.2
  · simp at h
theorem there_over {s l : Chs} (hs : AllThere s) : AllThere (doAll s l) := fun c hc => by
  rcases mem_doAll hc with h | h
  · exact h.2
  · exact hs c h
theorem nodup_few : ∀ {l P : List Int}, l.Nodup → (∀ x ∈ l, x ∈ P) → l.length ≤ P.length
  | [], _, _, _ => Nat.zero_le _
  | a :: t, P, h, hP => by
    obtain ⟨h1, h2⟩ := List.nodup_cons.1 h
    have ha := hP a List.mem_cons_self
    have := nodup_few (l := t) (P := P.erase a) h2 fun x hx => (List.mem_erase_of_ne (fun e => h1 (by rw [← e]; exact hx))).2 (hP x (List.mem_cons_of_mem _ hx))
    have e := List.length_erase_of_mem ha
    have : 0 < P.length := List.length_pos_of_mem ha
    rw [List.length_cons]
    omega
/-- a rising row whose documents are among so many is no longer -/
theorem rise_few {l : Chs} (h : RiseC l) {P : List Int} (hP : ∀ c ∈ l, c.doc ∈ P) : l.length ≤ P.length := by
  have h1 := docs_nodup h
  have h2 : (l.map (·.doc)).length ≤ P.length := nodup_few h1 fun x hx => by
    obtain ⟨c, hc, rfl⟩ := List.mem_map.1 hx
    exact hP c hc
  simpa using h2
end Go.Proofs.YtddnnhfffmhpmaaGreatDoor.StoM

/- What lies on a disk, and what it tells: plain. -/
namespace Go.Proofs.YtddnnhfffmhpmaaGreatDoor.StoM
open DocM VdM

/-! ### bytes and names -/
def frameB (c : Ch) : List UInt8 := varB ((CrcM.sealed (prB c)).length : Nat) ++ CrcM.sealed (prB c)
def frames (l : Chs) : List UInt8 := l.flatMap frameB
def segT (l : Chs) : List UInt8 := varB (l.length : Nat) ++ l.flatMap prB
def segB (l : Chs) : List UInt8 := CrcM.sealed (segT l)
def manT (first : Nat) (segs : List Nat) : List UInt8 := varB (first : Nat) ++ risS (segs.map Int.ofNat)
def manB (first : Nat) (segs : List Nat) : List UInt8 := CrcM.sealed (manT first segs)
def dec (i : Nat) : List UInt8 := if i < 10 then [UInt8.ofNat (48 + i)] else [UInt8.ofNat (48 + i / 10), UInt8.ofNat (48 + i % 10)]
def manN : Name := [109, 97, 110]
def newN : Name := [109, 97, 110, 46, 110, 101, 119]
def logP : Name := [108, 111, 103, 46]
def segP : Name := [115, 101, 103, 46]
def logN (i : Nat) : Name := logP ++ dec i
def segN (i : Nat) : Name := segP ++ dec i
theorem dec_inj {i j : Nat} (hi : i < 100) (hj : j < 100) (h : dec i = dec j) : i = j := by
  have := (by decide +kernel : ∀ a : Fin 100, ∀ b : Fin 100, dec a.val = dec b.val → a = b) ⟨i, hi⟩ ⟨j, hj⟩ h
  exact congrArg Fin.val this
theorem dec_len (i : Nat) : 1 ≤ (dec i).length ∧ (dec i).length ≤ 2 := by unfold dec; split <;> simp
theorem logN_inj {i j : Nat} (hi : i < 100) (hj : j < 100) (h : logN i = logN j) : i = j := dec_inj hi hj (List.append_cancel_left h)
theorem segN_inj {i j : Nat} (hi : i < 100) (hj : j < 100) (h : segN i = segN j) : i = j := dec_inj hi hj (List.append_cancel_left h)
theorem log_seg (i j : Nat) : logN i ≠ segN j := by simp [logN, segN, logP, segP]
theorem log_man (i : Nat) : logN i ≠ manN := by simp [logN, manN, logP]
theorem log_new (i : Nat) : logN i ≠ newN := by simp [logN, newN, logP]
theorem seg_man (i : Nat) : segN i ≠ manN := by simp [segN, manN, segP]
theorem seg_new (i : Nat) : segN i ≠ newN := by simp [segN, newN, segP]
theorem new_man : newN ≠ manN := by decide
theorem nm_log (i : Nat) : nameB (logN i) = true := by have := dec_len i; simp [nameB, logN, logP]; omega
theorem nm_seg (i : Nat) : nameB (segN i) = true := by have := dec_len i; simp [nameB, segN, segP]; omega
theorem nm_man : nameB manN = true := by decide
theorem nm_new : nameB newN = true := by decide

/-! ### what a store has come from -/
structure Gst where
  first : Nat
  segs : List (Nat × Chs)
  logs : List (Chs × List UInt8)
  begun : Bool
def segNos (g : Gst) : List Nat := g.segs.map (·.1)
def segCh (g : Gst) : Chs := g.segs.flatMap (·.2)
def logCh (g : Gst) : Chs := g.logs.flatMap (·.1)
def settled (g : Gst) : Chs := doAll [] (segCh g)
def came (g : Gst) : Chs := ptAll [] (logCh g)
def live (g : Gst) : Chs := doAll (settled g) (logCh g)
def nextLog (g : Gst) : Nat := g.first + g.logs.length
def nextSeg (g : Gst) : Nat := match (segNos g).getLast? with | none => 0 | some n => n + 1
/-- the logs but that which is being written, and the changes of that one -/
def front (g : Gst) : List (Chs × List UInt8) := if g.begun = true then g.logs.dropLast else g.logs
def lastCh (g : Gst) : Chs := if g.begun = true then (g.logs.getLastD ([], [])).1 else []
def logNo (g : Gst) : Nat := g.first + (front g).length
def gPut (g : Gst) (c : Ch) : Gst := { g with logs := front g ++ [(lastCh g ++ [c], [])], begun := true }
def gTorn (g : Gst) (t : List UInt8) : Gst := { g with logs := front g ++ [(lastCh g, t)], begun := false }
def gOpen (g : Gst) : Gst := { g with begun := false }
def gFlush (g : Gst) : Gst := { first := nextLog g, segs := g.segs ++ [(nextSeg g, came g)], logs := [], begun := false }
def gMerge (g : Gst) : Gst := { g with segs := [(nextSeg g, settled g)] }
def g0 : Gst := ⟨0, [], [], false⟩
def Torn (t : List UInt8) : Prop := t = [] ∨ ∃ c, rightC c = 0 ∧ ∃ n, n < (frameB c).length ∧ t = (frameB c).take n
/-- its numbers are few, its changes right, of few documents -/
structure GOk (P : List Int) (L S : Nat) (g : Gst) : Prop where
  segR : (segNos g).Pairwise (· < ·)
  segC : ∀ x ∈ g.segs, RiseC x.2 ∧ ∀ c ∈ x.2, rightC c = 0 ∧ c.doc ∈ P
  logC : ∀ y ∈ g.logs, (∀ c ∈ y.1, rightC c = 0 ∧ c.doc ∈ P) ∧ Torn y.2
  beg : g.begun = true → g.logs = front g ++ [(lastCh g, [])]
  nlog : nextLog g ≤ L
  nseg : nextSeg g ≤ S
theorem front_logs (g : Gst) (h : g.begun = false) : front g = g.logs ∧ lastCh g = [] := by simp [front, lastCh, h]
theorem last_num : ∀ {l : List Nat}, l.Pairwise (· < ·) → ∀ n ∈ l, ∃ m, l.getLast? = some m ∧ n ≤ m
  | [], _, n, h => by simp at h
  | [x], _, n, h => ⟨x, rfl, by simp at h; omega⟩
  | x :: y :: t, h, n, hn => by
    obtain ⟨h1, h2⟩ := List.pairwise_cons.1 h
    rw [List.getLast?_cons_cons]
    rcases List.mem_cons.1 hn with hn | hn
    · obtain ⟨m, hm, hy⟩ := last_num h2 y List.mem_cons_self
      have := h1 y List.mem_cons_self
      exact ⟨m, hm, by omega⟩
    · exact last_num h2 n hn
section
variable {P : List Int} {L S : Nat} {g : Gst}
theorem GOk.seg_lt (h : GOk P L S g) : ∀ n ∈ segNos g, n < nextSeg g := fun n hn => by
  obtain ⟨m, hm, hle⟩ := last_num h.segR n hn
  unfold nextSeg
  rw [hm]
  show n < m + 1
  omega
theorem GOk.mono (h : GOk P L S g) {P' : List Int} {L' S' : Nat} (hP : ∀ d ∈ P, d ∈ P') (hL : L ≤ L') (hS : S ≤ S') : GOk P' L' S' g :=
  ⟨h.segR, fun x hx => ⟨(h.segC x hx).1, fun c hc => ⟨((h.segC x hx).2 c hc).1, hP _ ((h.segC x hx).2 c hc).2⟩⟩, fun y hy => ⟨fun c hc => ⟨((h.logC y hy).1 c hc).1, hP _ ((h.logC y hy).1 c hc).2⟩, (h.logC y hy).2⟩, h.beg, Nat.le_trans h.nlog hL, Nat.le_trans h.nseg hS⟩
theorem GOk.logs (h : GOk P L S g) : g.logs = front g ∧ lastCh g = [] ∧ g.begun = false ∨ g.logs = front g ++ [(lastCh g, [])] ∧ g.begun = true := by
  cases hb : g.begun with
  | false => exact .inl ⟨(front_logs g hb).1.symm, (front_logs g hb).2, rfl⟩
  | true => exact .inr ⟨h.beg hb, rfl⟩
theorem GOk.segch (h : GOk P L S g) : ∀ c ∈ segCh g, rightC c = 0 ∧ c.doc ∈ P := fun c hc => by
  obtain ⟨x, hx, hc⟩ := List.mem_flatMap.1 hc
  exact (h.segC x hx).2 c hc
theorem GOk.logch (h : GOk P L S g) : ∀ c ∈ logCh g, rightC c = 0 ∧ c.doc ∈ P := fun c hc => by
  obtain ⟨x, hx, hc⟩ := List.mem_flatMap.1 hc
  exact (h.logC x hx).1 c hc
theorem GOk.settled (h : GOk P L S g) : RiseC (settled g) ∧ AllThere (settled g) ∧ ∀ c ∈ settled g, rightC c = 0 ∧ c.doc ∈ P :=
  ⟨rise_doAll _ rise_nil, there_doAll, fun c hc => by
    rcases mem_doAll hc with hc | hc
    · exact h.segch c hc.1
    · simp at hc⟩
theorem GOk.came (h : GOk P L S g) : RiseC (came g) ∧ ∀ c ∈ came g, rightC c = 0 ∧ c.doc ∈ P :=
  ⟨rise_ptAll _ rise_nil, fun c hc => by
    rcases mem_ptAll hc with hc | hc
    · exact h.logch c hc
    · simp at hc⟩
theorem GOk.live (h : GOk P L S g) : RiseC (live g) ∧ AllThere (live g) ∧ ∀ c ∈ live g, rightC c = 0 ∧ c.doc ∈ P :=
  ⟨rise_doAll _ (rise_doAll _ rise_nil), there_over there_doAll, fun c hc => by
    rcases mem_doAll hc with hc | hc
    · exact h.logch c hc.1
    · exact h.settled.2.2 c hc⟩
theorem GOk.few (h : GOk P L S g) : (StoM.live g).length ≤ P.length ∧ (StoM.settled g).length ≤ P.length ∧ (StoM.came g).length ≤ P.length :=
  ⟨rise_few h.live.1 fun c hc => (h.live.2.2 c hc).2, rise_few h.settled.1 fun c hc => (h.settled.2.2 c hc).2, rise_few h.came.1 fun c hc => (h.came.2 c hc).2⟩
end
theorem logch_front (g : Gst) {l : List (Chs × List UInt8)} (x : Chs × List UInt8) (h : l = front g ++ [x]) : l.flatMap (·.1) = (front g).flatMap (·.1) ++ x.1 := by rw [h]; simp
theorem put_logch {P : List Int} {L S : Nat} {g : Gst} (h : GOk P L S g) (c : Ch) : logCh (gPut g c) = logCh g ++ [c] := by
  unfold logCh gPut
  simp only
  rw [logch_front g _ rfl]
  rcases h.logs with ⟨e1, e2, _⟩ | ⟨e1, _⟩
  · rw [e2, ← e1]; simp
  · rw [logch_front g _ e1]; simp
theorem torn_logch {P : List Int} {L S : Nat} {g : Gst} (h : GOk P L S g) (t : List UInt8) : logCh (gTorn g t) = logCh g := by
  unfold logCh gTorn
  simp only
  rw [logch_front g _ rfl]
  rcases h.logs with ⟨e1, e2, _⟩ | ⟨e1, _⟩
  · rw [e2, ← e1]; simp
  · rw [logch_front g _ e1]
theorem put_live {P : List Int} {L S : Nat} {g : Gst} (h : GOk P L S g) (c : Ch) : live (gPut g c) = doC c (live g) ∧ came (gPut g c) = ptC c (came g) ∧ settled (gPut g c) = settled g := by
  unfold live came
  rw [put_logch h c]
  exact ⟨doAll_snoc _ _ _, ptAll_snoc _ _ _, rfl⟩
theorem torn_live {P : List Int} {L S : Nat} {g : Gst} (h : GOk P L S g) (t : List UInt8) : live (gTorn g t) = live g := by
  unfold live
  rw [torn_logch h t]
  rfl
theorem flush_live (g : Gst) : live (gFlush g) = live g ∧ settled (gFlush g) = live g ∧ came (gFlush g) = [] := by
  have e : settled (gFlush g) = live g := by
    unfold settled segCh gFlush
    simp only
    rw [List.flatMap_append, doAll_append]
    simp only [List.flatMap_cons, List.flatMap_nil, List.append_nil]
    exact do_last _ _ (rise_doAll _ rise_nil)
  exact ⟨by unfold live; rw [e]; rfl, e, rfl⟩
theorem merge_live {P : List Int} {L S : Nat} {g : Gst} (h : GOk P L S g) : live (gMerge g) = live g ∧ settled (gMerge g) = settled g ∧ came (gMerge g) = came g := by
  have e : settled (gMerge g) = settled g := by
    unfold settled segCh gMerge
    simp only [List.flatMap_cons, List.flatMap_nil, List.append_nil]
    exact doAll_self h.settled.1 h.settled.2.1
  exact ⟨by unfold live; rw [e]; rfl, e, rfl⟩
/-! ### it stays so -/
section
variable {P : List Int} {L S : Nat} {g : Gst}
theorem front_len (h : GOk P L S g) : logNo g ≤ nextLog g ∧ nextLog g ≤ logNo g + 1 ∧ (g.begun = false → logNo g = nextLog g) ∧ (g.begun = true → logNo g + 1 = nextLog g) := by
  unfold logNo nextLog
  rcases h.logs with ⟨e1, _, hb⟩ | ⟨e1, hb⟩
  · rw [e1, hb]
    exact ⟨Nat.le_refl _, by omega, fun _ => rfl, fun h => (by cases h)⟩
  · have : g.logs.length = (front g).length + 1 := by
      conv => lhs; rw [e1]
      simp
    rw [hb]
    exact ⟨by omega, by omega, fun h => (by cases h), fun _ => by omega⟩
theorem GOk.front (h : GOk P L S g) : ∀ y ∈ front g, y ∈ g.logs := fun y hy => by
  rcases h.logs with ⟨e1, _, _⟩ | ⟨e1, _⟩
  · rw [e1]; exact hy
  · rw [e1]; exact List.mem_append_left _ hy
theorem GOk.lastch (h : GOk P L S g) : ∀ c ∈ lastCh g, rightC c = 0 ∧ c.doc ∈ P := fun c hc => by
  rcases h.logs with ⟨_, e1, _⟩ | ⟨e1, _⟩
  · rw [e1] at hc; simp at hc
  · exact (h.logC (StoM.lastCh g, []) (by rw [e1]; simp)).1 c hc
theorem GOk.put (h : GOk P L S g) {c : Ch} (hc : rightC c = 0) : GOk (c.doc :: P) (L + 1) S (gPut g c) := by
  have hm := h.mono (P' := c.doc :: P) (L' := L) (S' := S) (fun d hd => List.mem_cons_of_mem _ hd) (Nat.le_refl _) (Nat.le_refl _)
  have hl := front_len h
  refine ⟨h.segR, hm.segC, fun y hy => ?_, fun _ => ?_, ?_, h.nseg⟩
  · rcases List.mem_append.1 hy with hy | hy
    · exact hm.logC y (hm.front y hy)
    · obtain rfl : y = (StoM.lastCh g ++ [c], []) := by simpa using hy
      refine ⟨fun x hx => ?_, .inl rfl⟩
      rcases List.mem_append.1 hx with hx | hx
      · exact hm.lastch x hx
      · obtain rfl : x = c := by simpa using hx
        exact ⟨hc, List.mem_cons_self⟩
  · simp [gPut, StoM.front, StoM.lastCh]
  · have h1 := h.nlog
    have h2 := hl.1
    unfold logNo at h2
    show g.first + (StoM.front g ++ [(StoM.lastCh g ++ [c], [])]).length ≤ L + 1
    simp
    omega
theorem GOk.torn (h : GOk P L S g) {t : List UInt8} (ht : Torn t) : GOk P (L + 1) S (gTorn g t) := by
  have hl := front_len h
  refine ⟨h.segR, h.segC, fun y hy => ?_, fun hb => (by cases hb), ?_, h.nseg⟩
  · rcases List.mem_append.1 hy with hy | hy
    · exact h.logC y (h.front y hy)
    · obtain rfl : y = (StoM.lastCh g, t) := by simpa using hy
      exact ⟨h.lastch, ht⟩
  · have h1 := h.nlog
    have h2 := hl.1
    unfold logNo at h2
    show g.first + (StoM.front g ++ [(StoM.lastCh g, t)]).length ≤ L + 1
    simp
    omega
theorem GOk.open_ (h : GOk P L S g) : GOk P L S (gOpen g) := ⟨h.segR, h.segC, h.logC, fun hb => (by cases hb), h.nlog, h.nseg⟩
theorem GOk.flush (h : GOk P L S g) : GOk P L (S + 1) (gFlush g) := by
  refine ⟨?_, fun x hx => ?_, fun y hy => by simp [gFlush] at hy, fun hb => (by cases hb), ?_, ?_⟩
  · unfold segNos gFlush
    simp only [List.map_append, List.map_cons, List.map_nil]
    refine List.pairwise_append.2 ⟨h.segR, List.pairwise_singleton _ _, fun a ha b hb => ?_⟩
    obtain rfl : b = nextSeg g := by simpa using hb
    exact h.seg_lt a ha
  · rcases List.mem_append.1 hx with hx | hx
    · exact h.segC x hx
    · obtain rfl : x = (nextSeg g, StoM.came g) := by simpa using hx
      exact h.came
  · show nextLog g + 0 ≤ L
    exact h.nlog
  · have := h.nseg
    unfold nextSeg segNos gFlush
    simp
    omega
theorem GOk.merge (h : GOk P L S g) : GOk P L (S + 1) (gMerge g) := by
  refine ⟨by simp [segNos, gMerge], fun x hx => ?_, h.logC, h.beg, h.nlog, ?_⟩
  · obtain rfl : x = (nextSeg g, StoM.settled g) := by simpa [gMerge] using hx
    exact ⟨h.settled.1, h.settled.2.2⟩
  · have := h.nseg
    show nextSeg g + 1 ≤ S + 1
    omega
end
end Go.Proofs.YtddnnhfffmhpmaaGreatDoor.StoM

/- What a disk tells, while it is written: plain. -/
namespace Go.Proofs.YtddnnhfffmhpmaaGreatDoor.StoM
open DocM VdM

def whole (b : List UInt8) : Fil := ⟨b, b.length⟩
/-- the files tell just this -/
structure Told (fs : Fils) (g : Gst) : Prop where
  man : (lkF fs manN = none ∧ g.first = 0 ∧ g.segs = []) ∨ lkF fs manN = some (whole (manB g.first (segNos g)))
  seg : ∀ x ∈ g.segs, lkF fs (segN x.1) = some (whole (segB x.2))
  log : ∀ i (h : i < g.logs.length), lkF fs (logN (g.first + i)) = some (whole (frames g.logs[i].1 ++ g.logs[i].2))
  stop : ∀ i, nextLog g ≤ i → i < 100 → lkF fs (logN i) = none
  few : nextLog g ≤ 99
/-- the names that it is told by -/
def ToldN (g : Gst) (n : Name) : Prop := n = manN ∨ (∃ x ∈ segNos g, n = segN x) ∨ ∃ i, g.first ≤ i ∧ i < 100 ∧ n = logN i
theorem Told.congr {fs fs' : Fils} {g : Gst} (h : Told fs g) (he : ∀ n, ToldN g n → lkF fs' n = lkF fs n) : Told fs' g := by
  have hf := h.few
  refine ⟨?_, fun x hx => ?_, fun i hi => ?_, fun i h1 h2 => ?_, hf⟩
  · rw [he manN (.inl rfl)]; exact h.man
  · rw [he _ (.inr (.inl ⟨x.1, List.mem_map.2 ⟨x, hx, rfl⟩, rfl⟩))]; exact h.seg x hx
  · rw [he _ (.inr (.inr ⟨g.first + i, by omega, by unfold nextLog at hf; omega, rfl⟩))]; exact h.log i hi
  · rw [he _ (.inr (.inr ⟨i, by unfold nextLog at h1; omega, h2, rfl⟩))]; exact h.stop i h1 h2
theorem cut_whole (keep : Int) (b : List UInt8) : cutF keep (whole b) = whole b := by simp [cutF, whole]
theorem look_cut (keep : Int) (n : Name) (fs : Fils) : lkF (cutAll keep fs) n = (lkF fs n).map (cutF keep) := look_map (cutF keep) n fs
theorem Told.cut {fs : Fils} {g : Gst} (h : Told fs g) (keep : Int) : Told (cutAll keep fs) g := by
  refine ⟨?_, fun x hx => ?_, fun i hi => ?_, fun i h1 h2 => ?_, h.few⟩
  · rcases h.man with ⟨h1, h2⟩ | h1
    · exact .inl ⟨by rw [look_cut, h1]; rfl, h2⟩
    · exact .inr (by rw [look_cut, h1, Option.map_some, cut_whole])
  · rw [look_cut, h.seg x hx, Option.map_some, cut_whole]
  · rw [look_cut, h.log i hi, Option.map_some, cut_whole]
  · rw [look_cut, h.stop i h1 h2]; rfl
theorem Told.open_ {fs : Fils} {g : Gst} (h : Told fs g) : Told fs (gOpen g) := ⟨h.man, h.seg, h.log, h.stop, h.few⟩
/-- each name is one of these -/
def Nm (L S : Nat) (fs : Fils) : Prop := ∀ x ∈ fs, x.1 = manN ∨ x.1 = newN ∨ (∃ i, i < L ∧ x.1 = logN i) ∨ ∃ i, i < S ∧ x.1 = segN i
theorem Nm.mono {L S L' S' : Nat} {fs : Fils} (h : Nm L S fs) (hL : L ≤ L') (hS : S ≤ S') : Nm L' S' fs := fun x hx => by
  rcases h x hx with h | h | ⟨i, h1, h2⟩ | ⟨i, h1, h2⟩
  · exact .inl h
  · exact .inr (.inl h)
  · exact .inr (.inr (.inl ⟨i, by omega, h2⟩))
  · exact .inr (.inr (.inr ⟨i, by omega, h2⟩))
theorem Nm.put {L S : Nat} {fs : Fils} (h : Nm L S fs) {n : Name} (hn : n = manN ∨ n = newN ∨ (∃ i, i < L ∧ n = logN i) ∨ ∃ i, i < S ∧ n = segN i) (f : Fil) : Nm L S (ptF n f fs) := fun x hx => by
  rcases VdM.mem_put hx with rfl | hx
  · exact hn
  · exact h x hx
theorem Nm.del {L S : Nat} {fs : Fils} (h : Nm L S fs) (n : Name) : Nm L S (dlF n fs) := fun x hx => h x (VdM.mem_del hx).1
theorem Nm.cut {L S : Nat} {fs : Fils} (h : Nm L S fs) (keep : Int) : Nm L S (cutAll keep fs) := fun x hx => by
  obtain ⟨y, hy, rfl⟩ := List.mem_map.1 hx
  exact h y hy
theorem names_few : ∀ {l P : List Name}, l.Nodup → (∀ x ∈ l, x ∈ P) → l.length ≤ P.length
  | [], _, _, _ => Nat.zero_le _
  | a :: t, P, h, hP => by
    obtain ⟨h1, h2⟩ := List.nodup_cons.1 h
    have ha := hP a List.mem_cons_self
    have := names_few (l := t) (P := P.erase a) h2 fun x hx => (List.mem_erase_of_ne (fun e => h1 (by rw [← e]; exact hx))).2 (hP x (List.mem_cons_of_mem _ hx))
    have e := List.length_erase_of_mem ha
    have : 0 < P.length := List.length_pos_of_mem ha
    rw [List.length_cons]
    omega
theorem Nm.count {L S : Nat} {fs : Fils} (h : Nm L S fs) (hr : Rising fs) : fs.length ≤ 2 + L + S := by
  have := names_few (P := manN :: newN :: ((List.range L).map logN ++ (List.range S).map segN)) (names_nodup hr) fun n hn => by
    obtain ⟨x, hx, rfl⟩ := List.mem_map.1 hn
    rcases h x hx with h | h | ⟨i, h1, h2⟩ | ⟨i, h1, h2⟩
    · simp [h]
    · simp [h]
    · rw [h2]
      exact List.mem_cons_of_mem _ (List.mem_cons_of_mem _ (List.mem_append_left _ (List.mem_map.2 ⟨i, List.mem_range.2 h1, rfl⟩)))
    · rw [h2]
      exact List.mem_cons_of_mem _ (List.mem_cons_of_mem _ (List.mem_append_right _ (List.mem_map.2 ⟨i, List.mem_range.2 h1, rfl⟩)))
  simp at this
  omega
/-! ### an effect, and what becomes of the files -/
/-- fs1: the effect was done; fs2: it was to be, and the power failed -/
structure Ran (k k' : Dsk) (e : Int) (fs1 fs2 : Fils) : Prop where
  eff : k'.eff ≤ k.eff + 1
  quota : k'.quota = k.quota
  out : (e = 6 ∧ k' = k) ∨ (e = 0 ∧ k'.fs = fs1 ∧ k'.down = false ∧ k'.at_ = max (k.at_ - 1) 0 ∧ k'.keep = k.keep) ∨ (e = 7 ∧ k.at_ = 1 ∧ k'.fs = cutAll k.keep fs2 ∧ k'.down = true)
theorem ran_eff {k would even : Dsk} (hd : even.down = false) (hw : would.down = false) (hq1 : would.quota = k.quota) (hq2 : even.quota = k.quota) (he : even.eff = k.eff) (hk : would.keep = k.keep) : Ran k (VdM.eff k would even) (effE k) would.fs even.fs := by
  unfold VdM.eff effE
  by_cases h : k.at_ = 1
  · rw [if_pos h, if_pos h]
    refine ⟨?_, ?_, .inr (.inr ⟨rfl, h, ?_, ?_⟩)⟩
    · unfold crash; rw [hd, if_neg (by simp)]; show even.eff ≤ _; omega
    · unfold crash; rw [hd, if_neg (by simp)]; exact hq2
    · unfold crash; rw [hd, if_neg (by simp)]
    · unfold crash; rw [hd, if_neg (by simp)]
  · rw [if_neg h, if_neg h]
    exact ⟨Nat.le_refl _, hq1, .inr (.inl ⟨rfl, rfl, hw, rfl, hk⟩)⟩
theorem append_ran {k : Dsk} (hd : k.down = false) {n : Name} (hn : nameB n = true) (x : List UInt8) :
    Ran k (append k n x).1 (append k n x).2 (ptF n (grow (lkF k.fs n) x) k.fs) (ptF n (grow (lkF k.fs n) x) k.fs) ∧ (roomB k n x.length = true → (append k n x).2 ≠ 6) := by
  unfold append
  rw [hd, if_neg (by simp), hn, if_neg (by simp)]
  cases hr : roomB k n x.length with
  | false =>
    rw [if_pos rfl]
    exact ⟨⟨Nat.le_succ _, rfl, .inl ⟨rfl, rfl⟩⟩, fun h => (by cases h)⟩
  | true =>
    rw [if_neg (by simp)]
    refine ⟨ran_eff (would := added k n x) (even := added k n x) hd hd rfl rfl rfl rfl, fun _ => ?_⟩
    show effE k ≠ 6
    unfold effE
    split <;> omega
theorem found {k : Dsk} (hd : k.down = false) {n : Name} {f : Fil} (hl : lkF k.fs n = some f) : findE k n = 0 := by
  unfold findE; rw [hd, hl]; rfl
theorem sync_ran {k : Dsk} (hd : k.down = false) {n : Name} {f : Fil} (hl : lkF k.fs n = some f) : Ran k (sync k n).1 (sync k n).2 (ptF n (synced f) k.fs) k.fs ∧ (sync k n).2 ≠ 6 := by
  unfold sync
  rw [if_pos (found hd hl)]
  have := ran_eff (k := k) (would := syncD k n) (even := k) hd hd rfl rfl rfl rfl
  unfold syncD at this
  simp only [hl, Option.getD_some] at this
  refine ⟨?_, ?_⟩
  · unfold syncD
    simp only [hl, Option.getD_some]
    exact this
  · show effE k ≠ 6
    unfold effE
    split <;> omega
theorem remove_ran {k : Dsk} (hd : k.down = false) {n : Name} {f : Fil} (hl : lkF k.fs n = some f) : Ran k (remove k n).1 (remove k n).2 (dlF n k.fs) k.fs ∧ (remove k n).2 ≠ 6 := by
  unfold remove
  rw [if_pos (found hd hl)]
  refine ⟨ran_eff (would := remD k n) (even := k) hd hd rfl rfl rfl rfl, ?_⟩
  show effE k ≠ 6
  unfold effE
  split <;> omega
theorem rename_ran {k : Dsk} (hd : k.down = false) {n m : Name} {f : Fil} (hl : lkF k.fs n = some f) (hm : nameB m = true) : Ran k (rename k n m).1 (rename k n m).2 (ptF m f (dlF n k.fs)) k.fs ∧ (rename k n m).2 ≠ 6 := by
  unfold rename
  rw [if_pos (found hd hl), if_pos hm]
  have := ran_eff (k := k) (would := renD k n m) (even := k) hd hd rfl rfl rfl rfl
  unfold renD at this
  simp only [hl, Option.getD_some] at this
  refine ⟨?_, ?_⟩
  · unfold renD
    simp only [hl, Option.getD_some]
    exact this
  · show effE k ≠ 6
    unfold effE
    split <;> omega
end Go.Proofs.YtddnnhfffmhpmaaGreatDoor.StoM

/- What the store does to its disk: plain. -/
namespace Go.Proofs.YtddnnhfffmhpmaaGreatDoor.StoM
open DocM VdM

def Known (L S : Nat) (n : Name) : Prop := n = manN ∨ n = newN ∨ (∃ i, i < L ∧ n = logN i) ∨ ∃ i, i < S ∧ n = segN i
/-- measures of what is done: at most n effects, x bytes more, names of A -/
structure Wnt (k k' : Dsk) (e : Int) (n x : Nat) (A : List Name) : Prop where
  eff : k'.eff ≤ k.eff + n
  quota : k'.quota = k.quota
  calm : k.at_ = 0 → e ≠ 7 ∧ k'.at_ = 0
  used : Rising k.fs → usF k'.fs ≤ usF k.fs + x ∧ Rising k'.fs
  nm : ∀ L S, Nm L S k.fs → (∀ m ∈ A, Known L S m) → Nm L S k'.fs
theorem Wnt.same (k : Dsk) {e : Int} (he : e ≠ 7) (n x : Nat) (A : List Name) : Wnt k k e n x A := ⟨by omega, rfl, fun h => ⟨he, h⟩, fun h => ⟨by omega, h⟩, fun _ _ h _ => h⟩
theorem Wnt.wide {k k' : Dsk} {e : Int} {n x n' x' : Nat} {A A' : List Name} (h : Wnt k k' e n x A) (hn : n ≤ n') (hx : x ≤ x') (hA : ∀ m ∈ A, m ∈ A') : Wnt k k' e n' x' A' :=
  ⟨by have := h.eff; omega, h.quota, h.calm, fun hr => ⟨by have := (h.used hr).1; omega, (h.used hr).2⟩, fun L S hN hK => h.nm L S hN fun m hm => hK m (hA m hm)⟩
theorem Wnt.trans {k k1 k' : Dsk} {e1 e : Int} {n x n' x' : Nat} {A A' : List Name} (h : Wnt k k1 e1 n x A) (h' : Wnt k1 k' e n' x' A') : Wnt k k' e (n + n') (x + x') (A ++ A') :=
  ⟨by have := h.eff; have := h'.eff; omega, h'.quota.trans h.quota, fun h0 => h'.calm (h.calm h0).2, fun hr => ⟨by have := (h.used hr).1; have := (h'.used (h.used hr).2).1; omega, (h'.used (h.used hr).2).2⟩,
    fun L S hN hK => h'.nm L S (h.nm L S hN fun m hm => hK m (List.mem_append_left _ hm)) fun m hm => hK m (List.mem_append_right _ hm)⟩
theorem wnt_of {k k' : Dsk} {e : Int} {fs1 fs2 : Fils} (h : Ran k k' e fs1 fs2) (x : Nat) (A : List Name) (hu : Rising k.fs → (usF fs1 ≤ usF k.fs + x ∧ Rising fs1) ∧ usF fs2 ≤ usF k.fs + x ∧ Rising fs2) (hn : ∀ L S, Nm L S k.fs → (∀ m ∈ A, Known L S m) → Nm L S fs1 ∧ Nm L S fs2) : Wnt k k' e 1 x A := by
  refine ⟨h.eff, h.quota, fun h0 => ?_, fun hr => ?_, fun L S hN hK => ?_⟩
  · rcases h.out with ⟨h1, h2⟩ | ⟨h1, _, _, h2, _⟩ | ⟨_, h1, _⟩
    · rw [h1, h2]; exact ⟨by omega, h0⟩
    · rw [h1, h2, h0]; exact ⟨by omega, rfl⟩
    · omega
  · rcases h.out with ⟨_, h2⟩ | ⟨_, h2, _⟩ | ⟨_, _, h2, _⟩
    · rw [h2]; exact ⟨by omega, hr⟩
    · rw [h2]; exact (hu hr).1
    · rw [h2]
      have := used_cut k.keep fs2
      exact ⟨by have := (hu hr).2.1; omega, rising_map _ (hu hr).2.2⟩
  · rcases h.out with ⟨_, h2⟩ | ⟨_, h2, _⟩ | ⟨_, _, h2, _⟩
    · rw [h2]; exact hN
    · rw [h2]; exact (hn L S hN hK).1
    · rw [h2]; exact (hn L S hN hK).2.cut _
def bytesAt (fs : Fils) (n : Name) : List UInt8 :=
  match lkF fs n with
  | none => []
  | some f => f.bytes
theorem grow_bytes (fs : Fils) (n : Name) (x : List UInt8) : (grow (lkF fs n) x).bytes = bytesAt fs n ++ x := by
  unfold grow bytesAt
  cases lkF fs n <;> simp
theorem grow_used {fs : Fils} (hr : Rising fs) (n : Name) (x : List UInt8) : usF (ptF n (grow (lkF fs n) x) fs) = usF fs + x.length := by
  have := used_put (n := n) (grow (lkF fs n) x) hr
  unfold grow at this ⊢
  cases h : lkF fs n with
  | none => rw [h] at this; simp only [lenOf] at this ⊢; omega
  | some f => rw [h] at this; simp only [lenOf, List.length_append] at this ⊢; omega
theorem synced_used {fs : Fils} (hr : Rising fs) {n : Name} {f : Fil} (hl : lkF fs n = some f) : usF (ptF n (synced f) fs) = usF fs := by
  have := used_put (n := n) (synced f) hr
  rw [hl] at this
  simp only [lenOf, synced] at this ⊢
  omega
theorem append_wnt {k : Dsk} (hd : k.down = false) {n : Name} (hn : nameB n = true) (x : List UInt8) : Wnt k (append k n x).1 (append k n x).2 1 x.length [n] :=
  wnt_of (append_ran hd hn x).1 x.length [n] (fun hr => ⟨⟨by rw [grow_used hr]; omega, rising_put _ _ hr⟩, by rw [grow_used hr]; omega, rising_put _ _ hr⟩) fun L S hN hK => ⟨hN.put (hK n (by simp)) _, hN.put (hK n (by simp)) _⟩
theorem sync_wnt {k : Dsk} (hd : k.down = false) {n : Name} {f : Fil} (hl : lkF k.fs n = some f) : Wnt k (sync k n).1 (sync k n).2 1 0 [n] :=
  wnt_of (sync_ran hd hl).1 0 [n] (fun hr => ⟨⟨by rw [synced_used hr hl]; omega, rising_put _ _ hr⟩, by omega, hr⟩) fun L S hN hK => ⟨hN.put (hK n (by simp)) _, hN⟩
theorem remove_wnt {k : Dsk} (hd : k.down = false) {n : Name} {f : Fil} (hl : lkF k.fs n = some f) : Wnt k (remove k n).1 (remove k n).2 1 0 [] :=
  wnt_of (remove_ran hd hl).1 0 [] (fun hr => ⟨⟨by have := used_del hr (n := n); omega, rising_del _ hr⟩, by omega, hr⟩) fun L S hN _ => ⟨hN.del n, hN⟩
theorem rename_wnt {k : Dsk} (hd : k.down = false) {n m : Name} {f : Fil} (hl : lkF k.fs n = some f) (hm : nameB m = true) : Wnt k (rename k n m).1 (rename k n m).2 1 0 [m] :=
  wnt_of (rename_ran hd hl hm).1 0 [m] (fun hr => ⟨⟨by
    have h1 := used_del hr (n := n)
    have h2 := used_put f (rising_del n hr) (n := m)
    rw [hl] at h1
    simp only [lenOf] at h1
    omega, rising_put _ _ (rising_del _ hr)⟩, by omega, hr⟩) fun L S hN hK => ⟨(hN.del n).put (hK m (by simp)) _, hN⟩
theorem crash_eff (k : Dsk) (keep : Int) : (crash k keep).eff = k.eff := by
  unfold crash
  split <;> rfl
theorem eff_eff (k a b : Dsk) (hb : b.eff = k.eff) : (VdM.eff k a b).eff ≤ k.eff + 1 := by
  unfold VdM.eff
  split
  · rw [crash_eff]; omega
  · exact Nat.le_refl _
theorem append_eff (k : Dsk) (n : Name) (x : List UInt8) : (append k n x).1.eff ≤ k.eff + 1 := by
  unfold append
  split
  · exact Nat.le_succ _
  · split
    · exact Nat.le_succ _
    · split
      · exact Nat.le_succ _
      · exact eff_eff _ _ _ rfl
theorem sync_eff (k : Dsk) (n : Name) : (sync k n).1.eff ≤ k.eff + 1 := by
  unfold sync
  split
  · exact eff_eff _ _ _ rfl
  · exact Nat.le_succ _
theorem remove_eff (k : Dsk) (n : Name) : (remove k n).1.eff ≤ k.eff + 1 := by
  unfold remove
  split
  · exact eff_eff _ _ _ rfl
  · exact Nat.le_succ _
theorem rename_eff (k : Dsk) (n m : Name) : (rename k n m).1.eff ≤ k.eff + 1 := by
  unfold rename
  split
  · split
    · exact eff_eff _ _ _ rfl
    · exact Nat.le_succ _
  · exact Nat.le_succ _
/-! ### text behind a file's bytes, so that it lasts -/
def wr (k : Dsk) (n : Name) (x : List UInt8) : Dsk × Int := if (append k n x).2 = 0 then sync (append k n x).1 n else append k n x
theorem wr_ran {k : Dsk} (hd : k.down = false) {n : Name} (hn : nameB n = true) (x : List UInt8) :
    Wnt k (wr k n x).1 (wr k n x).2 2 x.length [n, n] ∧
    (((wr k n x).2 = 6 ∧ (wr k n x).1 = k ∧ roomB k n x.length = false) ∨ ((wr k n x).2 = 0 ∧ (wr k n x).1.down = false ∧ lkF (wr k n x).1.fs n = some (whole (bytesAt k.fs n ++ x)) ∧ ∀ m, m ≠ n → lkF (wr k n x).1.fs m = lkF k.fs m) ∨ ((wr k n x).2 = 7 ∧ (wr k n x).1.down = true ∧ (wr k n x).1.fs = cutAll k.keep (ptF n (grow (lkF k.fs n) x) k.fs))) := by
  obtain ⟨hran, hroom⟩ := append_ran hd hn x
  have hw := append_wnt hd hn x
  unfold wr
  obtain ⟨k1, hk1⟩ : ∃ k1, k1 = (append k n x).1 := ⟨_, rfl⟩
  obtain ⟨e1, he1⟩ : ∃ e1, e1 = (append k n x).2 := ⟨_, rfl⟩
  rw [← hk1, ← he1] at hran hw
  rw [← he1] at hroom
  have hpair : append k n x = (k1, e1) := by rw [hk1, he1]
  rw [← he1, ← hk1, hpair]
  rcases hran.out with ⟨h1, h2⟩ | ⟨h1, h2, h3, h4, h5⟩ | ⟨h1, h2, h3, h4⟩
  · rw [if_neg (by rw [h1]; omega)]
    refine ⟨hw.wide (by omega) (by omega) (by simp), .inl ⟨h1, h2, ?_⟩⟩
    cases hr : roomB k n x.length with
    | false => rfl
    | true => exact absurd h1 (hroom hr)
  · rw [if_pos h1]
    have hl : lkF k1.fs n = some (grow (lkF k.fs n) x) := by rw [h2, look_put_same]
    obtain ⟨sran, s6⟩ := sync_ran h3 hl
    have sw := sync_wnt h3 hl
    refine ⟨(hw.trans sw).wide (by omega) (by omega) (by simp), ?_⟩
    rcases sran.out with ⟨g1, _⟩ | ⟨g1, g2, g3, _⟩ | ⟨g1, _, g3, g4⟩
    · exact absurd g1 s6
    · refine .inr (.inl ⟨g1, g3, ?_, fun m hm => ?_⟩)
      · rw [g2, look_put_same]
        show some (synced _) = _
        unfold synced whole
        rw [grow_bytes]
      · rw [g2, look_put_other _ hm, h2, look_put_other _ hm]
    · refine .inr (.inr ⟨g1, g4, ?_⟩)
      rw [g3, h2, h5]
  · rw [if_neg (by rw [h1]; omega)]
    exact ⟨hw.wide (by omega) (by omega) (by simp), .inr (.inr ⟨h1, h4, h3⟩)⟩
theorem wr_eff (k : Dsk) (n : Name) (x : List UInt8) : (wr k n x).1.eff ≤ k.eff + 2 := by
  have h1 := append_eff k n x
  have h2 := sync_eff (append k n x).1 n
  unfold wr
  split <;> omega
/-! ### files taken away -/
def remAll : List Name → Dsk → Dsk × Int
  | [], k => (k, 0)
  | n :: r, k => if (remove k n).2 = 0 then remAll r (remove k n).1 else remove k n
theorem remAll_ran : ∀ (l : List Name) (k : Dsk), k.down = false → l.Nodup → (∀ n ∈ l, (lkF k.fs n).isSome = true) →
    Wnt k (remAll l k).1 (remAll l k).2 l.length 0 [] ∧
    (((remAll l k).2 = 0 ∧ (remAll l k).1.down = false ∧ (∀ m, m ∈ l → lkF (remAll l k).1.fs m = none) ∧ ∀ m, m ∉ l → lkF (remAll l k).1.fs m = lkF k.fs m) ∨ ((remAll l k).2 = 7 ∧ (remAll l k).1.down = true ∧ ∃ fs2 keep, (remAll l k).1.fs = cutAll keep fs2 ∧ ∀ m, m ∉ l → lkF fs2 m = lkF k.fs m))
  | [], k, hd, _, _ => ⟨Wnt.same k (show (0 : Int) ≠ 7 by decide) 0 0 [], .inl ⟨rfl, hd, fun m h => (by simp at h), fun m _ => rfl⟩⟩
  | n :: r, k, hd, hnd, hex => by
    obtain ⟨h1, h2⟩ := List.nodup_cons.1 hnd
    obtain ⟨f, hl⟩ := Option.isSome_iff_exists.1 (hex n List.mem_cons_self)
    obtain ⟨rran, r6⟩ := remove_ran hd hl
    have rw_ := remove_wnt hd hl
    unfold remAll
    obtain ⟨k1, hk1⟩ : ∃ k1, k1 = (remove k n).1 := ⟨_, rfl⟩
    obtain ⟨e1, he1⟩ : ∃ e1, e1 = (remove k n).2 := ⟨_, rfl⟩
    have hpair : remove k n = (k1, e1) := by rw [hk1, he1]
    rw [← hk1, ← he1] at rran rw_
    rw [← he1] at r6
    rw [hpair]
    simp only
    rcases rran.out with ⟨g1, _⟩ | ⟨g1, g2, g3, _⟩ | ⟨g1, _, g3, g4⟩
    · exact absurd g1 r6
    · rw [if_pos g1]
      have hlk : ∀ m, m ≠ n → lkF k1.fs m = lkF k.fs m := fun m hm => by rw [g2, look_del_other hm]
      obtain ⟨iw, io⟩ := remAll_ran r k1 g3 h2 fun m hm => by
        rw [hlk m (fun e => h1 (by rw [← e]; exact hm))]
        exact hex m (List.mem_cons_of_mem _ hm)
      refine ⟨(rw_.trans iw).wide (by rw [List.length_cons]; omega) (by omega) (by simp), ?_⟩
      rcases io with ⟨i1, i2, i3, i4⟩ | ⟨i1, i2, fs2, keep, i3, i4⟩
      · refine .inl ⟨i1, i2, fun m hm => ?_, fun m hm => ?_⟩
        · rcases List.mem_cons.1 hm with hm | hm
          · subst hm
            rw [i4 m h1, g2, look_del_same]
          · exact i3 m hm
        · rw [i4 m (fun h => hm (List.mem_cons_of_mem _ h)), hlk m (fun e => hm (by rw [e]; exact List.mem_cons_self))]
      · refine .inr ⟨i1, i2, fs2, keep, i3, fun m hm => ?_⟩
        rw [i4 m (fun h => hm (List.mem_cons_of_mem _ h)), hlk m (fun e => hm (by rw [e]; exact List.mem_cons_self))]
    · rw [if_neg (by rw [g1]; omega)]
      exact ⟨rw_.wide (by rw [List.length_cons]; omega) (by omega) (by simp), .inr ⟨g1, g4, k.fs, k.keep, g3, fun m _ => rfl⟩⟩
/-- is it a file that plays no part? (of the names that there are) -/
def dropB (first : Nat) (segs : List Nat) (n : Name) : Bool := decide (n = newN) || (List.range 100).any (fun i => decide (n = logN i) && decide (i < first)) || (List.range 100).any (fun i => decide (n = segN i) && !decide (i ∈ segs))
theorem drop_new (first : Nat) (segs : List Nat) : dropB first segs newN = true := by simp [dropB]
theorem drop_man (first : Nat) (segs : List Nat) : dropB first segs manN = false := by
  unfold dropB
  rw [Bool.or_eq_false_iff, Bool.or_eq_false_iff]
  refine ⟨⟨by decide, ?_⟩, ?_⟩
  · rw [List.any_eq_false]; intro i _; simp [Ne.symm (log_man i)]
  · rw [List.any_eq_false]; intro i _; simp [Ne.symm (seg_man i)]
theorem drop_log {i : Nat} (hi : i < 100) (first : Nat) (segs : List Nat) : dropB first segs (logN i) = decide (i < first) := by
  unfold dropB
  have h1 : decide (logN i = newN) = false := by simp [log_new]
  have h3 : (List.range 100).any (fun j => decide (logN i = segN j) && !decide (j ∈ segs)) = false := by
    rw [List.any_eq_false]; intro j _; simp [log_seg i j]
  rw [h1, h3, Bool.false_or, Bool.or_false]
  by_cases h : i < first
  · rw [decide_eq_true h, List.any_eq_true]
    exact ⟨i, List.mem_range.2 hi, by simp [h]⟩
  · rw [decide_eq_false h, List.any_eq_false]
    intro j hj
    simp only [Bool.and_eq_true, decide_eq_true_eq, not_and]
    intro e
    rw [← logN_inj hi (List.mem_range.1 hj) e]
    exact h
theorem drop_seg {i : Nat} (hi : i < 100) (first : Nat) (segs : List Nat) : dropB first segs (segN i) = !decide (i ∈ segs) := by
  unfold dropB
  have h1 : decide (segN i = newN) = false := by simp [seg_new]
  have h3 : (List.range 100).any (fun j => decide (segN i = logN j) && decide (j < first)) = false := by
    rw [List.any_eq_false]; intro j _; simp [Ne.symm (log_seg j i)]
  rw [h1, h3, Bool.false_or, Bool.false_or]
  by_cases h : i ∈ segs
  · rw [decide_eq_true h, List.any_eq_false.2]
    · rfl
    · intro j hj
      simp only [Bool.and_eq_true, decide_eq_true_eq, Bool.not_eq_true', decide_eq_false_iff_not, not_and, Classical.not_not]
      intro e
      rw [← segN_inj hi (List.mem_range.1 hj) e]
      exact h
  · rw [decide_eq_false h, List.any_eq_true.2]
    · rfl
    · exact ⟨i, List.mem_range.2 hi, by simp [h]⟩
def dropped (fs : Fils) (first : Nat) (segs : List Nat) : List Name := (fs.map (·.1)).filter (dropB first segs)
def clr (k : Dsk) (first : Nat) (segs : List Nat) : Dsk × Int := remAll (dropped k.fs first segs) k
section
variable {P : List Int} {L S : Nat} {g : Gst}
theorem GOk.seg_few (h : GOk P L S g) (hS : S ≤ 99) : ∀ n ∈ segNos g, n < 100 := fun n hn => by
  have h1 := h.seg_lt n hn
  have h2 := h.nseg
  omega
theorem kept_told (h : GOk P L S g) (hS : S ≤ 99) {n : Name} (hn : ToldN g n) : dropB g.first (segNos g) n = false := by
  rcases hn with rfl | ⟨x, hx, rfl⟩ | ⟨i, h1, h2, rfl⟩
  · exact drop_man _ _
  · rw [drop_seg (h.seg_few hS x hx)]; simp [hx]
  · rw [drop_log h2]; simp; omega
theorem clr_told {k : Dsk} (h : GOk P L S g) (hS : S ≤ 99) (ht : Told k.fs g) (hd : k.down = false) (hr : Rising k.fs) :
    Wnt k (clr k g.first (segNos g)).1 (clr k g.first (segNos g)).2 k.fs.length 0 [] ∧
    (((clr k g.first (segNos g)).2 = 0 ∧ (clr k g.first (segNos g)).1.down = false ∧ Told (clr k g.first (segNos g)).1.fs g ∧ lkF (clr k g.first (segNos g)).1.fs newN = none ∧ lkF (clr k g.first (segNos g)).1.fs (segN (nextSeg g)) = none) ∨
      ((clr k g.first (segNos g)).2 = 7 ∧ (clr k g.first (segNos g)).1.down = true ∧ Told (clr k g.first (segNos g)).1.fs g)) := by
  have hnd : (dropped k.fs g.first (segNos g)).Nodup := (names_nodup hr).filter _
  have hex : ∀ n ∈ dropped k.fs g.first (segNos g), (lkF k.fs n).isSome = true := fun n hn => by
    have hm := (List.mem_filter.1 hn).1
    cases hl : lkF k.fs n with
    | none => exact absurd hm (look_none.1 hl)
    | some f => rfl
  obtain ⟨hw, ho⟩ := remAll_ran _ k hd hnd hex
  have hlen : (dropped k.fs g.first (segNos g)).length ≤ k.fs.length := by
    have := List.length_filter_le (dropB g.first (segNos g)) (k.fs.map (·.1))
    simpa [dropped] using this
  have hkeep : ∀ n, ToldN g n → n ∉ dropped k.fs g.first (segNos g) := fun n hn hm => by
    have := (List.mem_filter.1 hm).2
    rw [kept_told h hS hn] at this
    cases this
  refine ⟨hw.wide hlen (Nat.le_refl _) (by simp), ?_⟩
  rcases ho with ⟨h1, h2, h3, h4⟩ | ⟨h1, h2, fs2, keep, h3, h4⟩
  · have hgone : ∀ n, dropB g.first (segNos g) n = true → lkF (remAll (dropped k.fs g.first (segNos g)) k).1.fs n = none := fun n hb => by
      by_cases hm : n ∈ dropped k.fs g.first (segNos g)
      · exact h3 n hm
      · rw [h4 n hm]
        exact look_none.2 fun hh => hm (List.mem_filter.2 ⟨hh, hb⟩)
    refine .inl ⟨h1, h2, ht.congr fun n hn => h4 n (hkeep n hn), hgone _ (drop_new _ _), hgone _ ?_⟩
    have := h.nseg
    rw [drop_seg (by omega)]
    have : nextSeg g ∉ segNos g := fun hm => by have := h.seg_lt _ hm; omega
    simp [this]
  · refine .inr ⟨h1, h2, ?_⟩
    rw [show clr k g.first (segNos g) = remAll (dropped k.fs g.first (segNos g)) k from rfl, h3]
    exact (ht.congr fun n hn => h4 n (hkeep n hn)).cut keep
end
end Go.Proofs.YtddnnhfffmhpmaaGreatDoor.StoM

/- A put, a flush, a merge: what its disk tells behind each, wherever it is cut: plain. -/
namespace Go.Proofs.YtddnnhfffmhpmaaGreatDoor.StoM
open DocM VdM

section
variable {P : List Int} {L S : Nat} {g : Gst}
/-! ### a put -/
def putK (k : Dsk) (g : Gst) (c : Ch) : Dsk × Int := wr k (logN (logNo g)) (frameB c)
theorem frames_snoc (l : Chs) (c : Ch) : frames (l ++ [c]) = frames l ++ frameB c := by simp [frames]
/-- the log that is written -/
theorem log_now (h : GOk P L S g) {fs : Fils} (ht : Told fs g) : bytesAt fs (logN (logNo g)) = frames (lastCh g) ∧ ∀ x, (grow (lkF fs (logN (logNo g))) x) = ⟨frames (lastCh g) ++ x, (frames (lastCh g)).length⟩ := by
  have hl := front_len h
  rcases h.logs with ⟨e1, e2, hb⟩ | ⟨e1, hb⟩
  · have := ht.stop (logNo g) (by rw [hl.2.2.1 hb]; exact Nat.le_refl _) (by have := ht.few; omega)
    rw [e2]
    unfold bytesAt
    rw [this]
    exact ⟨rfl, fun x => rfl⟩
  · have hlen : (front g).length < g.logs.length := by
      have : g.logs.length = (front g).length + 1 := by
        conv => lhs; rw [e1]
        simp
      omega
    have := ht.log (front g).length hlen
    have eg : g.logs[(front g).length] = (lastCh g, []) := by
      have : (front g ++ [(lastCh g, ([] : List UInt8))])[(front g).length]'(by simp) = (lastCh g, []) := by simp
      rw [← this]
      congr 1
    rw [eg] at this
    simp only [List.append_nil] at this
    have e : lkF fs (logN (logNo g)) = some (whole (frames (lastCh g))) := this
    unfold bytesAt
    rw [e]
    exact ⟨rfl, fun x => rfl⟩
/-- the told files, behind a log's last one -/
theorem told_log (h : GOk P L S g) (hL : L ≤ 90) {fs fs' : Fils} (ht : Told fs g) (l : Chs) (t : List UInt8) (b : Bool) (hn : lkF fs' (logN (logNo g)) = some (whole (frames l ++ t))) (ho : ∀ m, m ≠ logN (logNo g) → lkF fs' m = lkF fs m) :
    Told fs' { g with logs := front g ++ [(l, t)], begun := b } := by
  have hfl := front_len h
  have hf := ht.few
  have hnl := h.nlog
  have h100 : logNo g < 100 := by omega
  refine ⟨?_, fun x hx => ?_, fun i hi => ?_, fun i h1 h2 => ?_, ?_⟩
  · rw [ho _ (Ne.symm (log_man _))]; exact ht.man
  · rw [ho _ (Ne.symm (log_seg _ _))]; exact ht.seg x hx
  · simp only [List.length_append, List.length_cons, List.length_nil] at hi
    by_cases e : i = (front g).length
    · subst e
      have eg : (front g ++ [(l, t)])[(front g).length]'(by simp) = (l, t) := by simp
      simp only [eg]
      exact hn
    · have hi' : i < (front g).length := by omega
      have eg : (front g ++ [(l, t)])[i]'(by simp; omega) = (front g)[i] := by rw [List.getElem_append_left hi']
      simp only [eg]
      have hne : logN (g.first + i) ≠ logN (logNo g) := fun e2 => by
        have := logN_inj (by unfold nextLog at hf; unfold logNo at h100; omega) h100 e2
        unfold logNo at this
        omega
      rw [ho _ hne]
      have hl1 : i < g.logs.length := by
        rcases h.logs with ⟨e1, _, _⟩ | ⟨e1, _⟩
        · rw [e1]; exact hi'
        · rw [e1]; simp; omega
      have := ht.log i hl1
      have e3 : g.logs[i] = (front g)[i] := by
        rcases h.logs with ⟨e1, _, _⟩ | ⟨e1, _⟩
        · congr 1
        · have : (front g ++ [(lastCh g, ([] : List UInt8))])[i]'(by simp; omega) = (front g)[i] := by rw [List.getElem_append_left hi']
          rw [← this]
          congr 1
      rw [e3] at this
      exact this
  · have hn2 : nextLog ({ g with logs := front g ++ [(l, t)], begun := b } : Gst) = logNo g + 1 := by unfold nextLog logNo; simp; omega
    rw [hn2] at h1
    rw [ho _ (fun e => by have := logN_inj h2 h100 e; omega)]
    exact ht.stop i (by omega) h2
  · show g.first + (front g ++ [(l, t)]).length ≤ 99
    unfold logNo at hfl
    simp
    omega
theorem torn_take {c : Ch} (hc : rightC c = 0) (n : Nat) (hn : n < (frameB c).length) : Torn ((frameB c).take n) := .inr ⟨c, hc, n, hn, rfl⟩
theorem put_told {k : Dsk} (h : GOk P L S g) (hL : L ≤ 90) (ht : Told k.fs g) (hd : k.down = false) {c : Ch} (hc : rightC c = 0) :
    Wnt k (putK k g c).1 (putK k g c).2 2 (frameB c).length [logN (logNo g)] ∧
    (((putK k g c).2 = 6 ∧ (putK k g c).1 = k ∧ roomB k (logN (logNo g)) (frameB c).length = false) ∨ ((putK k g c).2 = 0 ∧ (putK k g c).1.down = false ∧ Told (putK k g c).1.fs (gPut g c)) ∨
      ((putK k g c).2 = 7 ∧ (putK k g c).1.down = true ∧ (Told (putK k g c).1.fs (gPut g c) ∨ ∃ t, Torn t ∧ Told (putK k g c).1.fs (gTorn g t)))) := by
  obtain ⟨hw, ho⟩ := wr_ran hd (nm_log (logNo g)) (frameB c)
  obtain ⟨hb, hg⟩ := log_now h ht
  refine ⟨hw.wide (Nat.le_refl _) (Nat.le_refl _) (by simp), ?_⟩
  rcases ho with h1 | ⟨h1, h2, h3, h4⟩ | ⟨h1, h2, h3⟩
  · exact .inl h1
  · refine .inr (.inl ⟨h1, h2, ?_⟩)
    rw [hb, ← frames_snoc] at h3
    refine told_log h hL ht (lastCh g ++ [c]) [] true ?_ h4
    rw [List.append_nil]
    exact h3
  · refine .inr (.inr ⟨h1, h2, ?_⟩)
    have hfs : (putK k g c).1.fs = cutAll k.keep (ptF (logN (logNo g)) (grow (lkF k.fs (logN (logNo g))) (frameB c)) k.fs) := h3
    rw [hfs, hg]
    obtain ⟨n, hn⟩ : ∃ n, n = min k.keep.toNat (frameB c).length := ⟨_, rfl⟩
    have hcut : cutF k.keep ⟨frames (lastCh g) ++ frameB c, (frames (lastCh g)).length⟩ = whole (frames (lastCh g) ++ (frameB c).take n) := by
      unfold cutF whole
      have e1 : (frames (lastCh g) ++ frameB c).length - (frames (lastCh g)).length = (frameB c).length := by simp
      simp only [e1, ← hn]
      rw [List.take_append, List.take_of_length_le (by omega)]
      have e2 : (frames (lastCh g)).length + n - (frames (lastCh g)).length = n := by omega
      rw [e2]
      have e3 : n ≤ (frameB c).length := by omega
      simp [Nat.min_eq_left e3]
    have hlk : ∀ m, m ≠ logN (logNo g) → lkF (cutAll k.keep (ptF (logN (logNo g)) ⟨frames (lastCh g) ++ frameB c, (frames (lastCh g)).length⟩ k.fs)) m = lkF (cutAll k.keep k.fs) m := fun m hm => by
      rw [look_cut, look_cut, look_put_other _ hm]
    have hlk0 : lkF (cutAll k.keep (ptF (logN (logNo g)) ⟨frames (lastCh g) ++ frameB c, (frames (lastCh g)).length⟩ k.fs)) (logN (logNo g)) = some (whole (frames (lastCh g) ++ (frameB c).take n)) := by
      rw [look_cut, look_put_same, Option.map_some, hcut]
    by_cases hf : n < (frameB c).length
    · exact .inr ⟨_, torn_take hc n hf, told_log h hL (ht.cut k.keep) (lastCh g) _ false hlk0 hlk⟩
    · left
      have e4 : whole (frames (lastCh g) ++ (frameB c).take n) = whole (frames (lastCh g ++ [c])) := by rw [List.take_of_length_le (by omega), frames_snoc]
      rw [e4] at hlk0
      refine told_log h hL (ht.cut k.keep) (lastCh g ++ [c]) [] true ?_ hlk
      rw [List.append_nil]
      exact hlk0
/-! ### a flush, a merge -/
def swp (k : Dsk) (x : List UInt8) : Dsk × Int := if (wr k newN x).2 = 0 then rename (wr k newN x).1 newN manN else wr k newN x
def replK (k : Dsk) (g g' : Gst) (n : Nat) (l : Chs) : Dsk × Int :=
  if (clr k g.first (segNos g)).2 = 0 then
    (if (wr (clr k g.first (segNos g)).1 (segN n) (segB l)).2 = 0 then
      (if (swp (wr (clr k g.first (segNos g)).1 (segN n) (segB l)).1 (manB g'.first (segNos g'))).2 = 0 then clr (swp (wr (clr k g.first (segNos g)).1 (segN n) (segB l)).1 (manB g'.first (segNos g'))).1 g'.first (segNos g')
      else swp (wr (clr k g.first (segNos g)).1 (segN n) (segB l)).1 (manB g'.first (segNos g')))
    else wr (clr k g.first (segNos g)).1 (segN n) (segB l))
  else clr k g.first (segNos g)
/-- the next one: a segment more, the logs as they are, or none -/
structure Nexts (g g' : Gst) (l : Chs) : Prop where
  segs : ∀ x ∈ g'.segs, x ∈ g.segs ∨ x = (nextSeg g, l)
  logs : (g'.first = g.first ∧ g'.logs = g.logs) ∨ (g'.first = nextLog g ∧ g'.logs = [])
theorem nexts_flush (g : Gst) : Nexts g (gFlush g) (came g) := ⟨fun x hx => by
  rcases List.mem_append.1 hx with hx | hx
  · exact .inl hx
  · exact .inr (by simpa using hx), .inr ⟨rfl, rfl⟩⟩
theorem nexts_merge (g : Gst) : Nexts g (gMerge g) (settled g) := ⟨fun x hx => .inr (by simpa [gMerge] using hx), .inl ⟨rfl, rfl⟩⟩
theorem Told.next {fs fs' : Fils} {g' : Gst} {l : Chs} (ht : Told fs g) (hx : Nexts g g' l) (hseg : lkF fs' (segN (nextSeg g)) = some (whole (segB l))) (hman : lkF fs' manN = some (whole (manB g'.first (segNos g'))))
    (ho : ∀ m, ToldN g m → m ≠ manN → lkF fs' m = lkF fs m) : Told fs' g' := by
  have hf := ht.few
  refine ⟨.inr hman, fun x hx' => ?_, fun i hi => ?_, fun i h1 h2 => ?_, ?_⟩
  · rcases hx.segs x hx' with h | h
    · rw [ho _ (.inr (.inl ⟨x.1, List.mem_map.2 ⟨x, h, rfl⟩, rfl⟩)) (seg_man _)]
      exact ht.seg x h
    · rw [h]; exact hseg
  · rcases hx.logs with ⟨e1, e2⟩ | ⟨e1, e2⟩
    · have hi' : i < g.logs.length := by rw [← e2]; exact hi
      have := ht.log i hi'
      rw [e1, ho _ (.inr (.inr ⟨g.first + i, by omega, by unfold nextLog at hf; omega, rfl⟩)) (log_man _), this]
      simp only [e2]
    · rw [e2] at hi; simp at hi
  · have hn : nextLog g' = nextLog g := by
      rcases hx.logs with ⟨e1, e2⟩ | ⟨e1, e2⟩
      · unfold nextLog; rw [e1, e2]
      · unfold nextLog; rw [e1, e2]; simp [nextLog]
    rw [hn] at h1
    rw [ho _ (.inr (.inr ⟨i, by unfold nextLog at h1; omega, h2, rfl⟩)) (log_man _)]
    exact ht.stop i h1 h2
  · rcases hx.logs with ⟨e1, e2⟩ | ⟨e1, e2⟩
    · unfold nextLog; rw [e1, e2]; exact hf
    · unfold nextLog; rw [e1, e2]; exact hf
theorem untold_new : ¬ ToldN g newN := fun h => by
  rcases h with h | ⟨x, _, h⟩ | ⟨i, _, _, h⟩
  · exact new_man h
  · exact seg_new x h.symm
  · exact log_new i h.symm
theorem untold_next (h : GOk P L S g) (hS : S ≤ 90) : ¬ ToldN g (segN (nextSeg g)) := fun hn => by
  have h1 := h.nseg
  rcases hn with hn | ⟨x, hx, hn⟩ | ⟨i, _, _, hn⟩
  · exact seg_man _ hn
  · have := h.seg_lt x hx
    have := segN_inj (by omega) (by omega) hn
    omega
  · exact log_seg i _ hn.symm
theorem grow_look {fs : Fils} {n m : Name} (hne : m ≠ n) (f : Fil) (keep : Int) : lkF (cutAll keep (ptF n f fs)) m = lkF (cutAll keep fs) m := by rw [look_cut, look_cut, look_put_other _ hne]
/-- text is written where none is told -/
theorem wr_untold {k : Dsk} (hd : k.down = false) (ht : Told k.fs g) {n : Name} (hn : nameB n = true) (hu : ¬ ToldN g n) (x : List UInt8) :
    Wnt k (wr k n x).1 (wr k n x).2 2 x.length [n, n] ∧
    (((wr k n x).2 = 6 ∧ (wr k n x).1 = k ∧ roomB k n x.length = false) ∨ ((wr k n x).2 = 0 ∧ (wr k n x).1.down = false ∧ Told (wr k n x).1.fs g ∧ lkF (wr k n x).1.fs n = some (whole (bytesAt k.fs n ++ x)) ∧ ∀ m, m ≠ n → lkF (wr k n x).1.fs m = lkF k.fs m) ∨ ((wr k n x).2 = 7 ∧ (wr k n x).1.down = true ∧ Told (wr k n x).1.fs g)) := by
  obtain ⟨hw, ho⟩ := wr_ran hd hn x
  have hne : ∀ m, ToldN g m → m ≠ n := fun m hm e => hu (by rw [← e]; exact hm)
  refine ⟨hw, ?_⟩
  rcases ho with h1 | ⟨h1, h2, h3, h4⟩ | ⟨h1, h2, h3⟩
  · exact .inl h1
  · exact .inr (.inl ⟨h1, h2, ht.congr fun m hm => h4 m (hne m hm), h3, h4⟩)
  · refine .inr (.inr ⟨h1, h2, ?_⟩)
    rw [h3]
    exact (ht.cut k.keep).congr fun m hm => grow_look (hne m hm) _ _
theorem swp_told {k : Dsk} {g' : Gst} {l : Chs} (hd : k.down = false) (ht : Told k.fs g) (hx : Nexts g g' l) (hseg : lkF k.fs (segN (nextSeg g)) = some (whole (segB l))) (hnew : lkF k.fs newN = none) :
    Wnt k (swp k (manB g'.first (segNos g'))).1 (swp k (manB g'.first (segNos g'))).2 3 (manB g'.first (segNos g')).length [newN, newN, manN] ∧
    (((swp k (manB g'.first (segNos g'))).2 = 6 ∧ (swp k (manB g'.first (segNos g'))).1 = k ∧ roomB k newN (manB g'.first (segNos g')).length = false) ∨ ((swp k (manB g'.first (segNos g'))).2 = 0 ∧ (swp k (manB g'.first (segNos g'))).1.down = false ∧ Told (swp k (manB g'.first (segNos g'))).1.fs g') ∨ ((swp k (manB g'.first (segNos g'))).2 = 7 ∧ (swp k (manB g'.first (segNos g'))).1.down = true ∧ (Told (swp k (manB g'.first (segNos g'))).1.fs g ∨ Told (swp k (manB g'.first (segNos g'))).1.fs g'))) := by
  obtain ⟨x, hxE⟩ : ∃ x, x = manB g'.first (segNos g') := ⟨_, rfl⟩
  rw [← hxE]
  obtain ⟨hw, ho⟩ := wr_untold hd ht nm_new untold_new x
  have hb : bytesAt k.fs newN = [] := by unfold bytesAt; rw [hnew]
  rw [hb, List.nil_append] at ho
  unfold swp
  obtain ⟨k1, hk1⟩ : ∃ k1, k1 = (wr k newN x).1 := ⟨_, rfl⟩
  obtain ⟨e1, he1⟩ : ∃ e1, e1 = (wr k newN x).2 := ⟨_, rfl⟩
  have hpair : wr k newN x = (k1, e1) := by rw [hk1, he1]
  rw [← hk1, ← he1] at hw ho
  rw [hpair]
  simp only
  rcases ho with ⟨h1, h2, h3⟩ | ⟨h1, h2, h3, h4, h5⟩ | ⟨h1, h2, h3⟩
  · rw [if_neg (by rw [h1]; omega)]
    exact ⟨hw.wide (by omega) (Nat.le_refl _) (by simp), .inl ⟨h1, h2, h3⟩⟩
  · rw [if_pos h1]
    obtain ⟨rran, r6⟩ := rename_ran h2 h4 nm_man
    have rw_ := rename_wnt h2 h4 nm_man
    refine ⟨(hw.trans rw_).wide (by omega) (by omega) (by simp), ?_⟩
    rcases rran.out with ⟨g1, _⟩ | ⟨g1, g2, g3, _⟩ | ⟨g1, _, g3, g4⟩
    · exact absurd g1 r6
    · refine .inr (.inl ⟨g1, g3, ?_⟩)
      rw [g2]
      refine ht.next hx ?_ ?_ fun m hm hne => ?_
      · rw [look_put_other _ (seg_man _), look_del_other (seg_new _), h5 _ (seg_new _)]
        exact hseg
      · rw [look_put_same, hxE]
      · have hn : m ≠ newN := fun e => untold_new (by rw [← e]; exact hm)
        rw [look_put_other _ hne, look_del_other hn, h5 _ hn]
    · refine .inr (.inr ⟨g1, g4, .inl ?_⟩)
      rw [g3]
      exact h3.cut _
  · rw [if_neg (by rw [h1]; omega)]
    exact ⟨hw.wide (by omega) (by omega) (by simp), .inr (.inr ⟨h1, h2, .inl h3⟩)⟩
theorem Wnt.at_ {k k1 : Dsk} {e : Int} {n x : Nat} {A : List Name} (h : Wnt k k1 e n x A) (hr : Rising k.fs) : Rising k1.fs := (h.used hr).2
/-- somewhere there was no room -/
def Full (k : Dsk) (tot : Nat) (A : List Name) : Prop := ∃ k1 n y, roomB k1 n y = false ∧ k1.quota = k.quota ∧ Rising k1.fs ∧ usF k1.fs + y ≤ usF k.fs + tot ∧ ∀ L S, Nm L S k.fs → (∀ m ∈ A, Known L S m) → Nm L S k1.fs
theorem Full.no {k : Dsk} {tot L0 S0 : Nat} {A : List Name} (h : Full k tot A) (hn : Nm L0 S0 k.fs) (hA : ∀ m ∈ A, Known L0 S0 m) (h64 : L0 + S0 ≤ 61) (hu : usF k.fs + tot ≤ k.quota) : False := by
  obtain ⟨k1, n, y, h1, h2, h3, h4, h5⟩ := h
  have := (h5 L0 S0 hn hA).count h3
  unfold roomB at h1
  rw [Bool.and_eq_false_iff, Bool.or_eq_false_iff, decide_eq_false_iff_not, decide_eq_false_iff_not, decide_eq_false_iff_not] at h1
  omega
theorem Full.on {k k1 : Dsk} {e : Int} {n x tot : Nat} {A A' : List Name} (hw : Wnt k k1 e n x A) (hr : Rising k.fs) (h : Full k1 tot A') : Full k (x + tot) (A ++ A') := by
  obtain ⟨k2, n, y, h1, h2, h3, h4, h5⟩ := h
  exact ⟨k2, n, y, h1, h2.trans hw.quota, h3, by have := (hw.used hr).1; omega, fun L S hN hA => h5 L S (hw.nm L S hN fun m hm => hA m (List.mem_append_left _ hm)) fun m hm => hA m (List.mem_append_right _ hm)⟩
theorem full_now {k : Dsk} (hr : Rising k.fs) {n : Name} {y : Nat} (h : roomB k n y = false) (A : List Name) : Full k y A := ⟨k, n, y, h, rfl, hr, Nat.le_refl _, fun _ _ h _ => h⟩
theorem Full.wide {k : Dsk} {tot tot' : Nat} {A A' : List Name} (h : Full k tot A) (ht : tot ≤ tot') (hA : ∀ m ∈ A, m ∈ A') : Full k tot' A' := by
  obtain ⟨k2, n, y, h1, h2, h3, h4, h5⟩ := h
  exact ⟨k2, n, y, h1, h2, h3, by omega, fun L S hN hK => h5 L S hN fun m hm => hK m (hA m hm)⟩
/-- what a flush or a merge leaves -/
theorem repl_told {k : Dsk} {g' : Gst} {l : Chs} {P' : List Int} {L' S' L0 S0 : Nat} (h : GOk P L S g) (hS : S ≤ 90) (h' : GOk P' L' S' g') (hS' : S' ≤ 99) (ht : Told k.fs g) (hd : k.down = false) (hr : Rising k.fs) (hx : Nexts g g' l) (hn : Nm L0 S0 k.fs) (h0 : nextSeg g < S0) (h90 : L0 + S0 ≤ 90) :
    Wnt k (replK k g g' (nextSeg g) l).1 (replK k g g' (nextSeg g) l).2 200 ((segB l).length + (manB g'.first (segNos g')).length) [segN (nextSeg g), newN, manN] ∧
    (((replK k g g' (nextSeg g) l).2 = 6 ∧ (replK k g g' (nextSeg g) l).1.down = false ∧ Told (replK k g g' (nextSeg g) l).1.fs g ∧ Full k ((segB l).length + (manB g'.first (segNos g')).length) [segN (nextSeg g), newN, manN]) ∨
      ((replK k g g' (nextSeg g) l).2 = 0 ∧ (replK k g g' (nextSeg g) l).1.down = false ∧ Told (replK k g g' (nextSeg g) l).1.fs g') ∨
      ((replK k g g' (nextSeg g) l).2 = 7 ∧ (replK k g g' (nextSeg g) l).1.down = true ∧ (Told (replK k g g' (nextSeg g) l).1.fs g ∨ Told (replK k g g' (nextSeg g) l).1.fs g'))) := by
  have hKs : Known L0 S0 (segN (nextSeg g)) := .inr (.inr (.inr ⟨_, h0, rfl⟩))
  have hKn : Known L0 S0 newN := .inr (.inl rfl)
  have hKm : Known L0 S0 manN := .inl rfl
  obtain ⟨m, hm⟩ : ∃ m, m = manB g'.first (segNos g') := ⟨_, rfl⟩
  obtain ⟨sl, hsl⟩ : ∃ sl, sl = segB l := ⟨_, rfl⟩
  unfold replK
  obtain ⟨w1, o1⟩ := clr_told h (by omega) ht hd hr
  have c1 := hn.count hr
  obtain ⟨k1, hk1⟩ : ∃ k1, k1 = (clr k g.first (segNos g)).1 := ⟨_, rfl⟩
  obtain ⟨e1, he1⟩ : ∃ e1, e1 = (clr k g.first (segNos g)).2 := ⟨_, rfl⟩
  have hpair : clr k g.first (segNos g) = (k1, e1) := by rw [hk1, he1]
  rw [hpair] at w1 o1 ⊢
  simp only at w1 o1 ⊢
  rw [← hm, ← hsl]
  rcases o1 with ⟨a1, a2, a3, a4, a5⟩ | ⟨a1, a2, a3⟩
  · rw [if_pos a1]
    have r1 := w1.at_ hr
    have n1 := w1.nm L0 S0 hn (by simp)
    obtain ⟨w2, o2⟩ := wr_untold a2 a3 (nm_seg (nextSeg g)) (untold_next h hS) sl
    have hb : bytesAt k1.fs (segN (nextSeg g)) = [] := by unfold bytesAt; rw [a5]
    rw [hb, List.nil_append] at o2
    obtain ⟨k2, hk2⟩ : ∃ k2, k2 = (wr k1 (segN (nextSeg g)) sl).1 := ⟨_, rfl⟩
    obtain ⟨e2, he2⟩ : ∃ e2, e2 = (wr k1 (segN (nextSeg g)) sl).2 := ⟨_, rfl⟩
    have hpair2 : wr k1 (segN (nextSeg g)) sl = (k2, e2) := by rw [hk2, he2]
    rw [hpair2] at w2 o2 ⊢
    simp only at w2 o2 ⊢
    rcases o2 with ⟨b1, b2, b3⟩ | ⟨b1, b2, b3, b4, b5⟩ | ⟨b1, b2, b3⟩
    · rw [if_neg (by rw [b1]; omega)]
      exact ⟨(w1.trans w2).wide (by omega) (by omega) (by simp), .inl ⟨b1, by rw [b2]; exact a2, by rw [b2]; exact a3, ((full_now r1 b3 []).on w1 hr).wide (by omega) (by simp)⟩⟩
    · rw [if_pos b1]
      have r2 := w2.at_ r1
      have n2 := w2.nm L0 S0 n1 (by simpa using hKs)
      have hnew : lkF k2.fs newN = none := by rw [b5 _ (Ne.symm (seg_new _))]; exact a4
      obtain ⟨w3, o3⟩ := swp_told b2 b3 hx (by rw [b4, hsl]) hnew
      rw [← hm] at w3 o3
      obtain ⟨k3, hk3⟩ : ∃ k3, k3 = (swp k2 m).1 := ⟨_, rfl⟩
      obtain ⟨e3, he3⟩ : ∃ e3, e3 = (swp k2 m).2 := ⟨_, rfl⟩
      have hpair3 : swp k2 m = (k3, e3) := by rw [hk3, he3]
      rw [hpair3] at w3 o3 ⊢
      simp only at w3 o3 ⊢
      have w123 := (w1.trans w2).trans w3
      rcases o3 with ⟨d1, d2, d3⟩ | ⟨d1, d2, d3⟩ | ⟨d1, d2, d3⟩
      · rw [if_neg (by rw [d1]; omega)]
        exact ⟨w123.wide (by omega) (by omega) (by simp), .inl ⟨d1, by rw [d2]; exact b2, by rw [d2]; exact b3, ((full_now r2 d3 []).on (w1.trans w2) hr).wide (by omega) (by simp)⟩⟩
      · rw [if_pos d1]
        have r3 := w3.at_ r2
        have n3 := w3.nm L0 S0 n2 (by
          intro x hx
          simp at hx
          rcases hx with rfl | rfl
          · exact hKn
          · exact hKm)
        have c3 := n3.count r3
        obtain ⟨w4, o4⟩ := clr_told h' hS' d3 d2 r3
        refine ⟨(w123.trans w4).wide (by omega) (by omega) (by simp), ?_⟩
        rcases o4 with ⟨f1, f2, f3, _⟩ | ⟨f1, f2, f3⟩
        · exact .inr (.inl ⟨f1, f2, f3⟩)
        · exact .inr (.inr ⟨f1, f2, .inr f3⟩)
      · rw [if_neg (by rw [d1]; omega)]
        exact ⟨w123.wide (by omega) (by omega) (by simp), .inr (.inr ⟨d1, d2, d3⟩)⟩
    · rw [if_neg (by rw [b1]; omega)]
      exact ⟨(w1.trans w2).wide (by omega) (by omega) (by simp), .inr (.inr ⟨b1, b2, .inl b3⟩)⟩
  · rw [if_neg (by rw [a1]; omega)]
    exact ⟨w1.wide (by omega) (by omega) (by simp), .inr (.inr ⟨a1, a2, .inl a3⟩)⟩
end
end Go.Proofs.YtddnnhfffmhpmaaGreatDoor.StoM

/- A change taken off bytes, step by step, in plain words: what a reader's answers make of it. -/
namespace Go.Proofs.YtddnnhfffmhpmaaGreatDoor.DocM
open Go.Proofs.YtddnnhfffmhpmaaGreatDoor

/-- a reader's state: bad with nothing left, not longer than K -/
structure StK (K : Nat) (s : List UInt8) (bad : Bool) : Prop where
  nil_ : bad = true → s = []
  len : s.length ≤ K
theorem StK.num {K most : Nat} {s : List UInt8} {bad : Bool} (h : StK K s bad) : StK K (nS most s) (nB most s bad) := by
  refine ⟨fun hb => ?_, Nat.le_trans (nS_len most s) h.len⟩
  unfold nB at hb
  unfold nS
  cases hn : PackM.num most 0 0 s with
  | none => rfl
  | some x =>
    rw [hn] at hb
    have := h.nil_ hb
    rw [this] at hn
    cases hn
theorem StK.ris {K : Nat} {most : Int} {s : List UInt8} {bad : Bool} (h : StK K s bad) : StK K (rsS most s) (rsB most s bad) := by
  unfold rsS rsB
  cases hn : PackM.rRis most s with
  | none => exact ⟨fun _ => rfl, by simp⟩
  | some x =>
    refine ⟨fun hb => ?_, ?_⟩
    · have := h.nil_ hb
      rw [this] at hn
      cases hn
    · have h1 := (PackM.rRis_here (l := x.1) (t := x.2) hn).1
      have h2 := h.len
      rw [h1, List.length_append] at h2
      simp only
      omega
theorem StK.fix {K : Nat} {m n : Int} {s : List UInt8} {bad : Bool} (h : StK K s bad) : StK K (fxS m n s bad) (fxB m n s bad) := by
  unfold fxS fxB
  cases hn : fxR m n s bad with
  | none => exact ⟨fun _ => rfl, by simp⟩
  | some x =>
    refine ⟨fun hb => (by cases hb), ?_⟩
    unfold fxR at hn
    split at hn
    · have h1 := (PackM.rFix_here (ns := x.1) (t := x.2) hn).1
      have h2 := h.len
      rw [h1, List.length_append] at h2
      simp only
      omega
    · cases hn
theorem rs_len {most : Int} {s : List UInt8} (hm : 0 ≤ most) : ((rsV most s).length : Int) ≤ most := by
  unfold rsV
  cases hn : PackM.rRis most s with
  | none => simpa using hm
  | some x => exact (PackM.rRis_here (l := x.1) (t := x.2) hn).2.2.2
/-- packed numbers that are read: none, or as many as were asked for, each in its bits -/
theorem fx_form (w n : Nat) (s : List UInt8) (bad : Bool) : (fxV w n s bad = [] ∨ (fxV w n s bad).length = n) ∧ ∀ v ∈ fxV w n s bad, 0 ≤ v ∧ v < 2 ^ w := by
  unfold fxV
  cases hn : fxR w n s bad with
  | none => exact ⟨.inl rfl, fun v hv => by simp at hv⟩
  | some x =>
    unfold fxR at hn
    split at hn
    · rw [Int.toNat_natCast, Int.toNat_natCast] at hn
      obtain ⟨_, h2, h3⟩ := PackM.rFix_here (ns := x.1) (t := x.2) hn
      exact ⟨.inr (by simp only [toI_length]; exact h2), toI_fits h3⟩
    · cases hn
/-- what stands behind the two numbers of a change that is there -/
def bodyR (d : Int) (s : List UInt8) : Option (Ch × List UInt8) :=
  (PackM.rRis 64 s).bind fun a => (PackM.rFix 16 a.1.length a.2).bind fun b => (PackM.rFix 8 8 b.2).bind fun v => (PackM.rFix 8 1 v.2).bind fun t =>
    some (⟨d, a.1.zip (toI b.1), (toI v.1).map (· - 128), (toI t.1).getD 0 0, false⟩, t.2)
theorem fx_rFix {w n : Nat} {s : List UInt8} (hw : w ≤ 32) (hn : n ≤ 65536) : fxR w n s false = PackM.rFix w n s := by
  unfold fxR
  rw [if_pos ⟨rfl, by omega, by omega, by omega, by omega⟩, Int.toNat_natCast, Int.toNat_natCast]
theorem fx_bad {w n : Int} {s : List UInt8} : fxB w n s true = true := by
  unfold fxB fxR
  rw [if_neg (fun h => by cases h.1)]
theorem rs_bad {m : Int} {bad : Bool} (h : bad = true) {s : List UInt8} (hs : bad = true → s = []) : rsB m s bad = true := by
  rw [hs h]
  unfold rsB
  have : PackM.rRis m [] = none := rfl
  rw [this]
/-- a reader, not bad: its answers make just what the bytes tell -/
theorem body_thread (d : Int) (s : List UInt8) :
    let a := rsV 64 s
    let s3 := rsS 64 s
    let b3 := rsB 64 s false
    let s4 := fxS 16 a.length s3 b3
    let b4 := fxB 16 a.length s3 b3
    let s5 := fxS 8 8 s4 b4
    let b5 := fxB 8 8 s4 b4
    let s6 := fxS 8 1 s5 b5
    let b6 := fxB 8 1 s5 b5
    bodyR d s = if b6 = true then none else some (⟨d, a.zip (fxV 16 a.length s3 b3), (fxV 8 8 s4 b4).map (· - 128), (fxV 8 1 s5 b5).getD 0 0, false⟩, s6) := by
  intro a s3 b3 s4 b4 s5 b5 s6 b6
  cases h1 : PackM.rRis 64 s with
  | none =>
    have e3 : b3 = true := by show rsB 64 s false = true; unfold rsB; rw [h1]
    have e4 : b4 = true := by show fxB 16 _ _ b3 = true; rw [e3]; exact fx_bad
    have e5 : b5 = true := by show fxB 8 8 _ b4 = true; rw [e4]; exact fx_bad
    have e6 : b6 = true := by show fxB 8 1 _ b5 = true; rw [e5]; exact fx_bad
    rw [if_pos e6]
    unfold bodyR
    rw [h1]
    rfl
  | some x =>
    have ea : a = x.1 := by show rsV 64 s = _; unfold rsV; rw [h1]
    have es3 : s3 = x.2 := by show rsS 64 s = _; unfold rsS; rw [h1]
    have e3 : b3 = false := by show rsB 64 s false = _; unfold rsB; rw [h1]
    have hl : x.1.length ≤ 64 := by have := (PackM.rRis_here (l := x.1) (t := x.2) h1).2.2.2; omega
    unfold bodyR
    rw [h1]
    simp only [Option.bind_some]
    cases h2 : PackM.rFix 16 x.1.length x.2 with
    | none =>
      have hfx : fxR (16 : Int) (a.length : Int) s3 b3 = none := by rw [e3, es3, ea]; exact (fx_rFix (w := 16) (by omega) (by omega)).trans h2
      have e4 : b4 = true := (fx_none hfx).2.2
      have e5 : b5 = true := by show fxB 8 8 _ b4 = true; rw [e4]; exact fx_bad
      have e6 : b6 = true := by show fxB 8 1 _ b5 = true; rw [e5]; exact fx_bad
      rw [if_pos e6]
      rfl
    | some y =>
      have hfx : fxR (16 : Int) (a.length : Int) s3 b3 = some y := by rw [e3, es3, ea]; exact (fx_rFix (w := 16) (by omega) (by omega)).trans h2
      have ev1 : fxV 16 (a.length : Int) s3 b3 = toI y.1 := by unfold fxV; rw [hfx]
      have es4 : s4 = y.2 := by show fxS 16 (a.length : Int) s3 b3 = _; unfold fxS; rw [hfx]
      have e4 : b4 = false := by show fxB 16 (a.length : Int) s3 b3 = _; unfold fxB; rw [hfx]
      simp only [Option.bind_some]
      cases h3 : PackM.rFix 8 8 y.2 with
      | none =>
        have hfx2 : fxR (8 : Int) (8 : Int) s4 b4 = none := by rw [e4, es4]; exact (fx_rFix (w := 8) (n := 8) (by omega) (by omega)).trans h3
        have e5 : b5 = true := (fx_none hfx2).2.2
        have e6 : b6 = true := by show fxB 8 1 _ b5 = true; rw [e5]; exact fx_bad
        rw [if_pos e6]
        rfl
      | some z =>
        have hfx2 : fxR (8 : Int) (8 : Int) s4 b4 = some z := by rw [e4, es4]; exact (fx_rFix (w := 8) (n := 8) (by omega) (by omega)).trans h3
        have ev2 : fxV 8 8 s4 b4 = toI z.1 := by unfold fxV; rw [hfx2]
        have es5 : s5 = z.2 := by show fxS 8 8 s4 b4 = _; unfold fxS; rw [hfx2]
        have e5 : b5 = false := by show fxB 8 8 s4 b4 = _; unfold fxB; rw [hfx2]
        simp only [Option.bind_some]
        cases h4 : PackM.rFix 8 1 z.2 with
        | none =>
          have hfx3 : fxR (8 : Int) (1 : Int) s5 b5 = none := by rw [e5, es5]; exact (fx_rFix (w := 8) (n := 1) (by omega) (by omega)).trans h4
          have e6 : b6 = true := (fx_none hfx3).2.2
          rw [if_pos e6]
          rfl
        | some q =>
          have hfx3 : fxR (8 : Int) (1 : Int) s5 b5 = some q := by rw [e5, es5]; exact (fx_rFix (w := 8) (n := 1) (by omega) (by omega)).trans h4
          have ev3 : fxV 8 1 s5 b5 = toI q.1 := by unfold fxV; rw [hfx3]
          have es6 : s6 = q.2 := by show fxS 8 1 s5 b5 = _; unfold fxS; rw [hfx3]
          have e6 : b6 = false := by show fxB 8 1 s5 b5 = _; unfold fxB; rw [hfx3]
          rw [if_neg (by rw [e6]; simp), ev1, ev2, ev3, es6, ea]
          rfl
/-- the same of a reader that may be bad -/
theorem body_state (d : Int) (s : List UInt8) (bad : Bool) (h : bad = true → s = []) :
    (if bad = true then none else bodyR d s) =
      if true = true ∧ fxB 8 1 (fxS 8 8 (fxS 16 (rsV 64 s).length (rsS 64 s) (rsB 64 s bad)) (fxB 16 (rsV 64 s).length (rsS 64 s) (rsB 64 s bad))) (fxB 8 8 (fxS 16 (rsV 64 s).length (rsS 64 s) (rsB 64 s bad)) (fxB 16 (rsV 64 s).length (rsS 64 s) (rsB 64 s bad))) = false then
        some (⟨d, (rsV 64 s).zip (fxV 16 (rsV 64 s).length (rsS 64 s) (rsB 64 s bad)), (fxV 8 8 (fxS 16 (rsV 64 s).length (rsS 64 s) (rsB 64 s bad)) (fxB 16 (rsV 64 s).length (rsS 64 s) (rsB 64 s bad))).map (· - 128),
          (fxV 8 1 (fxS 8 8 (fxS 16 (rsV 64 s).length (rsS 64 s) (rsB 64 s bad)) (fxB 16 (rsV 64 s).length (rsS 64 s) (rsB 64 s bad))) (fxB 8 8 (fxS 16 (rsV 64 s).length (rsS 64 s) (rsB 64 s bad)) (fxB 16 (rsV 64 s).length (rsS 64 s) (rsB 64 s bad)))).getD 0 0, false⟩,
          fxS 8 1 (fxS 8 8 (fxS 16 (rsV 64 s).length (rsS 64 s) (rsB 64 s bad)) (fxB 16 (rsV 64 s).length (rsS 64 s) (rsB 64 s bad))) (fxB 8 8 (fxS 16 (rsV 64 s).length (rsS 64 s) (rsB 64 s bad)) (fxB 16 (rsV 64 s).length (rsS 64 s) (rsB 64 s bad))))
      else none := by
  cases bad with
  | true =>
    have e3 : rsB 64 s true = true := rs_bad rfl h
    rw [e3, fx_bad, fx_bad, fx_bad]
    simp
  | false =>
    have := body_thread d s
    simp only at this
    rw [if_neg (by simp), this]
    cases fxB 8 1 (fxS 8 8 (fxS 16 (rsV 64 s).length (rsS 64 s) (rsB 64 s false)) (fxB 16 (rsV 64 s).length (rsS 64 s) (rsB 64 s false))) (fxB 8 8 (fxS 16 (rsV 64 s).length (rsS 64 s) (rsB 64 s false)) (fxB 16 (rsV 64 s).length (rsS 64 s) (rsB 64 s false))) <;> simp
/-- the two numbers ahead -/
theorem raw_thread (s : List UInt8) :
    let x := nV PackM.MAXI s
    let s1 := nS PackM.MAXI s
    let b1 := nB PackM.MAXI s false
    let y := nV PackM.MAXI s1
    let s2 := nS PackM.MAXI s1
    let b2 := nB PackM.MAXI s1 b1
    (y = 1 → b2 = false ∧ rawC s = some (⟨x, [], [], 0, true⟩, s2)) ∧ (y = 0 → rawC s = if b2 = true then none else bodyR x s2) ∧ (y ≠ 0 → y ≠ 1 → rawC s = none) := by
  intro x s1 b1 y s2 b2
  unfold rawC
  cases h1 : PackM.num PackM.MAXI 0 0 s with
  | none =>
    have es1 : s1 = [] := by show nS _ s = []; unfold nS; rw [h1]
    have e2 : PackM.num PackM.MAXI 0 0 s1 = none := by rw [es1]; rfl
    have ey : y = 0 := by show nV _ s1 = 0; unfold nV; rw [e2]
    have eb : b2 = true := by show nB _ s1 b1 = true; unfold nB; rw [e2]
    refine ⟨fun h => by omega, fun _ => ?_, fun h => absurd ey h⟩
    rw [if_pos eb]
    rfl
  | some p =>
    have ex : x = p.1 := by show nV _ s = _; unfold nV; rw [h1]
    have es1 : s1 = p.2 := by show nS _ s = _; unfold nS; rw [h1]
    have eb1 : b1 = false := by show nB _ s false = _; unfold nB; rw [h1]
    simp only [Option.bind_some]
    cases h2 : PackM.num PackM.MAXI 0 0 p.2 with
    | none =>
      have e2 : PackM.num PackM.MAXI 0 0 s1 = none := by rw [es1]; exact h2
      have ey : y = 0 := by show nV _ s1 = 0; unfold nV; rw [e2]
      have eb : b2 = true := by show nB _ s1 b1 = true; unfold nB; rw [e2]
      refine ⟨fun h => by omega, fun _ => ?_, fun h => absurd ey h⟩
      rw [if_pos eb]
      rfl
    | some q =>
      have e2 : PackM.num PackM.MAXI 0 0 s1 = some q := by rw [es1]; exact h2
      have ey : y = q.1 := by show nV _ s1 = _; unfold nV; rw [e2]
      have es2 : s2 = q.2 := by show nS _ s1 = _; unfold nS; rw [e2]
      have eb : b2 = false := by show nB _ s1 b1 = _; unfold nB; rw [e2]; exact eb1
      simp only [Option.bind_some]
      refine ⟨fun h => ⟨eb, ?_⟩, fun h => ?_, fun h h' => ?_⟩
      · rw [if_pos (by omega), ex, es2]
      · rw [if_neg (by omega), if_pos (by omega), if_neg (by rw [eb]; simp), ex, es2]
        rfl
      · rw [if_neg (by omega), if_neg (by omega)]
end Go.Proofs.YtddnnhfffmhpmaaGreatDoor.DocM
