
/- A change in plain words: is it right, its bytes, what is read of bytes; there and back. -/
import Derived.Test.YtdjbdhfellofoaaPackHere
import Derived.Test.YtdjbdhfellofoaaPackX
import Derived.Test.YtdjbdhfellofoaaDenseV
namespace Go.Proofs.Ytdjbdhfellofoaa.DocM
open Go.Proofs.Ytdjbdhfellofoaa

/-- a change: its document, its terms with their weights, its vector, its tags, is it gone -/
structure Ch where
  doc : Int
  ts : List (Int × Int)
  v : List Int
  tags : Int
  gone : Bool
def ch0 : Ch := ⟨0, [], [], 0, false⟩
def tms (l : List (Int × Int)) : List Int := l.map (·.1)
def wts (l : List (Int × Int)) : List Int := l.map (·.2)
theorem tms_len (l : List (Int × Int)) : (tms l).length = l.length := by simp [tms]
theorem wts_len (l : List (Int × Int)) : (wts l).length = l.length := by simp [wts]
def isin (n a b : Int) : Bool := decide (a ≤ n) && decide (n ≤ b)
theorem isin_iff {n a b : Int} : isin n a b = true ↔ a ≤ n ∧ n ≤ b := by unfold isin; simp
def tOk (p : Int × Int) : Bool := isin p.1 0 1048575 && isin p.2 1 65535
def inR (c : Ch) : Bool := isin c.doc 0 2147483647 && isin c.tags 0 255 && c.ts.all tOk
def twice (l : List Int) : Bool := !decide l.Nodup
def sorted (l : List Int) : Bool := decide (l.Pairwise (· ≤ ·))
def form (c : Ch) : Bool := if c.gone = true then decide (c.ts.length = 0) && decide (c.v.length = 0) && decide (c.tags = 0) else DenM.vec c.v && sorted (tms c.ts)
/-- why it is no change; 0, if it is one -/
def rightC (c : Ch) : Int := if inR c = false then 1 else if 64 < c.ts.length then 3 else if twice (tms c.ts) = true then 9 else if form c = false then 2 else 0
theorem sorted_rises {l : List Int} (h : l.Nodup) : sorted l = decide (l.Pairwise (· < ·)) := by
  unfold sorted
  congr 1
  apply propext
  constructor
  · intro hs
    refine List.Pairwise.imp₂ (fun a b h1 h2 => ?_) hs h
    omega
  · intro hs
    exact hs.imp (fun h => by omega)
theorem rises_of : ∀ (l : List Int) (la : Int), (∀ v ∈ l, la < v) → l.Pairwise (· < ·) → PackM.rises la l = true
  | [], _, _, _ => rfl
  | a :: t, la, h, hp => by
    rw [List.pairwise_cons] at hp
    simp only [PackM.rises, Bool.and_eq_true, decide_eq_true_eq]
    exact ⟨h a (by simp), rises_of t a (fun v hv => hp.1 v hv) hp.2⟩
/-- what a right change is -/
structure Rgt (c : Ch) : Prop where
  doc : 0 ≤ c.doc ∧ c.doc ≤ 2147483647
  tags : 0 ≤ c.tags ∧ c.tags ≤ 255
  ts : ∀ p ∈ c.ts, (0 ≤ p.1 ∧ p.1 ≤ 1048575) ∧ (1 ≤ p.2 ∧ p.2 ≤ 65535)
  len : c.ts.length ≤ 64
  up : (tms c.ts).Pairwise (· < ·)
  there : c.gone = false → DenM.vec c.v = true
  none_ : c.gone = true → c.ts = [] ∧ c.v = [] ∧ c.tags = 0
theorem rgt_of {c : Ch} (h : rightC c = 0) : Rgt c := by
  unfold rightC at h
  split at h
  · cases h
  · rename_i h1
    split at h
    · cases h
    · rename_i h2
      split at h
      · cases h
      · rename_i h3
        split at h
        · cases h
        · rename_i h4
          have h1 : inR c = true := by cases hh : inR c <;> simp [hh] at h1 ⊢
          have h4 : form c = true := by cases hh : form c <;> simp [hh] at h4 ⊢
          have hn : (tms c.ts).Nodup := by
            unfold twice at h3
            simpa using h3
          unfold inR at h1
          simp only [Bool.and_eq_true, isin_iff, List.all_eq_true] at h1
          have hts : ∀ p ∈ c.ts, (0 ≤ p.1 ∧ p.1 ≤ 1048575) ∧ (1 ≤ p.2 ∧ p.2 ≤ 65535) := fun p hp => by
            have := h1.2 p hp
            unfold tOk at this
            simpa only [Bool.and_eq_true, isin_iff] using this
          refine ⟨h1.1.1, h1.1.2, hts, by omega, ?_, fun hg => ?_, fun hg => ?_⟩
          · unfold form at h4
            cases hg : c.gone with
            | true =>
              rw [hg] at h4
              simp at h4
              rw [h4.1.1]
              exact List.Pairwise.nil
            | false =>
              rw [hg] at h4
              simp only [Bool.false_eq_true, if_false, Bool.and_eq_true] at h4
              rw [sorted_rises hn] at h4
              exact of_decide_eq_true h4.2
          · unfold form at h4
            rw [hg] at h4
            simp only [Bool.false_eq_true, if_false, Bool.and_eq_true] at h4
            exact h4.1
          · unfold form at h4
            rw [hg] at h4
            simp at h4
            exact ⟨h4.1.1, h4.1.2, h4.2⟩
/-- its bytes -/
def cont (c : Ch) : List UInt8 := risS (tms c.ts) ++ fixS 16 (wts c.ts) ++ fixS 8 (c.v.map (· + 128)) ++ fixS 8 [c.tags]
def prB (c : Ch) : List UInt8 := if c.gone = true then varB c.doc ++ varB 1 else varB c.doc ++ varB 0 ++ cont c
/-- what bytes tell: a change, right or not, and what is left -/
def rawC (s : List UInt8) : Option (Ch × List UInt8) :=
  (PackM.num PackM.MAXI 0 0 s).bind fun x => (PackM.num PackM.MAXI 0 0 x.2).bind fun y =>
    if y.1 = 1 then some (⟨x.1, [], [], 0, true⟩, y.2)
    else if y.1 = 0 then (PackM.rRis 64 y.2).bind fun a => (PackM.rFix 16 a.1.length a.2).bind fun b => (PackM.rFix 8 8 b.2).bind fun v => (PackM.rFix 8 1 v.2).bind fun t =>
      some (⟨x.1, a.1.zip (toI b.1), (toI v.1).map (· - 128), (toI t.1).getD 0 0, false⟩, t.2)
    else none
/-- the change at the front, and what is left -/
def rdC (s : List UInt8) : Option (Ch × List UInt8) := (rawC s).bind fun x => if rightC x.1 = 0 then some x else none

theorem var_one : varB 1 = [1] := by unfold varB; rw [if_neg (by decide), PackM.vw_lt (by decide)]; rfl
theorem var_nought : varB 0 = [0] := by unfold varB; rw [if_neg (by decide), PackM.vw_lt (by decide)]; rfl
theorem var_of {d : Int} (h : 0 ≤ d) : varB d = PackM.vw d.toNat := by unfold varB; rw [if_neg (by omega)]
theorem fits_of {w : Nat} {l : List Int} (h : ∀ v ∈ l, 0 ≤ v ∧ v < 2 ^ w) : fits w l = true := by
  unfold fits
  rw [List.all_eq_true]
  intro v hv
  simpa using h v hv
theorem fix_of {w : Nat} (hw : w ≤ 32) {l : List Int} (h : ∀ v ∈ l, 0 ≤ v ∧ v < 2 ^ w) : fixS (w : Int) l = PackM.fixB w (l.map Int.toNat) := by
  unfold fixS
  rw [Int.toNat_natCast, if_pos ⟨by omega, by omega, fits_of h⟩]
theorem fix_there {w : Nat} (hw : w ≤ 32) {l : List Int} (h : ∀ v ∈ l, 0 ≤ v ∧ v < 2 ^ w) (n : Nat) (hn : l.length = n) (s : List UInt8) : PackM.rFix w n (fixS (w : Int) l ++ s) = some (l.map Int.toNat, s) := by
  rw [fix_of hw h]
  have := PackM.rFix_there w (l.map Int.toNat) s (fun v hv => by
    simp only [List.mem_map] at hv
    obtain ⟨x, hx, rfl⟩ := hv
    obtain ⟨h1, h2⟩ := h x hx
    obtain ⟨y, rfl⟩ := Int.eq_ofNat_of_zero_le h1
    rw [Int.toNat_natCast]
    exact_mod_cast h2)
  rw [List.length_map, hn] at this
  exact this
theorem zip_un (l : List (Int × Int)) : (tms l).zip (wts l) = l := by
  unfold tms wts
  induction l with
  | nil => rfl
  | cons a t ih => simp [ih]
theorem off_on (l : List Int) : (l.map (· + 128)).map (· - 128) = l := by
  rw [List.map_map]
  have : ∀ v ∈ l, ((· - 128) ∘ (· + 128)) v = v := fun v _ => by
    show v + 128 - 128 = v
    omega
  rw [List.map_congr_left this, List.map_id']
theorem on_off (l : List Int) : (l.map (· - 128)).map (· + 128) = l := by
  rw [List.map_map]
  have : ∀ v ∈ l, ((· + 128) ∘ (· - 128)) v = v := fun v _ => by
    show v - 128 + 128 = v
    omega
  rw [List.map_congr_left this, List.map_id']
/-- what was printed is read, whatever stands behind it -/
theorem rd_there {c : Ch} (h : rightC c = 0) (s : List UInt8) : rdC (prB c ++ s) = some (c, s) := by
  have g := rgt_of h
  have hraw : rawC (prB c ++ s) = some (c, s) := by
    unfold rawC prB
    cases hg : c.gone with
    | true =>
      obtain ⟨e1, e2, e3⟩ := g.none_ hg
      rw [if_pos rfl, var_of g.doc.1, List.append_assoc, PackM.num_there _ _ _ (by unfold PackM.MAXI; have := g.doc.2; omega)]
      simp only [Option.bind_some]
      rw [show varB 1 = PackM.vw 1 from by rw [var_of (by omega)]; rfl, PackM.num_there _ _ _ (by unfold PackM.MAXI; omega)]
      simp only [Option.bind_some, if_true]
      obtain ⟨d, ts, v, tags, gone⟩ := c
      simp only at e1 e2 e3 hg
      subst e1; subst e2; subst e3; subst hg
      have := g.doc.1
      simp only at this ⊢
      rw [Int.toNat_of_nonneg this]
    | false =>
      have hv := (DenM.vec_iff _).1 (g.there hg)
      rw [if_neg (by simp), var_of g.doc.1, List.append_assoc, List.append_assoc, PackM.num_there _ _ _ (by unfold PackM.MAXI; have := g.doc.2; omega)]
      simp only [Option.bind_some]
      rw [show varB 0 = PackM.vw 0 from by rw [var_of (by omega)]; rfl, PackM.num_there _ _ _ (by unfold PackM.MAXI; omega)]
      simp only [Option.bind_some]
      rw [if_neg (by omega), if_pos trivial]
      unfold cont
      have hr : PackM.rises (-1) (tms c.ts) = true := rises_of _ _ (fun v hv => by
        unfold tms at hv
        obtain ⟨p, hp, rfl⟩ := List.mem_map.1 hv
        have := (g.ts p hp).1.1
        omega) g.up
      have h1 : PackM.rRis 64 (PackM.risB (tms c.ts) ++ (fixS 16 (wts c.ts) ++ (fixS 8 (c.v.map (· + 128)) ++ (fixS 8 [c.tags] ++ s)))) = some (tms c.ts, fixS 16 (wts c.ts) ++ (fixS 8 (c.v.map (· + 128)) ++ (fixS 8 [c.tags] ++ s))) :=
        PackM.rRis_wide (PackM.rRis_there _ _ (by rw [tms_len]; have := g.len; omega) hr (fun v hv => by
          unfold tms at hv
          obtain ⟨p, hp, rfl⟩ := List.mem_map.1 hv
          have := (g.ts p hp).1.2
          omega)) (by rw [tms_len]; have := g.len; omega)
      rw [show risS (tms c.ts) = PackM.risB (tms c.ts) from by unfold risS; rw [if_pos hr]]
      simp only [List.append_assoc]
      rw [h1]
      simp only [Option.bind_some]
      rw [show (16 : Int) = ((16 : Nat) : Int) from rfl, show (8 : Int) = ((8 : Nat) : Int) from rfl]
      have hw : ∀ v ∈ wts c.ts, 0 ≤ v ∧ v < 2 ^ 16 := fun v hv => by
        unfold wts at hv
        obtain ⟨p, hp, rfl⟩ := List.mem_map.1 hv
        have := (g.ts p hp).2
        omega
      have hv8 : ∀ v ∈ c.v.map (· + 128), 0 ≤ v ∧ v < 2 ^ 8 := fun v hv' => by
        obtain ⟨p, hp, rfl⟩ := List.mem_map.1 hv'
        have := hv.2 p hp
        show 0 ≤ p + 128 ∧ p + 128 < 2 ^ 8
        omega
      have ht : ∀ v ∈ [c.tags], 0 ≤ v ∧ v < 2 ^ 8 := fun v hv' => by
        simp at hv'
        subst hv'
        have := g.tags
        omega
      rw [fix_there (by omega) hw (tms c.ts).length (by rw [tms_len, wts_len])]
      simp only [Option.bind_some]
      rw [fix_there (by omega) hv8 8 (by rw [List.length_map, hv.1])]
      simp only [Option.bind_some]
      rw [fix_there (by omega) ht 1 rfl]
      simp only [Option.bind_some]
      rw [map_back _ (fun v hv => (hw v hv).1), map_back _ (fun v hv => (hv8 v hv).1), map_back _ (fun v hv => (ht v hv).1), zip_un, off_on]
      have := g.doc.1
      rw [Int.toNat_of_nonneg this, List.getD_cons_zero, ← hg]
  unfold rdC
  rw [hraw]
  simp only [Option.bind_some]
  rw [if_pos h]
theorem toI_nat (l : List Nat) : (toI l).map Int.toNat = l := by
  unfold toI
  rw [List.map_map]
  have : ∀ v ∈ l, (Int.toNat ∘ Int.ofNat) v = v := fun v _ => rfl
  rw [List.map_congr_left this, List.map_id']
theorem toI_fits {w : Nat} {l : List Nat} (h : ∀ v ∈ l, v < 2 ^ w) : ∀ v ∈ toI l, 0 ≤ v ∧ v < 2 ^ w := fun v hv => by
  unfold toI at hv
  obtain ⟨x, hx, rfl⟩ := List.mem_map.1 hv
  have := h x hx
  refine ⟨Int.natCast_nonneg x, ?_⟩
  show (x : Int) < 2 ^ w
  exact_mod_cast this
theorem fix_here {w n : Nat} (hw : w ≤ 32) {s : List UInt8} {ns : List Nat} {t : List UInt8} (h : PackM.rFix w n s = some (ns, t)) : s = fixS (w : Int) (toI ns) ++ t ∧ ns.length = n := by
  obtain ⟨h1, h2, h3⟩ := PackM.rFix_here h
  refine ⟨?_, h2⟩
  rw [fix_of hw (toI_fits h3), toI_nat]
  exact h1
theorem raw_here {s : List UInt8} {c : Ch} {t : List UInt8} (h : rawC s = some (c, t)) : s = prB c ++ t ∧ c.ts.length ≤ 64 ∧ c.v.length ≤ 8 := by
  unfold rawC at h
  cases h1 : PackM.num PackM.MAXI 0 0 s with
  | none => rw [h1] at h; cases h
  | some x =>
    rw [h1] at h
    simp only [Option.bind_some] at h
    have e1 := PackM.num_here (v := x.1) (t := x.2) h1
    cases h2 : PackM.num PackM.MAXI 0 0 x.2 with
    | none => rw [h2] at h; cases h
    | some y =>
      rw [h2] at h
      simp only [Option.bind_some] at h
      have e2 := PackM.num_here (v := y.1) (t := y.2) h2
      by_cases hy : y.1 = 1
      · rw [if_pos hy] at h
        injection h with h; injection h with h3 h4
        subst h3
        refine ⟨?_, by simp, by simp⟩
        unfold prB
        rw [if_pos rfl, var_of (by simp), List.append_assoc, var_of (by omega)]
        rw [hy] at e2
        rw [e1, e2, h4]
        simp
      · rw [if_neg hy] at h
        by_cases hy0 : y.1 = 0
        · rw [if_pos hy0] at h
          cases h3 : PackM.rRis 64 y.2 with
          | none => rw [h3] at h; cases h
          | some a =>
            rw [h3] at h
            simp only [Option.bind_some] at h
            obtain ⟨a1, a2, a3, a4⟩ := PackM.rRis_here (l := a.1) (t := a.2) h3
            cases h4 : PackM.rFix 16 a.1.length a.2 with
            | none => rw [h4] at h; cases h
            | some b =>
              rw [h4] at h
              simp only [Option.bind_some] at h
              obtain ⟨b1, b2⟩ := fix_here (ns := b.1) (t := b.2) (by omega) h4
              cases h5 : PackM.rFix 8 8 b.2 with
              | none => rw [h5] at h; cases h
              | some v =>
                rw [h5] at h
                simp only [Option.bind_some] at h
                obtain ⟨v1, v2⟩ := fix_here (ns := v.1) (t := v.2) (by omega) h5
                cases h6 : PackM.rFix 8 1 v.2 with
                | none => rw [h6] at h; cases h
                | some q =>
                  rw [h6] at h
                  simp only [Option.bind_some] at h
                  obtain ⟨q1, q2⟩ := fix_here (ns := q.1) (t := q.2) (by omega) h6
                  injection h with h; injection h with h7 h8
                  subst h7
                  have hz : a.1.length = (toI b.1).length := by rw [toI_length, b2]
                  refine ⟨?_, by rw [List.length_zip, toI_length]; omega, by rw [List.length_map, toI_length]; omega⟩
                  unfold prB cont
                  have hr : risS a.1 = PackM.risB a.1 := by unfold risS; rw [if_pos a2]
                  have et : tms (a.1.zip (toI b.1)) = a.1 := by unfold tms; exact List.map_fst_zip (by omega)
                  have ew : wts (a.1.zip (toI b.1)) = toI b.1 := by unfold wts; exact List.map_snd_zip (by omega)
                  have eq1 : [(toI q.1).getD 0 0] = toI q.1 := by
                    match q.1, q2 with
                    | [z], _ => rfl
                  simp only [Bool.false_eq_true, if_false]
                  rw [et, ew, on_off, eq1, hr, var_of (Int.natCast_nonneg _), Int.toNat_natCast, var_of (by omega), show (0 : Int).toNat = 0 from rfl]
                  rw [hy0] at e2
                  simp only [List.append_assoc]
                  rw [← h8]
                  rw [← show v.2 = fixS 8 (toI q.1) ++ q.2 from q1, ← show b.2 = fixS 8 (toI v.1) ++ v.2 from v1, ← show a.2 = fixS 16 (toI b.1) ++ b.2 from b1, ← a1, ← e2, ← e1]
        · rw [if_neg hy0] at h; cases h
theorem rd_here {s : List UInt8} {c : Ch} {t : List UInt8} (h : rdC s = some (c, t)) : s = prB c ++ t ∧ rightC c = 0 := by
  unfold rdC at h
  cases h1 : rawC s with
  | none => rw [h1] at h; cases h
  | some x =>
    rw [h1] at h
    simp only [Option.bind_some] at h
    split at h
    · rename_i hr
      injection h with h
      subst h
      exact ⟨(raw_here h1).1, hr⟩
    · cases h
theorem pr_inj {c d : Ch} (hc : rightC c = 0) (hd : rightC d = 0) (h : prB c = prB d) : c = d := by
  have h1 := rd_there hc []
  rw [h, rd_there hd []] at h1
  injection h1 with h1
  injection h1 with h1 _
  exact h1.symm
theorem raw_left {s : List UInt8} {c : Ch} {t : List UInt8} (h : rawC s = some (c, t)) : t.length ≤ s.length := by
  rw [(raw_here h).1, List.length_append]
  omega
end Go.Proofs.Ytdjbdhfellofoaa.DocM
