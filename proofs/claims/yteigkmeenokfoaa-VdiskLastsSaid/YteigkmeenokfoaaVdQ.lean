
/- Acts that came in: what a row of them reads as; are they few and short. -/
import Derived.Test.YteigkmeenokfoaaVdP
namespace Go.Proofs.Yteigkmeenokfoaa.Vd
open Go.RowKit Go.Proofs.Yteigkmeenokfoaa VdM Go.Maps

/-- a call, as far as the law looks at it -/
structure ActT where
  kind : Int
  name : ByteArray
  s : ByteArray
def ActsR (w : World) (A : Option Addr) (n : Nat) (l : List ActT) : Prop :=
  l.length = n ∧ ∀ k (h : k < l.length), ∃ b o, A = some ⟨b, o, none⟩ ∧ b < w.heap.size ∧ w.cell? ⟨b, o + k * 6, none⟩ = some (.int .i64 l[k].kind) ∧ w.cell? ⟨b, o + k * 6 + 1, none⟩ = some (.string l[k].name) ∧ w.cell? ⟨b, o + k * 6 + 2, none⟩ = some (.string l[k].s)
theorem ActsR.later {w w' : World} {A : Option Addr} {n : Nat} {l : List ActT} (h : ActsR w A n l) (hb : Below w.heap.size w w') : ActsR w' A n l := by
  refine ⟨h.1, fun k hk => ?_⟩
  obtain ⟨b, o, e, hbl, c0, c1, c2⟩ := h.2 k hk
  exact ⟨b, o, e, Nat.lt_of_lt_of_le hbl hb.size, (hb.cell hbl).trans c0, (hb.cell hbl).trans c1, (hb.cell hbl).trans c2⟩
def Short (l : List ActT) : Prop := ∀ a ∈ l, a.name.size ≤ 140737488355328 ∧ a.s.size ≤ 140737488355328
/-- few, from the i-th on, n bytes behind -/
def fewG (i n : Nat) : List ActT → Bool
  | [] => true
  | a :: t => !(decide (150 ≤ i) || decide (20000 < n + a.s.size) || decide (200 < a.name.size)) && fewG (i + 1) (n + a.s.size) t
def fewB (l : List ActT) : Bool := fewG 0 0 l
theorem fewG_names : ∀ (l : List ActT) (i n : Nat), fewG i n l = true → (∀ a ∈ l, a.name.size ≤ 200 ∧ a.s.size ≤ 20000) ∧ (l ≠ [] → i + l.length ≤ 150)
  | [], i, n, _ => by simp
  | a :: t, i, n, h => by
    unfold fewG at h
    simp only [Bool.and_eq_true, Bool.not_eq_true', Bool.or_eq_false_iff, decide_eq_false_iff_not] at h
    obtain ⟨⟨⟨h1, h2⟩, h3⟩, h4⟩ := h
    obtain ⟨g1, g2⟩ := fewG_names t (i + 1) _ h4
    refine ⟨fun x hx => ?_, fun _ => ?_⟩
    · rcases List.mem_cons.1 hx with rfl | hx
      · omega
      · exact g1 x hx
    · rw [List.length_cons]
      by_cases e : t = []
      · subst e
        simp
        omega
      · have := g2 e
        omega
theorem few_len {l : List ActT} (h : fewB l = true) : l.length ≤ 150 := by
  by_cases e : l = []
  · subst e; simp
  · have := (fewG_names l 0 0 h).2 e
    omega
set_option maxHeartbeats 4000000 in
set_option maxRecDepth 100000 in
theorem few_any (A : Option Addr) (n cp : Nat) (l : List ActT) (w : World) (h : ActsR w A n l) (hs : Short l) (hn : n ≤ 1000000000000000) :
    Calls Try.prog 5 #[.slice A n cp] w fun e w' => e = .returned (.bool (fewB l)) ∧ w = w' := by
  have H := Lib.hid h
  have HL := Lib.hid h.1
  have HS := Lib.hid hs
  clear h hs
  go_enter Try.func5, Try.ntmps5
  go_wp2
  go_loop [3, 4] (fun x y => ∃ (i u : Nat), x = .int .i64 u ∧ y = .int .i64 i ∧ i ≤ n ∧ u ≤ 20000 ∧ fewB l = fewG i u (l.drop i)) (fun _ y => n - (intOf y).toNat)
  case atStart => exact ⟨0, 0, rfl, rfl, by omega, by omega, rfl⟩
  case round =>
    obtain ⟨i, u, rfl, rfl, hin, hu, hfew⟩ := hrel
    have HF := Lib.hid hfew
    clear hfew
    by_cases hlt : i < n
    · have hmi : (i : Int) < (n : Int) := by omega
      have hi0 : (0 : Int) ≤ (i : Int) := by omega
      have hil : i < l.length := by rw [HL.out]; exact hlt
      obtain ⟨b, o, rfl, hbl, c0, c1, c2⟩ := H.out.2 i hil
      have hsh := HS.out _ (List.getElem_mem hil)
      have hdr : l.drop i = l[i] :: l.drop (i + 1) := List.drop_eq_getElem_cons hil
      obtain ⟨a, ha⟩ : ∃ a, a = l[i] := ⟨_, rfl⟩
      rw [← ha] at c0 c1 c2 hsh hdr
      obtain ⟨sz, hsz⟩ : ∃ z, z = a.s.size := ⟨_, rfl⟩
      obtain ⟨nz, hnz⟩ : ∃ z, z = a.name.size := ⟨_, rfl⟩
      obtain ⟨u2, hu2⟩ : ∃ z, z = u + sz := ⟨_, rfl⟩
      have hw1 : IntKind.i64.wrap ((u : Int) + (a.s.size : Int)) = (u2 : Int) := by rw [IntKind.wrap_i64]; omega
      have hstep : fewB l = (!(decide (150 ≤ i) || decide (20000 < u2) || decide (200 < nz)) && fewG (i + 1) u2 (l.drop (i + 1))) := by rw [HF.out, hdr, fewG, hu2, hsz, hnz]
      have HST := Lib.hid hstep
      clear hdr ha hstep
      by_cases h1 : 150 ≤ i
      · have d1 : decide ((150 : Int) ≤ (i : Int)) = true := decide_eq_true (by omega)
        have d1' : decide (150 ≤ i) = true := decide_eq_true h1
        have HE : Hid (fewB l = false) := Lib.hid (by rw [HST.out, d1']; rfl)
        clear hsz hnz hu2
        go_wp2
        go_ret
        exact ⟨by rw [HE.out]; rfl, rfl⟩
      · have d1 : decide ((150 : Int) ≤ (i : Int)) = false := decide_eq_false (by omega)
        have d1' : decide (150 ≤ i) = false := decide_eq_false h1
        by_cases h2 : 20000 < u2
        · have d2 : decide ((20000 : Int) < (u2 : Int)) = true := decide_eq_true (by omega)
          have d2' : decide (20000 < u2) = true := decide_eq_true h2
          have HE : Hid (fewB l = false) := Lib.hid (by rw [HST.out, d1', d2']; rfl)
          clear hsz hnz hu2
          go_wp2
          go_ret
          exact ⟨by rw [HE.out]; rfl, rfl⟩
        · have d2 : decide ((20000 : Int) < (u2 : Int)) = false := decide_eq_false (by omega)
          have d2' : decide (20000 < u2) = false := decide_eq_false h2
          by_cases h3 : 200 < nz
          · have d3 : decide ((200 : Int) < (a.name.size : Int)) = true := decide_eq_true (by omega)
            have d3' : decide (200 < a.name.size) = true := decide_eq_true (by omega)
            have HE : Hid (fewB l = false) := Lib.hid (by rw [HST.out, d1', d2', decide_eq_true h3]; rfl)
            clear hsz hnz hu2
            go_wp2
            go_ret
            exact ⟨by rw [HE.out]; rfl, rfl⟩
          · have d3 : decide ((200 : Int) < (a.name.size : Int)) = false := decide_eq_false (by omega)
            have d3' : decide (200 < a.name.size) = false := decide_eq_false (by omega)
            have HE : Hid (fewB l = fewG (i + 1) u2 (l.drop (i + 1))) := Lib.hid (by rw [HST.out, d1', d2', decide_eq_false h3]; rfl)
            clear hsz hnz hu2
            go_wp2
            go_round
            case rel => exact ⟨i + 1, u2, by go_num, by go_num, by omega, by omega, HE.out⟩
            case measure => simp [intOf]; omega
    · have hmi : ¬ (i : Int) < (n : Int) := by omega
      have HE : Hid (fewB l = true) := Lib.hid (by rw [HF.out, List.drop_of_length_le (by rw [HL.out]; omega)]; rfl)
      go_wp2
      go_ret
      exact ⟨by rw [HE.out]; rfl, rfl⟩
end Go.Proofs.Yteigkmeenokfoaa.Vd
