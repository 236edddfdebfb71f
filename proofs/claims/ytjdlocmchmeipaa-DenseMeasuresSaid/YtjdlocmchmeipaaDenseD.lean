
/- Rows in memory; are they rows? -/
import Derived.Test.YtjdlocmchmeipaaDenseC
namespace Go.Proofs.Ytjdlocmchmeipaa
open Go.RowKit

/-- a slice that reads as rows: documents with their vectors -/
def Rws (w : World) (A : Option Addr) (n : Nat) (l : List (Int × List Int)) : Prop :=
  l.length = n ∧ ∀ k (h : k < l.length), ∃ b o A2 n2 c2, A = some ⟨b, o, none⟩ ∧ b < w.heap.size ∧ w.cell? ⟨b, o + k * 2, none⟩ = some (.int .i64 l[k].1) ∧ w.cell? ⟨b, o + k * 2 + 1, none⟩ = some (.slice A2 n2 c2) ∧ Ivs w A2 n2 l[k].2
theorem Rws.later {w w' : World} {A : Option Addr} {n : Nat} {l : List (Int × List Int)} (h : Rws w A n l) (hb : Below w.heap.size w w') : Rws w' A n l :=
  ⟨h.1, fun k hk => by
    obtain ⟨b, o, A2, n2, c2, e, hl, h0, h1, h2⟩ := h.2 k hk
    exact ⟨b, o, A2, n2, c2, e, Nat.lt_of_lt_of_le hl hb.size, (hb.cell (p := ⟨b, o + k * 2, none⟩) hl).trans h0, (hb.cell (p := ⟨b, o + k * 2 + 1, none⟩) hl).trans h1, h2.later hb⟩⟩
theorem rowsB_next {l : List (Int × List Int)} {k : Nat} (h : k < l.length) (last : Int) : DenM.rowsB (l.drop k) last = (decide (last < l[k].1) && decide (l[k].1 ≤ 2147483647) && DenM.vec l[k].2 && DenM.rowsB (l.drop (k + 1)) l[k].1) := by
  rw [List.drop_eq_getElem_cons h]
  rfl
set_option maxHeartbeats 2000000 in
set_option maxRecDepth 100000 in
theorem arerows_any (A : Option Addr) (n cp : Nat) (l : List (Int × List Int)) (w : World) (h : Rws w A n l) (hn : n ≤ 1000000) :
    Calls Try.prog 23 #[.slice A n cp] w fun e w' => e = .returned (.bool (DenM.rowsB l (-1))) ∧ Below w.heap.size w w' := by
  have H := Lib.hid h
  have HL := Lib.hid h.1
  clear h
  go_enter Try.func23, Try.ntmps23
  go_wp2
  go_loopw [3, 8] (fun x y wr => ∃ (k : Nat) (last : Int), x = .int .i64 last ∧ y = .int .i64 k ∧ k ≤ n ∧ DenM.rowsB l (-1) = DenM.rowsB (l.drop k) last ∧ Below w.heap.size w wr) (fun _ y _ => n - (intOf y).toNat)
  case atStart => exact ⟨0, -1, rfl, rfl, by omega, rfl, Below.refl _ _⟩
  case round =>
    obtain ⟨k, last, rfl, rfl, hk, hrb, hb⟩ := hrel
    by_cases hlt : k < n
    · have hmi : (k : Int) < (n : Int) := by omega
      have hkl : k < l.length := by rw [HL.out]; exact hlt
      obtain ⟨b, o, A2, n2, c2, rfl, hbl, hc0, hc1, hI⟩ := (H.out.later hb).2 k hkl
      rw [rowsB_next hkl] at hrb
      have R2 := Lib.hid (fun W (hW : Below wr.heap.size wr W) => dright_any A2 n2 c2 l[k].2 W (hI.later hW))
      obtain ⟨d, hd⟩ : ∃ d, d = l[k].1 := ⟨_, rfl⟩
      obtain ⟨v, hv⟩ : ∃ v, v = DenM.vec l[k].2 := ⟨_, rfl⟩
      rw [← hd] at hc0 hrb
      rw [← hv] at hrb R2
      have HRB := Lib.hid hrb
      have HB := Lib.hid hb
      clear hd hv hrb hb hI
      by_cases h1 : d ≤ last
      · have hd1 : decide (d ≤ last) = true := decide_eq_true h1
        have HF : Hid (DenM.rowsB l (-1) = false) := Lib.hid (by rw [HRB.out, decide_eq_false (by omega)]; rfl)
        go_wp2
        go_ret
        exact ⟨by rw [HF.out]; rfl, HB.out.trans ((pl1 _ _).mono HB.out.size)⟩
      · have hd1 : decide (d ≤ last) = false := decide_eq_false h1
        by_cases h2 : 2147483647 < d
        · have hd2 : decide (2147483647 < d) = true := decide_eq_true h2
          have HF : Hid (DenM.rowsB l (-1) = false) := Lib.hid (by rw [HRB.out, decide_eq_false (show ¬ d ≤ 2147483647 by omega)]; simp)
          go_wp2
          go_ret
          exact ⟨by rw [HF.out]; rfl, HB.out.trans ((pl1 _ _).mono HB.out.size)⟩
        · have hd2 : decide (2147483647 < d) = false := decide_eq_false h2
          cases v with
          | false =>
            have HF : Hid (DenM.rowsB l (-1) = false) := Lib.hid (by rw [HRB.out]; simp)
            go_wp2_with fail
            refine (R2.out _ (pl1 _ _)).mono ?_
            rintro e w3 ⟨rfl, rfl⟩
            go_wp2
            go_ret
            exact ⟨by rw [HF.out]; rfl, HB.out.trans ((pl1 _ _).mono HB.out.size)⟩
          | true =>
            have HF : Hid (DenM.rowsB l (-1) = DenM.rowsB (l.drop (k + 1)) d) := Lib.hid (by rw [HRB.out, decide_eq_true (show last < d by omega), decide_eq_true (show d ≤ 2147483647 by omega)]; rfl)
            go_wp2_with fail
            refine (R2.out _ (pl1 _ _)).mono ?_
            rintro e w3 ⟨rfl, rfl⟩
            go_wp2
            go_roundw
            case rel => exact ⟨k + 1, d, rfl, by go_num, by omega, HF.out, HB.out.trans ((pl1 _ _).mono HB.out.size)⟩
            case measure => simp [intOf]; omega
    · have hmi : ¬ (k : Int) < (n : Int) := by omega
      obtain rfl : k = n := by omega
      have HF : Hid (DenM.rowsB l (-1) = true) := Lib.hid (by rw [hrb, List.drop_of_length_le (by rw [HL.out]; exact Nat.le_refl _)]; rfl)
      clear hrb
      go_wp2
      go_ret
      exact ⟨by rw [HF.out]; rfl, hb⟩
end Go.Proofs.Ytjdlocmchmeipaa
