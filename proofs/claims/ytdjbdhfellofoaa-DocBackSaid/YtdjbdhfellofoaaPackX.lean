
/- PackBack's parts: what was written is read. -/
import Derived.Test.YtdjbdhfellofoaaPackV
namespace Go.Proofs.Ytdjbdhfellofoaa
open Go.RowKit

theorem cat2 (x t : List UInt8) : ofBytes x ++ ofBytes t = ofBytes (x ++ t) := by rw [append_ofBytes, ofBytes_list]
theorem diffs_len : ∀ (l : List Int) (last : Int), -1 ≤ last → PackM.rises last l = true → (∀ v ∈ l, v ≤ 9223372036854775807) → (PackM.diffs last l).length ≤ 10 * l.length
  | [], _, _, _, _ => by simp [PackM.diffs]
  | v :: t, last, hl, hr, hm => by
    simp only [PackM.rises, Bool.and_eq_true, decide_eq_true_eq] at hr
    have hv := hm v (by simp)
    have h1 := PackM.vw_len10 (v - 1 - last).toNat (by omega)
    have h2 := diffs_len t v (by omega) hr.2 (fun x hx => hm x (by simp [hx]))
    simp only [PackM.diffs, List.length_append, List.length_cons]
    omega
theorem risS_len (l : List Int) (h : l.length ≤ 1000) (h64 : I64 l) : (risS l).length ≤ 10010 := by
  unfold risS
  split
  · rename_i hr
    have h1 := diffs_len l (-1) (by omega) hr (fun v hv => (h64 v hv).2)
    have h2 := PackM.vw_len10 l.length (by omega)
    simp only [PackM.risB, List.length_append]
    omega
  · simp
theorem fixS_len (m : Int) (l : List Int) (h : l.length ≤ 1000) : (fixS m l).length ≤ 10010 := by
  unfold fixS
  split
  · rename_i hr
    rw [PackM.fixB, PackM.packed_length, List.length_map]
    have : m.toNat * l.length ≤ 32 * l.length := Nat.mul_le_mul_right _ (by omega)
    omega
  · simp

theorem back_var (w : World) (b n : Nat) (s : List UInt8) (h2 : n ≤ 9223372036854775807) (hl : s.length ≤ 100000) (h : RD w b (PackM.vw n ++ s) false) :
    Calls Try.prog 50 #[.pointer (some ⟨b, 0, none⟩)] w fun e w' => e = .returned (.int .i64 (n : Int)) ∧ RD w' b s false ∧ w.grownBy w' (some b) := by
  have h10 := PackM.vw_len10 n (by omega)
  have hn : PackM.num PackM.MAXI 0 0 (PackM.vw n ++ s) = some (n, s) := PackM.num_there _ _ _ (by unfold PackM.MAXI; omega)
  refine (rvarint_any w b _ false (by rw [List.length_append]; omega) h).mono fun e w' ⟨a1, a2, a3⟩ => ⟨?_, ?_, a3⟩
  · rw [a1]; unfold nV; rw [hn]
  · unfold nS nB at a2; rw [hn] at a2; exact a2
theorem back_ris (w : World) (b n : Nat) (l : List Int) (s : List UInt8) (hn : l.length = n) (hl : n ≤ 1000) (h64 : I64 l) (hr : PackM.rises (-1) l = true) (hs : s.length ≤ 100000) (h : RD w b (risS l ++ s) false) :
    Calls Try.prog 67 #[.pointer (some ⟨b, 0, none⟩), .int .i64 (n : Int)] w fun e w' => (∃ A cp, e = .returned (.slice A n cp) ∧ Ints w' A n l) ∧ RD w' b s false ∧ w.grownBy w' (some b) := by
  have hlen := risS_len l (by omega) h64
  have he : risS l = PackM.risB l := by unfold risS; rw [if_pos hr]
  have hrr : PackM.rRis (n : Int) (risS l ++ s) = some (l, s) := by rw [he, ← hn]; exact PackM.rRis_there l s (by omega) hr (fun v hv => (h64 v hv).2)
  refine (rrising_any w b _ false (n : Int) (by rw [List.length_append]; omega) (fun e => by cases e) h).mono fun e w' ⟨⟨A, cp, a1, _, a2, a3⟩, a4⟩ => ?_
  have e1 : rsV (n : Int) (risS l ++ s) = l := by unfold rsV; rw [hrr]
  have e2 : rsS (n : Int) (risS l ++ s) = s := by unfold rsS; rw [hrr]
  have e3 : rsB (n : Int) (risS l ++ s) false = false := by unfold rsB; rw [hrr]
  rw [e1, hn] at a1 a2
  rw [e2, e3] at a3
  exact ⟨⟨A, cp, a1, a2⟩, a3, a4⟩
theorem map_back (l : List Int) (h : ∀ v ∈ l, 0 ≤ v) : toI (l.map Int.toNat) = l := by
  unfold toI
  rw [List.map_map]
  have : ∀ v ∈ l, (Int.ofNat ∘ Int.toNat) v = v := fun v hv => by
    have := h v hv
    simp only [Function.comp_apply, Int.ofNat_eq_natCast]
    omega
  rw [List.map_congr_left this, List.map_id']
theorem back_fix (w : World) (b n : Nat) (m : Int) (l : List Int) (s : List UInt8) (hn : l.length = n) (hl : n ≤ 1000) (hm0 : 0 ≤ m) (hm : m ≤ 32) (hr : fits m.toNat l = true) (hs : s.length ≤ 100000) (h : RD w b (fixS m l ++ s) false) :
    Calls Try.prog 68 #[.pointer (some ⟨b, 0, none⟩), .int .i64 m, .int .i64 (n : Int)] w fun e w' => (∃ A cp, e = .returned (.slice A n cp) ∧ Ints w' A n l) ∧ RD w' b s false ∧ w.grownBy w' (some b) := by
  have hlen := fixS_len m l (by omega)
  obtain ⟨k, rfl⟩ := Int.eq_ofNat_of_zero_le hm0
  rw [Int.toNat_natCast] at hr
  have hv : ∀ v ∈ l, 0 ≤ v ∧ v < 2 ^ k := fun v hv => by
    unfold fits at hr
    have := (List.all_eq_true.1 hr) v hv
    simpa using this
  have he : fixS (k : Int) l = PackM.fixB k (l.map Int.toNat) := by unfold fixS; rw [Int.toNat_natCast, if_pos ⟨by omega, by omega, hr⟩]
  have hrf : PackM.rFix k n (fixS (k : Int) l ++ s) = some (l.map Int.toNat, s) := by
    have := PackM.rFix_there k (l.map Int.toNat) s (fun v hv' => by
      simp only [List.mem_map] at hv'
      obtain ⟨x, hx, rfl⟩ := hv'
      obtain ⟨h1, h2⟩ := hv x hx
      obtain ⟨y, rfl⟩ := Int.eq_ofNat_of_zero_le h1
      rw [Int.toNat_natCast]
      exact_mod_cast h2)
    rw [List.length_map, hn, ← he] at this
    exact this
  have hfx : fxR (k : Int) (n : Int) (fixS (k : Int) l ++ s) false = some (l.map Int.toNat, s) := by
    unfold fxR
    rw [if_pos ⟨rfl, by omega, by omega, by omega, by omega⟩, Int.toNat_natCast, Int.toNat_natCast, hrf]
  refine (rfixed_in w b _ false k n (by rw [List.length_append]; omega) (fun e => by cases e) h (by omega) (by omega)).mono fun e w' ⟨⟨A, cp, a1, _, a2, a3⟩, a4⟩ => ?_
  have e1 : fxV (k : Int) (n : Int) (fixS (k : Int) l ++ s) false = l := by unfold fxV; rw [hfx]; exact map_back l (fun v hv' => (hv v hv').1)
  have e2 : fxS (k : Int) (n : Int) (fixS (k : Int) l ++ s) false = s := by unfold fxS; rw [hfx]
  have e3 : fxB (k : Int) (n : Int) (fixS (k : Int) l ++ s) false = false := by unfold fxB; rw [hfx]
  rw [e1, hn] at a1 a2
  rw [e2, e3] at a3
  exact ⟨⟨A, cp, a1, a2⟩, a3, a4⟩
end Go.Proofs.Ytdjbdhfellofoaa
