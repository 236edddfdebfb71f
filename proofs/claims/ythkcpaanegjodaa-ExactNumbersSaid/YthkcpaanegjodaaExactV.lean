
/- The document's sums of rows of bits; comparing them. -/
import Derived.Test.YthkcpaanegjodaaExactU
import Derived.Deep.QuietTactic
import Derived.BigQuiet
namespace Go.Proofs.Ythkcpaanegjodaa
open Go.RowKit

theorem half_int (n : Nat) : ((n : Int) / 2) = ((n / 2 : Nat) : Int) := by omega
set_option maxHeartbeats 1000000 in
set_option maxRecDepth 100000 in
theorem rplus_any (va vb : Value) (a b : List Bool) (w : World) (ha : a.length ≤ 1000) (hb : b.length ≤ 1000) (hA : Rd w va a) (hB : Rd w vb b) :
    Calls Try.prog 47 #[va, vb] w (RetRd (ExactM.ofN (ExactM.val a + ExactM.val b)) w) := by
  obtain ⟨A, ca, ea⟩ := hA.len
  obtain ⟨B, cb, eb⟩ := hB.len
  obtain ⟨m, hm⟩ : ∃ m, m = a.length := ⟨_, rfl⟩
  obtain ⟨n, hn⟩ : ∃ m, m = b.length := ⟨_, rfl⟩
  rw [← hm] at ea ha
  rw [← hn] at eb hb
  have HM := Lib.hid hm
  have HN := Lib.hid hn
  subst ea eb
  clear hm hn
  go_enter Try.func47, Try.ntmps47
  go_wp2
  go_loopw [5, 6, 7] (fun y c i wr => ∃ (k q : Nat) (out : List Bool), i = .int .i64 k ∧ c = .int .i64 q ∧ k ≤ m + n + 1 ∧ q ≤ 1 ∧ out.length = k ∧ ExactM.val out + q * 2 ^ k = ExactM.val (a.take k) + ExactM.val (b.take k) ∧ BoolRow wr w.heap.size y out ∧ Below w.heap.size w wr) (fun _ _ i _ => m + n + 1 - (intOf i).toNat)
  case atStart => exact ⟨0, 0, [], rfl, rfl, by omega, by omega, rfl, by simp [ExactM.val], BoolRow.nil_ _ _, Below.refl _ _⟩
  case round =>
    obtain ⟨k, q, out, rfl, rfl, hk, hq, hlen, heq, hown, hbw⟩ := hrel
    have HL := Lib.hid hlen
    have HE := Lib.hid heq
    have hsz := hbw.size
    clear hlen heq
    by_cases hlt : k ≤ m + n
    · have hd : decide ((k : Int) ≤ (m : Int) + (n : Int)) = true := decide_eq_true (by omega)
      have hd2 : decide (k ≤ m + n) = true := decide_eq_true hlt
      have hbA := fun w' (hx : Below w.heap.size w w') => bit_any (.slice A m ca) a k w' (hA.below hx)
      have hbB := fun w' (hx : Below w.heap.size w w') => bit_any (.slice B n cb) b k w' (hB.below hx)
      have la := ExactM.bitN_le a k
      have lb := ExactM.bitN_le b k
      obtain ⟨t, ht⟩ : ∃ t, t = ExactM.bitN a k + ExactM.bitN b k + q := ⟨_, rfl⟩
      have hst := ExactM.plus_step a b out k q t HL.out HE.out ht
      obtain ⟨x, hx⟩ : ∃ x, x = ExactM.bitN a k := ⟨_, rfl⟩
      obtain ⟨y, hy⟩ : ∃ x, x = ExactM.bitN b k := ⟨_, rfl⟩
      rw [← hx] at hbA la ht
      rw [← hy] at hbB lb ht
      obtain ⟨z, hz⟩ : ∃ z, z = (t % 2 == 1) := ⟨_, rfl⟩
      rw [← hz] at hst
      have HST := Lib.hid hst
      have et : (x : Int) + (y : Int) + (q : Int) = (t : Int) := by omega
      have hze : ((t : Int) % 2 == 1) = z := by rw [hz, Bool.eq_iff_iff]; simp; omega
      have htl : t ≤ 3 := by omega
      have hol : out.length ≤ 100000 := by rw [HL.out]; omega
      clear hst hx hy hz ht
      go_wp2_with fail
      refine (hbA _ hbw).mono ?_
      rintro e w' ⟨rfl, rfl⟩
      go_wp2_with fail
      refine (hbB _ hbw).mono ?_
      rintro e w' ⟨rfl, rfl⟩
      clear hbA hbB
      go_wp2_with (at_builtin; refine wpList_append_bool rfl _ _ rfl w.heap.size _ out rfl (World.ownsRow.alloc hown _) wr.heap.size _ z rfl (by simp) (by simp; omega) (by omega) ?_; intro v' w1 hown' hb1)
      go_wp2
      refine ⟨⟨k + 1, t / 2, out ++ [z], by go_num, by go_num, by omega, by omega, by simp [HL.out], HST.out, hown', (hbw.alloc (by omega) _).trans hb1⟩, by simp [intOf]; omega⟩
    · have hd : decide ((k : Int) ≤ (m : Int) + (n : Int)) = false := decide_eq_false (by omega)
      have hd2 : decide (k ≤ m + n) = false := decide_eq_false hlt
      have hend := ExactM.plus_end a b out k q (by rw [← HM.out, ← HN.out]; omega) HL.out hq HE.out
      have hT := fun w' (hx : w' = wr) => trim_any u5 out w' (by rw [HL.out]; omega) (by rw [hx]; exact hown.rd)
      rw [hend] at hT
      clear hend
      go_wp2_with fail
      refine (hT _ rfl).mono ?_
      rintro e w' ⟨⟨v', rfl, hR, hob⟩, rfl⟩
      have HR := Lib.hid hR
      have hfr := fun b hb => (World.ownsRow.lt hown b hb).1
      have HFR := Lib.hid hfr
      have HOB := Lib.hid hob
      clear hR hT hown hfr hob
      go_wp2
      go_ret
      exact ⟨_, rfl, HR.out, hbw, fun b hb => HFR.out b (HOB.out.symm.trans hb)⟩
end Go.Proofs.Ythkcpaanegjodaa
