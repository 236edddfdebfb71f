/- Add's contract. -/
import Derived.Test.YtjcfegjjdpembaaCrcE
namespace Go.Proofs.Ytjcfegjjdpembaa
open Go.RowKit

theorem do_any (b d s n : Nat) (hd : d = 0 ∨ d = 1) (pl : Addr) (w : World) (hpl : pl.block < w.heap.size) (hne : ¬ b = pl.block) (hp : w.cell? pl = some (.pointer (some ⟨b, 0, none⟩))) (hm : GMtr w b d 0 (16 * d) s n) :
    Calls Try.prog 16 #[.pointer (some ⟨b, 0, none⟩), .func (.func 17) #[] #[.pointer (some pl)]] w fun e w' => e = .returned (.tuple #[]) ∧ GMtr w' b 1 0 16 s n ∧ w.grownBy w' (some b) := by
  rcases hd with rfl | rfl
  · exact do_first b s n pl w hpl hne hp hm
  · exact (do_done ⟨b, 0, none⟩ _ w hm.c0).mono fun e w' ⟨he, hw⟩ => ⟨he, by subst hw; exact hm, by subst hw; exact World.grownBy.refl _ _⟩

theorem cell_of_grown {a w : World} {r : Option Nat} (h : a.grownBy w r) {p : Addr} (hp : p.block < a.heap.size) (hr : some p.block ≠ r) : w.cell? p = a.cell? p := World.cell?_of_block (w := a) (h.block p.block hp hr)

theorem not_u32 (s : Nat) (h : s < 4294967296) : bits .xor .u32 IntKind.u32.max (s : Int) = ((4294967295 - s : Nat) : Int) := by
  have := u32_xor_nat 4294967295 s (by decide) h
  rw [Nat.xor_comm, ← CrcM.xor_ones h] at this
  exact this
theorem and15 (c : Nat) (h : c < 4294967296) : bits .and .u32 (c : Int) 15 = ((c % 16 : Nat) : Int) := by
  have := u32_and_nat c 15 h (by decide)
  have e : c &&& 15 = c % 16 := Nat.and_two_pow_sub_one_eq_mod c 4
  rw [e] at this
  exact this
/-- one half byte, as the walk spells it -/
theorem half_step (x : Nat) (h : x < 4294967296) : ∃ i q m : Nat, i < 16 ∧ m = CrcM.mvn 4 i ∧ bits .and .u32 (x : Int) 15 = (i : Int) ∧ (x : Int) / 16 = (q : Int) ∧ bits .xor .u32 (m : Int) (q : Int) = ((CrcM.mvn 4 x : Nat) : Int) := by
  refine ⟨x % 16, x / 16, _, by omega, rfl, and15 x h, by omega, ?_⟩
  rw [u32_xor_nat _ _ (CrcM.mvn_lt 4 (by omega)) (by omega), ← CrcM.mvn_half]

set_option maxRecDepth 100000 in
set_option maxHeartbeats 1600000 in
theorem add_any (b d s n : Nat) (hd : d = 0 ∨ d = 1) (t : ByteArray) (w : World) (hs : s < 4294967296) (hn : n ≤ 100000000) (ht : t.size ≤ 100000000) (hm : GMtr w b d 0 (16 * d) s n) :
    Calls Try.prog 7 #[.pointer (some ⟨b, 0, none⟩), .string t] w fun e w' => e = .returned (.pointer (some ⟨b, 0, none⟩)) ∧ GMtr w' b 1 0 16 (4294967295 - CrcM.run (4294967295 - s) t.data.toList) (n + t.size) ∧ w.grownBy w' (some b) := by
  have hmf : ∀ (fn : Fn) (first cap : Array Value) (w : World), (Instr.makeFunc fn first cap).run Try.prog w = .ok (.func fn first cap) w := fun _ _ _ _ => rfl
  have hb := hm.lt
  obtain ⟨r0, hr0⟩ : ∃ r, r = 4294967295 - s := ⟨_, rfl⟩
  have hnt := not_u32 s hs
  rw [← hr0] at hnt
  rw [← hr0]
  have hr0lt : r0 < 4294967296 := by omega
  have HR := Lib.hid hr0
  clear hr0
  go_enter Try.func7, Try.ntmps7
  go_wp2_with (go_at_call 16; refine (do_any b d s n hd ⟨w.heap.size, 0, none⟩ _ (by simp) (by simp; omega) (by simp) (hm.alloc _)).mono ?_; rintro e w1 ⟨rfl, hm1, hg1⟩; have p1 := cell_of_grown hg1 (p := ⟨w.heap.size, 0, none⟩) (by simp) (by simp; omega); simp at p1; have c19 := hm1.c19)
  go_loop [5, 19] (fun c i => ∃ k : Nat, k ≤ t.size ∧ i = .int .i64 k ∧ c = .int .u32 (CrcM.run r0 (t.data.toList.take k) : Nat)) (fun _ i => t.size - (intOf i).toNat)
  case atStart => exact ⟨0, by omega, rfl, rfl⟩
  case round =>
    obtain ⟨k, hk, rfl, rfl⟩ := hrel
    by_cases hlt : k < t.size
    · have hc := CrcM.run_lt (t.data.toList.take k) hr0lt
      have hstep : CrcM.run r0 (t.data.toList.take (k + 1)) = CrcM.mvn 4 (CrcM.mvn 4 (CrcM.run r0 (t.data.toList.take k) ^^^ t[k].toNat)) := by
        rw [List.take_succ_eq_append_getElem (by simpa using hlt), CrcM.run_snoc, CrcM.up, ← CrcM.mvn_add]
        rfl
      have hby := t[k].toNat_lt
      have hx0 := u32_xor_nat (CrcM.run r0 (t.data.toList.take k)) t[k].toNat hc (by omega)
      have HS := Lib.hid hstep
      clear hstep
      obtain ⟨c, hcE⟩ : ∃ c, c = CrcM.run r0 (t.data.toList.take k) := ⟨_, rfl⟩
      rw [← hcE] at hx0 hc HS ⊢
      have HC := Lib.hid hcE
      clear hcE
      obtain ⟨x, hxE⟩ : ∃ x, x = c ^^^ t[k].toNat := ⟨_, rfl⟩
      have hxlt : x < 4294967296 := by rw [hxE]; exact Nat.xor_lt_two_pow (n := 32) hc (by omega)
      rw [← hxE] at hx0 HS
      clear hxE
      obtain ⟨i1, q1, m1, hi1, hm1E, ha1, hq1, hb1⟩ := half_step x hxlt
      have hct1 := hm1.ctab i1 hi1
      rw [← hm1E] at hct1
      clear hm1E
      have hylt := CrcM.mvn_lt 4 hxlt
      obtain ⟨y, hyE⟩ : ∃ y, y = CrcM.mvn 4 x := ⟨_, rfl⟩
      rw [← hyE] at hb1 hylt HS
      clear hyE
      obtain ⟨i2, q2, m2, hi2, hm2E, ha2, hq2, hb2⟩ := half_step y hylt
      have hct2 := hm1.ctab i2 hi2
      rw [← hm2E] at hct2
      clear hm2E
      go_wp2
      go_round
      case rel => exact ⟨k + 1, by omega, by go_num, by rw [HS.out]⟩
      case measure => simp [intOf]; omega
    · have hke : t.data.toList.take k = t.data.toList := List.take_of_length_le (by simp; omega)
      rw [hke]
      have hc := CrcM.run_lt t.data.toList hr0lt
      clear hke
      obtain ⟨c, hcE⟩ : ∃ c, c = CrcM.run r0 t.data.toList := ⟨_, rfl⟩
      rw [← hcE] at hc ⊢
      have HC := Lib.hid hcE
      clear hcE
      have hnc := not_u32 c hc
      obtain ⟨s2, hs2⟩ : ∃ r, r = 4294967295 - c := ⟨_, rfl⟩
      rw [← hs2] at hnc
      have HS2 := Lib.hid hs2
      clear hs2
      have f19 := hm1.free 19
      have hm2 := hm1.set19 s2
      have hg2 := only_set hg1 19 (.int .u32 (s2 : Nat))
      have p2 := cell_of_grown hg2 (p := ⟨w.heap.size, 0, none⟩) (by simp) (by simp; omega)
      simp at p2
      go_wp2_with (go_at_call 19; refine (iadd_any b n t.size _ (by omega) (by omega) hm2.c20 (hm2.free 20)).mono ?_; rintro e w3 ⟨rfl, rfl⟩; have hm3 := hm2.set20 (n + t.size); have hg3 := only_set hg2 20 (.int .i64 ((n + t.size : Nat) : Int)); have p3 := cell_of_grown hg3 (p := ⟨w.heap.size, 0, none⟩) (by simp) (by simp; omega); simp at p3)
      go_ret
      exact ⟨rfl, by rw [← HC.out, ← HS2.out]; exact hm3, (only_new (World.grownBy.refl w _) _).trans hg3⟩
end Go.Proofs.Ytjcfegjjdpembaa
