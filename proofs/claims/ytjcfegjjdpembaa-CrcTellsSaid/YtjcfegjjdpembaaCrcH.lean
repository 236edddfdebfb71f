/- The document's own sum, by bits. -/
import Derived.Test.YtjcfegjjdpembaaCrcG
namespace Go.Proofs.Ytjcfegjjdpembaa
open Go.RowKit

set_option maxRecDepth 100000 in
set_option maxHeartbeats 1600000 in
theorem refsum_any (t : ByteArray) (w : World) (ht : t.size ≤ 100000000) :
    Calls Try.prog 9 #[.string t] w fun e w' => e = .returned (.int .u32 (CrcM.sum t.data.toList : Nat)) ∧ w = w' := by
  obtain ⟨F, hF⟩ : ∃ F : Nat, F = 4294967295 := ⟨_, rfl⟩
  have hFlt : F < 4294967296 := by omega
  go_enter Try.func9, Try.ntmps9
  go_wp2
  go_loop [3, 4] (fun c i => ∃ k : Nat, k ≤ t.size ∧ i = .int .i64 k ∧ c = .int .u32 (CrcM.run F (t.data.toList.take k) : Nat)) (fun _ i => t.size - (intOf i).toNat)
  case atStart => exact ⟨0, by omega, rfl, by rw [hF]; rfl⟩
  case round =>
    obtain ⟨k, hk, rfl, rfl⟩ := hrel
    have HF := Lib.hid hF
    clear hF
    by_cases hlt : k < t.size
    · have hd : decide ((k : Int) < (t.size : Int)) = true := decide_eq_true (by omega)
      have hc := CrcM.run_lt (t.data.toList.take k) hFlt
      have hstep : CrcM.run F (t.data.toList.take (k + 1)) = CrcM.mvn 8 (CrcM.run F (t.data.toList.take k) ^^^ t[k].toNat) := by
        rw [List.take_succ_eq_append_getElem (by simpa using hlt), CrcM.run_snoc, CrcM.up]
        rfl
      have hby := t[k].toNat_lt
      have hx0 := u32_xor_nat (CrcM.run F (t.data.toList.take k)) t[k].toNat hc (by omega)
      have HS := Lib.hid hstep
      clear hstep
      obtain ⟨c, hcE⟩ : ∃ c, c = CrcM.run F (t.data.toList.take k) := ⟨_, rfl⟩
      rw [← hcE] at hx0 hc HS ⊢
      clear hcE
      obtain ⟨x, hxE⟩ : ∃ x, x = c ^^^ t[k].toNat := ⟨_, rfl⟩
      have hxlt : x < 4294967296 := by rw [hxE]; exact Nat.xor_lt_two_pow (n := 32) hc (by omega)
      rw [← hxE] at hx0 HS
      clear hxE
      go_wp2
      go_loop [3, 5] (fun y j => ∃ m : Nat, m ≤ 8 ∧ j = .int .i64 m ∧ y = .int .u32 (CrcM.mvn m x : Nat)) (fun _ j => 8 - (intOf j).toNat)
      case atStart => exact ⟨0, by omega, rfl, rfl⟩
      case round =>
        obtain ⟨m, hm, rfl, rfl⟩ := hrel
        by_cases hm8 : m < 8
        · have hy := CrcM.mvn_lt m hxlt
          have hy1 : CrcM.mvn (m + 1) x = CrcM.mv (CrcM.mvn m x) := rfl
          obtain ⟨y, hyE⟩ : ∃ y, y = CrcM.mvn m x := ⟨_, rfl⟩
          rw [← hyE] at hy hy1 ⊢
          have HY := Lib.hid hy1
          clear hyE hy1
          by_cases ho : y % 2 = 1
          · have hb : ((y : Int) % 2 == 1) = true := beq_iff_eq.2 (by omega)
            have hv := mv_odd y hy ho
            clear ho
            go_wp2
            go_round
            case rel => exact ⟨m + 1, by omega, by go_num, by rw [HY.out]⟩
            case measure => simp [intOf]; omega
          · have hb : ((y : Int) % 2 == 1) = false := beq_eq_false_iff_ne.2 (by omega)
            have hv := mv_even y ho
            clear ho
            go_wp2
            go_round
            case rel => exact ⟨m + 1, by omega, by go_num, by rw [HY.out]⟩
            case measure => simp [intOf]; omega
        · have h8 : m = 8 := by omega
          subst h8
          go_wp2
          go_round
          case rel => exact ⟨k + 1, by omega, by go_num, by rw [HS.out]⟩
          case measure => simp [intOf]; omega
    · have hke : t.data.toList.take k = t.data.toList := List.take_of_length_le (by simp; omega)
      rw [hke]
      have hc := CrcM.run_lt t.data.toList hFlt
      clear hke
      obtain ⟨c, hcE⟩ : ∃ c, c = CrcM.run F t.data.toList := ⟨_, rfl⟩
      rw [← hcE] at hc ⊢
      have HC := Lib.hid hcE
      clear hcE
      go_wp2
      go_ret
      refine ⟨ret_int ?_, rfl⟩
      have h1 := HC.out
      rw [HF.out] at h1
      unfold CrcM.sum
      rw [← h1]
      omega
end Go.Proofs.Ytjcfegjjdpembaa
