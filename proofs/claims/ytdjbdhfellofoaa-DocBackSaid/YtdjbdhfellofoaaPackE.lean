
/- A rising row, written by the document. -/
import Derived.Test.YtdjbdhfellofoaaPackD
namespace Go.Proofs.Ytdjbdhfellofoaa
open Go.RowKit

theorem below_drewN {w : World} (k : Nat) : Below w.heap.size w (w.drewN k) := ⟨rfl, rfl, rfl, Nat.le_refl _, fun _ _ => rfl⟩

theorem at_one {l : List Int} {k : Nat} {x : Int} (h : l[k]? = some x) : ∀ j, k + 1 = j + 1 → l[j]? = some x := fun j hj => by
  have : j = k := by omega
  subst this
  exact h

set_option maxHeartbeats 800000 in
set_option maxRecDepth 100000 in
theorem refrising_any (A : Option Addr) (n cp : Nat) (l : List Int) (w : World) (hn : n ≤ 1000000) (hI : Ints w A n l) (h64 : I64 l) :
    Calls Try.prog 25 #[.slice A n cp] w fun e w' => e = .returned (.tuple #[.string (ofBytes (risS l)), .int .i64 (risC l)]) ∧ Below w.heap.size w w' := by
  have hlen := Lib.hid hI.1
  have hn64 : n < 18446744073709551616 := by omega
  go_enter Try.func25, Try.ntmps25
  go_wp2_with fail
  refine (word_any n _ hn64).mono ?_
  rintro e w1 ⟨rfl, hb1⟩
  have h10 := PackM.vw_len10 n hn64
  have hst : PackM.vw n ++ PackM.diffs (-1) (l.drop 0) = PackM.risB l := by rw [List.drop_zero, PackM.risB, hlen.out]
  have HST := Lib.hid hst
  clear hst
  go_wp2
  go_loopw [4, 5] (fun s i wr => ∃ (k : Nat) (acc : List UInt8) (la : Int), k ≤ n ∧ i = .int .i64 k ∧ (k = 0 → la = -1) ∧ (∀ j, k = j + 1 → l[j]? = some la) ∧ (0 < k → 0 ≤ la) ∧ -1 ≤ la ∧ la ≤ 9223372036854775807 ∧ acc.length ≤ 10 + 10 * k ∧ s = .string (ofBytes acc) ∧ PackM.rises (-1) l = PackM.rises la (l.drop k) ∧ acc ++ PackM.diffs la (l.drop k) = PackM.risB l ∧ Below w.heap.size w wr) (fun _ i _ => n - (intOf i).toNat)
  case atStart => exact ⟨0, PackM.vw n, -1, by omega, rfl, fun _ => rfl, fun j h => by omega, fun h => by omega, by omega, by omega, by omega, rfl, by rw [List.drop_zero], HST.out, hb1⟩
  case round =>
    clear hb1
    obtain ⟨k, acc, la, hk, rfl, hz0, hzs, hla0, hla1, hla2, hacc, rfl, hris, heq, hb⟩ := hrel
    have HR := Lib.hid hris
    have HE := Lib.hid heq
    have HZ0 := Lib.hid hz0
    have HZS := Lib.hid hzs
    clear hris heq hz0 hzs
    have hsz := hb.size
    by_cases hlt : k < n
    · have hkl : k < l.length := by rw [hlen.out]; exact hlt
      obtain ⟨b, o, rfl, hbl, _⟩ := hI.2 k hkl
      have c1 := hI.at_ hkl rfl hb
      have h6 := h64 l[k] (List.getElem_mem hkl)
      have hdr := List.drop_eq_getElem_cons hkl
      have hgk : l[k]? = some l[k] := List.getElem?_eq_getElem hkl
      obtain ⟨x, hx⟩ : ∃ x, x = l[k] := ⟨_, rfl⟩
      rw [← hx] at c1 h6 hdr hgk
      have HD := Lib.hid hdr
      have HG := Lib.hid hgk
      clear hx hdr hgk
      have hd : decide ((k : Int) < (n : Int)) = true := decide_eq_true (by omega)
      by_cases hv : x ≤ la
      · have hf : PackM.rises (-1) l = false := by rw [HR.out, HD.out]; simp only [PackM.rises, Bool.and_eq_false_iff]; left; exact decide_eq_false (by omega)
        have hs : risS l = [] := by unfold risS; rw [hf]; rfl
        have hc : risC l = 1 := by unfold risC; rw [hf]; rfl
        have HS := Lib.hid hs
        have HC := Lib.hid hc
        clear hs hc hf
        by_cases hneg : x < 0
        · have hd2 : decide (x < 0) = true := decide_eq_true hneg
          go_wp2
          go_quiet (fail)
          go_wp2
          go_ret2
          exact ⟨by rw [HS.out, HC.out]; rfl, hb.trans ((below_drewN _).mono hsz)⟩
        · have hd2 : decide (x < 0) = false := decide_eq_false hneg
          obtain ⟨j, rfl⟩ : ∃ j, k = j + 1 := by
            rcases Nat.eq_zero_or_pos k with e | e
            · have := HZ0.out e; omega
            · exact ⟨k - 1, by omega⟩
          have hjl : j < l.length := by omega
          have c2 := hI.at_ hjl rfl hb
          have hla : l[j] = la := by
            have := HZS.out j rfl
            rw [List.getElem?_eq_getElem hjl] at this
            injection this
          rw [hla] at c2
          clear hla
          have hd3 : decide ((0 : Int) < ((j + 1 : Nat) : Int)) = true := decide_eq_true (by omega)
          have hd4 : decide (x ≤ la) = true := decide_eq_true hv
          go_wp2
          go_quiet (fail)
          go_wp2
          go_ret2
          exact ⟨by rw [HS.out, HC.out]; rfl, hb.trans ((below_drewN _).mono hsz)⟩
      · have hd2 : decide (x < 0) = false := decide_eq_false (by omega)
        obtain ⟨d, hdE⟩ : ∃ d : Nat, d = (x - 1 - la).toNat := ⟨_, rfl⟩
        have hd64 : d < 18446744073709551616 := by omega
        have h10 := PackM.vw_len10 d hd64
        have HDE := Lib.hid hdE
        have hr2 : PackM.rises (-1) l = PackM.rises x (l.drop (k + 1)) := by
          rw [HR.out, HD.out]
          simp only [PackM.rises]
          rw [decide_eq_true (by omega), Bool.true_and]
        have he2 : (acc ++ PackM.vw d) ++ PackM.diffs x (l.drop (k + 1)) = PackM.risB l := by
          rw [← HE.out, HD.out, List.append_assoc, hdE]
          rfl
        have HR2 := Lib.hid hr2
        have HE2 := Lib.hid he2
        clear hr2 he2
        have hs1 : (ofBytes acc).size = acc.length := size_ofBytes _
        have hs2 : (ofBytes (PackM.vw d)).size = (PackM.vw d).length := size_ofBytes _
        rcases Nat.eq_zero_or_pos k with e | e
        · subst e
          have hla := HZ0.out rfl
          subst hla
          have hxd : x = (d : Int) := by omega
          subst hxd
          clear hdE
          rw [show o + 0 = o from rfl] at c1
          have hd3 : decide ((0 : Int) < ((0 : Nat) : Int)) = false := rfl
          go_wp2
          go_quiet (fail)
          go_wp2_with fail
          refine (word_any d _ hd64).mono ?_
          rintro e w2 ⟨rfl, hb2⟩
          go_wp2
          go_roundw
          case rel =>
            refine ⟨0 + 1, acc ++ PackM.vw d, d, by omega, by go_num, fun h => by omega, at_one HG.out, fun _ => by omega, by omega, by omega, by simp; omega, by rw [append_ofBytes, ofBytes_list], HR2.out, HE2.out, (hb.trans ((below_drewN _).mono hsz)).trans (hb2.mono hsz)⟩
          case measure => simp [intOf]; omega
        · obtain ⟨j, rfl⟩ : ∃ j, k = j + 1 := ⟨k - 1, by omega⟩
          have hjl : j < l.length := by omega
          have c2 := hI.at_ hjl rfl hb
          have hla : l[j] = la := by
            have := HZS.out j rfl
            rw [List.getElem?_eq_getElem hjl] at this
            injection this
          rw [hla] at c2
          clear hla
          have hd3 : decide ((0 : Int) < ((j + 1 : Nat) : Int)) = true := decide_eq_true (by omega)
          have hd4 : decide (x ≤ la) = false := decide_eq_false hv
          have hla3 := hla0 (by omega)
          have hw : IntKind.u64.wrap (IntKind.i64.wrap (IntKind.i64.wrap (x - la) - 1)) = (d : Int) := by
            rw [IntWalk.i64_in (x - la) (by omega), IntWalk.i64_in (x - la - 1) (by omega), IntWalk.u64_in _ (by omega)]; omega
          have HW := Lib.hid hw
          have hj0 : (0 : Int) ≤ (j : Int) := by omega
          have hjn : (j : Int) < (n : Int) := by omega
          clear hdE hw
          go_wp2
          go_quiet (fail)
          go_wp2
          have hj1 : IntKind.i64.wrap ((j : Int) + 1 - 1) = (j : Int) := by rw [IntWalk.i64_in _ (by omega)]; omega
          have hj2 : IntKind.i64.wrap (j : Int) = (j : Int) := by rw [IntWalk.i64_in _ (by omega)]
          go_region_with (go_at_call 48; rw [HW.out]; refine (word_any d _ hd64).mono ?_; rintro e w2 ⟨rfl, hb2⟩)
          all_goals clear hj1 hj2
          all_goals go_wp2
          all_goals exact ⟨⟨j + 1 + 1, acc ++ PackM.vw d, x, by omega, by go_num, fun h => by omega, at_one HG.out, fun _ => by omega, by omega, by omega, by simp; omega, by rw [append_ofBytes, ofBytes_list], HR2.out, HE2.out, (hb.trans ((below_drewN _).mono hsz)).trans (hb2.mono hsz)⟩, by simp [intOf]; omega⟩
    · have hd : decide ((k : Int) < (n : Int)) = false := decide_eq_false (by omega)
      have hke : l.drop k = [] := List.drop_of_length_le (by rw [hlen.out]; omega)
      have hf : PackM.rises (-1) l = true := by rw [HR.out, hke]; rfl
      have hs : risS l = acc := by unfold risS; rw [hf, if_pos rfl, ← HE.out, hke]; simp [PackM.diffs]
      have hc : risC l = 0 := by unfold risC; rw [hf]; rfl
      have HS := Lib.hid hs
      have HC := Lib.hid hc
      clear hs hc hf hke
      go_wp2
      go_ret2
      exact ⟨by rw [HS.out, HC.out]; rfl, hb⟩
end Go.Proofs.Ytdjbdhfellofoaa
