/- CrcTells answers true: the walk. -/
import Derived.Test.YtjcfegjjdpembaaCrcN
namespace Go.Proofs.Ytjcfegjjdpembaa
open Go.RowKit

theorem append_ofBytes (x : List UInt8) (t : ByteArray) : ofBytes x ++ t = ofBytes (x ++ t.data.toList) := by
  apply ByteArray.ext
  simp [ofBytes]
theorem size_ofBytes' (l : List UInt8) : (ofBytes l).size = l.length := by simp [ofBytes, ByteArray.size]

/-- what Open and the document's Open both answer -/
def openV (x : List UInt8) : ByteArray := if x.length < 4 then ⟨#[]⟩ else if x = CrcM.sealed (x.take (x.length - 4)) then ofBytes (x.take (x.length - 4)) else ⟨#[]⟩
def openC (x : List UInt8) : Int := if x.length < 4 then 2 else if x = CrcM.sealed (x.take (x.length - 4)) then 0 else 8

theorem open_all (x : List UInt8) (w : World) (h : x.length ≤ 100000) :
    Calls Try.prog 11 #[.string (ofBytes x)] w fun e w' => e = .returned (.tuple #[.string (openV x), .int .i64 (openC x)]) ∧ Below w.heap.size w w' := by
  have hs := size_ofBytes' x
  unfold openV openC
  by_cases h4 : x.length < 4
  · rw [if_pos h4, if_pos h4]
    exact (open_short _ w (by omega)).mono fun e w' ⟨he, hw⟩ => ⟨he, by subst hw; exact Below.refl _ _⟩
  · rw [if_neg h4, if_neg h4]
    by_cases hb : x = CrcM.sealed (x.take (x.length - 4))
    · rw [if_pos hb, if_pos hb]
      have := open_good (ofBytes x) (x.length - 4) w (by omega) (by omega) (by rw [ofBytes_list]; exact hb)
      rw [ofBytes_list] at this
      exact this
    · rw [if_neg hb, if_neg hb]
      exact open_bad (ofBytes x) (x.length - 4) w (by omega) (by omega) (by rw [ofBytes_list]; exact hb)

theorem refopen_all (x : List UInt8) (w : World) (h : x.length ≤ 100000) :
    Calls Try.prog 12 #[.string (ofBytes x)] w fun e w' => e = .returned (.tuple #[.string (openV x), .int .i64 (openC x)]) ∧ Below w.heap.size w w' := by
  have hs := size_ofBytes' x
  unfold openV openC
  by_cases h4 : x.length < 4
  · rw [if_pos h4, if_pos h4]
    exact (refopen_short _ w (by omega)).mono fun e w' ⟨he, hw⟩ => ⟨he, by subst hw; exact Below.refl _ _⟩
  · rw [if_neg h4, if_neg h4]
    by_cases hb : x = CrcM.sealed (x.take (x.length - 4))
    · rw [if_pos hb, if_pos hb]
      have := refopen_good (ofBytes x) (x.length - 4) w (by omega) (by omega) (by rw [ofBytes_list]; exact hb)
      rw [ofBytes_list] at this
      exact this
    · rw [if_neg hb, if_neg hb]
      exact refopen_bad (ofBytes x) (x.length - 4) w (by omega) (by omega) (by rw [ofBytes_list]; exact hb)

theorem Strs.keep {w w' : World} {A : Option Addr} {n : Nat} {l : List ByteArray} (h : Strs w A n l) {B : Nat} (hB : ∀ b o, A = some ⟨b, o, none⟩ → b < B) (hb : Below B w w') : Strs w' A n l :=
  ⟨h.1, fun k hk => by
    obtain ⟨b, o, e, hlt, hc⟩ := h.2 k hk
    exact ⟨b, o, e, Nat.lt_of_lt_of_le hlt hb.size, (hb.cell (p := ⟨b, o + k, none⟩) (hB b o e)).trans hc⟩⟩

theorem refsum_all (x : List UInt8) (w : World) (h : x.length ≤ 100000) :
    Calls Try.prog 9 #[.string (ofBytes x)] w fun e w' => e = .returned (.int .u32 (CrcM.sum x : Nat)) ∧ w = w' := by
  have := refsum_any (ofBytes x) w (by rw [size_ofBytes']; omega)
  rw [ofBytes_list] at this
  exact this
theorem seal_all (x : List UInt8) (w : World) (h : x.length ≤ 100000) :
    Calls Try.prog 14 #[.string (ofBytes x)] w fun e w' => e = .returned (.string (ofBytes (CrcM.sealed x))) ∧ Below w.heap.size w w' := by
  have := Seal_any (ofBytes x) w (by rw [size_ofBytes']; omega)
  rw [ofBytes_list] at this
  exact this
theorem refseal_all (x : List UInt8) (w : World) (h : x.length ≤ 100000) :
    Calls Try.prog 15 #[.string (ofBytes x)] w fun e w' => e = .returned (.string (ofBytes (CrcM.sealed x))) ∧ Below w.heap.size w w' := by
  have := refseal_any (ofBytes x) w (by rw [size_ofBytes']; omega)
  rw [ofBytes_list] at this
  exact this
theorem add_more (g d : Nat) (x : List UInt8) (t : ByteArray) (y : List UInt8) (hy : y = x ++ t.data.toList) (hd : d = 0 ∨ d = 1) (w : World) (hx : x.length ≤ 100000) (ht : t.size ≤ 100000) (hm : GMtr w g d 0 (16 * d) (CrcM.sum x) x.length) :
    Calls Try.prog 7 #[.pointer (some ⟨g, 0, none⟩), .string t] w fun e w' => e = .returned (.pointer (some ⟨g, 0, none⟩)) ∧ GMtr w' g 1 0 (16 * 1) (CrcM.sum y) y.length ∧ w.grownBy w' (some g) := by
  refine (add_any g d _ _ hd t w (CrcM.sum_lt x) (by omega) (by omega) hm).mono fun e w' ⟨h1, h2, h3⟩ => ⟨h1, ?_, h3⟩
  rw [hy, ← sum_more, List.length_append]
  exact h2
theorem cat_none (l : List ByteArray) : cat (l.take 0) = [] := by simp [cat]

set_option maxHeartbeats 4000000 in
set_option maxRecDepth 100000 in
theorem tells_main (A : Option Addr) (n cp : Nat) (l : List ByteArray) (w : World) (hn : n ≤ 30) (hS : Strs w A n l) (hA : A = none → cp = 0) :
    Calls Try.prog 3 #[.slice A n cp] w fun e w' => e = .returned (.bool true) ∧ Below w.heap.size w w' := by
  have hn1 : decide ((30 : Int) < (n : Int)) = false := decide_eq_false (by omega)
  go_enter Try.func3, Try.ntmps3
  go_wp2_with fail
  refine (awake_any _).mono ?_
  rintro e w1 ⟨rfl, b1⟩
  go_wp2_with fail
  refine (new_any _).mono ?_
  rintro e w2 ⟨rfl, rfl⟩
  have hm0 := mtr_new w1 l
  have b2 : Below w.heap.size w (w1.alloc (.cells (mcells 0 0 0) 58)) := b1.alloc b1.size _
  have hg := b1.size
  obtain ⟨g, hgE⟩ : ∃ g, g = w1.heap.size := ⟨_, rfl⟩
  rw [← hgE] at hm0 hg
  generalize w1.alloc (.cells (mcells 0 0 0) 58) = w2 at hm0 b2 ⊢
  go_wp2_with fail
  rw [← hgE]
  clear hgE b1
  go_loopw [3, 5] (fun a i wr => ∃ k d : Nat, k ≤ n ∧ i = .int .i64 k ∧ a = .string (ofBytes (cat (l.take k))) ∧ (cat (l.take k)).length ≤ 6000 ∧ (d = 0 ∨ d = 1) ∧ GMtr wr g d 0 (16 * d) (CrcM.sum (cat (l.take k))) (cat (l.take k)).length ∧ Below w.heap.size w wr) (fun _ i _ => n - (intOf i).toNat)
  case atStart => exact ⟨0, 0, by omega, rfl, by rw [cat_none]; rfl, by rw [cat_none]; simp, .inl rfl, hm0, b2⟩
  case round =>
    clear hm0 b2
    obtain ⟨k, d, hk, rfl, rfl, hlen, hd, hm, hb⟩ := hrel
    by_cases hlt : k < n
    · have hkl : k < l.length := by rw [hS.1]; exact hlt
      obtain ⟨bb, oo, rfl, hbl, hcb⟩ := hS.2 k hkl
      have hct := cat_take l k hkl
      have hcell : wr.cell? ⟨bb, oo + k, none⟩ = some (.string l[k]) := (hb.cell (p := ⟨bb, oo + k, none⟩) hbl).trans hcb
      obtain ⟨t, htE⟩ : ∃ t, t = l[k] := ⟨_, rfl⟩
      rw [← htE] at hct hcell
      obtain ⟨x, hx⟩ : ∃ x, x = cat (l.take k) := ⟨_, rfl⟩
      obtain ⟨y, hy⟩ : ∃ y, y = cat (l.take (k + 1)) := ⟨_, rfl⟩
      rw [← hx] at hlen hm hct ⊢
      rw [← hy] at hct
      have hcc : ofBytes x ++ t = ofBytes y := by rw [append_ofBytes, hct]
      have HY := Lib.hid hy
      have HCT := Lib.hid hct
      have hyl : y.length = x.length + t.size := by rw [hct, List.length_append]; simp
      obtain ⟨N, hN⟩ : ∃ N, N = x.length := ⟨_, rfl⟩
      obtain ⟨M, hM⟩ : ∃ M, M = y.length := ⟨_, rfl⟩
      have hsx : (ofBytes x).size = N := by rw [size_ofBytes', hN]
      have hsy : (ofBytes y).size = M := by rw [size_ofBytes', hM]
      have hNl : N ≤ 6000 := by omega
      have hNl2 : x.length ≤ 6000 := hlen
      have hMl : M ≤ N + t.size := by omega
      have hMl2 : y.length ≤ N + t.size := by omega
      have HM := Lib.hid hM
      have HCB := Lib.hid hcb
      clear hy hct hx hN hM hlen hyl htE hcb
      have hkn : decide ((k : Int) < (n : Int)) = true := decide_eq_true (by omega)
      by_cases ht : t.size ≤ 2000
      · have ht1 : decide ((2000 : Int) < (t.size : Int)) = false := decide_eq_false (by omega)
        by_cases hN4 : N ≤ 4000
        · have hN1 : decide ((4000 : Int) < (N : Int)) = false := decide_eq_false (by omega)
          go_wp2_with fail
          refine (add_more g d x t y HCT.out hd _ (by omega) (by omega) hm).mono ?_
          rintro e w3 ⟨rfl, hm3, hg3⟩
          have hb3 : Below w.heap.size w w3 := hb.grown hg3 hb.size (fun j hj => by injection hj with hj; omega)
          have c19 := hm3.c19
          have c20 := hm3.c20
          rw [← HM.out] at c20
          go_wp2_with fail
          refine (msum_any _ _ _ c19).mono ?_
          rintro e w3' ⟨rfl, rfl⟩
          go_wp2_with fail
          refine (refsum_all y _ (by omega)).mono ?_
          rintro e w3' ⟨rfl, rfl⟩
          go_wp2_with fail
          refine (mlen_any _ _ _ c20).mono ?_
          rintro e w3' ⟨rfl, rfl⟩
          go_wp2_with fail
          refine ⟨⟨k + 1, 1, by omega, by go_num, by rw [← HY.out], by rw [← HY.out]; omega, .inr rfl, by rw [← HY.out]; exact hm3, hb3⟩, by simp [intOf]; omega⟩
        · have hN1 : decide ((4000 : Int) < (N : Int)) = true := decide_eq_true (by omega)
          go_wp2_with fail
          go_ret
          exact ⟨rfl, hb⟩
      · have ht1 : decide ((2000 : Int) < (t.size : Int)) = true := decide_eq_true (by omega)
        go_wp2_with fail
        go_ret
        exact ⟨rfl, hb⟩
    · have hkE : l.take k = l := List.take_of_length_le (by rw [hS.1]; omega)
      rw [hkE] at hlen hm ⊢
      clear hkE
      obtain ⟨x, hx⟩ : ∃ x, x = cat l := ⟨_, rfl⟩
      rw [← hx] at hlen ⊢
      have HX := Lib.hid hx
      clear hx hm
      have hkn : decide ((k : Int) < (n : Int)) = false := decide_eq_false (by omega)
      go_wp2_with fail
      refine (open_all x _ (by omega)).mono ?_
      rintro e w3 ⟨rfl, b3⟩
      go_wp2_with fail
      refine (refopen_all x _ (by omega)).mono ?_
      rintro e w4 ⟨rfl, b4⟩
      have hb4 : Below w.heap.size w w4 := (hb.trans (b3.mono hb.size)).trans (b4.mono (Nat.le_trans hb.size b3.size))
      clear b3 b4
      have hS4 : Strs (w4.alloc (.cells #[] 9)) A n l := (hS.below hb4).below ((Below.refl _ _).alloc (Nat.le_refl _) _)
      have hS4h := Lib.hid hS4
      have hSh := Lib.hid hS
      have hAh := Lib.hid hA
      clear hS4 hS hA
      go_wp2_with (at_builtin; refine wpList_append_strs rfl (.tmp 67) (.tmp 68) rfl w4.heap.size w4.heap.size rfl (heap_alloc_new w4 _) (Nat.le_refl _) A n cp l rfl hS4h.out hAh.out (by omega) ?_; intro A' c' w5 hS5 b5)
      have hb5 : Below w.heap.size w w5 := (hb4.alloc hb4.size _).trans (b5.mono hb4.size)
      have hcl : (cat l).length ≤ 100000000 := by rw [← HX.out]; omega
      refine (sum_any A' n c' l _ (by omega) hcl hS5).mono ?_
      rintro e w6 ⟨rfl, b6⟩
      rw [← HX.out]
      have hb6 : Below w.heap.size w w6 := hb5.trans (b6.mono hb5.size)
      clear b5 b6 hcl hS5
      go_wp2_with fail
      refine (refsum_all x _ (by omega)).mono ?_
      rintro e w6' ⟨rfl, rfl⟩
      go_wp2_with fail
      refine (seal_all x _ (by omega)).mono ?_
      rintro e w7 ⟨rfl, b7⟩
      go_wp2_with fail
      refine (refseal_all x _ (by omega)).mono ?_
      rintro e w8 ⟨rfl, b8⟩
      have hb8 : Below w.heap.size w w8 := (hb6.trans (b7.mono hb6.size)).trans (b8.mono (Nat.le_trans hb6.size b7.size))
      go_wp2_with fail
      go_ret
      exact ⟨rfl, hb8⟩

set_option maxHeartbeats 4000000 in
set_option maxRecDepth 100000 in
theorem tells_long (A : Option Addr) (n cp : Nat) (w : World) (hn : ¬ n ≤ 30) :
    Calls Try.prog 3 #[.slice A n cp] w fun e w' => e = .returned (.bool true) ∧ Below w.heap.size w w' := by
  have hn1 : decide ((30 : Int) < (n : Int)) = true := decide_eq_true (by omega)
  go_enter Try.func3, Try.ntmps3
  go_wp2_with fail
  refine (awake_any _).mono ?_
  rintro e w1 ⟨rfl, b1⟩
  go_wp2_with fail
  go_ret
  exact ⟨rfl, b1⟩
end Go.Proofs.Ytjcfegjjdpembaa
