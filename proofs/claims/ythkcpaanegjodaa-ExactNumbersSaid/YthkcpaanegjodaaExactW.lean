
/- The document's differences of rows of bits; comparing rows. -/
import Derived.Test.YthkcpaanegjodaaExactV
namespace Go.Proofs.Ythkcpaanegjodaa
open Go.RowKit

set_option maxHeartbeats 1000000 in
set_option maxRecDepth 100000 in
theorem rminus_any (va vb : Value) (a b : List Bool) (w : World) (ha : a.length ≤ 1000) (hbt : ExactM.Tr b) (hle : ExactM.val b ≤ ExactM.val a) (hA : Rd w va a) (hB : Rd w vb b) :
    Calls Try.prog 49 #[va, vb] w (RetRd (ExactM.ofN (ExactM.val a - ExactM.val b)) w) := by
  have hbl := ExactM.len_le hbt hle
  obtain ⟨A, ca, ea⟩ := hA.len
  obtain ⟨B, cb, eb⟩ := hB.len
  obtain ⟨m, hm⟩ : ∃ m, m = a.length := ⟨_, rfl⟩
  obtain ⟨n, hn⟩ : ∃ m, m = b.length := ⟨_, rfl⟩
  rw [← hm] at ea ha hbl
  rw [← hn] at eb hbl
  have HM := Lib.hid hm
  have HN := Lib.hid hn
  have HLE := Lib.hid hle
  subst ea eb
  clear hm hn hle
  go_enter Try.func49, Try.ntmps49
  go_wp2
  go_loopw [5, 6, 7] (fun y c i wr => ∃ (k q : Nat) (out : List Bool), i = .int .i64 k ∧ c = .int .i64 q ∧ k ≤ m ∧ q ≤ 1 ∧ out.length = k ∧ ExactM.val out + ExactM.val (b.take k) = ExactM.val (a.take k) + q * 2 ^ k ∧ BoolRow wr w.heap.size y out ∧ Below w.heap.size w wr) (fun _ _ i _ => m - (intOf i).toNat)
  case atStart => exact ⟨0, 0, [], rfl, rfl, by omega, by omega, rfl, by simp [ExactM.val], BoolRow.nil_ _ _, Below.refl _ _⟩
  case round =>
    obtain ⟨k, q, out, rfl, rfl, hk, hq, hlen, heq, hown, hbw⟩ := hrel
    have HL := Lib.hid hlen
    have HE := Lib.hid heq
    have hsz := hbw.size
    clear hlen heq
    by_cases hlt : k < m
    · have hd : decide ((k : Int) < (m : Int)) = true := decide_eq_true (by omega)
      have hd2 : decide (k < m) = true := decide_eq_true hlt
      have hbA := fun w' (hx : Below w.heap.size w w') => bit_any (.slice A m ca) a k w' (hA.below hx)
      have hbB := fun w' (hx : Below w.heap.size w w') => bit_any (.slice B n cb) b k w' (hB.below hx)
      have la := ExactM.bitN_le a k
      have lb := ExactM.bitN_le b k
      obtain ⟨t, ht⟩ : ∃ t : Int, t = (ExactM.bitN a k : Int) - (ExactM.bitN b k : Int) - (q : Int) := ⟨_, rfl⟩
      obtain ⟨s1, s2⟩ := ExactM.minus_step a b out k q t hq HL.out HE.out ht
      obtain ⟨x, hx⟩ : ∃ x, x = ExactM.bitN a k := ⟨_, rfl⟩
      obtain ⟨y, hy⟩ : ∃ x, x = ExactM.bitN b k := ⟨_, rfl⟩
      rw [← hx] at hbA la ht
      rw [← hy] at hbB lb ht
      have et : (x : Int) - (y : Int) - (q : Int) = t := by omega
      have t1 : -2 ≤ t := by omega
      have t2 : t ≤ 1 := by omega
      have hol : out.length ≤ 100000 := by rw [HL.out]; omega
      by_cases hneg : t < 0
      · have S := s1 hneg
        obtain ⟨z, hz⟩ : ∃ z, z = decide (t + 2 = 1) := ⟨_, rfl⟩
        rw [← hz] at S
        have HST := Lib.hid S
        have hze : (t + 2 == 1) = z := by rw [hz, Bool.eq_iff_iff]; simp
        have hdn : decide (t < 0) = true := decide_eq_true hneg
        clear S s1 s2 hx hy hz ht
        go_wp2_with fail
        refine (hbA _ hbw).mono ?_
        rintro e w' ⟨rfl, rfl⟩
        go_wp2_with fail
        refine (hbB _ hbw).mono ?_
        rintro e w' ⟨rfl, rfl⟩
        clear hbA hbB
        go_wp2_with (at_builtin; refine wpList_append_bool rfl _ _ rfl w.heap.size _ out rfl (World.ownsRow.alloc hown _) wr.heap.size _ z rfl (by simp) (by simp; omega) (by omega) ?_; intro v' w1 hown' hb1)
        go_wp2
        refine ⟨⟨k + 1, 1, out ++ [z], by go_num, rfl, by omega, by omega, by simp [HL.out], HST.out, hown', (hbw.alloc (by omega) _).trans hb1⟩, by simp [intOf]; omega⟩
      · have S := s2 hneg
        obtain ⟨z, hz⟩ : ∃ z, z = decide (t = 1) := ⟨_, rfl⟩
        rw [← hz] at S
        have HST := Lib.hid S
        have hze : (t == 1) = z := by rw [hz, Bool.eq_iff_iff]; simp
        have hdn : decide (t < 0) = false := decide_eq_false hneg
        clear S s1 s2 hx hy hz ht
        go_wp2_with fail
        refine (hbA _ hbw).mono ?_
        rintro e w' ⟨rfl, rfl⟩
        go_wp2_with fail
        refine (hbB _ hbw).mono ?_
        rintro e w' ⟨rfl, rfl⟩
        clear hbA hbB
        go_wp2_with (at_builtin; refine wpList_append_bool rfl _ _ rfl w.heap.size _ out rfl (World.ownsRow.alloc hown _) wr.heap.size _ z rfl (by simp) (by simp; omega) (by omega) ?_; intro v' w1 hown' hb1)
        go_wp2
        refine ⟨⟨k + 1, 0, out ++ [z], by go_num, rfl, by omega, by omega, by simp [HL.out], HST.out, hown', (hbw.alloc (by omega) _).trans hb1⟩, by simp [intOf]; omega⟩
    · have hd : decide ((k : Int) < (m : Int)) = false := decide_eq_false (by omega)
      have hd2 : decide (k < m) = false := decide_eq_false hlt
      have hkm : k = a.length := by rw [← HM.out]; omega
      have hE := HE.out
      rw [hkm] at hE
      have hend := ExactM.minus_end a b out q hq (by rw [HL.out]; exact hkm) (by rw [← HM.out, ← HN.out]; exact hbl) HLE.out hE
      have hT := fun w' (hx : w' = wr) => trim_any u5 out w' (by rw [HL.out]; omega) (by rw [hx]; exact hown.rd)
      rw [hend] at hT
      clear hend hE hkm
      go_wp2_with fail
      refine (hT _ rfl).mono ?_
      rintro e w' ⟨⟨v', rfl, hR, hob⟩, rfl⟩
      have HR := Lib.hid hR
      have hfr := fun b hb => (World.ownsRow.lt hown b hb).1
      have HFR := Lib.hid hfr
      have HOB := Lib.hid hob
      clear hR hT hown hfr hob
      go_wp2
      go_ret
      exact ⟨_, rfl, HR.out, hbw, fun b hb => HFR.out b (HOB.out.symm.trans hb)⟩

theorem Rd.at_ {w w' : World} {A : Option Addr} {n cp : Nat} {l : List Bool} (h : Rd w (.slice A n cp) l) {k : Nat} (hk : k < l.length) (hb : Below w.heap.size w w') : ∃ b o, A = some ⟨b, o, none⟩ ∧ w'.cell? ⟨b, o + k, none⟩ = some (.bool l[k]) := by
  obtain ⟨A', cp', e, hc, hn, hs⟩ := h.below hb
  injection e with e1 e2 e3
  subst e1; subst e3
  cases A with
  | none => have := hn rfl; omega
  | some a =>
    obtain ⟨b, o, s⟩ := a
    obtain ⟨h1, _, h3⟩ := hs b o s rfl
    subst h1
    exact ⟨b, o, rfl, h3 k hk⟩
set_option maxHeartbeats 1000000 in
set_option maxRecDepth 100000 in
theorem rless_any (va vb : Value) (a b : List Bool) (w : World) (ha : a.length ≤ 1000) (hb : b.length ≤ 1000) (hta : ExactM.Tr a) (htb : ExactM.Tr b) (hA : Rd w va a) (hB : Rd w vb b) :
    Calls Try.prog 48 #[va, vb] w fun e w' => e = .returned (.bool (decide (ExactM.val a < ExactM.val b))) ∧ Below w.heap.size w w' := by
  obtain ⟨A, ca, ea⟩ := hA.len
  obtain ⟨B, cb, eb⟩ := hB.len
  obtain ⟨m, hm⟩ : ∃ m, m = a.length := ⟨_, rfl⟩
  obtain ⟨n, hn⟩ : ∃ m, m = b.length := ⟨_, rfl⟩
  rw [← hm] at ea ha
  rw [← hn] at eb hb
  subst ea eb
  obtain ⟨R, hR⟩ : ∃ R, R = decide (ExactM.val a < ExactM.val b) := ⟨_, rfl⟩
  rw [← hR]
  by_cases hmn : m = n
  · subst hmn
    have HM := Lib.hid hm
    have HN := Lib.hid hn
    have HRR := Lib.hid hR
    clear hm hn hR
    go_enter Try.func48, Try.ntmps48
    go_wp2
    go_loopw [5] (fun i wr => ∃ k : Nat, i = .int .i64 ((k : Int) - 1) ∧ k ≤ m ∧ a.drop k = b.drop k ∧ Below w.heap.size w wr) (fun i _ => (intOf i + 1).toNat)
    case atStart => exact ⟨m, rfl, Nat.le_refl _, by rw [List.drop_of_length_le (by rw [← HM.out]; exact Nat.le_refl _), List.drop_of_length_le (by rw [← HN.out]; exact Nat.le_refl _)], Below.refl _ _⟩
    case round =>
      obtain ⟨k, rfl, hk, hdr, hbw⟩ := hrel
      have HD := Lib.hid hdr
      clear hdr
      by_cases h0 : k = 0
      · subst h0
        have hab : a = b := by have := HD.out; simpa using this
        have hRf : R = false := by rw [HRR.out, hab]; simp
        have HF := Lib.hid hRf
        clear hab hRf
        go_wp2
        go_ret
        exact ⟨by rw [HF.out]; rfl, hbw⟩
      · obtain ⟨j, rfl⟩ : ∃ j, k = j + 1 := ⟨k - 1, by omega⟩
        have ja : j < a.length := by rw [← HM.out]; omega
        have jb : j < b.length := by rw [← HN.out]; omega
        obtain ⟨b1, o1, rfl, c1⟩ := hA.at_ ja hbw
        obtain ⟨b2, o2, rfl, c2⟩ := hB.at_ jb hbw
        have hat := fun h => ExactM.less_at (a := a) (b := b) (by rw [← HM.out, HN.out]) j ja HD.out h
        have dra := List.drop_eq_getElem_cons ja
        have drb := List.drop_eq_getElem_cons jb
        obtain ⟨x, hx⟩ : ∃ x, x = a[j] := ⟨_, rfl⟩
        obtain ⟨y, hy⟩ : ∃ x, x = b[j] := ⟨_, rfl⟩
        rw [← hx] at c1 hat dra
        rw [← hy] at c2 hat drb
        have HAT := Lib.hid hat
        have HDA := Lib.hid dra
        have HDB := Lib.hid drb
        have hjm : j < m := by omega
        rw [show ((j + 1 : Nat) : Int) - 1 = (j : Int) by omega]
        clear hat dra drb hx hy ja jb h0
        by_cases hxy : x = y
        · subst hxy
          have hdr2 : a.drop j = b.drop j := by rw [HDA.out, HDB.out, HD.out]
          have HD2 := Lib.hid hdr2
          clear hdr2
          go_wp2
          go_quiet (fail)
          go_wp2
          go_roundw
          case rel => exact ⟨j, rfl, by omega, HD2.out, hbw.trans ⟨rfl, rfl, rfl, Nat.le_refl _, fun _ _ => rfl⟩⟩
          case measure => simp [intOf]
        · have hRy : R = y := by rw [HRR.out]; exact HAT.out hxy
          have HY := Lib.hid hRy
          have hne : (x != y) = true := by simpa using hxy
          have hne2 : (x == y) = false := by simpa using hxy
          clear hRy
          go_wp2
          go_quiet (fail)
          go_wp2
          go_ret
          exact ⟨by rw [HY.out]; rfl, hbw.trans ⟨rfl, rfl, rfl, Nat.le_refl _, fun _ _ => rfl⟩⟩
  · have hRl : R = decide (m < n) := by
      rw [hR]
      rcases Nat.lt_or_ge m n with h | h
      · rw [decide_eq_true h, decide_eq_true (ExactM.less_len htb (by omega))]
      · have := ExactM.less_len (a := b) hta (by omega)
        rw [decide_eq_false (by omega), decide_eq_false (by omega)]
    have hd : ((m : Int) != (n : Int)) = true := by simp; omega
    have hd2 : ((m : Int) == (n : Int)) = false := by simp; omega
    have hd3 : (m == n) = false := by simp; omega
    rw [hRl]
    clear hRl hR hm hn hA hB hta htb
    go_enter Try.func48, Try.ntmps48
    go_wp2
    go_ret
    exact ⟨by first | rfl | (show Ending.returned (.bool (decide ((m : Int) < (n : Int)))) = _; congr 2; simp), Below.refl _ _⟩
end Go.Proofs.Ythkcpaanegjodaa
