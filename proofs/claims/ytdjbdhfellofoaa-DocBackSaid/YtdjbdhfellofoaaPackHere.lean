
/- Plain lists: what is read of any bytes is written as just these (rising rows, packed rows); rows of whole bytes. -/
import Derived.Test.YtdjbdhfellofoaaPackBits
namespace PackM

theorem ris_here : ∀ (n : Nat) (last : Int) (s : List UInt8) (l : List Int) (t : List UInt8), -1 ≤ last → last ≤ 9223372036854775807 → ris last n s = some (l, t) → s = diffs last l ++ t ∧ rises last l = true ∧ (∀ v ∈ l, last < v ∧ v ≤ 9223372036854775807) ∧ l.length = n
  | 0, last, s, l, t, _, _, h => by
    simp only [ris] at h
    injection h with h; injection h with h1 h2
    subst h1; subst h2
    exact ⟨rfl, rfl, (fun v hv => by simp at hv), rfl⟩
  | n + 1, last, s, l, t, h1, h2, h => by
    simp only [ris] at h
    cases hN : num MAXI 0 0 s with
    | none => rw [hN] at h; cases h
    | some x =>
      rw [hN] at h
      simp only [Option.bind] at h
      have hh := num_here (v := x.1) (t := x.2) hN
      split at h
      · cases h
      · rename_i hle
        unfold MAXI at hle
        cases hR : ris (last + 1 + x.1) n x.2 with
        | none => rw [hR] at h; cases h
        | some y =>
          rw [hR] at h
          simp only at h
          injection h with h; injection h with e1 e2
          obtain ⟨i1, i2, i3, i4⟩ := ris_here n (last + 1 + x.1) x.2 y.1 y.2 (by omega) (by omega) hR
          subst e1; subst e2
          refine ⟨?_, ?_, ?_, by simp [i4]⟩
          · simp only [diffs]
            rw [show (last + 1 + (x.1 : Int) - 1 - last).toNat = x.1 by omega, List.append_assoc, ← i1]
            exact hh
          · simp only [rises, Bool.and_eq_true, decide_eq_true_eq]
            exact ⟨by omega, i2⟩
          · intro v hv
            rcases List.mem_cons.1 hv with rfl | hv
            · exact ⟨by omega, by omega⟩
            · have := i3 v hv
              exact ⟨by omega, this.2⟩
theorem rRis_here {most : Int} {s : List UInt8} {l : List Int} {t : List UInt8} (h : rRis most s = some (l, t)) : s = risB l ++ t ∧ rises (-1) l = true ∧ (∀ v ∈ l, 0 ≤ v ∧ v ≤ 9223372036854775807) ∧ (l.length : Int) ≤ most := by
  unfold rRis at h
  cases hN : num MAXI 0 0 s with
  | none => rw [hN] at h; cases h
  | some x =>
    rw [hN] at h
    simp only [Option.bind] at h
    have hh := num_here (v := x.1) (t := x.2) hN
    split at h
    · cases h
    · rename_i hle
      obtain ⟨i1, i2, i3, i4⟩ := ris_here x.1 (-1) x.2 l t (by omega) (by omega) h
      refine ⟨?_, i2, fun v hv => ⟨by have := (i3 v hv).1; omega, (i3 v hv).2⟩, by omega⟩
      unfold risB
      rw [i4, List.append_assoc, ← i1]
      exact hh
theorem rRis_wide {m m' : Int} {t : List UInt8} {x : List Int × List UInt8} (h : rRis m t = some x) (hm : m ≤ m') : rRis m' t = some x := by
  unfold rRis at h ⊢
  cases hn : num MAXI 0 0 t with
  | none => rw [hn] at h; cases h
  | some y =>
    rw [hn] at h
    simp only [Option.bind_some] at h ⊢
    by_cases h1 : m < (y.1 : Int)
    · rw [if_pos h1] at h; cases h
    · rw [if_neg h1] at h
      rw [if_neg (by omega)]
      exact h

theorem bv_bit (s : List UInt8) : ∀ (w p i : Nat), i < w → bitAt s (p + i) = bv s p w / 2 ^ i % 2
  | 0, p, i, h => by omega
  | w + 1, p, 0, _ => by
    have := bitAt_le s p
    rw [bv]; simp; omega
  | w + 1, p, i + 1, h => by
    have ih := bv_bit s w (p + 1) i (by omega)
    have h2 := bitAt_le s p
    rw [show p + (i + 1) = p + 1 + i by omega, ih, bv, Nat.pow_succ, Nat.mul_comm (2 ^ i) 2, ← Nat.div_div_eq_div_mul]
    congr 2
    omega
theorem byte_of_bits {x y : Nat} (hx : x < 256) (hy : y < 256) (h : ∀ m, m < 8 → x / 2 ^ m % 2 = y / 2 ^ m % 2) : x = y := by
  have h0 := h 0 (by omega)
  have h1 := h 1 (by omega)
  have h2 := h 2 (by omega)
  have h3 := h 3 (by omega)
  have h4 := h 4 (by omega)
  have h5 := h 5 (by omega)
  have h6 := h 6 (by omega)
  have h7 := h 7 (by omega)
  simp only [Nat.reducePow] at h0 h1 h2 h3 h4 h5 h6 h7
  omega
theorem bytes_of_bits {a b : List UInt8} (hl : a.length = b.length) (h : ∀ p, p < 8 * a.length → bitAt a p = bitAt b p) : a = b := by
  refine List.ext_getElem hl (fun j h1 h2 => ?_)
  apply UInt8.toNat_inj.1
  refine byte_of_bits (UInt8.toNat_lt _) (UInt8.toNat_lt _) (fun m hm => ?_)
  have := h (8 * j + m) (by omega)
  unfold bitAt at this
  rw [show (8 * j + m) / 8 = j by omega, show (8 * j + m) % 8 = m by omega] at this
  rw [List.getD_eq_getElem?_getD, List.getD_eq_getElem?_getD, List.getElem?_eq_getElem h1, List.getElem?_eq_getElem h2] at this
  exact this
theorem rFix_here {w n : Nat} {s : List UInt8} {ns : List Nat} {t : List UInt8} (h : rFix w n s = some (ns, t)) : s = fixB w ns ++ t ∧ ns.length = n ∧ ∀ v ∈ ns, v < 2 ^ w := by
  unfold rFix at h
  obtain ⟨L, hL⟩ : ∃ L, L = (w * n + 7) / 8 := ⟨_, rfl⟩
  rw [← hL] at h
  split at h
  · cases h
  · rename_i hlen
    split at h
    · rename_i hfill
      injection h with h; injection h with h1 h2
      have hn : ns.length = n := by rw [← h1]; simp [nums]
      refine ⟨?_, hn, fun v hv => ?_⟩
      · have e : s.take L = fixB w ns := by
          unfold fixB
          rw [hn, ← hL]
          have hB := allBits_ok w ns
          have hlb := allBits_length w ns
          have htl : (s.take L).length = L := by rw [List.length_take]; omega
          refine bytes_of_bits (by rw [htl, packed_length]) (fun p hp => ?_)
          rw [htl] at hp
          rw [bitAt_packed hB L p hp]
          by_cases hpw : p < w * n
          · have hw : 0 < w := by
              rcases Nat.eq_zero_or_pos w with e | e
              · subst e; simp at hpw
              · exact e
            have hk : p / w < ns.length := by rw [hn, Nat.div_lt_iff_lt_mul hw, Nat.mul_comm]; exact hpw
            have hi : p % w < w := Nat.mod_lt _ hw
            have he : p / w * w + p % w = p := by rw [Nat.mul_comm]; exact Nat.div_add_mod p w
            have hg := allBits_getD w ns (p / w) (p % w) hk hi
            rw [he] at hg
            rw [hg]
            have hb := bv_bit (s.take L) w (p / w * w) (p % w) hi
            rw [he] at hb
            rw [hb]
            congr 2
            subst h1
            simp [nums]
          · rw [getD_past _ _ (by rw [hlb, hn, Nat.mul_comm]; omega)]
            have hz := (bv_zero (s.take L) (L * 8 - w * n) (w * n)).1 hfill (p - w * n) (by omega)
            rw [show w * n + (p - w * n) = p by omega] at hz
            exact hz
        rw [← e, ← h2, List.take_append_drop]
      · rw [← h1] at hv
        simp only [nums, List.mem_map] at hv
        obtain ⟨k, _, rfl⟩ := hv
        exact bv_lt _ _ _
    · cases h
theorem bv_eight (s : List UInt8) (k : Nat) : bv s (k * 8) 8 = (s.getD k 0).toNat := by
  obtain ⟨a, ha⟩ : ∃ a, a = (s.getD k 0).toNat := ⟨_, rfl⟩
  have la : a < 256 := by rw [ha]; exact UInt8.toNat_lt _
  rw [← ha]
  refine bv_of s 8 _ _ (by omega) (fun i hi => ?_)
  unfold bitAt
  rw [show (k * 8 + i) / 8 = k by omega, show (k * 8 + i) % 8 = i by omega, ← ha]
theorem rFix_eight (n : Nat) (s : List UInt8) : rFix 8 n s = if s.length < n then none else some ((s.take n).map (·.toNat), s.drop n) := by
  unfold rFix
  rw [show (8 * n + 7) / 8 = n by omega, show n * 8 - 8 * n = 0 by omega]
  by_cases h : s.length < n
  · rw [if_pos h, if_pos h]
  · rw [if_neg h, if_neg h, if_pos (by rfl)]
    congr 2
    apply List.ext_getElem
    · simp [nums]; omega
    · intro k h1 h2
      have hk : k < n := by simpa [nums] using h1
      simp only [nums, List.getElem_map, List.getElem_range, bv_eight]
      rw [List.getD_eq_getElem?_getD, List.getElem?_eq_getElem (by rw [List.length_take]; omega)]
      rfl
/-- a number of eight bits is one byte -/
theorem fixB_one (t : Nat) (h : t < 256) : fixB 8 [t] = [UInt8.ofNat t] := by
  have h1 := rFix_there 8 [t] [] (fun v hv => by simp at hv; subst hv; omega)
  obtain ⟨f, hf⟩ : ∃ f, f = fixB 8 [t] := ⟨_, rfl⟩
  have hl : f.length = 1 := by rw [hf, fixB, packed_length]; simp
  rw [← hf, List.append_nil, List.length_singleton, rFix_eight, if_neg (by omega), List.take_of_length_le (by omega)] at h1
  injection h1 with h1; injection h1 with h1 _
  rw [← hf]
  match f, hl with
  | [x], _ =>
    simp at h1
    rw [← h1]
    simp
end PackM
