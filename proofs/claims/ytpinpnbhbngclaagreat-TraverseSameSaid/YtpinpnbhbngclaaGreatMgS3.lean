/- Own texts, merged (3 of 8). -/
import Derived.Deep.DeepCutAuto
import Derived.Deep.QuietTactic
import Derived.Laws.AppendOwnNone
import Derived.Laws.OwnMore
import Derived.BigRegion
import Derived.StillTailTactics
import Derived.BigQuiet
import Derived.OwnWalk
import Derived.Laws.Pointers
import Derived.Deep.RegionHeld3
import Derived.Deep.RegionLaw
import Derived.Deep.AppendLies
import Derived.Test.YtpinpnbhbngclaaGreatMgS2

/- Rows of pointers: merging where the other side is one alone. -/
namespace Go.Proofs.YtpinpnbhbngclaaGreat
open Go.RowKit

def DnG (g n cp : Nat) (X : Nat → Nat) (k k1 : Nat) (q9 : Nat) (y : Value) : Prop :=
  match q9 with
  | 0 => y = .slice (some ⟨g, 0, none⟩) n cp
  | 1 => y = .int .i64 ((k : Nat) : Int)
  | 2 => y = .slice (some ⟨g, 0, none⟩) n cp
  | 3 => y = .int .i64 ((k : Nat) : Int)
  | 4 => y = .int .i64 ((k1 : Nat) : Int)
  | 5 => y = .slice (some ⟨g, 0, none⟩) n cp
  | 6 => y = .int .i64 ((k : Nat) : Int)
  | 7 => y = .int .i64 ((k1 : Nat) : Int)
  | 8 => y = .pointer (some ⟨g, k1, none⟩)
  | 9 => y = .pointer (some ⟨X k1, 0, none⟩)
  | 10 => y = .slice (some ⟨g, 0, none⟩) n cp
  | 11 => y = .int .i64 ((k : Nat) : Int)
  | 12 => y = .pointer (some ⟨g, k, none⟩)
  | 13 => y = .pointer (some ⟨X k, 0, none⟩)
  | 14 => y = .pointer (some ⟨g, k, none⟩)
  | 16 => y = .pointer (some ⟨g, k1, none⟩)
  | _ => True

set_option maxHeartbeats 4000000 in
set_option maxRecDepth 100000 in
theorem symtwo_any (F g n cp a m b : Nat) (X : Nat → Nat) (D : Nat → Prop) (key : Nat → Int) (w : World) (eg : ∀ args w, (callFunc F args).run Tryz.prog w = .ok (.enter F args) w) (hc : CmpIs F D key g w) (hn : n ≤ 1000) (ham : a < m) (hbn : b ≤ n) (hD : ∀ t, t < n → D (X t)) (hX : PRw w g n X) (hma : m ≠ a + 1) (hbm : b = m + 1) (hs : SrtOn key X a m) :
    Calls Tryz.prog 104 #[.slice (some ⟨g, 0, none⟩) n cp, .int .i64 a, .int .i64 m, .int .i64 b, .func (.func F) #[] #[]] w fun e w' => e = .returned (.tuple #[]) ∧ (∃ Y, PRw w' g n Y ∧ Sws a b X Y ∧ SrtOn key Y a b) ∧ Turned (fun k => k = g) w w' := by
  have HX := Lib.hid hX
  have HC := Lib.hid hc
  have HD := Lib.hid hD
  clear hX hc hD
  have hma2 : ¬ (m : Int) - (a : Int) = 1 := by omega
  have hma3 : ((m : Int) - (a : Int) == 1) = false := by simp; omega
  have hmb2 : (b : Int) - (m : Int) = 1 := by omega
  have HBM := Lib.hid hbm
  have HS := Lib.hid hs
  have hmn : m < n := by omega
  clear hma hs hbm
  go_enter Tryz.func104, Tryz.ntmps104
  go_wp2
  go_loopw [14, 15] (fun x y wr => ∃ i j : Nat, x = .int .i64 i ∧ y = .int .i64 j ∧ a ≤ i ∧ i ≤ j ∧ j ≤ m ∧ (i = a ∨ key (X (i - 1)) ≤ key (X m)) ∧ (j = m ∨ key (X m) < key (X j)) ∧ Below w.heap.size w wr) (fun x y _ => (intOf y - intOf x).toNat)
  case atStart => exact ⟨a, m, rfl, rfl, Nat.le_refl _, by omega, Nat.le_refl _, .inl rfl, .inl rfl, Below.refl _ _⟩
  case round =>
    obtain ⟨i, j, rfl, rfl, hmi, hij, hjb, hl, hr, hbr⟩ := hrel
    have hrow := HX.out.below hbr
    have HL := Lib.hid hl
    have HR := Lib.hid hr
    clear hl hr
    by_cases hlt : i < j
    · obtain ⟨h, hh⟩ : ∃ h, h = (i + j) / 2 := ⟨_, rfl⟩
      have hhi2 : ((i : Int) + (j : Int)) / 2 = (h : Int) := by omega
      have hhl : i ≤ h ∧ h < j := by omega
      obtain ⟨hl1, hl2⟩ := hhl
      clear hh
      have hhn : (h : Int) < (n : Int) := by omega
      have hmnI : (m : Int) < (n : Int) := by omega
      have c1 := (hrow.2 m (by omega)).1
      have c2 := (hrow.2 h (by omega)).1
      have hcall : ∀ W, (W.cell? ⟨g, m, none⟩ = some (.pointer (some ⟨X m, 0, none⟩)) ∧ W.cell? ⟨g, h, none⟩ = some (.pointer (some ⟨X h, 0, none⟩)) ∧ Below wr.heap.size wr W) → Calls Tryz.prog F #[.pointer (some ⟨X m, 0, none⟩), .pointer (some ⟨X h, 0, none⟩)] W fun e w' => (∃ z : Int, e = .returned (.int .i64 z) ∧ (z < 0 ↔ key (X m) < key (X h))) ∧ Below W.heap.size W w' :=
        fun W hW => HC.out W ((Turned.of_below hbr).on hW.2.2) (X m) (X h) (HD.out m (by omega)) (HD.out h (by omega))
      have HROWr := Lib.hid hrow
      have HBr := Lib.hid hbr
      clear hrow hbr
      go_upto_region 17 with fail
      go_region_held3 (fun w' => w'.cell? ⟨g, m, none⟩ = some (.pointer (some ⟨X m, 0, none⟩)) ∧ w'.cell? ⟨g, h, none⟩ = some (.pointer (some ⟨X h, 0, none⟩)) ∧ Below wr.heap.size wr w')
        ((first | (exact keepCs hb (by assumption)) | (exact keepDs (by assumption) (by assumption)) | (exact keepDd (by assumption))))
        (first | ((with_reducible refine (hcall _ (by assumption)).mono ?_); rintro e u1 ⟨⟨z, rfl, hzi⟩, hb⟩; have hz := Lib.hid hzi; obtain ⟨cb, hcb⟩ : ∃ cb, decide (z < 0) = cb := ⟨_, rfl⟩; clear hzi; have hk := Lib.hid (keepCs hb (by assumption)).2.2))
      have HB2 := Lib.hid (HBr.out.trans (hk.out.mono HBr.out.size))
      clear hcall c1 c2
      cases cb with
      | true =>
        have hlt2 := hz.out.1 (of_decide_eq_true hcb)
        have HN := Lib.hid hlt2
        clear hlt2 hz hcb
        go_wp2
        go_roundw
        case rel => exact ⟨i, h, rfl, rfl, hmi, hl1, by omega, HL.out, .inr HN.out, HB2.out⟩
        case measure => simp [intOf]; omega
      | false =>
        have hlt2 : key (X h) ≤ key (X m) := Int.not_lt.1 (fun x => of_decide_eq_false hcb (hz.out.2 x))
        have HN := Lib.hid hlt2
        clear hlt2 hz hcb
        go_wp2
        go_roundw
        case rel => exact ⟨h + 1, j, by go_num, rfl, by omega, by omega, hjb, .inr (by rw [Nat.add_sub_cancel]; exact HN.out), HR.out, HB2.out⟩
        case measure => simp [intOf]; omega
    · obtain rfl : i = j := by omega
      have HROW := Lib.hid hrow
      have HB := Lib.hid hbr
      have hfin := dn_sorted (key := key) (X := X) (a := a) (m := m) (i := i) HS.out hmi hjb (HL.out.imp id (fun h => by omega)) HR.out
      have HFIN := Lib.hid hfin
      clear hfin hrow hbr hij hlt
      go_wp2
      go_loopw [17] (fun x wr => ∃ k : Nat, x = .int .i64 k ∧ i ≤ k ∧ k ≤ m ∧ PRw wr g n (rotF k m (m + 1) X) ∧ Turned (fun q => q = g) w wr) (fun x _ => (intOf x).toNat)
      case atStart => exact ⟨m, rfl, hjb, Nat.le_refl _, by rw [dn_zero]; exact HROW.out, Turned.of_below HB.out⟩
      case round =>
        obtain ⟨k, rfl, hik, hkm, hrow, hT⟩ := hrel
        by_cases hlt : i < k
        · have hlk : (i : Int) < (k : Int) := by omega
          have hdk : decide ((i : Int) < (k : Int)) = true := decide_eq_true hlk
          obtain ⟨Z, hXe⟩ : ∃ Z, Z = rotF k m (m + 1) X := ⟨_, rfl⟩
          obtain ⟨k1, hk1⟩ : ∃ k1, k1 = k - 1 := ⟨_, rfl⟩
          have hnx := dn_next k m X (by omega) hkm
          rw [← hXe, ← hk1] at hnx
          rw [← hXe] at hrow
          have hk1I : (k : Int) - 1 = (k1 : Int) := by omega
          have hb1 : k < n ∧ k1 < n ∧ k ≠ k1 := by omega
          obtain ⟨hkn, hk1n, hkk⟩ := hb1
          have hknI : (k : Int) < (n : Int) := by omega
          have hk1nI : (k1 : Int) < (n : Int) := by omega
          have hwk : IntKind.i64.wrap (k1 : Int) = (k1 : Int) := by rw [IntKind.wrap_i64]; omega
          have hk1i : i ≤ k1 ∧ k1 ≤ m ∧ k1 < k := by omega
          have HNX := Lib.hid hnx
          have HT := Lib.hid hT
          have HK := Lib.hid hk1i
          clear hnx hT hk1i hXe hk1
          go_upto_region 23 with fail
          refine wp_region_lin (ds := [113, 114, 115, 116, 117, 118, 119, 120, 121, 122, 123, 124, 125, 126, 127, 128]) (by kernel_rfl) (by kernel_rfl) (by kernel_rfl) (fun k => k = g) (fun k => k == 15 || k == 17)
            (SwI g n Z 15 17 k k1) (fun q9 _ y9 _ => DnG g n cp Z k k1 q9 y9) (SwI.start hrow) (fun L k w1 w2 hk hb h => SwI_keep hk hb h) (fun i L k v w1 w2 hk hb h => by exact h) ?_ ?_
          · intro l' HL'
            refine LinSteps.cons (fun f L w1 hT hI hsh hL hd K hK => ?_) ?_
            · simp only [linFill, List.foldl_cons, List.foldl_nil, Act.put, List.setIfInBounds_toArray, List.set_cons_zero, List.set_cons_succ] at hK ⊢
              go_simp
              exact hK.out _ _ hT (.inl ⟨rfl, Below.refl _ _⟩) rfl
            refine LinSteps.cons (fun f L w1 hT hI hsh hL hd K hK => ?_) ?_
            · simp only [linFill, List.foldl_cons, List.foldl_nil, Act.put, List.setIfInBounds_toArray, List.set_cons_zero, List.set_cons_succ] at hK ⊢
              go_simp
              exact hK.out _ _ hT (.inl ⟨rfl, Below.refl _ _⟩) rfl
            refine LinSteps.cons (fun f L w1 hT hI hsh hL hd K hK => ?_) ?_
            · simp only [linFill, List.foldl_cons, List.foldl_nil, Act.put, List.setIfInBounds_toArray, List.set_cons_zero, List.set_cons_succ] at hK ⊢
              go_simp
              exact hK.out _ _ hT (.inl ⟨rfl, Below.refl _ _⟩) rfl
            refine LinSteps.cons (fun f L w1 hT hI hsh hL hd K hK => ?_) ?_
            · simp only [linFill, List.foldl_cons, List.foldl_nil, Act.put, List.setIfInBounds_toArray, List.set_cons_zero, List.set_cons_succ] at hK ⊢
              go_simp
              exact hK.out _ _ hT (.inl ⟨rfl, Below.refl _ _⟩) rfl
            refine LinSteps.cons (fun f L w1 hT hI hsh hL hd K hK => ?_) ?_
            · have d3 : f 116 = .int .i64 ((k : Nat) : Int) := hd 3 116 (by rw [HL'.out]; kernel_rfl) (by rw [HL'.out]; kernel_rfl)
              simp only [linFill, List.foldl_cons, List.foldl_nil, Act.put, List.setIfInBounds_toArray, List.set_cons_zero, List.set_cons_succ, d3] at hK ⊢
              clear d3
              go_simp
              exact hK.out _ _ hT (.inl ⟨rfl, Below.refl _ _⟩) rfl
            refine LinSteps.cons (fun f L w1 hT hI hsh hL hd K hK => ?_) ?_
            · simp only [linFill, List.foldl_cons, List.foldl_nil, Act.put, List.setIfInBounds_toArray, List.set_cons_zero, List.set_cons_succ] at hK ⊢
              go_simp
              exact hK.out _ _ hT (.inl ⟨rfl, Below.refl _ _⟩) rfl
            refine LinSteps.cons (fun f L w1 hT hI hsh hL hd K hK => ?_) ?_
            · simp only [linFill, List.foldl_cons, List.foldl_nil, Act.put, List.setIfInBounds_toArray, List.set_cons_zero, List.set_cons_succ] at hK ⊢
              go_simp
              exact hK.out _ _ hT (.inl ⟨rfl, Below.refl _ _⟩) rfl
            refine LinSteps.cons (fun f L w1 hT hI hsh hL hd K hK => ?_) ?_
            · have d6 : f 119 = .int .i64 ((k : Nat) : Int) := hd 6 119 (by rw [HL'.out]; kernel_rfl) (by rw [HL'.out]; kernel_rfl)
              simp only [linFill, List.foldl_cons, List.foldl_nil, Act.put, List.setIfInBounds_toArray, List.set_cons_zero, List.set_cons_succ, d6] at hK ⊢
              clear d6
              go_simp
              exact hK.out _ _ hT (.inl ⟨rfl, Below.refl _ _⟩) rfl
            refine LinSteps.cons (fun f L w1 hT hI hsh hL hd K hK => ?_) ?_
            · have d5 : f 118 = .slice (some ⟨g, 0, none⟩) n cp := hd 5 118 (by rw [HL'.out]; kernel_rfl) (by rw [HL'.out]; kernel_rfl)
              have d7 : f 120 = .int .i64 ((k1 : Nat) : Int) := hd 7 120 (by rw [HL'.out]; kernel_rfl) (by rw [HL'.out]; kernel_rfl)
              simp only [linFill, List.foldl_cons, List.foldl_nil, Act.put, List.setIfInBounds_toArray, List.set_cons_zero, List.set_cons_succ, d5, d7] at hK ⊢
              clear d5 d7
              go_simp
              exact hK.out _ _ hT (.inl ⟨rfl, Below.refl _ _⟩) rfl
            refine LinSteps.cons (fun f L w1 hT hI hsh hL hd K hK => ?_) ?_
            · have d8 : f 121 = .pointer (some ⟨g, k1, none⟩) := hd 8 121 (by rw [HL'.out]; kernel_rfl) (by rw [HL'.out]; kernel_rfl)
              have hl1 : L 15 = false := hsh.late 9 hL [9] 15 (by rw [HL'.out]; kernel_rfl) rfl
              have hl2 : L 17 = false := hsh.late 9 hL [9] 17 (by rw [HL'.out]; kernel_rfl) rfl
              have kk := swI_cell hI hl1 hl2 (t := k1) (by omega)
              simp only [linFill, List.foldl_cons, List.foldl_nil, Act.put, List.setIfInBounds_toArray, List.set_cons_zero, List.set_cons_succ, d8] at hK ⊢
              clear d8
              go_simp
              exact hK.out _ _ hT (.inl ⟨rfl, Below.refl _ _⟩) rfl
            refine LinSteps.cons (fun f L w1 hT hI hsh hL hd K hK => ?_) ?_
            · simp only [linFill, List.foldl_cons, List.foldl_nil, Act.put, List.setIfInBounds_toArray, List.set_cons_zero, List.set_cons_succ] at hK ⊢
              go_simp
              exact hK.out _ _ hT (.inl ⟨rfl, Below.refl _ _⟩) rfl
            refine LinSteps.cons (fun f L w1 hT hI hsh hL hd K hK => ?_) ?_
            · simp only [linFill, List.foldl_cons, List.foldl_nil, Act.put, List.setIfInBounds_toArray, List.set_cons_zero, List.set_cons_succ] at hK ⊢
              go_simp
              exact hK.out _ _ hT (.inl ⟨rfl, Below.refl _ _⟩) rfl
            refine LinSteps.cons (fun f L w1 hT hI hsh hL hd K hK => ?_) ?_
            · have d10 : f 123 = .slice (some ⟨g, 0, none⟩) n cp := hd 10 123 (by rw [HL'.out]; kernel_rfl) (by rw [HL'.out]; kernel_rfl)
              have d11 : f 124 = .int .i64 ((k : Nat) : Int) := hd 11 124 (by rw [HL'.out]; kernel_rfl) (by rw [HL'.out]; kernel_rfl)
              simp only [linFill, List.foldl_cons, List.foldl_nil, Act.put, List.setIfInBounds_toArray, List.set_cons_zero, List.set_cons_succ, d10, d11] at hK ⊢
              clear d10 d11
              go_simp
              exact hK.out _ _ hT (.inl ⟨rfl, Below.refl _ _⟩) rfl
            refine LinSteps.cons (fun f L w1 hT hI hsh hL hd K hK => ?_) ?_
            · have d12 : f 125 = .pointer (some ⟨g, k, none⟩) := hd 12 125 (by rw [HL'.out]; kernel_rfl) (by rw [HL'.out]; kernel_rfl)
              have hl1 : L 15 = false := hsh.late 13 hL [13] 15 (by rw [HL'.out]; kernel_rfl) rfl
              have hl2 : L 17 = false := hsh.late 13 hL [13] 17 (by rw [HL'.out]; kernel_rfl) rfl
              have kk := swI_cell hI hl1 hl2 (t := k) (by omega)
              simp only [linFill, List.foldl_cons, List.foldl_nil, Act.put, List.setIfInBounds_toArray, List.set_cons_zero, List.set_cons_succ, d12] at hK ⊢
              clear d12
              go_simp
              exact hK.out _ _ hT (.inl ⟨rfl, Below.refl _ _⟩) rfl
            refine LinSteps.cons (fun f L w1 hT hI hsh hL hd K hK => ?_) ?_
            · have d0 : f 113 = .slice (some ⟨g, 0, none⟩) n cp := hd 0 113 (by rw [HL'.out]; kernel_rfl) (by rw [HL'.out]; kernel_rfl)
              have d1 : f 114 = .int .i64 ((k : Nat) : Int) := hd 1 114 (by rw [HL'.out]; kernel_rfl) (by rw [HL'.out]; kernel_rfl)
              simp only [linFill, List.foldl_cons, List.foldl_nil, Act.put, List.setIfInBounds_toArray, List.set_cons_zero, List.set_cons_succ, d0, d1] at hK ⊢
              clear d0 d1
              go_simp
              exact hK.out _ _ hT (.inl ⟨rfl, Below.refl _ _⟩) rfl
            refine LinSteps.cons (fun f L w1 hT hI hsh hL hd K hK => ?_) ?_
            · have d14 : f 127 = .pointer (some ⟨g, k, none⟩) := hd 14 127 (by rw [HL'.out]; kernel_rfl) (by rw [HL'.out]; kernel_rfl)
              have d9 : f 122 = .pointer (some ⟨Z k1, 0, none⟩) := hd 9 122 (by rw [HL'.out]; kernel_rfl) (by rw [HL'.out]; kernel_rfl)
              have ff := swI_frz hI (t := k) (by omega)
              have kk := swI_val hI (t := k) (by omega)
              simp only [linFill, List.foldl_cons, List.foldl_nil, Act.put, List.setIfInBounds_toArray, List.set_cons_zero, List.set_cons_succ, d14, d9] at hK ⊢
              clear d14 d9
              go_simp
              exact hK.out undef _ (hT.put_ (.inl rfl) _ _) (.inr ⟨swI_one hI (by omega) (by omega) (by omega), fun j d _ _ h => h⟩) trivial
            refine LinSteps.cons (fun f L w1 hT hI hsh hL hd K hK => ?_) ?_
            · have d2 : f 115 = .slice (some ⟨g, 0, none⟩) n cp := hd 2 115 (by rw [HL'.out]; kernel_rfl) (by rw [HL'.out]; kernel_rfl)
              have d4 : f 117 = .int .i64 ((k1 : Nat) : Int) := hd 4 117 (by rw [HL'.out]; kernel_rfl) (by rw [HL'.out]; kernel_rfl)
              simp only [linFill, List.foldl_cons, List.foldl_nil, Act.put, List.setIfInBounds_toArray, List.set_cons_zero, List.set_cons_succ, d2, d4] at hK ⊢
              clear d2 d4
              go_simp
              exact hK.out _ _ hT (.inl ⟨rfl, Below.refl _ _⟩) rfl
            refine LinSteps.cons (fun f L w1 hT hI hsh hL hd K hK => ?_) ?_
            · have d16 : f 128 = .pointer (some ⟨g, k1, none⟩) := hd 16 128 (by rw [HL'.out]; kernel_rfl) (by rw [HL'.out]; kernel_rfl)
              have d13 : f 126 = .pointer (some ⟨Z k, 0, none⟩) := hd 13 126 (by rw [HL'.out]; kernel_rfl) (by rw [HL'.out]; kernel_rfl)
              have ff := swI_frz hI (t := k1) (by omega)
              have kk := swI_val hI (t := k1) (by omega)
              simp only [linFill, List.foldl_cons, List.foldl_nil, Act.put, List.setIfInBounds_toArray, List.set_cons_zero, List.set_cons_succ, d16, d13] at hK ⊢
              clear d16 d13
              go_simp
              exact hK.out undef _ (hT.put_ (.inl rfl) _ _) (.inr ⟨swI_two hI (by omega) (by omega) (by omega), fun j d _ _ h => h⟩) trivial
            exact LinSteps.nil
          · intro l' HL' f9 L9 w4 hT9 hI9 hall9 hf9
            have hrow4 := swI_fin hI9 (hall9 15 (by decide)) (hall9 17 (by decide))
            clear hf9 hall9 hI9
            simp only [linFill, List.foldl_cons, List.foldl_nil, List.setIfInBounds_toArray, List.set_cons_zero, List.set_cons_succ]
            go_wp2
            go_roundw
            case rel => exact ⟨k1, by go_num, HK.out.1, HK.out.2.1, by rw [← HNX.out]; exact hrow4, HT.out.trans ⟨hT9.os, hT9.tape, hT9.output, hT9.size, hT9.block⟩⟩
            case measure => have := HK.out.2.2; simp [intOf]; omega
        · obtain rfl : k = i := by omega
          have hlk : ¬ (k : Int) < (k : Int) := by omega
          go_wp2
          refine bodyPost_ret (results_none rfl _ _ _) rfl ?_
          exact ⟨rfl, ⟨_, hrow, by rw [HBM.out]; exact dn_sws X hmi hkm, by rw [HBM.out]; exact HFIN.out⟩, hT⟩
end Go.Proofs.YtpinpnbhbngclaaGreat

/- Rows of pointers: merging in place. -/
namespace Go.Proofs.YtpinpnbhbngclaaGreat
open Go.RowKit

theorem CmpIs.later {F : Nat} {D : Nat → Prop} {key : Nat → Int} {g : Nat} {w w' : World} (h : CmpIs F D key g w) (hT : Turned (fun k => k = g) w w') : CmpIs F D key g w' := fun W hW x y hx hy => h W (hT.trans hW) x y hx hy
theorem rot_id {s m e : Nat} (X : Nat → Nat) (h1 : s ≤ m) (h2 : m ≤ e) (h : s = m ∨ e = m) : rotF s m e X = X := by
  funext t
  unfold rotF
  repeat' split
  all_goals first | (exfalso; omega) | rfl | (congr 1; omega)
/-- a call that merges [a, m) and [m, b) -/
def SymIs (F g n cp : Nat) (D : Nat → Prop) (key : Nat → Int) (w : World) (N : Nat) : Prop := ∀ (a m b : Nat) (X : Nat → Nat) (W : World), b - a < N → a < m → m < b → b ≤ n → (∀ t, t < n → D (X t)) → SrtOn key X a m → SrtOn key X m b → Turned (fun k => k = g) w W → PRw W g n X →
  Calls Tryz.prog 104 #[.slice (some ⟨g, 0, none⟩) n cp, .int .i64 a, .int .i64 m, .int .i64 b, .func (.func F) #[] #[]] W fun e w' => e = .returned (.tuple #[]) ∧ (∃ Y, PRw w' g n Y ∧ Sws a b X Y ∧ SrtOn key Y a b) ∧ Turned (fun k => k = g) W w'

set_option maxHeartbeats 16000000 in
set_option maxRecDepth 100000 in
theorem symmany_any (F g n cp a m b : Nat) (X : Nat → Nat) (D : Nat → Prop) (key : Nat → Int) (w : World) (eg : ∀ args w, (callFunc F args).run Tryz.prog w = .ok (.enter F args) w) (hc : CmpIs F D key g w) (hn : n ≤ 1000) (ham : a < m) (hmb : m < b) (hbn : b ≤ n) (hD : ∀ t, t < n → D (X t)) (hX : PRw w g n X) (hma : m ≠ a + 1) (hmb1 : b ≠ m + 1) (hl : SrtOn key X a m) (hr : SrtOn key X m b) (hih : SymIs F g n cp D key w (b - a)) :
    Calls Tryz.prog 104 #[.slice (some ⟨g, 0, none⟩) n cp, .int .i64 a, .int .i64 m, .int .i64 b, .func (.func F) #[] #[]] w fun e w' => e = .returned (.tuple #[]) ∧ (∃ Y, PRw w' g n Y ∧ Sws a b X Y ∧ SrtOn key Y a b) ∧ Turned (fun k => k = g) w w' := by
  have HX := Lib.hid hX
  have HC := Lib.hid hc
  have HD := Lib.hid hD
  clear hX hc hD
  have hma2 : ¬ (m : Int) - (a : Int) = 1 := by omega
  have hma3 : ((m : Int) - (a : Int) == 1) = false := by simp; omega
  have hmb2 : ¬ (b : Int) - (m : Int) = 1 := by omega
  have hmb3 : ((b : Int) - (m : Int) == 1) = false := by simp; omega
  obtain ⟨mid, hmid⟩ : ∃ mid, mid = (a + b) / 2 := ⟨_, rfl⟩
  have hmid2 : ((a : Int) + (b : Int)) / 2 = (mid : Int) := by omega
  have hmid3 : 2 * mid ≤ a + b ∧ a + b ≤ 2 * mid + 1 := by omega
  obtain ⟨nn, hnn⟩ : ∃ nn, nn = mid + m := ⟨_, rfl⟩
  have hnn2 : (mid : Int) + (m : Int) = (nn : Int) := by omega
  obtain ⟨p1, hp1⟩ : ∃ p1, p1 = nn - 1 := ⟨_, rfl⟩
  have hp2 : (nn : Int) - 1 = (p1 : Int) := by omega
  obtain ⟨nb, hnb⟩ : ∃ nb, nb = nn - b := ⟨_, rfl⟩
  have HMID := Lib.hid hmid
  have HM3 := Lib.hid hmid3
  have HNN := Lib.hid hnn
  have HP1 := Lib.hid hp1
  have HNB := Lib.hid hnb
  have HL := Lib.hid hl
  have HR := Lib.hid hr
  have HIH := Lib.hid hih
  have hpn : (p1 : Int) ≤ 2000 := by omega
  have hnn3 : (nn : Int) ≤ 2000 := by omega
  have hmdn : (mid : Int) ≤ 1000 := by omega
  clear hma hmb1 hmid hnn hp1 hnb hl hr hih hmid3
  go_enter Tryz.func104, Tryz.ntmps104
  go_upto_if 140 with fail
  go_cut [20, 21] (fun x y wx => ∃ s0 r0 : Nat, x = .int .i64 s0 ∧ y = .int .i64 r0 ∧ a ≤ s0 ∧ s0 ≤ r0 ∧ r0 ≤ m ∧ r0 ≤ mid ∧ nn - s0 ≤ b ∧ m ≤ nn - r0 ∧ (s0 = a ∨ nn - s0 = b) ∧ (r0 = m ∨ nn - r0 = m) ∧ wx = w)
  case first =>
    have h1 := HM3.out
    have h2 := HNN.out
    have h3 := HNB.out
    by_cases hmm : mid < m
    · have hmm2 : (mid : Int) < (m : Int) := by omega
      have hnb2 : (nn : Int) - (b : Int) = (nb : Int) := by omega
      have hfin : a ≤ nb ∧ nb ≤ mid ∧ mid ≤ m ∧ mid ≤ mid ∧ nn - nb ≤ b ∧ m ≤ nn - mid ∧ (nb = a ∨ nn - nb = b) ∧ (mid = m ∨ nn - mid = m) := by omega
      have HF := Lib.hid hfin
      clear h1 h2 h3 hfin
      go_wp2
      go_meet
      exact ⟨nb, mid, rfl, rfl, HF.out.1, HF.out.2.1, HF.out.2.2.1, HF.out.2.2.2.1, HF.out.2.2.2.2.1, HF.out.2.2.2.2.2.1, HF.out.2.2.2.2.2.2.1, HF.out.2.2.2.2.2.2.2, rfl⟩
    · have hmm2 : ¬ (mid : Int) < (m : Int) := by omega
      have hfin : a ≤ a ∧ a ≤ m ∧ m ≤ m ∧ m ≤ mid ∧ nn - a ≤ b ∧ m ≤ nn - m ∧ (a = a ∨ nn - a = b) ∧ (m = m ∨ nn - m = m) := by omega
      have HF := Lib.hid hfin
      clear h1 h2 h3 hfin
      go_wp2
      go_meet
      exact ⟨a, m, rfl, rfl, HF.out.1, HF.out.2.1, HF.out.2.2.1, HF.out.2.2.2.1, HF.out.2.2.2.2.1, HF.out.2.2.2.2.2.1, .inl rfl, .inl rfl, rfl⟩
  case rest =>
    obtain ⟨s0, r0, rfl, rfl, q1, q2, q3, q4, q5, q6, q7, q8, rfl⟩ := hcut
    have HQ := Lib.hid (And.intro q5 (And.intro q6 (And.intro q7 q8)))
    clear q5 q6 q7 q8
    go_wp2
    go_loopw [20, 21] (fun x y wr => ∃ i j : Nat, x = .int .i64 i ∧ y = .int .i64 j ∧ s0 ≤ i ∧ i ≤ j ∧ j ≤ r0 ∧ (i = s0 ∨ key (X (i - 1)) ≤ key (X (nn - i))) ∧ (j = r0 ∨ key (X (nn - 1 - j)) < key (X j)) ∧ Below wc.heap.size wc wr) (fun x y _ => (intOf y - intOf x).toNat)
    case atStart => exact ⟨s0, r0, rfl, rfl, Nat.le_refl _, q2, Nat.le_refl _, .inl rfl, .inl rfl, Below.refl _ _⟩
    case round =>
      obtain ⟨i, j, rfl, rfl, hmi, hij, hjb, hl, hr, hbr⟩ := hrel
      have hrow := HX.out.below hbr
      have HL2 := Lib.hid hl
      have HR2 := Lib.hid hr
      clear hl hr
      by_cases hlt : i < j
      · obtain ⟨h, hh⟩ : ∃ h, h = (i + j) / 2 := ⟨_, rfl⟩
        have hhi2 : ((i : Int) + (j : Int)) / 2 = (h : Int) := by omega
        have hhl : i ≤ h ∧ h < j := by omega
        obtain ⟨hl1, hl2⟩ := hhl
        clear hh
        obtain ⟨pc, hpc⟩ : ∃ pc, pc = nn - 1 - h := ⟨_, rfl⟩
        have hpcb : (p1 : Int) - (h : Int) = (pc : Int) ∧ pc < b ∧ h < n ∧ pc < n := by
          have h1 := HM3.out
          have h2 := HNN.out
          have h3 := HP1.out
          have h4 := HQ.out
          omega
        obtain ⟨hpc1, hpcb2, hhn0, hpcn0⟩ := hpcb
        have HPC := Lib.hid hpc
        clear hpc
        have hhn : (h : Int) < (n : Int) := by omega
        have hpcn : (pc : Int) < (n : Int) := by omega
        have hwp : IntKind.i64.wrap (pc : Int) = (pc : Int) := by rw [IntKind.wrap_i64]; omega
        have c1 := (hrow.2 pc (by omega)).1
        have c2 := (hrow.2 h (by omega)).1
        have hcall : ∀ W, (W.cell? ⟨g, pc, none⟩ = some (.pointer (some ⟨X pc, 0, none⟩)) ∧ W.cell? ⟨g, h, none⟩ = some (.pointer (some ⟨X h, 0, none⟩)) ∧ Below wr.heap.size wr W) → Calls Tryz.prog F #[.pointer (some ⟨X pc, 0, none⟩), .pointer (some ⟨X h, 0, none⟩)] W fun e w' => (∃ z : Int, e = .returned (.int .i64 z) ∧ (z < 0 ↔ key (X pc) < key (X h))) ∧ Below W.heap.size W w' :=
          fun W hW => HC.out W ((Turned.of_below hbr).on hW.2.2) (X pc) (X h) (HD.out pc (by omega)) (HD.out h (by omega))
        have HROWr := Lib.hid hrow
        have HBr := Lib.hid hbr
        clear hrow hbr
        go_upto_region 35 with fail
        go_region_held3 (fun w' => w'.cell? ⟨g, pc, none⟩ = some (.pointer (some ⟨X pc, 0, none⟩)) ∧ w'.cell? ⟨g, h, none⟩ = some (.pointer (some ⟨X h, 0, none⟩)) ∧ Below wr.heap.size wr w')
          ((first | (exact keepCs hb (by assumption)) | (exact keepDs (by assumption) (by assumption)) | (exact keepDd (by assumption))))
          (first | ((with_reducible refine (hcall _ (by assumption)).mono ?_); rintro e u1 ⟨⟨z, rfl, hzi⟩, hb⟩; have hz := Lib.hid hzi; obtain ⟨cb, hcb⟩ : ∃ cb, decide (z < 0) = cb := ⟨_, rfl⟩; clear hzi; have hk := Lib.hid (keepCs hb (by assumption)).2.2))
        have HB2 := Lib.hid (HBr.out.trans (hk.out.mono HBr.out.size))
        clear hcall c1 c2
        cases cb with
        | true =>
          have hlt2 := hz.out.1 (of_decide_eq_true hcb)
          have HN := Lib.hid hlt2
          clear hlt2 hz hcb
          go_wp2
          go_roundw
          case rel => exact ⟨i, h, rfl, rfl, hmi, hl1, by omega, HL2.out, .inr (by rw [← HPC.out]; exact HN.out), HB2.out⟩
          case measure => simp [intOf]; omega
        | false =>
          have hlt2 : key (X h) ≤ key (X pc) := Int.not_lt.1 (fun x => of_decide_eq_false hcb (hz.out.2 x))
          have HN := Lib.hid hlt2
          clear hlt2 hz hcb
          go_wp2
          go_roundw
          case rel => exact ⟨h + 1, j, by go_num, rfl, by omega, by omega, hjb, .inr (by
            rw [Nat.add_sub_cancel, show nn - (h + 1) = pc by have := HPC.out; omega]; exact HN.out), HR2.out, HB2.out⟩
          case measure => simp [intOf]; omega
      · obtain rfl : i = j := by omega
        have HROW := Lib.hid hrow
        have HB := Lib.hid hbr
        obtain ⟨e, he⟩ : ∃ e, e = nn - i := ⟨_, rfl⟩
        have hee : (nn : Int) - (i : Int) = (e : Int) ∧ i + e = mid + m ∧ a ≤ i ∧ i ≤ m ∧ m ≤ e ∧ e ≤ b ∧ (i < mid ↔ m < e) ∧ (mid < e ↔ i < m) := by
          have h2 := HNN.out
          have h4 := HQ.out
          omega
        have hH : Halves key (rotF i m e X) a i mid e b := by
          have h2 := HNN.out
          have h4 := HQ.out
          refine halves_of HL.out HR.out ham hmb HMID.out hee.2.1 hee.2.2.1 hee.2.2.2.1 hee.2.2.2.2.1 hee.2.2.2.2.2.1 ?_ ?_
          · rcases HL2.out with c | c
            · rcases h4.2.2.1 with d | d
              · exact .inl (by omega)
              · exact .inr (.inl (by omega))
            · exact .inr (.inr (by rw [he]; exact c))
          · rcases HR2.out with c | c
            · rcases h4.2.2.2 with d | d
              · exact .inl (by omega)
              · exact .inr (.inl (by omega))
            · exact .inr (.inr (by rw [show e - 1 = nn - 1 - i by omega]; exact c))
        have HH := Lib.hid hH
        have hswx : Sws a b X (rotF i m e X) := by
          by_cases c : i < m ∧ m < e
          · exact (rotF_sws X c.1 c.2).mono (by omega) (by omega)
          · rw [rot_id X (by omega) (by omega) (by omega)]; exact .refl _
        have HSX := Lib.hid hswx
        obtain ⟨hee1, hee2, hee3, hee4, hee5, hee6, hee7, hee8⟩ := hee
        have hmid4 : a ≤ mid ∧ mid ≤ b ∧ i ≤ mid ∧ mid ≤ e := by
          have := HM3.out
          omega
        obtain ⟨hm41, hm42, hm43, hm44⟩ := hmid4
        have HE7 := Lib.hid hee7
        have HE8 := Lib.hid hee8
        clear hH hswx he hrow hbr hij hlt hee7 hee8 hmi hjb
        by_cases c1 : i < m
        · by_cases c2 : m < e
          · by_cases c3 : a < i
            · by_cases c4 : e < b
              · have f1 : (i : Int) < (m : Int) := by omega
                have f2 : (m : Int) < (e : Int) := by omega
                have f3 : (a : Int) < (i : Int) := by omega
                have f4 : (e : Int) < (b : Int) := by omega
                have f5 := HE7.out
                have f6 := HE8.out
                have g5 : (i : Int) < (mid : Int) := by omega
                have g6 : (mid : Int) < (e : Int) := by omega
                clear f5 f6
                have HRO := Lib.hid (rotate_any g n cp i m e X (.func (.func F) #[] #[]) wr hn (by omega) (by omega) (by omega) HROW.out)
                go_wp2_with fail
                refine HRO.out.mono ?_
                rintro e1 w2 ⟨rfl, hr2, hT2⟩
                have HR3 := Lib.hid hr2
                have HT3 := Lib.hid ((Turned.of_below HB.out).trans hT2)
                clear hr2 hT2 HRO
                have hD3 := HSX.out.all hbn D HD.out
                have HD3 := Lib.hid hD3
                clear hD3
                have HLF := Lib.hid (HIH.out a i mid (rotF i m e X) w2 (by omega) (by omega) (by omega) (by omega) HD3.out HH.out.h1 HH.out.h2 HT3.out HR3.out)
                go_wp2_with fail
                refine HLF.out.mono ?_
                rintro e2 w3 ⟨rfl, ⟨Y1, hr3, hk1, hs1⟩, hT3⟩
                have HR4 := Lib.hid hr3
                have HK1 := Lib.hid hk1
                have HS1 := Lib.hid hs1
                have HT4 := Lib.hid (HT3.out.trans hT3)
                clear hr3 hk1 hs1 hT3 HLF
                have HD4 : Hid (∀ t, t < n → D (Y1 t)) := Lib.hid (HK1.out.all (by omega) D HD3.out)
                have HS3 : Hid (SrtOn key Y1 mid e) := Lib.hid (fun x y g1 g2 g3 => by rw [HK1.out.out_ (.inr g1), HK1.out.out_ (.inr (by omega))]; exact HH.out.h3 x y g1 g2 g3)
                have HS4 : Hid (SrtOn key Y1 e b) := Lib.hid (fun x y g1 g2 g3 => by rw [HK1.out.out_ (.inr (by omega)), HK1.out.out_ (.inr (by omega))]; exact HH.out.h4 x y g1 g2 g3)
                have HRF := Lib.hid (HIH.out mid e b Y1 w3 (by omega) (by omega) (by omega) (by omega) HD4.out HS3.out HS4.out HT4.out HR4.out)
                go_wp2_with fail
                refine HRF.out.mono ?_
                rintro e3 w4 ⟨rfl, ⟨Y2, hr4, hk2, hs2⟩, hT4⟩
                have HFI := Lib.hid (And.intro hr4 (And.intro hk2 (And.intro hs2 (HT4.out.trans hT4))))
                clear hr4 hk2 hs2 hT4 HRF
                go_wp2
                all_goals
                  go_end0
                  exact ⟨rfl, ⟨_, HFI.out.1, (HSX.out.trans (HK1.out.mono (Nat.le_refl _) (by omega))).trans (HFI.out.2.1.mono (by omega) (Nat.le_refl _)), halves_end HH.out HK1.out HS1.out HFI.out.2.1 HFI.out.2.2.1⟩, HFI.out.2.2.2⟩
              · have f1 : (i : Int) < (m : Int) := by omega
                have f2 : (m : Int) < (e : Int) := by omega
                have f3 : (a : Int) < (i : Int) := by omega
                have f4 : ¬ (e : Int) < (b : Int) := by omega
                have f5 := HE7.out
                have f6 := HE8.out
                have g5 : (i : Int) < (mid : Int) := by omega
                have g6 : (mid : Int) < (e : Int) := by omega
                clear f5 f6
                have HRO := Lib.hid (rotate_any g n cp i m e X (.func (.func F) #[] #[]) wr hn (by omega) (by omega) (by omega) HROW.out)
                go_wp2_with fail
                refine HRO.out.mono ?_
                rintro e1 w2 ⟨rfl, hr2, hT2⟩
                have HR3 := Lib.hid hr2
                have HT3 := Lib.hid ((Turned.of_below HB.out).trans hT2)
                clear hr2 hT2 HRO
                have hD3 := HSX.out.all hbn D HD.out
                have HD3 := Lib.hid hD3
                clear hD3
                have HLF := Lib.hid (HIH.out a i mid (rotF i m e X) w2 (by omega) (by omega) (by omega) (by omega) HD3.out HH.out.h1 HH.out.h2 HT3.out HR3.out)
                go_wp2_with fail
                refine HLF.out.mono ?_
                rintro e2 w3 ⟨rfl, ⟨Y1, hr3, hk1, hs1⟩, hT3⟩
                have HR4 := Lib.hid hr3
                have HK1 := Lib.hid hk1
                have HS1 := Lib.hid hs1
                have HT4 := Lib.hid (HT3.out.trans hT3)
                clear hr3 hk1 hs1 hT3 HLF
                have HD4 : Hid (∀ t, t < n → D (Y1 t)) := Lib.hid (HK1.out.all (by omega) D HD3.out)
                have HS3 : Hid (SrtOn key Y1 mid e) := Lib.hid (fun x y g1 g2 g3 => by rw [HK1.out.out_ (.inr g1), HK1.out.out_ (.inr (by omega))]; exact HH.out.h3 x y g1 g2 g3)
                have HS4 : Hid (SrtOn key Y1 e b) := Lib.hid (fun x y g1 g2 g3 => by rw [HK1.out.out_ (.inr (by omega)), HK1.out.out_ (.inr (by omega))]; exact HH.out.h4 x y g1 g2 g3)
                have HFI : Hid (PRw w3 g n Y1 ∧ Sws mid b Y1 Y1 ∧ SrtOn key Y1 mid b ∧ Turned (fun k => k = g) wc w3) := Lib.hid ⟨HR4.out, .refl _, fun x y g1 g2 g3 => HS3.out x y g1 g2 (by omega), HT4.out⟩
                go_wp2
                all_goals
                  go_end0
                  exact ⟨rfl, ⟨_, HFI.out.1, (HSX.out.trans (HK1.out.mono (Nat.le_refl _) (by omega))).trans (HFI.out.2.1.mono (by omega) (Nat.le_refl _)), halves_end HH.out HK1.out HS1.out HFI.out.2.1 HFI.out.2.2.1⟩, HFI.out.2.2.2⟩
            · by_cases c4 : e < b
              · have f1 : (i : Int) < (m : Int) := by omega
                have f2 : (m : Int) < (e : Int) := by omega
                have f3 : ¬ (a : Int) < (i : Int) := by omega
                have f4 : (e : Int) < (b : Int) := by omega
                have f5 := HE7.out
                have f6 := HE8.out
                have g5 : (i : Int) < (mid : Int) := by omega
                have g6 : (mid : Int) < (e : Int) := by omega
                clear f5 f6
                have HRO := Lib.hid (rotate_any g n cp i m e X (.func (.func F) #[] #[]) wr hn (by omega) (by omega) (by omega) HROW.out)
                go_wp2_with fail
                refine HRO.out.mono ?_
                rintro e1 w2 ⟨rfl, hr2, hT2⟩
                have HR3 := Lib.hid hr2
                have HT3 := Lib.hid ((Turned.of_below HB.out).trans hT2)
                clear hr2 hT2 HRO
                have hD3 := HSX.out.all hbn D HD.out
                have HD3 := Lib.hid hD3
                clear hD3
                have HR4 : Hid (PRw w2 g n (rotF i m e X)) := HR3
                have HK1 : Hid (Sws a mid (rotF i m e X) (rotF i m e X)) := Lib.hid (.refl _)
                have HS1 : Hid (SrtOn key (rotF i m e X) a mid) := Lib.hid (fun x y g1 g2 g3 => HH.out.h2 x y (by omega) g2 g3)
                have HT4 : Hid (Turned (fun k => k = g) wc w2) := HT3
                have HD4 : Hid (∀ t, t < n → D ((rotF i m e X) t)) := Lib.hid (HK1.out.all (by omega) D HD3.out)
                have HS3 : Hid (SrtOn key (rotF i m e X) mid e) := Lib.hid (fun x y g1 g2 g3 => by rw [HK1.out.out_ (.inr g1), HK1.out.out_ (.inr (by omega))]; exact HH.out.h3 x y g1 g2 g3)
                have HS4 : Hid (SrtOn key (rotF i m e X) e b) := Lib.hid (fun x y g1 g2 g3 => by rw [HK1.out.out_ (.inr (by omega)), HK1.out.out_ (.inr (by omega))]; exact HH.out.h4 x y g1 g2 g3)
                have HRF := Lib.hid (HIH.out mid e b (rotF i m e X) w2 (by omega) (by omega) (by omega) (by omega) HD4.out HS3.out HS4.out HT4.out HR4.out)
                go_wp2_with fail
                refine HRF.out.mono ?_
                rintro e3 w4 ⟨rfl, ⟨Y2, hr4, hk2, hs2⟩, hT4⟩
                have HFI := Lib.hid (And.intro hr4 (And.intro hk2 (And.intro hs2 (HT4.out.trans hT4))))
                clear hr4 hk2 hs2 hT4 HRF
                go_wp2
                all_goals
                  go_end0
                  exact ⟨rfl, ⟨_, HFI.out.1, (HSX.out.trans (HK1.out.mono (Nat.le_refl _) (by omega))).trans (HFI.out.2.1.mono (by omega) (Nat.le_refl _)), halves_end HH.out HK1.out HS1.out HFI.out.2.1 HFI.out.2.2.1⟩, HFI.out.2.2.2⟩
              · have f1 : (i : Int) < (m : Int) := by omega
                have f2 : (m : Int) < (e : Int) := by omega
                have f3 : ¬ (a : Int) < (i : Int) := by omega
                have f4 : ¬ (e : Int) < (b : Int) := by omega
                have f5 := HE7.out
                have f6 := HE8.out
                have g5 : (i : Int) < (mid : Int) := by omega
                have g6 : (mid : Int) < (e : Int) := by omega
                clear f5 f6
                have HRO := Lib.hid (rotate_any g n cp i m e X (.func (.func F) #[] #[]) wr hn (by omega) (by omega) (by omega) HROW.out)
                go_wp2_with fail
                refine HRO.out.mono ?_
                rintro e1 w2 ⟨rfl, hr2, hT2⟩
                have HR3 := Lib.hid hr2
                have HT3 := Lib.hid ((Turned.of_below HB.out).trans hT2)
                clear hr2 hT2 HRO
                have hD3 := HSX.out.all hbn D HD.out
                have HD3 := Lib.hid hD3
                clear hD3
                have HR4 : Hid (PRw w2 g n (rotF i m e X)) := HR3
                have HK1 : Hid (Sws a mid (rotF i m e X) (rotF i m e X)) := Lib.hid (.refl _)
                have HS1 : Hid (SrtOn key (rotF i m e X) a mid) := Lib.hid (fun x y g1 g2 g3 => HH.out.h2 x y (by omega) g2 g3)
                have HT4 : Hid (Turned (fun k => k = g) wc w2) := HT3
                have HD4 : Hid (∀ t, t < n → D ((rotF i m e X) t)) := Lib.hid (HK1.out.all (by omega) D HD3.out)
                have HS3 : Hid (SrtOn key (rotF i m e X) mid e) := Lib.hid (fun x y g1 g2 g3 => by rw [HK1.out.out_ (.inr g1), HK1.out.out_ (.inr (by omega))]; exact HH.out.h3 x y g1 g2 g3)
                have HS4 : Hid (SrtOn key (rotF i m e X) e b) := Lib.hid (fun x y g1 g2 g3 => by rw [HK1.out.out_ (.inr (by omega)), HK1.out.out_ (.inr (by omega))]; exact HH.out.h4 x y g1 g2 g3)
                have HFI : Hid (PRw w2 g n (rotF i m e X) ∧ Sws mid b (rotF i m e X) (rotF i m e X) ∧ SrtOn key (rotF i m e X) mid b ∧ Turned (fun k => k = g) wc w2) := Lib.hid ⟨HR4.out, .refl _, fun x y g1 g2 g3 => HS3.out x y g1 g2 (by omega), HT4.out⟩
                go_wp2
                all_goals
                  go_end0
                  exact ⟨rfl, ⟨_, HFI.out.1, (HSX.out.trans (HK1.out.mono (Nat.le_refl _) (by omega))).trans (HFI.out.2.1.mono (by omega) (Nat.le_refl _)), halves_end HH.out HK1.out HS1.out HFI.out.2.1 HFI.out.2.2.1⟩, HFI.out.2.2.2⟩
          · by_cases c3 : a < i
            · by_cases c4 : e < b
              · have f1 : (i : Int) < (m : Int) := by omega
                have f2 : ¬ (m : Int) < (e : Int) := by omega
                have f3 : (a : Int) < (i : Int) := by omega
                have f4 : (e : Int) < (b : Int) := by omega
                have f5 := HE7.out
                have f6 := HE8.out
                have g5 : ¬ (i : Int) < (mid : Int) := by omega
                have g6 : (mid : Int) < (e : Int) := by omega
                clear f5 f6
                have HR3 : Hid (PRw wr g n (rotF i m e X)) := Lib.hid (by rw [rot_id X (by omega) (by omega) (by omega)]; exact HROW.out)
                have HT3 : Hid (Turned (fun k => k = g) wc wr) := Lib.hid (Turned.of_below HB.out)
                have hD3 := HSX.out.all hbn D HD.out
                have HD3 := Lib.hid hD3
                clear hD3
                have HR4 : Hid (PRw wr g n (rotF i m e X)) := HR3
                have HK1 : Hid (Sws a mid (rotF i m e X) (rotF i m e X)) := Lib.hid (.refl _)
                have HS1 : Hid (SrtOn key (rotF i m e X) a mid) := Lib.hid (fun x y g1 g2 g3 => HH.out.h1 x y g1 g2 (by omega))
                have HT4 : Hid (Turned (fun k => k = g) wc wr) := HT3
                have HD4 : Hid (∀ t, t < n → D ((rotF i m e X) t)) := Lib.hid (HK1.out.all (by omega) D HD3.out)
                have HS3 : Hid (SrtOn key (rotF i m e X) mid e) := Lib.hid (fun x y g1 g2 g3 => by rw [HK1.out.out_ (.inr g1), HK1.out.out_ (.inr (by omega))]; exact HH.out.h3 x y g1 g2 g3)
                have HS4 : Hid (SrtOn key (rotF i m e X) e b) := Lib.hid (fun x y g1 g2 g3 => by rw [HK1.out.out_ (.inr (by omega)), HK1.out.out_ (.inr (by omega))]; exact HH.out.h4 x y g1 g2 g3)
                have HRF := Lib.hid (HIH.out mid e b (rotF i m e X) wr (by omega) (by omega) (by omega) (by omega) HD4.out HS3.out HS4.out HT4.out HR4.out)
                go_wp2_with fail
                refine HRF.out.mono ?_
                rintro e3 w4 ⟨rfl, ⟨Y2, hr4, hk2, hs2⟩, hT4⟩
                have HFI := Lib.hid (And.intro hr4 (And.intro hk2 (And.intro hs2 (HT4.out.trans hT4))))
                clear hr4 hk2 hs2 hT4 HRF
                go_wp2
                all_goals
                  go_end0
                  exact ⟨rfl, ⟨_, HFI.out.1, (HSX.out.trans (HK1.out.mono (Nat.le_refl _) (by omega))).trans (HFI.out.2.1.mono (by omega) (Nat.le_refl _)), halves_end HH.out HK1.out HS1.out HFI.out.2.1 HFI.out.2.2.1⟩, HFI.out.2.2.2⟩
              · have f1 : (i : Int) < (m : Int) := by omega
                have f2 : ¬ (m : Int) < (e : Int) := by omega
                have f3 : (a : Int) < (i : Int) := by omega
                have f4 : ¬ (e : Int) < (b : Int) := by omega
                have f5 := HE7.out
                have f6 := HE8.out
                have g5 : ¬ (i : Int) < (mid : Int) := by omega
                have g6 : (mid : Int) < (e : Int) := by omega
                clear f5 f6
                have HR3 : Hid (PRw wr g n (rotF i m e X)) := Lib.hid (by rw [rot_id X (by omega) (by omega) (by omega)]; exact HROW.out)
                have HT3 : Hid (Turned (fun k => k = g) wc wr) := Lib.hid (Turned.of_below HB.out)
                have hD3 := HSX.out.all hbn D HD.out
                have HD3 := Lib.hid hD3
                clear hD3
                have HR4 : Hid (PRw wr g n (rotF i m e X)) := HR3
                have HK1 : Hid (Sws a mid (rotF i m e X) (rotF i m e X)) := Lib.hid (.refl _)
                have HS1 : Hid (SrtOn key (rotF i m e X) a mid) := Lib.hid (fun x y g1 g2 g3 => HH.out.h1 x y g1 g2 (by omega))
                have HT4 : Hid (Turned (fun k => k = g) wc wr) := HT3
                have HD4 : Hid (∀ t, t < n → D ((rotF i m e X) t)) := Lib.hid (HK1.out.all (by omega) D HD3.out)
                have HS3 : Hid (SrtOn key (rotF i m e X) mid e) := Lib.hid (fun x y g1 g2 g3 => by rw [HK1.out.out_ (.inr g1), HK1.out.out_ (.inr (by omega))]; exact HH.out.h3 x y g1 g2 g3)
                have HS4 : Hid (SrtOn key (rotF i m e X) e b) := Lib.hid (fun x y g1 g2 g3 => by rw [HK1.out.out_ (.inr (by omega)), HK1.out.out_ (.inr (by omega))]; exact HH.out.h4 x y g1 g2 g3)
                have HFI : Hid (PRw wr g n (rotF i m e X) ∧ Sws mid b (rotF i m e X) (rotF i m e X) ∧ SrtOn key (rotF i m e X) mid b ∧ Turned (fun k => k = g) wc wr) := Lib.hid ⟨HR4.out, .refl _, fun x y g1 g2 g3 => HS3.out x y g1 g2 (by omega), HT4.out⟩
                go_wp2
                all_goals
                  go_end0
                  exact ⟨rfl, ⟨_, HFI.out.1, (HSX.out.trans (HK1.out.mono (Nat.le_refl _) (by omega))).trans (HFI.out.2.1.mono (by omega) (Nat.le_refl _)), halves_end HH.out HK1.out HS1.out HFI.out.2.1 HFI.out.2.2.1⟩, HFI.out.2.2.2⟩
            · by_cases c4 : e < b
              · have f1 : (i : Int) < (m : Int) := by omega
                have f2 : ¬ (m : Int) < (e : Int) := by omega
                have f3 : ¬ (a : Int) < (i : Int) := by omega
                have f4 : (e : Int) < (b : Int) := by omega
                have f5 := HE7.out
                have f6 := HE8.out
                have g5 : ¬ (i : Int) < (mid : Int) := by omega
                have g6 : (mid : Int) < (e : Int) := by omega
                clear f5 f6
                have HR3 : Hid (PRw wr g n (rotF i m e X)) := Lib.hid (by rw [rot_id X (by omega) (by omega) (by omega)]; exact HROW.out)
                have HT3 : Hid (Turned (fun k => k = g) wc wr) := Lib.hid (Turned.of_below HB.out)
                have hD3 := HSX.out.all hbn D HD.out
                have HD3 := Lib.hid hD3
                clear hD3
                have HR4 : Hid (PRw wr g n (rotF i m e X)) := HR3
                have HK1 : Hid (Sws a mid (rotF i m e X) (rotF i m e X)) := Lib.hid (.refl _)
                have HS1 : Hid (SrtOn key (rotF i m e X) a mid) := Lib.hid (fun x y g1 g2 g3 => HH.out.h1 x y g1 g2 (by omega))
                have HT4 : Hid (Turned (fun k => k = g) wc wr) := HT3
                have HD4 : Hid (∀ t, t < n → D ((rotF i m e X) t)) := Lib.hid (HK1.out.all (by omega) D HD3.out)
                have HS3 : Hid (SrtOn key (rotF i m e X) mid e) := Lib.hid (fun x y g1 g2 g3 => by rw [HK1.out.out_ (.inr g1), HK1.out.out_ (.inr (by omega))]; exact HH.out.h3 x y g1 g2 g3)
                have HS4 : Hid (SrtOn key (rotF i m e X) e b) := Lib.hid (fun x y g1 g2 g3 => by rw [HK1.out.out_ (.inr (by omega)), HK1.out.out_ (.inr (by omega))]; exact HH.out.h4 x y g1 g2 g3)
                have HRF := Lib.hid (HIH.out mid e b (rotF i m e X) wr (by omega) (by omega) (by omega) (by omega) HD4.out HS3.out HS4.out HT4.out HR4.out)
                go_wp2_with fail
                refine HRF.out.mono ?_
                rintro e3 w4 ⟨rfl, ⟨Y2, hr4, hk2, hs2⟩, hT4⟩
                have HFI := Lib.hid (And.intro hr4 (And.intro hk2 (And.intro hs2 (HT4.out.trans hT4))))
                clear hr4 hk2 hs2 hT4 HRF
                go_wp2
                all_goals
                  go_end0
                  exact ⟨rfl, ⟨_, HFI.out.1, (HSX.out.trans (HK1.out.mono (Nat.le_refl _) (by omega))).trans (HFI.out.2.1.mono (by omega) (Nat.le_refl _)), halves_end HH.out HK1.out HS1.out HFI.out.2.1 HFI.out.2.2.1⟩, HFI.out.2.2.2⟩
              · have f1 : (i : Int) < (m : Int) := by omega
                have f2 : ¬ (m : Int) < (e : Int) := by omega
                have f3 : ¬ (a : Int) < (i : Int) := by omega
                have f4 : ¬ (e : Int) < (b : Int) := by omega
                have f5 := HE7.out
                have f6 := HE8.out
                have g5 : ¬ (i : Int) < (mid : Int) := by omega
                have g6 : (mid : Int) < (e : Int) := by omega
                clear f5 f6
                have HR3 : Hid (PRw wr g n (rotF i m e X)) := Lib.hid (by rw [rot_id X (by omega) (by omega) (by omega)]; exact HROW.out)
                have HT3 : Hid (Turned (fun k => k = g) wc wr) := Lib.hid (Turned.of_below HB.out)
                have hD3 := HSX.out.all hbn D HD.out
                have HD3 := Lib.hid hD3
                clear hD3
                have HR4 : Hid (PRw wr g n (rotF i m e X)) := HR3
                have HK1 : Hid (Sws a mid (rotF i m e X) (rotF i m e X)) := Lib.hid (.refl _)
                have HS1 : Hid (SrtOn key (rotF i m e X) a mid) := Lib.hid (fun x y g1 g2 g3 => HH.out.h1 x y g1 g2 (by omega))
                have HT4 : Hid (Turned (fun k => k = g) wc wr) := HT3
                have HD4 : Hid (∀ t, t < n → D ((rotF i m e X) t)) := Lib.hid (HK1.out.all (by omega) D HD3.out)
                have HS3 : Hid (SrtOn key (rotF i m e X) mid e) := Lib.hid (fun x y g1 g2 g3 => by rw [HK1.out.out_ (.inr g1), HK1.out.out_ (.inr (by omega))]; exact HH.out.h3 x y g1 g2 g3)
                have HS4 : Hid (SrtOn key (rotF i m e X) e b) := Lib.hid (fun x y g1 g2 g3 => by rw [HK1.out.out_ (.inr (by omega)), HK1.out.out_ (.inr (by omega))]; exact HH.out.h4 x y g1 g2 g3)
                have HFI : Hid (PRw wr g n (rotF i m e X) ∧ Sws mid b (rotF i m e X) (rotF i m e X) ∧ SrtOn key (rotF i m e X) mid b ∧ Turned (fun k => k = g) wc wr) := Lib.hid ⟨HR4.out, .refl _, fun x y g1 g2 g3 => HS3.out x y g1 g2 (by omega), HT4.out⟩
                go_wp2
                all_goals
                  go_end0
                  exact ⟨rfl, ⟨_, HFI.out.1, (HSX.out.trans (HK1.out.mono (Nat.le_refl _) (by omega))).trans (HFI.out.2.1.mono (by omega) (Nat.le_refl _)), halves_end HH.out HK1.out HS1.out HFI.out.2.1 HFI.out.2.2.1⟩, HFI.out.2.2.2⟩
        · by_cases c2 : m < e
          · by_cases c3 : a < i
            · by_cases c4 : e < b
              · have f1 : ¬ (i : Int) < (m : Int) := by omega
                have f2 : (m : Int) < (e : Int) := by omega
                have f3 : (a : Int) < (i : Int) := by omega
                have f4 : (e : Int) < (b : Int) := by omega
                have f5 := HE7.out
                have f6 := HE8.out
                have g5 : (i : Int) < (mid : Int) := by omega
                have g6 : ¬ (mid : Int) < (e : Int) := by omega
                clear f5 f6
                have HR3 : Hid (PRw wr g n (rotF i m e X)) := Lib.hid (by rw [rot_id X (by omega) (by omega) (by omega)]; exact HROW.out)
                have HT3 : Hid (Turned (fun k => k = g) wc wr) := Lib.hid (Turned.of_below HB.out)
                have hD3 := HSX.out.all hbn D HD.out
                have HD3 := Lib.hid hD3
                clear hD3
                have HLF := Lib.hid (HIH.out a i mid (rotF i m e X) wr (by omega) (by omega) (by omega) (by omega) HD3.out HH.out.h1 HH.out.h2 HT3.out HR3.out)
                go_wp2_with fail
                refine HLF.out.mono ?_
                rintro e2 w3 ⟨rfl, ⟨Y1, hr3, hk1, hs1⟩, hT3⟩
                have HR4 := Lib.hid hr3
                have HK1 := Lib.hid hk1
                have HS1 := Lib.hid hs1
                have HT4 := Lib.hid (HT3.out.trans hT3)
                clear hr3 hk1 hs1 hT3 HLF
                have HD4 : Hid (∀ t, t < n → D (Y1 t)) := Lib.hid (HK1.out.all (by omega) D HD3.out)
                have HS3 : Hid (SrtOn key Y1 mid e) := Lib.hid (fun x y g1 g2 g3 => by rw [HK1.out.out_ (.inr g1), HK1.out.out_ (.inr (by omega))]; exact HH.out.h3 x y g1 g2 g3)
                have HS4 : Hid (SrtOn key Y1 e b) := Lib.hid (fun x y g1 g2 g3 => by rw [HK1.out.out_ (.inr (by omega)), HK1.out.out_ (.inr (by omega))]; exact HH.out.h4 x y g1 g2 g3)
                have HFI : Hid (PRw w3 g n Y1 ∧ Sws mid b Y1 Y1 ∧ SrtOn key Y1 mid b ∧ Turned (fun k => k = g) wc w3) := Lib.hid ⟨HR4.out, .refl _, fun x y g1 g2 g3 => HS4.out x y (by omega) g2 g3, HT4.out⟩
                go_wp2
                all_goals
                  go_end0
                  exact ⟨rfl, ⟨_, HFI.out.1, (HSX.out.trans (HK1.out.mono (Nat.le_refl _) (by omega))).trans (HFI.out.2.1.mono (by omega) (Nat.le_refl _)), halves_end HH.out HK1.out HS1.out HFI.out.2.1 HFI.out.2.2.1⟩, HFI.out.2.2.2⟩
              · have f1 : ¬ (i : Int) < (m : Int) := by omega
                have f2 : (m : Int) < (e : Int) := by omega
                have f3 : (a : Int) < (i : Int) := by omega
                have f4 : ¬ (e : Int) < (b : Int) := by omega
                have f5 := HE7.out
                have f6 := HE8.out
                have g5 : (i : Int) < (mid : Int) := by omega
                have g6 : ¬ (mid : Int) < (e : Int) := by omega
                clear f5 f6
                have HR3 : Hid (PRw wr g n (rotF i m e X)) := Lib.hid (by rw [rot_id X (by omega) (by omega) (by omega)]; exact HROW.out)
                have HT3 : Hid (Turned (fun k => k = g) wc wr) := Lib.hid (Turned.of_below HB.out)
                have hD3 := HSX.out.all hbn D HD.out
                have HD3 := Lib.hid hD3
                clear hD3
                have HLF := Lib.hid (HIH.out a i mid (rotF i m e X) wr (by omega) (by omega) (by omega) (by omega) HD3.out HH.out.h1 HH.out.h2 HT3.out HR3.out)
                go_wp2_with fail
                refine HLF.out.mono ?_
                rintro e2 w3 ⟨rfl, ⟨Y1, hr3, hk1, hs1⟩, hT3⟩
                have HR4 := Lib.hid hr3
                have HK1 := Lib.hid hk1
                have HS1 := Lib.hid hs1
                have HT4 := Lib.hid (HT3.out.trans hT3)
                clear hr3 hk1 hs1 hT3 HLF
                have HD4 : Hid (∀ t, t < n → D (Y1 t)) := Lib.hid (HK1.out.all (by omega) D HD3.out)
                have HS3 : Hid (SrtOn key Y1 mid e) := Lib.hid (fun x y g1 g2 g3 => by rw [HK1.out.out_ (.inr g1), HK1.out.out_ (.inr (by omega))]; exact HH.out.h3 x y g1 g2 g3)
                have HS4 : Hid (SrtOn key Y1 e b) := Lib.hid (fun x y g1 g2 g3 => by rw [HK1.out.out_ (.inr (by omega)), HK1.out.out_ (.inr (by omega))]; exact HH.out.h4 x y g1 g2 g3)
                have HFI : Hid (PRw w3 g n Y1 ∧ Sws mid b Y1 Y1 ∧ SrtOn key Y1 mid b ∧ Turned (fun k => k = g) wc w3) := Lib.hid ⟨HR4.out, .refl _, fun x y g1 g2 g3 => HS4.out x y (by omega) g2 g3, HT4.out⟩
                go_wp2
                all_goals
                  go_end0
                  exact ⟨rfl, ⟨_, HFI.out.1, (HSX.out.trans (HK1.out.mono (Nat.le_refl _) (by omega))).trans (HFI.out.2.1.mono (by omega) (Nat.le_refl _)), halves_end HH.out HK1.out HS1.out HFI.out.2.1 HFI.out.2.2.1⟩, HFI.out.2.2.2⟩
            · by_cases c4 : e < b
              · have f1 : ¬ (i : Int) < (m : Int) := by omega
                have f2 : (m : Int) < (e : Int) := by omega
                have f3 : ¬ (a : Int) < (i : Int) := by omega
                have f4 : (e : Int) < (b : Int) := by omega
                have f5 := HE7.out
                have f6 := HE8.out
                have g5 : (i : Int) < (mid : Int) := by omega
                have g6 : ¬ (mid : Int) < (e : Int) := by omega
                clear f5 f6
                have HR3 : Hid (PRw wr g n (rotF i m e X)) := Lib.hid (by rw [rot_id X (by omega) (by omega) (by omega)]; exact HROW.out)
                have HT3 : Hid (Turned (fun k => k = g) wc wr) := Lib.hid (Turned.of_below HB.out)
                have hD3 := HSX.out.all hbn D HD.out
                have HD3 := Lib.hid hD3
                clear hD3
                have HR4 : Hid (PRw wr g n (rotF i m e X)) := HR3
                have HK1 : Hid (Sws a mid (rotF i m e X) (rotF i m e X)) := Lib.hid (.refl _)
                have HS1 : Hid (SrtOn key (rotF i m e X) a mid) := Lib.hid (fun x y g1 g2 g3 => HH.out.h2 x y (by omega) g2 g3)
                have HT4 : Hid (Turned (fun k => k = g) wc wr) := HT3
                have HD4 : Hid (∀ t, t < n → D ((rotF i m e X) t)) := Lib.hid (HK1.out.all (by omega) D HD3.out)
                have HS3 : Hid (SrtOn key (rotF i m e X) mid e) := Lib.hid (fun x y g1 g2 g3 => by rw [HK1.out.out_ (.inr g1), HK1.out.out_ (.inr (by omega))]; exact HH.out.h3 x y g1 g2 g3)
                have HS4 : Hid (SrtOn key (rotF i m e X) e b) := Lib.hid (fun x y g1 g2 g3 => by rw [HK1.out.out_ (.inr (by omega)), HK1.out.out_ (.inr (by omega))]; exact HH.out.h4 x y g1 g2 g3)
                have HFI : Hid (PRw wr g n (rotF i m e X) ∧ Sws mid b (rotF i m e X) (rotF i m e X) ∧ SrtOn key (rotF i m e X) mid b ∧ Turned (fun k => k = g) wc wr) := Lib.hid ⟨HR4.out, .refl _, fun x y g1 g2 g3 => HS4.out x y (by omega) g2 g3, HT4.out⟩
                go_wp2
                all_goals
                  go_end0
                  exact ⟨rfl, ⟨_, HFI.out.1, (HSX.out.trans (HK1.out.mono (Nat.le_refl _) (by omega))).trans (HFI.out.2.1.mono (by omega) (Nat.le_refl _)), halves_end HH.out HK1.out HS1.out HFI.out.2.1 HFI.out.2.2.1⟩, HFI.out.2.2.2⟩
              · have f1 : ¬ (i : Int) < (m : Int) := by omega
                have f2 : (m : Int) < (e : Int) := by omega
                have f3 : ¬ (a : Int) < (i : Int) := by omega
                have f4 : ¬ (e : Int) < (b : Int) := by omega
                have f5 := HE7.out
                have f6 := HE8.out
                have g5 : (i : Int) < (mid : Int) := by omega
                have g6 : ¬ (mid : Int) < (e : Int) := by omega
                clear f5 f6
                have HR3 : Hid (PRw wr g n (rotF i m e X)) := Lib.hid (by rw [rot_id X (by omega) (by omega) (by omega)]; exact HROW.out)
                have HT3 : Hid (Turned (fun k => k = g) wc wr) := Lib.hid (Turned.of_below HB.out)
                have hD3 := HSX.out.all hbn D HD.out
                have HD3 := Lib.hid hD3
                clear hD3
                have HR4 : Hid (PRw wr g n (rotF i m e X)) := HR3
                have HK1 : Hid (Sws a mid (rotF i m e X) (rotF i m e X)) := Lib.hid (.refl _)
                have HS1 : Hid (SrtOn key (rotF i m e X) a mid) := Lib.hid (fun x y g1 g2 g3 => HH.out.h2 x y (by omega) g2 g3)
                have HT4 : Hid (Turned (fun k => k = g) wc wr) := HT3
                have HD4 : Hid (∀ t, t < n → D ((rotF i m e X) t)) := Lib.hid (HK1.out.all (by omega) D HD3.out)
                have HS3 : Hid (SrtOn key (rotF i m e X) mid e) := Lib.hid (fun x y g1 g2 g3 => by rw [HK1.out.out_ (.inr g1), HK1.out.out_ (.inr (by omega))]; exact HH.out.h3 x y g1 g2 g3)
                have HS4 : Hid (SrtOn key (rotF i m e X) e b) := Lib.hid (fun x y g1 g2 g3 => by rw [HK1.out.out_ (.inr (by omega)), HK1.out.out_ (.inr (by omega))]; exact HH.out.h4 x y g1 g2 g3)
                have HFI : Hid (PRw wr g n (rotF i m e X) ∧ Sws mid b (rotF i m e X) (rotF i m e X) ∧ SrtOn key (rotF i m e X) mid b ∧ Turned (fun k => k = g) wc wr) := Lib.hid ⟨HR4.out, .refl _, fun x y g1 g2 g3 => HS4.out x y (by omega) g2 g3, HT4.out⟩
                go_wp2
                all_goals
                  go_end0
                  exact ⟨rfl, ⟨_, HFI.out.1, (HSX.out.trans (HK1.out.mono (Nat.le_refl _) (by omega))).trans (HFI.out.2.1.mono (by omega) (Nat.le_refl _)), halves_end HH.out HK1.out HS1.out HFI.out.2.1 HFI.out.2.2.1⟩, HFI.out.2.2.2⟩
          · by_cases c3 : a < i
            · by_cases c4 : e < b
              · have f1 : ¬ (i : Int) < (m : Int) := by omega
                have f2 : ¬ (m : Int) < (e : Int) := by omega
                have f3 : (a : Int) < (i : Int) := by omega
                have f4 : (e : Int) < (b : Int) := by omega
                have f5 := HE7.out
                have f6 := HE8.out
                have g5 : ¬ (i : Int) < (mid : Int) := by omega
                have g6 : ¬ (mid : Int) < (e : Int) := by omega
                clear f5 f6
                have HR3 : Hid (PRw wr g n (rotF i m e X)) := Lib.hid (by rw [rot_id X (by omega) (by omega) (by omega)]; exact HROW.out)
                have HT3 : Hid (Turned (fun k => k = g) wc wr) := Lib.hid (Turned.of_below HB.out)
                have hD3 := HSX.out.all hbn D HD.out
                have HD3 := Lib.hid hD3
                clear hD3
                have HR4 : Hid (PRw wr g n (rotF i m e X)) := HR3
                have HK1 : Hid (Sws a mid (rotF i m e X) (rotF i m e X)) := Lib.hid (.refl _)
                have HS1 : Hid (SrtOn key (rotF i m e X) a mid) := Lib.hid (fun x y g1 g2 g3 => HH.out.h1 x y g1 g2 (by omega))
                have HT4 : Hid (Turned (fun k => k = g) wc wr) := HT3
                have HD4 : Hid (∀ t, t < n → D ((rotF i m e X) t)) := Lib.hid (HK1.out.all (by omega) D HD3.out)
                have HS3 : Hid (SrtOn key (rotF i m e X) mid e) := Lib.hid (fun x y g1 g2 g3 => by rw [HK1.out.out_ (.inr g1), HK1.out.out_ (.inr (by omega))]; exact HH.out.h3 x y g1 g2 g3)
                have HS4 : Hid (SrtOn key (rotF i m e X) e b) := Lib.hid (fun x y g1 g2 g3 => by rw [HK1.out.out_ (.inr (by omega)), HK1.out.out_ (.inr (by omega))]; exact HH.out.h4 x y g1 g2 g3)
                have HFI : Hid (PRw wr g n (rotF i m e X) ∧ Sws mid b (rotF i m e X) (rotF i m e X) ∧ SrtOn key (rotF i m e X) mid b ∧ Turned (fun k => k = g) wc wr) := Lib.hid ⟨HR4.out, .refl _, fun x y g1 g2 g3 => HS4.out x y (by omega) g2 g3, HT4.out⟩
                go_wp2
                all_goals
                  go_end0
                  exact ⟨rfl, ⟨_, HFI.out.1, (HSX.out.trans (HK1.out.mono (Nat.le_refl _) (by omega))).trans (HFI.out.2.1.mono (by omega) (Nat.le_refl _)), halves_end HH.out HK1.out HS1.out HFI.out.2.1 HFI.out.2.2.1⟩, HFI.out.2.2.2⟩
              · have f1 : ¬ (i : Int) < (m : Int) := by omega
                have f2 : ¬ (m : Int) < (e : Int) := by omega
                have f3 : (a : Int) < (i : Int) := by omega
                have f4 : ¬ (e : Int) < (b : Int) := by omega
                have f5 := HE7.out
                have f6 := HE8.out
                have g5 : ¬ (i : Int) < (mid : Int) := by omega
                have g6 : ¬ (mid : Int) < (e : Int) := by omega
                clear f5 f6
                have HR3 : Hid (PRw wr g n (rotF i m e X)) := Lib.hid (by rw [rot_id X (by omega) (by omega) (by omega)]; exact HROW.out)
                have HT3 : Hid (Turned (fun k => k = g) wc wr) := Lib.hid (Turned.of_below HB.out)
                have hD3 := HSX.out.all hbn D HD.out
                have HD3 := Lib.hid hD3
                clear hD3
                have HR4 : Hid (PRw wr g n (rotF i m e X)) := HR3
                have HK1 : Hid (Sws a mid (rotF i m e X) (rotF i m e X)) := Lib.hid (.refl _)
                have HS1 : Hid (SrtOn key (rotF i m e X) a mid) := Lib.hid (fun x y g1 g2 g3 => HH.out.h1 x y g1 g2 (by omega))
                have HT4 : Hid (Turned (fun k => k = g) wc wr) := HT3
                have HD4 : Hid (∀ t, t < n → D ((rotF i m e X) t)) := Lib.hid (HK1.out.all (by omega) D HD3.out)
                have HS3 : Hid (SrtOn key (rotF i m e X) mid e) := Lib.hid (fun x y g1 g2 g3 => by rw [HK1.out.out_ (.inr g1), HK1.out.out_ (.inr (by omega))]; exact HH.out.h3 x y g1 g2 g3)
                have HS4 : Hid (SrtOn key (rotF i m e X) e b) := Lib.hid (fun x y g1 g2 g3 => by rw [HK1.out.out_ (.inr (by omega)), HK1.out.out_ (.inr (by omega))]; exact HH.out.h4 x y g1 g2 g3)
                have HFI : Hid (PRw wr g n (rotF i m e X) ∧ Sws mid b (rotF i m e X) (rotF i m e X) ∧ SrtOn key (rotF i m e X) mid b ∧ Turned (fun k => k = g) wc wr) := Lib.hid ⟨HR4.out, .refl _, fun x y g1 g2 g3 => HS4.out x y (by omega) g2 g3, HT4.out⟩
                go_wp2
                all_goals
                  go_end0
                  exact ⟨rfl, ⟨_, HFI.out.1, (HSX.out.trans (HK1.out.mono (Nat.le_refl _) (by omega))).trans (HFI.out.2.1.mono (by omega) (Nat.le_refl _)), halves_end HH.out HK1.out HS1.out HFI.out.2.1 HFI.out.2.2.1⟩, HFI.out.2.2.2⟩
            · by_cases c4 : e < b
              · have f1 : ¬ (i : Int) < (m : Int) := by omega
                have f2 : ¬ (m : Int) < (e : Int) := by omega
                have f3 : ¬ (a : Int) < (i : Int) := by omega
                have f4 : (e : Int) < (b : Int) := by omega
                have f5 := HE7.out
                have f6 := HE8.out
                have g5 : ¬ (i : Int) < (mid : Int) := by omega
                have g6 : ¬ (mid : Int) < (e : Int) := by omega
                clear f5 f6
                have HR3 : Hid (PRw wr g n (rotF i m e X)) := Lib.hid (by rw [rot_id X (by omega) (by omega) (by omega)]; exact HROW.out)
                have HT3 : Hid (Turned (fun k => k = g) wc wr) := Lib.hid (Turned.of_below HB.out)
                have hD3 := HSX.out.all hbn D HD.out
                have HD3 := Lib.hid hD3
                clear hD3
                have HR4 : Hid (PRw wr g n (rotF i m e X)) := HR3
                have HK1 : Hid (Sws a mid (rotF i m e X) (rotF i m e X)) := Lib.hid (.refl _)
                have HS1 : Hid (SrtOn key (rotF i m e X) a mid) := Lib.hid (fun x y g1 g2 g3 => HH.out.h1 x y g1 g2 (by omega))
                have HT4 : Hid (Turned (fun k => k = g) wc wr) := HT3
                have HD4 : Hid (∀ t, t < n → D ((rotF i m e X) t)) := Lib.hid (HK1.out.all (by omega) D HD3.out)
                have HS3 : Hid (SrtOn key (rotF i m e X) mid e) := Lib.hid (fun x y g1 g2 g3 => by rw [HK1.out.out_ (.inr g1), HK1.out.out_ (.inr (by omega))]; exact HH.out.h3 x y g1 g2 g3)
                have HS4 : Hid (SrtOn key (rotF i m e X) e b) := Lib.hid (fun x y g1 g2 g3 => by rw [HK1.out.out_ (.inr (by omega)), HK1.out.out_ (.inr (by omega))]; exact HH.out.h4 x y g1 g2 g3)
                have HFI : Hid (PRw wr g n (rotF i m e X) ∧ Sws mid b (rotF i m e X) (rotF i m e X) ∧ SrtOn key (rotF i m e X) mid b ∧ Turned (fun k => k = g) wc wr) := Lib.hid ⟨HR4.out, .refl _, fun x y g1 g2 g3 => HS4.out x y (by omega) g2 g3, HT4.out⟩
                go_wp2
                all_goals
                  go_end0
                  exact ⟨rfl, ⟨_, HFI.out.1, (HSX.out.trans (HK1.out.mono (Nat.le_refl _) (by omega))).trans (HFI.out.2.1.mono (by omega) (Nat.le_refl _)), halves_end HH.out HK1.out HS1.out HFI.out.2.1 HFI.out.2.2.1⟩, HFI.out.2.2.2⟩
              · have f1 : ¬ (i : Int) < (m : Int) := by omega
                have f2 : ¬ (m : Int) < (e : Int) := by omega
                have f3 : ¬ (a : Int) < (i : Int) := by omega
                have f4 : ¬ (e : Int) < (b : Int) := by omega
                have f5 := HE7.out
                have f6 := HE8.out
                have g5 : ¬ (i : Int) < (mid : Int) := by omega
                have g6 : ¬ (mid : Int) < (e : Int) := by omega
                clear f5 f6
                have HR3 : Hid (PRw wr g n (rotF i m e X)) := Lib.hid (by rw [rot_id X (by omega) (by omega) (by omega)]; exact HROW.out)
                have HT3 : Hid (Turned (fun k => k = g) wc wr) := Lib.hid (Turned.of_below HB.out)
                have hD3 := HSX.out.all hbn D HD.out
                have HD3 := Lib.hid hD3
                clear hD3
                have HR4 : Hid (PRw wr g n (rotF i m e X)) := HR3
                have HK1 : Hid (Sws a mid (rotF i m e X) (rotF i m e X)) := Lib.hid (.refl _)
                have HS1 : Hid (SrtOn key (rotF i m e X) a mid) := Lib.hid (fun x y g1 g2 g3 => HH.out.h1 x y g1 g2 (by omega))
                have HT4 : Hid (Turned (fun k => k = g) wc wr) := HT3
                have HD4 : Hid (∀ t, t < n → D ((rotF i m e X) t)) := Lib.hid (HK1.out.all (by omega) D HD3.out)
                have HS3 : Hid (SrtOn key (rotF i m e X) mid e) := Lib.hid (fun x y g1 g2 g3 => by rw [HK1.out.out_ (.inr g1), HK1.out.out_ (.inr (by omega))]; exact HH.out.h3 x y g1 g2 g3)
                have HS4 : Hid (SrtOn key (rotF i m e X) e b) := Lib.hid (fun x y g1 g2 g3 => by rw [HK1.out.out_ (.inr (by omega)), HK1.out.out_ (.inr (by omega))]; exact HH.out.h4 x y g1 g2 g3)
                have HFI : Hid (PRw wr g n (rotF i m e X) ∧ Sws mid b (rotF i m e X) (rotF i m e X) ∧ SrtOn key (rotF i m e X) mid b ∧ Turned (fun k => k = g) wc wr) := Lib.hid ⟨HR4.out, .refl _, fun x y g1 g2 g3 => HS4.out x y (by omega) g2 g3, HT4.out⟩
                go_wp2
                all_goals
                  go_end0
                  exact ⟨rfl, ⟨_, HFI.out.1, (HSX.out.trans (HK1.out.mono (Nat.le_refl _) (by omega))).trans (HFI.out.2.1.mono (by omega) (Nat.le_refl _)), halves_end HH.out HK1.out HS1.out HFI.out.2.1 HFI.out.2.2.1⟩, HFI.out.2.2.2⟩
end Go.Proofs.YtpinpnbhbngclaaGreat

/- Rows of pointers: the stable sort. -/
namespace Go.Proofs.YtpinpnbhbngclaaGreat
open Go.RowKit

theorem SymIs.later {F g n cp : Nat} {D : Nat → Prop} {key : Nat → Int} {w w' : World} {N M : Nat} (h : SymIs F g n cp D key w N) (hT : Turned (fun k => k = g) w w') (hM : M ≤ N) : SymIs F g n cp D key w' M :=
  fun a m b X W h1 h2 h3 h4 h5 h6 h7 h8 h9 => h a m b X W (by omega) h2 h3 h4 h5 h6 h7 (hT.trans h8) h9
theorem sym_all (F g n cp : Nat) (D : Nat → Prop) (key : Nat → Int) (w : World) (eg : ∀ args w, (callFunc F args).run Tryz.prog w = .ok (.enter F args) w) (hc : CmpIs F D key g w) (hn : n ≤ 1000) : ∀ N, SymIs F g n cp D key w N
  | 0 => fun a m b X W h1 _ _ _ _ _ _ _ _ => by omega
  | N + 1 => fun a m b X W h1 h2 h3 h4 h5 h6 h7 h8 h9 => by
    by_cases e1 : m = a + 1
    · exact symone_any F g n cp a m b X D key W eg (hc.later h8) hn h3 h4 h5 h9 e1 h7
    · by_cases e2 : b = m + 1
      · exact symtwo_any F g n cp a m b X D key W eg (hc.later h8) hn h2 h4 h5 h9 e1 e2 h6
      · exact symmany_any F g n cp a m b X D key W eg (hc.later h8) hn h2 h3 h4 h5 h9 e1 e2 h6 h7 ((sym_all F g n cp D key w eg hc hn N).later h8 (by omega))

set_option maxHeartbeats 8000000 in
set_option maxRecDepth 100000 in
theorem stable_any (F g n cp : Nat) (X : Nat → Nat) (D : Nat → Prop) (key : Nat → Int) (w : World) (eg : ∀ args w, (callFunc F args).run Tryz.prog w = .ok (.enter F args) w) (hc : CmpIs F D key g w) (hn : n ≤ 64) (hD : ∀ t, t < n → D (X t)) (hX : PRw w g n X) :
    Calls Tryz.prog 84 #[.slice (some ⟨g, 0, none⟩) n cp, .int .i64 n, .func (.func F) #[] #[]] w fun e w' => e = .returned (.tuple #[]) ∧ (∃ Y, PRw w' g n Y ∧ Sws 0 n X Y ∧ SrtOn key Y 0 n) ∧ Turned (fun k => k = g) w w' := by
  have HX := Lib.hid hX
  have HC := Lib.hid hc
  have HD := Lib.hid hD
  have HSY := Lib.hid (sym_all F g n cp D key w eg hc (by omega) 2000)
  clear hX hc hD
  go_enter Tryz.func84, Tryz.ntmps84
  go_wp2
  go_loopw [7, 8] (fun x y wr => ∃ (a c : Nat) (Y : Nat → Nat), x = .int .i64 a ∧ y = .int .i64 c ∧ c = a + 20 ∧ a % 20 = 0 ∧ a ≤ n ∧ (∀ i j, i ≤ j → j < a → i / 20 = j / 20 → key (Y i) ≤ key (Y j)) ∧ PRw wr g n Y ∧ Sws 0 n X Y ∧ Turned (fun k => k = g) w wr) (fun x _ _ => n - (intOf x).toNat)
  case atStart => exact ⟨0, 20, X, rfl, rfl, rfl, rfl, by omega, fun i j _ h _ => by omega, HX.out, .refl _, Turned.refl _ _⟩
  case round =>
    obtain ⟨a, b, Y, rfl, rfl, hb, ha, han, hso, hrow, hsw, hT⟩ := hrel
    by_cases hlt : b ≤ n
    · have hbI : (b : Int) ≤ (n : Int) := by omega
      obtain ⟨b2, hb2⟩ : ∃ b2, b2 = b + 20 := ⟨_, rfl⟩
      have hb20 : (b : Int) + 20 = (b2 : Int) := by omega
      have hb2n : b2 ≤ 100 := by omega
      have HB2 := Lib.hid hb2
      clear hb2
      have HIN := Lib.hid (insertion_any F g n cp a b Y D key _ eg (HC.out.later hT) (by omega) (by omega) hlt (hsw.all (Nat.le_refl _) D HD.out) hrow)
      have HSO := Lib.hid hso
      have HSW := Lib.hid hsw
      have HT := Lib.hid hT
      have HB := Lib.hid hb
      clear hso hrow hsw hT hb
      go_wp2_with fail
      refine HIN.out.mono ?_
      rintro e1 w2 ⟨rfl, ⟨Z, hr2, hk2, hs2⟩, hT2⟩
      have hnew : ∀ i j, i ≤ j → j < b → i / 20 = j / 20 → key (Z i) ≤ key (Z j) := fun i j h1 h2 h3 => by
        have hb := HB.out
        by_cases c : j < a
        · rw [hk2.out_ (.inl (by omega)), hk2.out_ (.inl c)]; exact HSO.out i j h1 c h3
        · exact hs2 i j (by omega) h1 h2
      have HR := Lib.hid (And.intro hnew (And.intro hr2 (And.intro (HSW.out.trans (hk2.mono (by omega) hlt)) (HT.out.trans hT2))))
      clear hnew hr2 hk2 hs2 hT2 HIN
      go_wp2
      go_roundw
      case rel => exact ⟨b, b2, Z, rfl, rfl, HB2.out, by have := HB.out; omega, hlt, HR.out.1, HR.out.2.1, HR.out.2.2.1, HR.out.2.2.2⟩
      case measure => have := HB.out; simp [intOf]; omega
    · have hbI : ¬ (b : Int) ≤ (n : Int) := by omega
      have HIN := Lib.hid (insertion_any F g n cp a n Y D key _ eg (HC.out.later hT) (by omega) han (Nat.le_refl _) (hsw.all (Nat.le_refl _) D HD.out) hrow)
      have HSO := Lib.hid hso
      have HSW := Lib.hid hsw
      have HT := Lib.hid hT
      have HB := Lib.hid hb
      clear hso hrow hsw hT hb
      go_wp2_with fail
      refine HIN.out.mono ?_
      rintro e1 w2 ⟨rfl, ⟨Z, hr2, hk2, hs2⟩, hT2⟩
      have hnew : ∀ i j, i ≤ j → j < n → i / 20 = j / 20 → key (Z i) ≤ key (Z j) := fun i j h1 h2 h3 => by
        have hb := HB.out
        by_cases c : j < a
        · rw [hk2.out_ (.inl (by omega)), hk2.out_ (.inl c)]; exact HSO.out i j h1 c h3
        · exact hs2 i j (by omega) h1 h2
      have HR := Lib.hid (And.intro hnew (And.intro hr2 (And.intro (HSW.out.trans (hk2.mono (by omega) (Nat.le_refl _))) (HT.out.trans hT2))))
      clear hnew hr2 hk2 hs2 hT2 HIN hlt hbI
      go_wp2
      go_loopw [6] (fun x wr => ∃ (q : Nat) (Y : Nat → Nat), x = .int .i64 q ∧ (q = 20 ∧ (∀ i j, i ≤ j → j < n → i / 20 = j / 20 → key (Y i) ≤ key (Y j)) ∨ q = 40 ∧ (∀ i j, i ≤ j → j < n → i / 40 = j / 40 → key (Y i) ≤ key (Y j)) ∨ q = 80 ∧ (∀ i j, i ≤ j → j < n → i / 80 = j / 80 → key (Y i) ≤ key (Y j))) ∧ PRw wr g n Y ∧ Sws 0 n X Y ∧ Turned (fun k => k = g) w wr) (fun x _ => 100 - (intOf x).toNat)
      case atStart => exact ⟨20, Z, rfl, .inl ⟨rfl, HR.out.1⟩, HR.out.2⟩
      case round =>
        obtain ⟨q, Y, rfl, hq, hrow, hsw, hT⟩ := hrel
        rcases hq with ⟨rfl, hso⟩ | ⟨rfl, hso⟩ | ⟨rfl, hso⟩
        · have hnc : (((20 : Nat) : Int)) = 20 := rfl
          rw [hnc]
          clear hnc
          by_cases hlt : 20 < n
          · have hltI : (20 : Int) < (n : Int) := by omega
            have HSO0 := Lib.hid hso
            have HROW0 := Lib.hid hrow
            have HSW0 := Lib.hid hsw
            have HT0 := Lib.hid hT
            clear hso hrow hsw hT HR
            go_wp2
            go_loopw [7, 8] (fun x y wr => ∃ (a c : Nat) (Z : Nat → Nat), x = .int .i64 a ∧ y = .int .i64 c ∧ c = a + 40 ∧ a % 40 = 0 ∧ a ≤ n ∧ (∀ i j, i ≤ j → j < n → (j < a ∧ i / 40 = j / 40) ∨ (a ≤ i ∧ i / 20 = j / 20) → key (Z i) ≤ key (Z j)) ∧ PRw wr g n Z ∧ Sws 0 n X Z ∧ Turned (fun k => k = g) w wr) (fun x _ _ => n - (intOf x).toNat)
            case atStart => exact ⟨0, 40, Y, rfl, rfl, by omega, rfl, by omega, fun i j h1 h2 h3 => HSO0.out i j h1 h2 (by omega), HROW0.out, HSW0.out, HT0.out⟩
            case round =>
              obtain ⟨a, b, Z, rfl, rfl, hb, ha, han, hso, hrow, hsw, hT⟩ := hrel
              obtain ⟨m, hm⟩ : ∃ m, m = a + 20 := ⟨_, rfl⟩
              have hmI : (a : Int) + 20 = (m : Int) := by omega
              have HSO := Lib.hid hso
              have HSW := Lib.hid hsw
              have HT := Lib.hid hT
              have HROW := Lib.hid hrow
              have HB := Lib.hid hb
              have HM := Lib.hid hm
              by_cases hlt2 : b ≤ n
              · have hbI : (b : Int) ≤ (n : Int) := by omega
                obtain ⟨b2, hb2⟩ : ∃ b2, b2 = b + 40 := ⟨_, rfl⟩
                have hb20 : (b : Int) + 40 = (b2 : Int) := by omega
                have hb2n : b2 ≤ 200 := by omega
                have HB2 := Lib.hid hb2
                clear hb2
                have HIN := Lib.hid (HSY.out a m b Z _ (by omega) (by omega) (by omega) hlt2 (hsw.all (Nat.le_refl _) D HD.out) (fun i j g1 g2 g3 => hso i j g2 (by omega) (.inr (by omega))) (fun i j g1 g2 g3 => hso i j g2 (by omega) (.inr (by omega))) hT hrow)
                have hml : m ≤ b ∧ m < n := by omega
                obtain ⟨hml1, hml2⟩ := hml
                clear hso hrow hsw hT hb hm
                go_wp2_with fail
                refine HIN.out.mono ?_
                rintro e1 w2 ⟨rfl, ⟨V, hr2, hk2, hs2⟩, hT2⟩
                have hnew : ∀ i j, i ≤ j → j < n → (j < b ∧ i / 40 = j / 40) ∨ (b ≤ i ∧ i / 20 = j / 20) → key (V i) ≤ key (V j) := fun i j h1 h2 h3 => by
                  have hb := HB.out
                  by_cases c : j < a
                  · rw [hk2.out_ (.inl (by omega)), hk2.out_ (.inl c)]; exact HSO.out i j h1 h2 (.inl (by omega))
                  · by_cases c2 : j < b
                    · exact hs2 i j (by omega) h1 c2
                    · rw [hk2.out_ (.inr (by omega)), hk2.out_ (.inr (by omega))]; exact HSO.out i j h1 h2 (.inr (by omega))
                have HR2 := Lib.hid (And.intro hnew (And.intro hr2 (And.intro (HSW.out.trans (hk2.mono (by omega) hlt2)) (HT.out.trans hT2))))
                clear hnew hr2 hk2 hs2 hT2 HIN
                go_wp2
                go_roundw
                case rel => exact ⟨b, b2, V, rfl, rfl, HB2.out, by have := HB.out; omega, hlt2, HR2.out.1, HR2.out.2.1, HR2.out.2.2.1, HR2.out.2.2.2⟩
                case measure => have := HB.out; simp [intOf]; omega
              · have hbI : ¬ (b : Int) ≤ (n : Int) := by omega
                by_cases hmn : m < n
                · have hmnI : (m : Int) < (n : Int) := by omega
                  have HIN := Lib.hid (HSY.out a m n Z _ (by omega) (by omega) hmn (Nat.le_refl _) (hsw.all (Nat.le_refl _) D HD.out) (fun i j g1 g2 g3 => hso i j g2 (by omega) (.inr (by omega))) (fun i j g1 g2 g3 => hso i j g2 (by omega) (.inr (by omega))) hT hrow)
                  clear hso hrow hsw hT hb hm
                  go_wp2_with fail
                  refine HIN.out.mono ?_
                  rintro e1 w2 ⟨rfl, ⟨V, hr2, hk2, hs2⟩, hT2⟩
                  have hnew : ∀ i j, i ≤ j → j < n → i / 40 = j / 40 → key (V i) ≤ key (V j) := fun i j h1 h2 h3 => by
                    have hb := HB.out
                    by_cases c : j < a
                    · rw [hk2.out_ (.inl (by omega)), hk2.out_ (.inl c)]; exact HSO.out i j h1 h2 (.inl (by omega))
                    · exact hs2 i j (by omega) h1 h2
                  have HR2 := Lib.hid (And.intro hnew (And.intro hr2 (And.intro (HSW.out.trans (hk2.mono (by omega) (Nat.le_refl _))) (HT.out.trans hT2))))
                  clear hnew hr2 hk2 hs2 hT2 HIN
                  go_wp2
                  go_roundw
                  case rel => exact ⟨40, V, rfl, .inr (.inl ⟨rfl, HR2.out.1⟩), HR2.out.2⟩
                  case measure => simp [intOf]
                · have hmnI : ¬ (m : Int) < (n : Int) := by omega
                  have hnew : ∀ i j, i ≤ j → j < n → i / 40 = j / 40 → key (Z i) ≤ key (Z j) := fun i j h1 h2 h3 => by
                    by_cases c : j < a
                    · exact hso i j h1 h2 (.inl (by omega))
                    · exact hso i j h1 h2 (.inr (by omega))
                  have HR2 := Lib.hid hnew
                  clear hnew hso hrow hsw hT hb hm
                  go_wp2
                  go_roundw
                  case rel => exact ⟨40, Z, rfl, .inr (.inl ⟨rfl, HR2.out⟩), HROW.out, HSW.out, HT.out⟩
                  case measure => simp [intOf]
          · have hltI : ¬ (20 : Int) < (n : Int) := by omega
            go_wp2
            go_end0
            exact ⟨rfl, ⟨Y, hrow, hsw, fun i j _ h1 h2 => hso i j h1 h2 (by omega)⟩, hT⟩
        · have hnc : (((40 : Nat) : Int)) = 40 := rfl
          rw [hnc]
          clear hnc
          by_cases hlt : 40 < n
          · have hltI : (40 : Int) < (n : Int) := by omega
            have HSO0 := Lib.hid hso
            have HROW0 := Lib.hid hrow
            have HSW0 := Lib.hid hsw
            have HT0 := Lib.hid hT
            clear hso hrow hsw hT HR
            go_wp2
            go_loopw [7, 8] (fun x y wr => ∃ (a c : Nat) (Z : Nat → Nat), x = .int .i64 a ∧ y = .int .i64 c ∧ c = a + 80 ∧ a % 80 = 0 ∧ a ≤ n ∧ (∀ i j, i ≤ j → j < n → (j < a ∧ i / 80 = j / 80) ∨ (a ≤ i ∧ i / 40 = j / 40) → key (Z i) ≤ key (Z j)) ∧ PRw wr g n Z ∧ Sws 0 n X Z ∧ Turned (fun k => k = g) w wr) (fun x _ _ => n - (intOf x).toNat)
            case atStart => exact ⟨0, 80, Y, rfl, rfl, by omega, rfl, by omega, fun i j h1 h2 h3 => HSO0.out i j h1 h2 (by omega), HROW0.out, HSW0.out, HT0.out⟩
            case round =>
              obtain ⟨a, b, Z, rfl, rfl, hb, ha, han, hso, hrow, hsw, hT⟩ := hrel
              obtain ⟨m, hm⟩ : ∃ m, m = a + 40 := ⟨_, rfl⟩
              have hmI : (a : Int) + 40 = (m : Int) := by omega
              have HSO := Lib.hid hso
              have HSW := Lib.hid hsw
              have HT := Lib.hid hT
              have HROW := Lib.hid hrow
              have HB := Lib.hid hb
              have HM := Lib.hid hm
              by_cases hlt2 : b ≤ n
              · have hbI : (b : Int) ≤ (n : Int) := by omega
                obtain ⟨b2, hb2⟩ : ∃ b2, b2 = b + 80 := ⟨_, rfl⟩
                have hb20 : (b : Int) + 80 = (b2 : Int) := by omega
                have hb2n : b2 ≤ 200 := by omega
                have HB2 := Lib.hid hb2
                clear hb2
                have HIN := Lib.hid (HSY.out a m b Z _ (by omega) (by omega) (by omega) hlt2 (hsw.all (Nat.le_refl _) D HD.out) (fun i j g1 g2 g3 => hso i j g2 (by omega) (.inr (by omega))) (fun i j g1 g2 g3 => hso i j g2 (by omega) (.inr (by omega))) hT hrow)
                have hml : m ≤ b ∧ m < n := by omega
                obtain ⟨hml1, hml2⟩ := hml
                clear hso hrow hsw hT hb hm
                go_wp2_with fail
                refine HIN.out.mono ?_
                rintro e1 w2 ⟨rfl, ⟨V, hr2, hk2, hs2⟩, hT2⟩
                have hnew : ∀ i j, i ≤ j → j < n → (j < b ∧ i / 80 = j / 80) ∨ (b ≤ i ∧ i / 40 = j / 40) → key (V i) ≤ key (V j) := fun i j h1 h2 h3 => by
                  have hb := HB.out
                  by_cases c : j < a
                  · rw [hk2.out_ (.inl (by omega)), hk2.out_ (.inl c)]; exact HSO.out i j h1 h2 (.inl (by omega))
                  · by_cases c2 : j < b
                    · exact hs2 i j (by omega) h1 c2
                    · rw [hk2.out_ (.inr (by omega)), hk2.out_ (.inr (by omega))]; exact HSO.out i j h1 h2 (.inr (by omega))
                have HR2 := Lib.hid (And.intro hnew (And.intro hr2 (And.intro (HSW.out.trans (hk2.mono (by omega) hlt2)) (HT.out.trans hT2))))
                clear hnew hr2 hk2 hs2 hT2 HIN
                go_wp2
                go_roundw
                case rel => exact ⟨b, b2, V, rfl, rfl, HB2.out, by have := HB.out; omega, hlt2, HR2.out.1, HR2.out.2.1, HR2.out.2.2.1, HR2.out.2.2.2⟩
                case measure => have := HB.out; simp [intOf]; omega
              · have hbI : ¬ (b : Int) ≤ (n : Int) := by omega
                by_cases hmn : m < n
                · have hmnI : (m : Int) < (n : Int) := by omega
                  have HIN := Lib.hid (HSY.out a m n Z _ (by omega) (by omega) hmn (Nat.le_refl _) (hsw.all (Nat.le_refl _) D HD.out) (fun i j g1 g2 g3 => hso i j g2 (by omega) (.inr (by omega))) (fun i j g1 g2 g3 => hso i j g2 (by omega) (.inr (by omega))) hT hrow)
                  clear hso hrow hsw hT hb hm
                  go_wp2_with fail
                  refine HIN.out.mono ?_
                  rintro e1 w2 ⟨rfl, ⟨V, hr2, hk2, hs2⟩, hT2⟩
                  have hnew : ∀ i j, i ≤ j → j < n → i / 80 = j / 80 → key (V i) ≤ key (V j) := fun i j h1 h2 h3 => by
                    have hb := HB.out
                    by_cases c : j < a
                    · rw [hk2.out_ (.inl (by omega)), hk2.out_ (.inl c)]; exact HSO.out i j h1 h2 (.inl (by omega))
                    · exact hs2 i j (by omega) h1 h2
                  have HR2 := Lib.hid (And.intro hnew (And.intro hr2 (And.intro (HSW.out.trans (hk2.mono (by omega) (Nat.le_refl _))) (HT.out.trans hT2))))
                  clear hnew hr2 hk2 hs2 hT2 HIN
                  go_wp2
                  go_roundw
                  case rel => exact ⟨80, V, rfl, .inr (.inr ⟨rfl, HR2.out.1⟩), HR2.out.2⟩
                  case measure => simp [intOf]
                · have hmnI : ¬ (m : Int) < (n : Int) := by omega
                  have hnew : ∀ i j, i ≤ j → j < n → i / 80 = j / 80 → key (Z i) ≤ key (Z j) := fun i j h1 h2 h3 => by
                    by_cases c : j < a
                    · exact hso i j h1 h2 (.inl (by omega))
                    · exact hso i j h1 h2 (.inr (by omega))
                  have HR2 := Lib.hid hnew
                  clear hnew hso hrow hsw hT hb hm
                  go_wp2
                  go_roundw
                  case rel => exact ⟨80, Z, rfl, .inr (.inr ⟨rfl, HR2.out⟩), HROW.out, HSW.out, HT.out⟩
                  case measure => simp [intOf]
          · have hltI : ¬ (40 : Int) < (n : Int) := by omega
            go_wp2
            go_end0
            exact ⟨rfl, ⟨Y, hrow, hsw, fun i j _ h1 h2 => hso i j h1 h2 (by omega)⟩, hT⟩
        · have hlt : ¬ (80 : Int) < (n : Int) := by omega
          have hnc : (((80 : Nat) : Int)) = 80 := rfl
          rw [hnc]
          clear hnc
          go_wp2
          go_end0
          exact ⟨rfl, ⟨Y, hrow, hsw, fun i j _ h1 h2 => hso i j h1 h2 (by omega)⟩, hT⟩
theorem sortstable_any (F g n cp : Nat) (X : Nat → Nat) (D : Nat → Prop) (key : Nat → Int) (w : World) (eg : ∀ args w, (callFunc F args).run Tryz.prog w = .ok (.enter F args) w) (hc : CmpIs F D key g w) (hn : n ≤ 64) (hD : ∀ t, t < n → D (X t)) (hX : PRw w g n X) :
    Calls Tryz.prog 65 #[.slice (some ⟨g, 0, none⟩) n cp, .func (.func F) #[] #[]] w fun e w' => e = .returned (.tuple #[]) ∧ (∃ Y, PRw w' g n Y ∧ Sws 0 n X Y ∧ SrtOn key Y 0 n) ∧ Turned (fun k => k = g) w w' := by
  have H := Lib.hid (stable_any F g n cp X D key w eg hc hn hD hX)
  clear hc hD hX
  go_enter Tryz.func65, Tryz.ntmps65
  go_wp2_with fail
  refine H.out.mono ?_
  rintro e1 w2 ⟨rfl, h1, h2⟩
  go_wp2
  go_end0
  exact ⟨rfl, h1, h2⟩
end Go.Proofs.YtpinpnbhbngclaaGreat

/- The parts of a query put in order. -/
namespace Go.Proofs.YtpinpnbhbngclaaGreat
open Go.RowKit

def cmpT (x y : Int) : Int := if x < y then -1 else if y < x then 1 else 0
theorem cmpT_lt (x y : Int) : cmpT x y < 0 ↔ x < y := by
  unfold cmpT
  split
  · omega
  · split <;> omega
set_option maxHeartbeats 1000000 in
set_option maxRecDepth 100000 in
theorem cmpT_any (x y : Int) (w : World) : Calls Tryz.prog 67 #[.int .i64 x, .int .i64 y] w fun e w' => e = .returned (.int .i64 (cmpT x y)) ∧ w' = w := by
  go_enter Tryz.func67, Tryz.ntmps67
  go_wp2
  all_goals (go_ret; refine ⟨?_, rfl⟩; unfold cmpT; (repeat' split) <;> first | rfl | (exfalso; omega))
set_option maxHeartbeats 1000000 in
set_option maxRecDepth 100000 in
/-- maxima's comparing -/
theorem cmpmost_any (w1 w : World) (x y : Prt) (a b : Nat) (h1 : PT w1 w x a) (h2 : PT w1 w y b) :
    Calls Tryz.prog 66 #[.pointer (some ⟨x.p, 0, none⟩), .pointer (some ⟨y.p, 0, none⟩)] w fun e w' => (∃ z : Int, e = .returned (.int .i64 z) ∧ (z < 0 ↔ x.wt * PostM.mx x.l < y.wt * PostM.mx y.l)) ∧ Below w.heap.size w w' := by
  have kx := cell_of_cells (i := 2) h1.obj rfl
  have ky := cell_of_cells (i := 2) h2.obj rfl
  obtain ⟨px, hpx⟩ : ∃ px, px = x.p := ⟨_, rfl⟩
  obtain ⟨py, hpy⟩ : ∃ py, py = y.p := ⟨_, rfl⟩
  obtain ⟨mx1, hm1⟩ : ∃ m, m = x.wt * PostM.mx x.l := ⟨_, rfl⟩
  obtain ⟨mx2, hm2⟩ : ∃ m, m = y.wt * PostM.mx y.l := ⟨_, rfl⟩
  simp only [List.getElem_toArray, List.getElem_cons_succ, List.getElem_cons_zero] at kx ky
  rw [← hpx, ← hm1] at kx
  rw [← hpy, ← hm2] at ky
  rw [← hpx, ← hpy, ← hm1, ← hm2]
  have hcp := fun q => cmpT_any mx1 mx2 (w.drewN q)
  obtain ⟨z, hz⟩ : ∃ z, z = cmpT mx1 mx2 := ⟨_, rfl⟩
  have hz2 := cmpT_lt mx1 mx2
  rw [← hz] at hcp hz2
  have HZ := Lib.hid hz2
  have HC := Lib.hid hcp
  clear hcp hz hz2 hm1 hm2 hpx hpy h1 h2
  go_enter Tryz.func66, Tryz.ntmps66
  go_upto_region 1 with fail
  go_quiet ((first | (go_at_call 67; exact Calls.quiet_of_same (HC.out _))))
  go_wp2
  go_ret
  exact ⟨⟨z, rfl, HZ.out⟩, below_drewN_p _ _⟩
set_option maxHeartbeats 1000000 in
set_option maxRecDepth 100000 in
/-- the pivot's comparing -/
theorem cmpdoc_any (w1 w : World) (x y : Prt) (a b : Nat) (h1 : PT w1 w x a) (h2 : PT w1 w y b) :
    Calls Tryz.prog 86 #[.pointer (some ⟨x.p, 0, none⟩), .pointer (some ⟨y.p, 0, none⟩)] w fun e w' => (∃ z : Int, e = .returned (.int .i64 z) ∧ (z < 0 ↔ docAt x.l a < docAt y.l b)) ∧ Below w.heap.size w w' := by
  have hd1 := pdoc_any w1 w x a h1
  have hd2 := fun W (hb : Below w.heap.size w W) => pdoc_any w1 W y b (h2.below hb)
  obtain ⟨px, hpx⟩ : ∃ px, px = x.p := ⟨_, rfl⟩
  obtain ⟨py, hpy⟩ : ∃ py, py = y.p := ⟨_, rfl⟩
  obtain ⟨m1, hm1⟩ : ∃ m, m = docAt x.l a := ⟨_, rfl⟩
  obtain ⟨m2, hm2⟩ : ∃ m, m = docAt y.l b := ⟨_, rfl⟩
  rw [← hpx, ← hm1] at hd1
  rw [← hpy, ← hm2] at hd2
  rw [← hpx, ← hpy, ← hm1, ← hm2]
  have hcp := cmpT_any m1 m2
  obtain ⟨z, hz⟩ : ∃ z, z = cmpT m1 m2 := ⟨_, rfl⟩
  have hz2 := cmpT_lt m1 m2
  rw [← hz] at hcp hz2
  have HZ := Lib.hid hz2
  have HC := Lib.hid hcp
  have HD1 := Lib.hid hd1
  have HD2 := Lib.hid hd2
  clear hcp hz hz2 hm1 hm2 hpx hpy h1 h2 hd1 hd2
  go_enter Tryz.func86, Tryz.ntmps86
  go_wp2_with fail
  refine HD1.out.mono ?_
  rintro e1 w2 ⟨rfl, hb1⟩
  go_wp2_with fail
  refine (HD2.out w2 hb1).mono ?_
  rintro e2 w3 ⟨rfl, hb2⟩
  have HB := Lib.hid (hb1.trans (hb2.mono hb1.size))
  clear hb1 hb2
  go_wp2_with fail
  refine (HC.out w3).mono ?_
  rintro e3 w4 ⟨rfl, rfl⟩
  go_wp2
  go_ret
  exact ⟨⟨z, rfl, HZ.out⟩, HB.out⟩

/-- what a pointer to a part stands for -/
def keyOf (ps : List Prt) (f : Prt → Int) (p : Nat) : Int := ((ps.find? fun x => x.p == p).map f).getD 0
theorem keyOf_is {ps : List Prt} (hu : ∀ x ∈ ps, ∀ y ∈ ps, x.p = y.p → x = y) (f : Prt → Int) {x : Prt} (hx : x ∈ ps) : keyOf ps f x.p = f x := by
  unfold keyOf
  cases h : ps.find? (fun y => y.p == x.p) with
  | none =>
    have := List.find?_eq_none.1 h x hx
    simp at this
  | some y =>
    have h1 := List.mem_of_find?_eq_some h
    have h2 := List.find?_some h
    have : y = x := hu y h1 x hx (by simpa using h2)
    rw [this]
    rfl
/-- one pointer, one part -/
theorem PS.uniq {w1 w : World} {ps : List Prt} (h : PS w1 w ps) (hD : (ps.map (·.c)).Nodup) : ∀ x ∈ ps, ∀ y ∈ ps, x.p = y.p → x = y := by
  intro x hx y hy e
  have ox := (h x hx).obj
  have oy := (h y hy).obj
  rw [e, oy] at ox
  have hc : y.c = x.c := by
    injection ox with ox
    injection ox with ox _ _
    have := congrArg (fun (z : Array Value) => z[0]?) ox
    simp at this
    exact this
  obtain ⟨i, hi, rfl⟩ := List.mem_iff_getElem.1 hx
  obtain ⟨j, hj, rfl⟩ := List.mem_iff_getElem.1 hy
  have := nodup_at hD hj hi hc
  subst this
  rfl
/-- swaps of pointers are swaps of parts -/
theorem sws_list {n : Nat} {X Y : Nat → Nat} (h : Sws 0 n X Y) {ps : List Prt} (hn : ps.length = n) (hX : ∀ t (ht : t < ps.length), X t = ps[t].p) : ∃ ps' : List Prt, ps'.Perm ps ∧ ∀ t (ht : t < ps'.length), Y t = ps'[t].p := by
  induction h with
  | refl => exact ⟨ps, List.Perm.refl _, hX⟩
  | @step Z i j hs h1 h2 h3 h4 h5 ih =>
    obtain ⟨q, hq, hz⟩ := ih
    have hl : q.length = n := by rw [hq.length_eq, hn]
    have hi : i < q.length := by omega
    have hj : j < q.length := by omega
    refine ⟨(q.set i q[j]).set j q[i], ?_, fun t ht => ?_⟩
    · have := Array.swap_perm (xs := q.toArray) (i := i) (j := j) (by simpa using hi) (by simpa using hj)
      rw [Array.perm_iff_toList_perm, Array.toList_swap] at this
      refine List.Perm.trans ?_ hq
      simpa using this
    · have ht' : t < q.length := by simpa using ht
      rw [List.getElem_set]
      unfold swp
      by_cases e1 : t = i
      · subst e1
        rw [if_pos rfl, if_neg (fun e => h5 e.symm), List.getElem_set, if_pos rfl]
        exact hz j hj
      · rw [if_neg e1]
        by_cases e2 : t = j
        · subst e2
          rw [if_pos rfl, if_pos rfl]
          exact hz i hi
        · rw [if_neg e2, if_neg (fun e => e2 e.symm), List.getElem_set, if_neg (fun e => e1 e.symm)]
          exact hz t ht'
/-- the parts' own row at block g: as many as there are, none of their objects -/
structure PRow2 (w1 W : World) (g n : Nat) (ps : List Prt) : Prop where
  len : ps.length = n
  row : PRw W g n (fun t => (ps[t]?.map (·.p)).getD 0)
  new : w1.heap.size ≤ g
  far : ∀ x ∈ ps, x.c ≠ g ∧ x.p ≠ g
theorem PRow2.ptr {w1 W : World} {g n : Nat} {ps : List Prt} (h : PRow2 w1 W g n ps) : PtrAt W (some ⟨g, 0, none⟩) n ps :=
  ⟨h.len, fun k hk => ⟨g, 0, rfl, h.row.1, by
    have := (h.row.2 k (by rw [← h.len]; exact hk)).1
    rw [Nat.zero_add]
    simpa [hk] using this⟩⟩
theorem PT.turned_row {w1 w w' : World} {x : Prt} {a g : Nat} (h : PT w1 w x a) (hT : Turned (fun q => q = g) w w') (hg : w1.heap.size ≤ g) (h1 : x.c ≠ g) (h2 : x.p ≠ g) : PT w1 w' x a :=
  ⟨h.cur.turned hT hg h1, (hT.block _ (Array.getElem?_eq_some_iff.1 h.obj).1 h2).trans h.obj⟩
theorem psort_any (F : Nat) (f : Prt → Int) (w1 w : World) (g n cp : Nat) (ps : List Prt) (eg : ∀ args w, (callFunc F args).run Tryz.prog w = .ok (.enter F args) w) (hn : n ≤ 64) (hP : PRow2 w1 w g n ps) (hS : PS w1 w ps) (hD : (ps.map (·.c)).Nodup)
    (hF : ∀ W, (∀ x ∈ ps, PT w1 W x (atM w x.c)) → ∀ x ∈ ps, ∀ y ∈ ps, Calls Tryz.prog F #[.pointer (some ⟨x.p, 0, none⟩), .pointer (some ⟨y.p, 0, none⟩)] W fun e w' => (∃ z : Int, e = .returned (.int .i64 z) ∧ (z < 0 ↔ f x < f y)) ∧ Below W.heap.size W w') :
    Calls Tryz.prog 65 #[.slice (some ⟨g, 0, none⟩) n cp, .func (.func F) #[] #[]] w fun e w' => e = .returned (.tuple #[]) ∧ ∃ ps' : List Prt, ps'.Perm ps ∧ PRow2 w1 w' g n ps' ∧ PS w1 w' ps' ∧ (∀ x ∈ ps, atM w' x.c = atM w x.c) ∧ (∀ i j (hi : i < ps'.length) (hj : j < ps'.length), i ≤ j → f ps'[i] ≤ f ps'[j]) ∧ Turned (fun k => k = g) w w' := by
  have hu := hS.uniq hD
  have hst : ∀ W, Turned (fun k => k = g) w W → ∀ x ∈ ps, PT w1 W x (atM w x.c) := fun W hT x hx => (hS x hx).turned_row hT hP.new (hP.far x hx).1 (hP.far x hx).2
  have hX : ∀ t (ht : t < ps.length), (ps[t]?.map (·.p)).getD 0 = ps[t].p := fun t ht => by simp [ht]
  have hc : CmpIs F (fun p => ∃ x ∈ ps, x.p = p) (keyOf ps f) g w := fun W hT p q hp hq => by
    obtain ⟨x, hx, rfl⟩ := hp
    obtain ⟨y, hy, rfl⟩ := hq
    rw [keyOf_is hu f hx, keyOf_is hu f hy]
    exact hF W (hst W hT) x hx y hy
  refine (sortstable_any F g n cp _ (fun p => ∃ x ∈ ps, x.p = p) (keyOf ps f) w eg hc hn (fun t ht => ⟨ps[t]'(by rw [hP.len]; exact ht), List.getElem_mem _, (hX t (by rw [hP.len]; exact ht)).symm⟩) hP.row).mono ?_
  rintro e w' ⟨rfl, ⟨Y, hr, hs, ho⟩, hT⟩
  obtain ⟨ps', hp, hy⟩ := sws_list hs hP.len hX
  have hl : ps'.length = n := by rw [hp.length_eq, hP.len]
  have hat : ∀ x ∈ ps, atM w' x.c = atM w x.c := fun x hx => (hst w' hT x hx).at_is
  refine ⟨rfl, ps', hp, ⟨hl, hr.congr (fun t ht => by simp [hy t (by omega), show t < ps'.length by omega]), hP.new, fun x hx => hP.far x (hp.mem_iff.1 hx)⟩, fun x hx => (hst w' hT x (hp.mem_iff.1 hx)).canon, hat, fun i j hi hj hij => ?_, hT⟩
  have h1 := ho i j (Nat.zero_le _) hij (by omega)
  rw [hy i hi, hy j hj, keyOf_is hu f (hp.mem_iff.1 (List.getElem_mem hi)), keyOf_is hu f (hp.mem_iff.1 (List.getElem_mem hj))] at h1
  exact h1
end Go.Proofs.YtpinpnbhbngclaaGreat

/- The best of many, bounded: an order of documents with scores, a list in order, a heap whose first is the worst. Plain lists; nothing of the program. -/
namespace TopM

/-- is a better than b? Each is a document and its score. -/
def bet (a b : Int × Int) : Bool := if a.2 = b.2 then decide (a.1 < b.1) else decide (b.2 < a.2)
theorem bet_iff (a b : Int × Int) : bet a b = true ↔ (a.2 = b.2 ∧ a.1 < b.1) ∨ b.2 < a.2 := by
  unfold bet
  split <;> simp <;> omega
theorem bet_not (a b : Int × Int) : bet a b = false ↔ ¬ ((a.2 = b.2 ∧ a.1 < b.1) ∨ b.2 < a.2) := by
  rw [← bet_iff]; simp
theorem irr (a : Int × Int) : bet a a = false := by rw [bet_not]; omega
theorem asy {a b : Int × Int} (h : bet a b = true) : bet b a = false := by rw [bet_iff] at h; rw [bet_not]; omega
theorem tr {a b c : Int × Int} (h1 : bet a b = true) (h2 : bet b c = true) : bet a c = true := by rw [bet_iff] at *; omega
theorem ntr {a b c : Int × Int} (h1 : bet a b = false) (h2 : bet b c = false) : bet a c = false := by rw [bet_not] at *; omega
theorem same_of {a b : Int × Int} (h1 : bet a b = false) (h2 : bet b a = false) : a = b := by
  rw [bet_not] at *
  obtain ⟨a1, a2⟩ := a
  obtain ⟨b1, b2⟩ := b
  simp at *
  omega

/-- no later one is better than an earlier one -/
def Srt (l : List (Int × Int)) : Prop := l.Pairwise fun a b => bet b a = false
/-- all in order, the best first -/
def srt (l : List (Int × Int)) : List (Int × Int) := l.mergeSort fun a b => !bet b a
theorem srt_perm (l : List (Int × Int)) : (srt l).Perm l := List.mergeSort_perm _ _
theorem srt_srt (l : List (Int × Int)) : Srt (srt l) := by
  have h := List.pairwise_mergeSort (le := fun a b => !bet b a) (fun a b c h1 h2 => by
    simp only [Bool.not_eq_true'] at *
    exact ntr h2 h1) (fun a b => by
    cases h : bet a b with
    | true => simp [asy h]
    | false => simp) l
  refine h.imp ?_
  intro a b h
  simpa using h
theorem srt_eq {a b : List (Int × Int)} (ha : Srt a) (hb : Srt b) (hp : a.Perm b) : a = b :=
  List.Perm.eq_of_pairwise (fun _ _ _ _ h1 h2 => same_of h2 h1) ha hb hp
theorem srt_is {a l : List (Int × Int)} (ha : Srt a) (hp : a.Perm l) : srt l = a := srt_eq (srt_srt l) ha ((srt_perm l).trans hp.symm)
theorem srt_congr {l l' : List (Int × Int)} (hp : l.Perm l') : srt l = srt l' := srt_is (srt_srt l') ((srt_perm l').trans hp.symm)
theorem srt_nil : srt [] = [] := List.eq_nil_of_length_eq_zero (by rw [(srt_perm []).length_eq]; rfl)
theorem srt_len (l : List (Int × Int)) : (srt l).length = l.length := (srt_perm l).length_eq

/-- the best k of l, the best first -/
def best (k : Nat) (l : List (Int × Int)) : List (Int × Int) := (srt l).take k
theorem best_len (k : Nat) (l : List (Int × Int)) : (best k l).length = min k l.length := by unfold best; rw [List.length_take, srt_len]
theorem best_srt (k : Nat) (l : List (Int × Int)) : Srt (best k l) := (srt_srt l).sublist (List.take_sublist _ _)
theorem best_zero (l : List (Int × Int)) : best 0 l = [] := rfl
theorem best_nil (k : Nat) : best k [] = [] := by unfold best; rw [srt_nil]; simp
theorem best_all {k : Nat} {l : List (Int × Int)} (h : l.length ≤ k) : best k l = srt l := by unfold best; rw [List.take_of_length_le (by rw [srt_len]; exact h)]

theorem srt_append {a b : List (Int × Int)} (ha : Srt a) (hb : Srt b) (h : ∀ x ∈ a, ∀ y ∈ b, bet y x = false) : Srt (a ++ b) := List.pairwise_append.2 ⟨ha, hb, h⟩
theorem srt_parts {a b : List (Int × Int)} (h : Srt (a ++ b)) : Srt a ∧ Srt b ∧ ∀ x ∈ a, ∀ y ∈ b, bet y x = false := List.pairwise_append.1 h

/-- x is put where none behind it is as good -/
theorem ins_srt {l : List (Int × Int)} (x : Int × Int) (k : Nat) (hl : Srt l) (h1 : ∀ j, k ≤ j → ∀ hj : j < l.length, bet x l[j] = true) (h2 : ∀ j, k = j + 1 → ∀ hj : j < l.length, bet x l[j] = false) (hk : k ≤ l.length) :
    l.take k ++ x :: l.drop k = srt (x :: l) := by
  refine (srt_is ?_ ?_).symm
  · have hs : Srt (l.take k ++ l.drop k) := by rw [List.take_append_drop]; exact hl
    obtain ⟨p1, p2, p3⟩ := srt_parts hs
    refine srt_append p1 (List.pairwise_cons.2 ⟨fun y hy => ?_, p2⟩) (fun u hu y hy => ?_)
    · obtain ⟨i, hi, rfl⟩ := List.mem_iff_getElem.1 hy
      rw [List.getElem_drop]
      exact asy (h1 _ (by omega) _)
    · rcases List.mem_cons.1 hy with rfl | hy
      · cases k with
        | zero => simp at hu
        | succ k =>
          have hb := h2 k rfl (by omega)
          obtain ⟨i, hi, rfl⟩ := List.mem_iff_getElem.1 hu
          rw [List.length_take] at hi
          rw [List.getElem_take]
          by_cases e : i = k
          · subst e; exact hb
          · have := List.pairwise_iff_getElem.1 hl i k (by omega) (by omega) (by omega)
            exact ntr hb this
      · exact p3 u hu y hy
  · have : (l.take k ++ x :: l.drop k).Perm (x :: (l.take k ++ l.drop k)) := List.perm_middle
    rwa [List.take_append_drop] at this

/-- the beginning is kept: of a worst one that is as good, nothing turns -/
theorem best_keep {k : Nat} {l : List (Int × Int)} {x w : Int × Int} (hk : k ≤ l.length) (hw : (best k l).getLast? = some w) (hx : bet x w = false) : best k (l ++ [x]) = best k l := by
  unfold best at *
  have hs := srt_srt l
  rw [← List.take_append_drop k (srt l)] at hs
  obtain ⟨p1, p2, p3⟩ := srt_parts hs
  have hwm : ∀ u ∈ (srt l).take k, bet w u = false := by
    obtain ⟨A, hA⟩ := List.getLast?_eq_some_iff.1 hw
    rw [hA] at p1 ⊢
    obtain ⟨_, _, q⟩ := srt_parts p1
    intro u hu
    rcases List.mem_append.1 hu with h | h
    · exact q u h w (by simp)
    · simp at h; subst h; exact irr _
  have e : srt (l ++ [x]) = (srt l).take k ++ srt (x :: (srt l).drop k) := by
    refine srt_is (srt_append p1 (srt_srt _) (fun u hu y hy => ?_)) ?_
    · rcases List.mem_cons.1 ((srt_perm _).mem_iff.1 hy) with rfl | hy
      · exact ntr hx (hwm u hu)
      · exact p3 u hu y hy
    · have q1 : ((srt l).take k ++ srt (x :: (srt l).drop k)).Perm ((srt l).take k ++ (x :: (srt l).drop k)) := (List.Perm.refl _).append (srt_perm _)
      have q2 : ((srt l).take k ++ (x :: (srt l).drop k)).Perm (x :: ((srt l).take k ++ (srt l).drop k)) := List.perm_middle
      rw [List.take_append_drop] at q2
      exact q1.trans (q2.trans (((srt_perm l).cons x).trans (List.perm_append_singleton x l).symm))
  rw [e, List.take_append_of_le_length (by rw [List.length_take, srt_len]; omega), List.take_of_length_le (by rw [List.length_take]; omega)]

/-- a better one than the worst: the worst goes -/
theorem best_turn {k : Nat} {l A : List (Int × Int)} {x w : Int × Int} (hk : k ≤ l.length) (hA : best k l = A ++ [w]) (hx : bet x w = true) : (best k (l ++ [x])).Perm (x :: A) := by
  have hlen : A.length + 1 = k := by have := best_len k l; rw [hA] at this; simp at this; omega
  unfold best at *
  have hs := srt_srt l
  have hsl : srt l = A ++ w :: (srt l).drop k := by
    have h := List.take_append_drop k (srt l)
    rw [hA, List.append_assoc] at h
    exact h.symm
  obtain ⟨B, hB⟩ : ∃ B, B = (srt l).drop k := ⟨_, rfl⟩
  rw [← hB] at hsl
  rw [hsl] at hs
  obtain ⟨p1, p2, p3⟩ := srt_parts hs
  have hwB : ∀ v ∈ w :: B, bet v w = false := by
    intro v hv
    rcases List.mem_cons.1 hv with rfl | hv
    · exact irr _
    · exact (List.pairwise_cons.1 p2).1 v hv
  have e : srt (l ++ [x]) = srt (x :: A) ++ w :: B := by
    refine srt_is (srt_append (srt_srt _) p2 (fun u hu y hy => ?_)) ?_
    · rcases List.mem_cons.1 ((srt_perm _).mem_iff.1 hu) with rfl | hu
      · cases h : bet y u with
        | false => rfl
        | true => have := tr h hx; rw [hwB y hy] at this; cases this
      · exact p3 u hu y hy
    · have q1 : (srt (x :: A) ++ w :: B).Perm ((x :: A) ++ w :: B) := (srt_perm _).append (List.Perm.refl _)
      rw [List.cons_append, ← hsl] at q1
      exact q1.trans (((srt_perm l).cons x).trans (List.perm_append_singleton x l).symm)
  rw [e, List.take_append_of_le_length (by rw [srt_len]; simp; omega), List.take_of_length_le (by rw [srt_len]; simp; omega)]
  exact srt_perm _

/-! ## a heap -/
def at_ (h : List (Int × Int)) (i : Nat) : Int × Int := h.getD i (0, 0)
theorem at_get {h : List (Int × Int)} {i : Nat} (hi : i < h.length) : at_ h i = h[i] := by unfold at_; rw [List.getD_eq_getElem?_getD, List.getElem?_eq_getElem hi]; rfl
def par (i : Nat) : Nat := (i - 1) / 2
/-- of two on one path the worse one stands above -/
def Heap (h : List (Int × Int)) : Prop := ∀ i, 0 < i → i < h.length → bet (at_ h (par i)) (at_ h i) = false
def swp (h : List (Int × Int)) (i j : Nat) : List (Int × Int) := (h.set i (at_ h j)).set j (at_ h i)
theorem swp_len (h : List (Int × Int)) (i j : Nat) : (swp h i j).length = h.length := by simp [swp]
theorem at_set (h : List (Int × Int)) (i j : Nat) (x : Int × Int) (hi : i < h.length) : at_ (h.set i x) j = if i = j then x else at_ h j := by
  unfold at_
  simp only [List.getD_eq_getElem?_getD, List.getElem?_set]
  by_cases e : i = j
  · subst e; simp [hi]
  · simp [e]
theorem at_swp (h : List (Int × Int)) (i j k : Nat) (hi : i < h.length) (hj : j < h.length) : at_ (swp h i j) k = if k = j then at_ h i else if k = i then at_ h j else at_ h k := by
  unfold swp
  rw [at_set _ _ _ _ (by simpa using hj), at_set _ _ _ _ hi]
  by_cases e : k = j
  · simp [e]
  · by_cases e2 : k = i
    · subst e2
      rw [if_neg e, if_pos rfl, if_neg (fun h => e h.symm)]
    · rw [if_neg (fun h => e h.symm), if_neg (fun h => e2 h.symm), if_neg e, if_neg e2]
theorem swp_perm (h : List (Int × Int)) (i j : Nat) (hi : i < h.length) (hj : j < h.length) : (swp h i j).Perm h := by
  have := Array.swap_perm (xs := h.toArray) (i := i) (j := j) (by simpa using hi) (by simpa using hj)
  rw [Array.perm_iff_toList_perm, Array.toList_swap] at this
  unfold swp
  rw [at_get hi, at_get hj]
  simpa using this

theorem heap_first {h : List (Int × Int)} (hh : Heap h) (i : Nat) (hi : i < h.length) : bet (at_ h 0) (at_ h i) = false := by
  induction i using Nat.strongRecOn with
  | _ i ih =>
    by_cases e : i = 0
    · subst e; exact irr _
    · have h1 := hh i (by omega) hi
      have h2 := ih (par i) (by unfold par; omega) (by unfold par; omega)
      exact ntr h2 h1

/-- a heap but for the way up from i -/
def Up (h : List (Int × Int)) (i : Nat) : Prop :=
  (∀ j, 0 < j → j < h.length → j ≠ i → bet (at_ h (par j)) (at_ h j) = false) ∧ ∀ j, 0 < j → j < h.length → par j = i → 0 < i → bet (at_ h (par i)) (at_ h j) = false
theorem up_end {h : List (Int × Int)} {i : Nat} (hu : Up h i) (he : i = 0 ∨ bet (at_ h (par i)) (at_ h i) = false) : Heap h := by
  intro j h0 hj
  by_cases e : j = i
  · subst e
    rcases he with rfl | he
    · omega
    · exact he
  · exact hu.1 j h0 hj e
theorem up_start {h : List (Int × Int)} (hh : Heap h) (x : Int × Int) : Up (h ++ [x]) h.length := by
  have ha : ∀ j, j < h.length → at_ (h ++ [x]) j = at_ h j := by
    intro j hj
    rw [at_get (by simp; omega), at_get hj, List.getElem_append_left hj]
  refine ⟨fun j h0 hj hne => ?_, fun j h0 hj hp h1 => ?_⟩
  · have hj' : j < h.length := by simp at hj; omega
    rw [ha j hj', ha (par j) (by unfold par; omega)]
    exact hh j h0 hj'
  · simp at hj
    unfold par at hp
    omega
theorem up_step {h : List (Int × Int)} {i : Nat} (hu : Up h i) (h0 : 0 < i) (hi : i < h.length) (hb : bet (at_ h (par i)) (at_ h i) = true) : Up (swp h (par i) i) (par i) := by
  have hp : par i < h.length := by unfold par; omega
  have hpi : par i < i := by unfold par; omega
  have hni := asy hb
  refine ⟨fun j j0 hj hne => ?_, fun j j0 hj hpj hp0 => ?_⟩
  · rw [swp_len] at hj
    rw [at_swp _ _ _ _ hp hi, at_swp _ _ _ _ hp hi]
    have hpj : par j < j := by unfold par; omega
    by_cases e : j = i
    · subst e
      rw [if_neg (by omega), if_pos rfl, if_pos rfl]
      exact hni
    · rw [if_neg e, if_neg hne]
      by_cases e2 : par j = i
      · rw [if_pos e2]
        exact hu.2 j j0 hj e2 h0
      · rw [if_neg e2]
        by_cases e3 : par j = par i
        · rw [if_pos e3]
          have := hu.1 j j0 hj e
          rw [e3] at this
          exact ntr hni this
        · rw [if_neg e3]
          exact hu.1 j j0 hj e
  · rw [swp_len] at hj
    have hpp : par (par i) < par i := by generalize par i = p at hp0; unfold par; omega
    rw [at_swp _ _ _ _ hp hi, at_swp _ _ _ _ hp hi, if_neg (show par (par i) ≠ i by omega), if_neg (show par (par i) ≠ par i by omega)]
    have h1 := hu.1 (par i) hp0 hp (by omega)
    by_cases e : j = i
    · rw [if_pos e]
      exact h1
    · rw [if_neg e, if_neg (show j ≠ par i by intro e; rw [e] at hpj; omega)]
      have h2 := hu.1 j j0 hj e
      rw [hpj] at h2
      exact ntr h1 h2

/-- a heap but for the way down from i -/
def Dn (h : List (Int × Int)) (i : Nat) : Prop :=
  (∀ j, 0 < j → j < h.length → par j ≠ i → bet (at_ h (par j)) (at_ h j) = false) ∧ ∀ j, 0 < j → j < h.length → par j = i → 0 < i → bet (at_ h (par i)) (at_ h j) = false
theorem dn_end {h : List (Int × Int)} {i : Nat} (hd : Dn h i) (he : ∀ j, 0 < j → j < h.length → par j = i → bet (at_ h i) (at_ h j) = false) : Heap h := by
  intro j h0 hj
  by_cases e : par j = i
  · rw [e]; exact he j h0 hj e
  · exact hd.1 j h0 hj e
theorem dn_start {h : List (Int × Int)} (hh : Heap h) (x : Int × Int) (hl : 0 < h.length) : Dn (h.set 0 x) 0 := by
  refine ⟨fun j h0 hj hne => ?_, fun j h0 hj hp h1 => by omega⟩
  rw [at_set _ _ _ _ hl, at_set _ _ _ _ hl, if_neg (by omega), if_neg (by omega)]
  exact hh j h0 (by simpa using hj)
theorem dn_step {h : List (Int × Int)} {i c : Nat} (hd : Dn h i) (hi : i < h.length) (hc : c < h.length) (hc0 : 0 < c) (hpc : par c = i) (hb : bet (at_ h c) (at_ h i) = false) (hw : ∀ j, 0 < j → j < h.length → par j = i → bet (at_ h c) (at_ h j) = false) : Dn (swp h i c) c := by
  have hci : i < c := by unfold par at hpc; omega
  refine ⟨fun j j0 hj hne => ?_, fun j j0 hj hpj hp0 => ?_⟩
  · rw [swp_len] at hj
    have hpj : par j < j := by unfold par; omega
    rw [at_swp _ _ _ _ hi hc, at_swp _ _ _ _ hi hc, if_neg hne]
    by_cases e : par j = i
    · rw [if_pos e]
      by_cases e2 : j = c
      · rw [if_pos e2]; exact hb
      · rw [if_neg e2, if_neg (by omega)]
        exact hw j j0 hj e
    · rw [if_neg e]
      have e2 : j ≠ c := fun x => e (by rw [x]; exact hpc)
      rw [if_neg e2]
      by_cases e3 : j = i
      · rw [if_pos e3]
        subst e3
        exact hd.2 c hc0 hc hpc j0
      · rw [if_neg e3]
        exact hd.1 j j0 hj e
  · rw [swp_len] at hj
    have hjc : c < j := by unfold par at hpj; omega
    rw [at_swp _ _ _ _ hi hc, at_swp _ _ _ _ hi hc, hpc, if_neg (by omega), if_pos rfl, if_neg (by omega), if_neg (by omega)]
    have := hd.1 j j0 hj (by omega)
    rwa [hpj] at this

/-! ## a bound -/
/-- the heap h of a bound of k that was offered all of l -/
def Bnd (k : Nat) (l h : List (Int × Int)) : Prop := Heap h ∧ h.Perm (best k l)
theorem bnd_nil (k : Nat) : Bnd k [] [] := ⟨fun i _ hi => by simp at hi, by rw [best_nil]⟩
theorem bnd_len {k : Nat} {l h : List (Int × Int)} (hb : Bnd k l h) : h.length = min k l.length := by rw [hb.2.length_eq, best_len]
theorem bnd_srt {k : Nat} {l h : List (Int × Int)} (hb : Bnd k l h) : srt h = best k l := srt_is (best_srt k l) hb.2.symm
/-- the first one of a heap is the worst of all -/
theorem bnd_worst {k : Nat} {l h : List (Int × Int)} (hb : Bnd k l h) (hl : 0 < h.length) : (best k l).getLast? = some (at_ h 0) := by
  have hne : best k l ≠ [] := by
    intro e
    have := hb.2.length_eq
    rw [e] at this
    simp at this
    rw [this] at hl
    simp at hl
  rw [List.getLast?_eq_some_getLast hne]
  congr 1
  have hm : (best k l).getLast hne ∈ h := hb.2.mem_iff.2 (List.getLast_mem _)
  obtain ⟨i, hi, he⟩ := List.mem_iff_getElem.1 hm
  have h1 := heap_first hb.1 i hi
  rw [at_get hi, he] at h1
  have h0m : at_ h 0 ∈ best k l := hb.2.mem_iff.1 (by rw [at_get hl]; exact List.getElem_mem _)
  have hs := best_srt k l
  obtain ⟨A, hA⟩ : ∃ A, best k l = A ++ [(best k l).getLast hne] := ⟨_, (List.dropLast_concat_getLast hne).symm⟩
  generalize (best k l).getLast hne = z at *
  rw [hA] at hs h0m
  obtain ⟨_, _, q⟩ := srt_parts hs
  rcases List.mem_append.1 h0m with hh | hh
  · exact same_of (q _ hh z (by simp)) h1
  · simp at hh; exact hh.symm
theorem bnd_room {k : Nat} {l h h' : List (Int × Int)} {x : Int × Int} (hb : Bnd k l h) (hlt : h.length < k) (hh : Heap h') (hp : h'.Perm (h ++ [x])) : Bnd k (l ++ [x]) h' := by
  have hl := bnd_len hb
  refine ⟨hh, hp.trans ?_⟩
  rw [best_all (by simp; omega)]
  have h1 := hb.2
  rw [best_all (by omega)] at h1
  exact ((h1.trans (srt_perm l)).append (List.Perm.refl [x])).trans (srt_perm _).symm
theorem bnd_keep {k : Nat} {l h : List (Int × Int)} {x : Int × Int} (hb : Bnd k l h) (hge : k ≤ h.length) (hx : k = 0 ∨ bet x (at_ h 0) = false) : Bnd k (l ++ [x]) h := by
  refine ⟨hb.1, ?_⟩
  by_cases e : k = 0
  · subst e; exact hb.2
  · have hl := bnd_len hb
    rw [best_keep (by omega) (bnd_worst hb (by omega)) (by rcases hx with h | h; exact absurd h e; exact h)]
    exact hb.2
theorem bnd_turn {k : Nat} {l h h' : List (Int × Int)} {x : Int × Int} (hb : Bnd k l h) (hge : k ≤ h.length) (hk : 0 < k) (hx : bet x (at_ h 0) = true) (hh : Heap h') (hp : h'.Perm (h.set 0 x)) : Bnd k (l ++ [x]) h' := by
  have hl := bnd_len hb
  refine ⟨hh, hp.trans ?_⟩
  obtain ⟨A, hA⟩ := List.getLast?_eq_some_iff.1 (bnd_worst hb (by omega))
  refine List.Perm.trans ?_ (best_turn (by omega) hA hx).symm
  cases h with
  | nil => simp at hge; omega
  | cons h0 t =>
    rw [List.set_cons_zero]
    refine List.Perm.cons x ?_
    have h1 := hb.2
    rw [hA, show at_ (h0 :: t) 0 = h0 from rfl] at h1
    have h2 : (A ++ [h0]).Perm (h0 :: A) := List.perm_append_singleton h0 A
    exact (List.Perm.cons_inv (h1.trans h2))
/-- is x kept? -/
def kept (k : Nat) (l : List (Int × Int)) (x : Int × Int) : Bool := decide (0 < k) && (decide ((best k l).length < k) || match (best k l).getLast? with | some w => bet x w | none => false)
end TopM

/- Documents with scores: as values, in rows; which is better. -/
namespace Go.Proofs.YtpinpnbhbngclaaGreat
open Go.RowKit

/-- one's own row of documents with scores -/
def PairRow (w : World) (base : Nat) (v : Value) (l : List (Int × Int)) : Prop := w.ownsRow base 54 2 v l.length (l.flatMap enc2)
theorem pair_info : (Tryz.prog.info? 54).map (fun i => (i.zero, i.size, i.bytes)) = some (some (sv (0, 0)), 2, 16) := by kernel_rfl

theorem PairRow.nil_ (w : World) (base : Nat) : PairRow w base (.slice none 0 0) [] := World.ownsRow_nil _ _ _ _
theorem PairRow.kept {w w' : World} {base : Nat} {v : Value} {l : List (Int × Int)} (h : PairRow w base v l) (hk : ∀ g, v.ownBlock = some g → w'.heap[g]? = w.heap[g]?) : PairRow w' base v l := by
  refine ⟨h.1, ?_⟩
  rcases h.2 with hn | ⟨g, cap, cur, rfl, hbg, hgg, rest⟩
  · exact .inl hn
  · exact .inr ⟨g, cap, cur, rfl, hbg, (hk g rfl).trans hgg, rest⟩
theorem PairRow.later {w w' : World} {base : Nat} {v : Value} {l : List (Int × Int)} (h : PairRow w base v l) (hb : Below w.heap.size w w') : PairRow w' base v l :=
  h.kept fun g hg => hb.block g (World.ownsRow.lt h g hg).2
theorem PairRow.cells {w : World} {base : Nat} {v : Value} {l : List (Int × Int)} (h : PairRow w base v l) (hne : 0 < l.length) :
    ∃ g cap, v = .slice (some ⟨g, 0, none⟩) l.length cap ∧ base ≤ g ∧ g < w.heap.size ∧ l.length ≤ cap ∧ (∀ j, w.frozen? ⟨g, j, none⟩ = false) ∧ ∀ k (hk : k < l.length), w.cell? ⟨g, k * 2, none⟩ = some (.int .i64 l[k].1) ∧ w.cell? ⟨g, k * 2 + 1, none⟩ = some (.int .i64 l[k].2) := by
  have h0 := h
  rcases h.2 with ⟨rfl, hn⟩ | ⟨g, cap, cur, rfl, hbg, hgg, hnc, rest⟩
  · omega
  · refine ⟨g, cap, rfl, hbg, (Array.getElem?_eq_some_iff.1 hgg).1, by omega, fun j => by unfold World.frozen?; simp only [hgg]; simp, fun k hk => ?_⟩
    obtain ⟨f0, f1⟩ := flat_get l k hk
    have c0 := World.ownsRow.cells h0 (g := g) rfl _ _ f0
    have c1 := World.ownsRow.cells h0 (g := g) rfl _ _ f1
    rw [add_none, Nat.zero_add] at c0 c1
    exact ⟨c0, c1⟩
theorem PairRow.form {w : World} {base : Nat} {v : Value} {l : List (Int × Int)} (h : PairRow w base v l) : ∃ A cap, v = .slice A l.length cap ∧ l.length ≤ cap ∧ (A = none → cap = 0) := by
  rcases h.2 with ⟨rfl, hn⟩ | ⟨g, cap, cur, rfl, hbg, hgg, hnc, rest⟩
  · rw [hn]; exact ⟨none, 0, rfl, Nat.le_refl _, fun _ => rfl⟩
  · exact ⟨_, cap, rfl, by omega, fun e => by cases e⟩
theorem PairRow.pairs {w : World} {base : Nat} {v : Value} {l : List (Int × Int)} (h : PairRow w base v l) : ∃ A cap, v = .slice A l.length cap ∧ Pairs w A l.length l := by
  by_cases hl : 0 < l.length
  · obtain ⟨g, cap, rfl, _, hg, _, _, hc⟩ := h.cells hl
    refine ⟨_, cap, rfl, rfl, fun k hk => ⟨g, 0, rfl, hg, ?_⟩⟩
    rw [Nat.zero_add]
    exact hc k hk
  · obtain ⟨A, cap, rfl, _, _⟩ := h.form
    exact ⟨A, cap, rfl, rfl, fun k hk => by omega⟩
/-- one of one's own row, turned -/
theorem PairRow.set_ {w : World} {base g n cap : Nat} {l : List (Int × Int)} (h : PairRow w base (.slice (some ⟨g, 0, none⟩) n cap) l) (i : Nat) (p : Int × Int) (hi : i < l.length) :
    PairRow ((w.setCell ⟨g, i * 2, none⟩ (.int .i64 p.1)).setCell ⟨g, i * 2 + 1, none⟩ (.int .i64 p.2)) base (.slice (some ⟨g, 0, none⟩) n cap) (l.set i p) := by
  refine ⟨by rw [flat_len, List.length_set], .inr ?_⟩
  rcases h.2 with ⟨e, _⟩ | ⟨g', cap', cur, e, hbg, hgg, h1, h2, h3, h4⟩
  · cases e
  · injection e with e1 e2 e3
    injection e1 with e1
    injection e1 with e1
    subst e1; subst e2; subst e3
    refine ⟨g, cap, (cur.setIfInBounds (i * 2) (.int .i64 p.1)).setIfInBounds (i * 2 + 1) (.int .i64 p.2), by simp, hbg, heap_setCell_row (heap_setCell_row hgg _ _) _ _, by simpa using h1, h2, by simpa using h3, ?_⟩
    rw [Array.toList_setIfInBounds, Array.toList_setIfInBounds, List.take_set, List.take_set]
    simp only [List.length_set]
    rw [h4, flat_set l i p hi]

/-- append of one onto one's own row -/
theorem wpList_append_pair {w : World} {ops : Array Oper} {rest : List Oper} {o : Oper} {a : Act} {Q : Exit → Act → World → Prop} (hgd : o.guard = none) (s x : Operand)
    (ho : o.op = .call { callee := .builtin .append, args := #[s, x], argTypes := #[30, 30] })
    (base : Nat) (v : Value) (l : List (Int × Int)) (hs : a.eval s = v) (hown : PairRow w base v l)
    (g c : Nat) (p : Int × Int) (hx : a.eval x = .slice (some ⟨g, 0, none⟩) 1 c) (hc0 : w.cell? ⟨g, 0, none⟩ = some (.int .i64 p.1)) (hc1 : w.cell? ⟨g, 1, none⟩ = some (.int .i64 p.2)) (hbase : base ≤ w.heap.size) (hn : l.length ≤ 1000000000)
    (h : ∀ v' w', PairRow w' base v' (l ++ [p]) → w.grownBy w' v.ownBlock → wpList Tryz.prog ops Q rest (a.put o.dst v') w') : wpList Tryz.prog ops Q (o :: rest) a w := by
  obtain ⟨i0, hi, hz0, hz1, hz2⟩ := info_parts pair_info
  refine wpList_append_own w hgd s x 30 ho base 54 i0 _ 2 16 Tryz.underlying30 hi hz0 hz1 hz2 rfl (by omega) _ _ _ hs hown ⟨g, 0, none⟩ 1 c (enc2 p) hx rfl (fun j u hu => ?_) (fun u hu => ?_) (by simp [maxLen]; omega) (by omega) hbase ?_
  · match j, hu with
    | 0, hu => simp [enc2] at hu; subst hu; rw [add_none]; exact hc0
    | 1, hu => simp [enc2] at hu; subst hu; rw [add_none]; exact hc1
  · simp [enc2] at hu; rcases hu with rfl | rfl <;> rfl
  · intro v' w' hown' hg' hiff
    refine h v' w' ?_ hg'
    unfold PairRow
    rw [List.length_append, List.flatMap_append]
    simpa using hown'

/-- which is better: the program's -/
theorem better_any (a b : Int × Int) (w : World) :
    Calls Tryz.prog 42 #[sv a, sv b] w fun e w' => e = .returned (.bool (TopM.bet a b)) ∧ ∃ o1 o2, w' = (w.alloc o1).alloc o2 := by
  obtain ⟨a1, a2⟩ := a
  obtain ⟨b1, b2⟩ := b
  unfold sv
  by_cases h : a2 = b2
  · subst h
    have hb : TopM.bet (a1, a2) (b1, a2) = decide (a1 < b1) := by unfold TopM.bet; rw [if_pos rfl]
    rw [hb]
    obtain ⟨r, hr⟩ : ∃ r, r = decide (a1 < b1) := ⟨_, rfl⟩
    rw [← hr]
    have hr' := hr.symm
    clear hb hr
    go_enter Tryz.func42, Tryz.ntmps42
    go_wp2
    go_ret
    exact ⟨rfl, _, _, rfl⟩
  · have hb : TopM.bet (a1, a2) (b1, b2) = decide (b2 < a2) := by unfold TopM.bet; rw [if_neg h]
    rw [hb]
    have hd : (a2 != b2) = true := by simpa using h
    obtain ⟨r, hr⟩ : ∃ r, r = decide (b2 < a2) := ⟨_, rfl⟩
    rw [← hr]
    have hr' := hr.symm
    clear hb hr h
    go_enter Tryz.func42, Tryz.ntmps42
    go_wp2
    go_ret
    exact ⟨rfl, _, _, rfl⟩
end Go.Proofs.YtpinpnbhbngclaaGreat

/- A bound in memory; two of its heap turned about. -/
namespace Go.Proofs.YtpinpnbhbngclaaGreat
open Go.RowKit

def betF : Value := .func (.func 42) #[] #[]
def topC (k : Nat) (v : Value) : Array Value := #[.int .i64 k, betF, v]
/-- at t stands a bound of k, its heap, one's own row, reads h -/
structure TopAt (w : World) (base t k : Nat) (v : Value) (h : List (Int × Int)) : Prop where
  old : base ≤ t
  blk : w.heap[t]? = some (.cells (topC k v) 93 (0, 0))
  row : PairRow w base v h
/-- the blocks of a bound -/
def own2 (t : Nat) (v : Value) (b : Nat) : Prop := b = t ∨ v.ownBlock = some b

theorem own_ne {w : World} {base : Nat} {v : Value} {l : List (Int × Int)} {t : Nat} {cs : Array Value} (h : PairRow w base v l) (ht : w.heap[t]? = some (.cells cs 93 (0, 0))) : v.ownBlock ≠ some t := by
  rcases h.2 with ⟨rfl, _⟩ | ⟨g, cap, cur, rfl, _, hgg, _⟩
  · simp [Value.ownBlock]
  · intro e
    have e2 : g = t := by simpa [Value.ownBlock] using e
    subst e2
    rw [hgg] at ht
    injection ht with ht
    injection ht with _ ht
    revert ht
    decide
section
variable {w w' : World} {base t k : Nat} {v : Value} {h : List (Int × Int)}
theorem TopAt.lt (x : TopAt w base t k v h) : t < w.heap.size := (Array.getElem?_eq_some_iff.1 x.blk).1
theorem TopAt.c0 (x : TopAt w base t k v h) : w.cell? ⟨t, 0, none⟩ = some (.int .i64 k) := by rw [cell_of_row w t 0 _ _ _ x.blk]; rfl
theorem TopAt.c1 (x : TopAt w base t k v h) : w.cell? ⟨t, 1, none⟩ = some betF := by rw [cell_of_row w t 1 _ _ _ x.blk]; rfl
theorem TopAt.c2 (x : TopAt w base t k v h) : w.cell? ⟨t, 2, none⟩ = some v := by rw [cell_of_row w t 2 _ _ _ x.blk]; rfl
theorem TopAt.f2 (x : TopAt w base t k v h) (i : Nat) : w.frozen? ⟨t, i, none⟩ = false := by simp [World.frozen?, x.blk]
theorem TopAt.later (x : TopAt w base t k v h) (hb : Below w.heap.size w w') : TopAt w' base t k v h := ⟨x.old, (hb.block t x.lt).trans x.blk, x.row.later hb⟩
theorem TopAt.ne (x : TopAt w base t k v h) : v.ownBlock ≠ some t := own_ne x.row x.blk
theorem TopAt.set_ (x : TopAt w base t k v h) {g n cap : Nat} (hv : v = .slice (some ⟨g, 0, none⟩) n cap) (i : Nat) (p : Int × Int) (hi : i < h.length) :
    TopAt ((w.setCell ⟨g, i * 2, none⟩ (.int .i64 p.1)).setCell ⟨g, i * 2 + 1, none⟩ (.int .i64 p.2)) base t k v (h.set i p) := by
  have hne : t ≠ g := fun e => x.ne (by rw [hv, e]; simp [Value.ownBlock])
  refine ⟨x.old, ?_, ?_⟩
  · rw [Below.heap_setCell _ _ _ t hne, Below.heap_setCell _ _ _ t hne]; exact x.blk
  · subst hv; exact x.row.set_ i p hi
end
/-- nothing but blocks of S has turned -/
structure Only (S : Nat → Prop) (w w' : World) : Prop where
  os : w'.os = w.os
  tape : w'.tape = w.tape
  output : w'.output = w.output
  size : w.heap.size ≤ w'.heap.size
  block : ∀ k, k < w.heap.size → ¬ S k → w'.heap[k]? = w.heap[k]?
section
variable {S : Nat → Prop} {w w' w'' : World}
theorem Only.refl (S : Nat → Prop) (w : World) : Only S w w := ⟨rfl, rfl, rfl, Nat.le_refl _, fun _ _ _ => rfl⟩
theorem Only.trans (h1 : Only S w w') (h2 : Only S w' w'') : Only S w w'' :=
  ⟨h2.os.trans h1.os, h2.tape.trans h1.tape, h2.output.trans h1.output, Nat.le_trans h1.size h2.size, fun k hk hs => (h2.block k (Nat.lt_of_lt_of_le hk h1.size) hs).trans (h1.block k hk hs)⟩
theorem Only.wide {T : Nat → Prop} (h : Only S w w') (hT : ∀ k, S k → T k) : Only T w w' := ⟨h.os, h.tape, h.output, h.size, fun k hk hs => h.block k hk (fun x => hs (hT k x))⟩
theorem Only.of_below (S : Nat → Prop) (h : Below w.heap.size w w') : Only S w w' := ⟨h.os, h.tape, h.output, h.size, fun k hk _ => h.block k hk⟩
theorem Only.of_grown {r : Option Nat} (h : w.grownBy w' r) (hS : ∀ b, r = some b → S b) : Only S w w' :=
  ⟨h.os, h.tape, h.output, h.size, fun k hk hs => h.block k hk (fun e => hs (hS k e.symm))⟩
theorem Only.set_ (h : Only S w w') {b : Nat} (hS : S b) (i : Nat) (u : Value) : Only S w (w'.setCell ⟨b, i, none⟩ u) :=
  h.trans (Only.of_grown (only_set (World.grownBy.refl w' _) i u) (fun c e => by injection e with e; rw [← e]; exact hS))
theorem Only.alloc (h : Only S w w') (o : Obj) : Only S w (w'.alloc o) :=
  ⟨h.os, h.tape, h.output, Nat.le_trans h.size (by simp), fun k hk hs => (Below.heap_alloc w' o k (Nat.lt_of_lt_of_le hk h.size)).trans (h.block k hk hs)⟩
theorem Only.drew (h : Only S w w') : Only S w w'.drew := ⟨h.os, h.tape, h.output, h.size, h.block⟩
theorem Only.drewN (h : Only S w w') (n : Nat) : Only S w (w'.drewN n) := ⟨h.os, h.tape, h.output, h.size, h.block⟩
theorem Only.later {B : Nat} (h : Only S w w') (hb : Below B w' w'') (hB : w.heap.size ≤ B) : Only S w w'' :=
  ⟨hb.os.trans h.os, hb.tape.trans h.tape, hb.output.trans h.output, Nat.le_trans h.size hb.size, fun k hk hs => (hb.block k (by omega)).trans (h.block k hk hs)⟩
theorem Only.cell (h : Only S w w') {p : Addr} (hp : p.block < w.heap.size) (hS : ¬ S p.block) : w'.cell? p = w.cell? p := World.cell?_of_block (h.block p.block hp hS)
theorem Only.below {B : Nat} (h : Only S w w') (hS : ∀ k, S k → B ≤ k) (hB : B ≤ w.heap.size) : Below B w w' :=
  ⟨h.os, h.tape, h.output, h.size, fun k hk => h.block k (by omega) (fun s => by have := hS k s; omega)⟩
/-- blocks that are new may turn besides -/
theorem Only.from_new (h1 : Only S w w') (h2 : Only (fun k => S k ∨ w.heap.size ≤ k) w' w'') : Only S w w'' :=
  ⟨h2.os.trans h1.os, h2.tape.trans h1.tape, h2.output.trans h1.output, Nat.le_trans h1.size h2.size, fun k hk hs => (h2.block k (Nat.lt_of_lt_of_le hk h1.size) (fun x => x.elim hs (fun y => by omega))).trans (h1.block k hk hs)⟩
end

set_option maxHeartbeats 4000000 in
set_option maxRecDepth 100000 in
theorem swap_any (base t k : Nat) (v : Value) (h : List (Int × Int)) (i j : Nat) (w : World) (hx : TopAt w base t k v h) (hi : i < h.length) (hj : j < h.length) (hij : i ≠ j) (hl : h.length ≤ 1000000000) :
    Calls Tryz.prog 110 #[.pointer (some ⟨t, 0, none⟩), .int .i64 i, .int .i64 j] w fun e w' => e = .returned (.tuple #[]) ∧ TopAt w' base t k v (TopM.swp h i j) ∧ Only (own2 t v) w w' := by
  obtain ⟨g, cap, hv, hbg, hg, hcap, hfz, hc⟩ := hx.row.cells (by omega)
  have hx' := Lib.hid hx
  obtain ⟨ci0, ci1⟩ := hc i hi
  obtain ⟨cj0, cj1⟩ := hc j hj
  have c2 := hx.c2
  have hne : t ≠ g := fun e => hx.ne (by rw [hv, e]; simp [Value.ownBlock])
  rw [hv] at c2
  have ai := TopM.at_get hi
  have aj := TopM.at_get hj
  rw [← ai] at ci0 ci1
  rw [← aj] at cj0 cj1
  obtain ⟨x, hxe⟩ : ∃ x, x = TopM.at_ h i := ⟨_, rfl⟩
  obtain ⟨y, hye⟩ : ∃ y, y = TopM.at_ h j := ⟨_, rfl⟩
  obtain ⟨n, hn⟩ : ∃ n, n = h.length := ⟨_, rfl⟩
  have HX := Lib.hid hxe
  have HY := Lib.hid hye
  rw [← hxe] at ci0 ci1
  rw [← hye] at cj0 cj1
  rw [← hn] at hi hj hl hcap c2 hv
  have HN := Lib.hid hn
  have HV := Lib.hid hv
  have fi0 := hfz (i * 2)
  have fi1 := hfz (i * 2 + 1)
  have fj0 := hfz (j * 2)
  have fj1 := hfz (j * 2 + 1)
  clear hc hxe hye hn hx hfz ai aj hv
  have e1 : j * 2 ≠ i * 2 := by omega
  have e2 : j * 2 + 1 ≠ i * 2 := by omega
  have e3 : j * 2 ≠ i * 2 + 1 := by omega
  have e4 : j * 2 + 1 ≠ i * 2 + 1 := by omega
  go_enter Tryz.func110, Tryz.ntmps110
  go_wp2
  go_region
  all_goals
    go_end0
    refine ⟨rfl, ?_, ?_⟩
    · have x1 := (hx'.out.set_ HV.out i y (by omega)).set_ HV.out j x (by simp; omega)
      rw [HX.out, HY.out] at x1 ⊢
      exact ⟨x1.old, x1.blk, x1.row⟩
    · have hS : own2 t v g := Or.inr (by rw [HV.out]; rfl)
      exact (((((Only.refl (own2 t v) w).set_ hS _ _).set_ hS _ _).set_ hS _ _).set_ hS _ _).drew
end Go.Proofs.YtpinpnbhbngclaaGreat

/- The heap's last moved up, its first moved down. -/
namespace Go.Proofs.YtpinpnbhbngclaaGreat
open Go.RowKit

theorem TopAt.drew {w : World} {base t k : Nat} {v : Value} {h : List (Int × Int)} (x : TopAt w base t k v h) : TopAt w.drew base t k v h := ⟨x.old, x.blk, x.row⟩
theorem TopAt.alloc {w : World} {base t k : Nat} {v : Value} {h : List (Int × Int)} (x : TopAt w base t k v h) (o : Obj) : TopAt (w.alloc o) base t k v h := x.later ((Below.refl _ _).alloc (Nat.le_refl _) _)

set_option maxHeartbeats 4000000 in
set_option maxRecDepth 100000 in
theorem rise_any (base t k : Nat) (v : Value) (h : List (Int × Int)) (m : Nat) (w : World) (hx : TopAt w base t k v h) (hm : h.length = m) (hm0 : 0 < m) (hu : TopM.Up h (m - 1)) (hl : h.length ≤ 1000000000) :
    Calls Tryz.prog 101 #[.pointer (some ⟨t, 0, none⟩)] w fun e w' => e = .returned (.tuple #[]) ∧ ∃ h', TopAt w' base t k v h' ∧ TopM.Heap h' ∧ h'.Perm h ∧ Only (own2 t v) w w' := by
  obtain ⟨g, cap, hv, hbg, hg, hcap, hfz, hc⟩ := hx.row.cells (by omega)
  have c2 := hx.c2
  rw [hv, hm] at c2
  have HX := Lib.hid hx
  have HV := Lib.hid hv
  have HM := Lib.hid hm
  have hml : m ≤ 1000000000 := by omega
  clear hx hv hc hfz hm hl
  go_enter Tryz.func101, Tryz.ntmps101
  go_wp2
  go_loopw [2] (fun x wr => ∃ (i : Nat) (hr : List (Int × Int)), x = .int .i64 i ∧ i < hr.length ∧ hr.length = m ∧ TopAt wr base t k v hr ∧ TopM.Up hr i ∧ hr.Perm h ∧ Only (own2 t v) w wr) (fun x _ => (intOf x).toNat)
  case atStart => exact ⟨m - 1, h, by go_num, by rw [HM.out]; omega, HM.out, HX.out, hu, List.Perm.refl _, Only.refl _ _⟩
  case round =>
    clear hu c2 hcap hg
    obtain ⟨i, hr, rfl, hi, hrm, xr, ur, pr, onl⟩ := hrel
    by_cases h0 : i = 0
    · subst h0
      have hH := Lib.hid (TopM.up_end ur (.inl rfl))
      have hd : decide ((0 : Int) < ((0 : Nat) : Int)) = false := by simp
      clear ur hrm
      go_wp2
      go_end0
      exact ⟨rfl, hr, xr, hH.out, pr, onl⟩
    · obtain ⟨p, hp⟩ : ∃ p, p = TopM.par i := ⟨_, rfl⟩
      have hpi : p < i := by rw [hp]; unfold TopM.par; omega
      have hpe : ((i : Int) - 1) / 2 = (p : Int) := by rw [hp]; unfold TopM.par; omega
      have hd : decide ((0 : Int) < (i : Int)) = true := by simp; omega
      have c0 := xr.c0
      have c1 : wr.cell? ⟨t, 1, none⟩ = some (.func (.func 42) #[] #[]) := xr.c1
      have c2 := xr.c2
      obtain ⟨g2, cap2, hv2, hbg2, hg2, hcap2, hfz2, hc2⟩ := xr.row.cells (by omega)
      rw [hv2, hrm] at c2
      obtain ⟨ci0, ci1⟩ := hc2 i hi
      obtain ⟨cp0, cp1⟩ := hc2 p (by omega)
      have ai := TopM.at_get hi
      have ap := TopM.at_get (show p < hr.length by omega)
      rw [← ai] at ci0 ci1
      rw [← ap] at cp0 cp1
      obtain ⟨x, hxe⟩ : ∃ x, x = TopM.at_ hr p := ⟨_, rfl⟩
      obtain ⟨y, hye⟩ : ∃ y, y = TopM.at_ hr i := ⟨_, rfl⟩
      rw [← hye] at ci0 ci1
      rw [← hxe] at cp0 cp1
      have hbt := fun W => better_any x y W
      unfold sv at hbt
      have HI : Hid (TopM.bet (TopM.at_ hr (TopM.par i)) (TopM.at_ hr i) = TopM.bet x y) := Lib.hid (by rw [hxe, hye, hp])
      have HP := Lib.hid hp
      have HRM := Lib.hid hrm
      rw [hrm] at hi hcap2
      have hi1 : 0 < i := by omega
      have hpm : (p : Int) < (m : Int) := by omega
      have him : (i : Int) < (m : Int) := by omega
      have hp0 : (0 : Int) ≤ (p : Int) := by omega
      have hii0 : (0 : Int) ≤ (i : Int) := by omega
      clear ai ap hxe hye hp hrm hc2 hfz2 hv2
      cases hb : TopM.bet x y with
      | true =>
        rw [hb] at hbt HI
        have HB := Lib.hid hbt
        clear hbt hb
        go_wp2
        go_still_tail 18, (by kernel_rfl)
        change wpList _ _ _ _ _ wr.drew
        have xd := xr.drew
        have od := onl.drew
        clear xr onl
        generalize wr.drew = w2 at xd od ⊢
        clear c0 c1 c2 ci0 ci1 cp0 cp1
        go_wp2_with fail
        refine (HB.out _).mono ?_
        rintro e w3 ⟨rfl, o1, o2, rfl⟩
        have x3 := (xd.alloc o1).alloc o2
        have ol3 := (od.alloc o1).alloc o2
        clear xd od
        generalize (w2.alloc o1).alloc o2 = w3 at x3 ol3 ⊢
        go_wp2_with fail
        refine (swap_any base t k v hr p i w3 x3 (by rw [HRM.out]; omega) (by rw [HRM.out]; omega) (by omega) (by rw [HRM.out]; omega)).mono ?_
        rintro e w4 ⟨rfl, x4, o4⟩
        have ol4 := ol3.trans o4
        clear x3 ol3 o4
        go_wp2
        go_roundw
        case rel =>
          refine ⟨p, _, rfl, by rw [TopM.swp_len, HRM.out]; omega, by rw [TopM.swp_len, HRM.out], x4, ?_, (TopM.swp_perm hr p i (by rw [HRM.out]; omega) (by rw [HRM.out]; omega)).trans pr, ol4⟩
          have := TopM.up_step ur hi1 (by rw [HRM.out]; omega) HI.out
          rw [← HP.out] at this
          exact this
        case measure => simp [intOf]; omega
      | false =>
        rw [hb] at hbt HI
        have HB := Lib.hid hbt
        have hH := Lib.hid (TopM.up_end ur (.inr HI.out))
        clear hbt hb ur
        go_wp2
        go_still_tail 18, (by kernel_rfl)
        change wpList _ _ _ _ _ wr.drew
        have xd := xr.drew
        have od := onl.drew
        clear xr onl
        generalize wr.drew = w2 at xd od ⊢
        clear c0 c1 c2 ci0 ci1 cp0 cp1
        go_wp2_with fail
        refine (HB.out _).mono ?_
        rintro e w3 ⟨rfl, o1, o2, rfl⟩
        have x3 := (xd.alloc o1).alloc o2
        have ol3 := (od.alloc o1).alloc o2
        clear xd od
        generalize (w2.alloc o1).alloc o2 = w3 at x3 ol3 ⊢
        go_wp2
        exact bodyPost_ret (v := .tuple #[]) (by simp [results, Tryz.results101, go_sem]) rfl ⟨rfl, hr, x3, hH.out, pr, ol3⟩
end Go.Proofs.YtpinpnbhbngclaaGreat

/- The heap's first moved down. -/
namespace Go.Proofs.YtpinpnbhbngclaaGreat
open Go.RowKit

/-- of what was looked at w is the worst -/
def SkT (hr : List (Int × Int)) (i wst bl : Nat) : Prop :=
  wst < hr.length ∧ (wst = i ∨ (2 * i + 1 ≤ wst ∧ wst < bl)) ∧ TopM.bet (TopM.at_ hr wst) (TopM.at_ hr i) = false ∧ ∀ j, 2 * i + 1 ≤ j → j < bl → j < hr.length → TopM.bet (TopM.at_ hr wst) (TopM.at_ hr j) = false
theorem sk_start (hr : List (Int × Int)) (i : Nat) (hi : i < hr.length) : SkT hr i i (2 * i + 1) := ⟨hi, .inl rfl, TopM.irr _, fun j h1 h2 => by omega⟩
theorem sk_yes {hr : List (Int × Int)} {i wst bl : Nat} (h : SkT hr i wst bl) (hb : bl < hr.length) (h2 : 2 * i + 1 ≤ bl) (hbt : TopM.bet (TopM.at_ hr wst) (TopM.at_ hr bl) = true) : SkT hr i bl (bl + 1) := by
  obtain ⟨a, b, c, d⟩ := h
  have hn := TopM.asy hbt
  refine ⟨hb, .inr ⟨h2, by omega⟩, TopM.ntr hn c, fun j h1 h3 h4 => ?_⟩
  by_cases e : j = bl
  · subst e; exact TopM.irr _
  · exact TopM.ntr hn (d j h1 (by omega) h4)
theorem sk_no {hr : List (Int × Int)} {i wst bl : Nat} (h : SkT hr i wst bl) (hbt : TopM.bet (TopM.at_ hr wst) (TopM.at_ hr bl) = false) : SkT hr i wst (bl + 1) := by
  obtain ⟨a, b, c, d⟩ := h
  refine ⟨a, ?_, c, fun j h1 h3 h4 => ?_⟩
  · rcases b with h | h
    · exact .inl h
    · exact .inr ⟨h.1, by omega⟩
  · by_cases e : j = bl
    · subst e; exact hbt
    · exact d j h1 (by omega) h4
theorem sk_all {hr : List (Int × Int)} {i wst bl : Nat} (h : SkT hr i wst bl) (hb : bl = 2 * i + 3 ∨ hr.length ≤ bl) : ∀ j, 0 < j → j < hr.length → TopM.par j = i → TopM.bet (TopM.at_ hr wst) (TopM.at_ hr j) = false := by
  intro j h0 hj hp
  unfold TopM.par at hp
  exact h.2.2.2 j (by omega) (by omega) hj

set_option maxHeartbeats 8000000 in
set_option maxRecDepth 100000 in
theorem sink_any (base t k : Nat) (v : Value) (h : List (Int × Int)) (n : Nat) (w : World) (hx : TopAt w base t k v h) (hn : h.length = n) (hn0 : 0 < n) (hu : TopM.Dn h 0) (hl : n ≤ 1000000000) :
    Calls Tryz.prog 102 #[.pointer (some ⟨t, 0, none⟩)] w fun e w' => e = .returned (.tuple #[]) ∧ ∃ h', TopAt w' base t k v h' ∧ TopM.Heap h' ∧ h'.Perm h ∧ Only (own2 t v) w w' := by
  have HN := Lib.hid hn
  clear hn
  go_enter Tryz.func102, Tryz.ntmps102
  go_wp2
  go_loopw [2] (fun x wr => ∃ (i : Nat) (hr : List (Int × Int)), x = .int .i64 i ∧ i < n ∧ hr.length = n ∧ TopAt wr base t k v hr ∧ TopM.Dn hr i ∧ hr.Perm h ∧ Only (own2 t v) w wr) (fun x _ => n - (intOf x).toNat)
  case atStart => exact ⟨0, h, by go_num, hn0, HN.out, hx, hu, List.Perm.refl _, Only.refl _ _⟩
  case round =>
    clear hu hx
    obtain ⟨i, hr, rfl, hi, hrn, xr, ur, pr, onl⟩ := hrel
    have HRN := Lib.hid hrn
    have HUR := Lib.hid ur
    clear hrn ur
    go_wp2
    go_loopw [3, 4] (fun x y wr => ∃ wst bl : Nat, x = .int .i64 wst ∧ y = .int .i64 bl ∧ 2 * i + 1 ≤ bl ∧ bl ≤ 2 * i + 3 ∧ SkT hr i wst bl ∧ TopAt wr base t k v hr ∧ Only (own2 t v) w wr) (fun _ y _ => 2 * i + 3 - (intOf y).toNat)
    case atStart => exact ⟨i, 2 * i + 1, rfl, by go_num, by omega, by omega, sk_start hr i (by rw [HRN.out]; exact hi), xr, onl⟩
    case round =>
      clear xr onl
      obtain ⟨wst, bl, rfl, rfl, hb1, hb3, sk, xs, ons⟩ := hrel
      have hwn : wst < n := by have := sk.1; rw [HRN.out] at this; exact this
      have SK := Lib.hid sk
      obtain ⟨g2, cap2, hv2, hbg2, hg2, hcap2, hfz2, hc2⟩ := xs.row.cells (by rw [HRN.out]; omega)
      have c0 := xs.c0
      have c1 : wr.cell? ⟨t, 1, none⟩ = some (.func (.func 42) #[] #[]) := xs.c1
      have c2 := xs.c2
      rw [hv2, HRN.out] at c2
      rw [HRN.out] at hcap2
      by_cases hlt : bl ≤ 2 * i + 2 ∧ bl < n
      · obtain ⟨hl1, hl2⟩ := hlt
        have hd1 : decide ((bl : Int) ≤ 2 * (i : Int) + 2) = true := decide_eq_true (by omega)
        have hd2 : decide ((bl : Int) < (n : Int)) = true := decide_eq_true (by omega)
        have hd3 : decide (bl < n) = true := decide_eq_true hl2
        obtain ⟨ci0, ci1⟩ := hc2 bl (by rw [HRN.out]; exact hl2)
        obtain ⟨cp0, cp1⟩ := hc2 wst (by rw [HRN.out]; exact hwn)
        have ai := TopM.at_get (show bl < hr.length by rw [HRN.out]; exact hl2)
        have ap := TopM.at_get (show wst < hr.length by rw [HRN.out]; exact hwn)
        rw [← ai] at ci0 ci1
        rw [← ap] at cp0 cp1
        obtain ⟨x, hxe⟩ : ∃ x, x = TopM.at_ hr wst := ⟨_, rfl⟩
        obtain ⟨y, hye⟩ : ∃ y, y = TopM.at_ hr bl := ⟨_, rfl⟩
        rw [← hye] at ci0 ci1
        rw [← hxe] at cp0 cp1
        have hbt := fun W => better_any x y W
        unfold sv at hbt
        have HI : Hid (TopM.bet (TopM.at_ hr wst) (TopM.at_ hr bl) = TopM.bet x y) := Lib.hid (by rw [hxe, hye])
        have hb0 : (0 : Int) ≤ (bl : Int) := by omega
        have hw0 : (0 : Int) ≤ (wst : Int) := by omega
        have hbn : (bl : Int) < (n : Int) := by omega
        have hwn' : (wst : Int) < (n : Int) := by omega
        clear ai ap hxe hye hc2 hfz2 hv2 sk
        obtain ⟨r, hr'⟩ : ∃ r, TopM.bet x y = r := ⟨_, rfl⟩
        rw [hr'] at hbt HI
        have HB := Lib.hid hbt
        clear hbt hr'
        cases r with
        | true =>
          go_wp2
          go_still_tail 18, (by kernel_rfl)
          change wpList _ _ _ _ _ wr.drew
          have xd := xs.drew
          have od := ons.drew
          clear xs ons
          generalize wr.drew = w2 at xd od ⊢
          clear c0 c1 c2 ci0 ci1 cp0 cp1
          go_wp2_with fail
          refine (HB.out _).mono ?_
          rintro e w3 ⟨rfl, o1, o2, rfl⟩
          have x3 := (xd.alloc o1).alloc o2
          have ol3 := (od.alloc o1).alloc o2
          clear xd od
          generalize (w2.alloc o1).alloc o2 = w3 at x3 ol3 ⊢
          go_wp2
          go_roundw
          case rel => exact ⟨bl, bl + 1, rfl, by go_num, by omega, by omega, sk_yes SK.out (by rw [HRN.out]; exact hl2) hb1 HI.out, x3, ol3⟩
          case measure => simp [intOf]; omega
        | false =>
          go_wp2
          go_still_tail 18, (by kernel_rfl)
          change wpList _ _ _ _ _ wr.drew
          have xd := xs.drew
          have od := ons.drew
          clear xs ons
          generalize wr.drew = w2 at xd od ⊢
          clear c0 c1 c2 ci0 ci1 cp0 cp1
          go_wp2_with fail
          refine (HB.out _).mono ?_
          rintro e w3 ⟨rfl, o1, o2, rfl⟩
          have x3 := (xd.alloc o1).alloc o2
          have ol3 := (od.alloc o1).alloc o2
          clear xd od
          generalize (w2.alloc o1).alloc o2 = w3 at x3 ol3 ⊢
          go_wp2
          go_roundw
          case rel => exact ⟨wst, bl + 1, rfl, by go_num, by omega, by omega, sk_no SK.out HI.out, x3, ol3⟩
          case measure => simp [intOf]; omega
      · have hall := Lib.hid (sk_all sk (by rw [HRN.out]; omega))
        clear hc2 hfz2 hv2 sk
        by_cases hwi : wst = i
        · subst hwi
          have hH := Lib.hid (TopM.dn_end HUR.out hall.out)
          by_cases hl1 : bl ≤ 2 * wst + 2
          · have hd1 : decide ((bl : Int) ≤ 2 * (wst : Int) + 2) = true := decide_eq_true (by omega)
            have hd2 : decide ((bl : Int) < (n : Int)) = false := decide_eq_false (by omega)
            have hd3 : decide (bl < n) = false := decide_eq_false (by omega)
            go_wp2
            exact bodyPost_ret (v := .tuple #[]) (by simp [results, Tryz.results102, go_sem]) rfl ⟨rfl, hr, xs, hH.out, pr, ons⟩
          · have hd1 : decide ((bl : Int) ≤ 2 * (wst : Int) + 2) = false := decide_eq_false (by omega)
            go_wp2
            exact bodyPost_ret (v := .tuple #[]) (by simp [results, Tryz.results102, go_sem]) rfl ⟨rfl, hr, xs, hH.out, pr, ons⟩
        · have hwc : TopM.par wst = i ∧ 0 < wst ∧ i < wst := by
            rcases SK.out.2.1 with h | h
            · exact absurd h hwi
            · unfold TopM.par; omega
          have HWC := Lib.hid hwc.1
          obtain ⟨_, hw0, hiw⟩ := hwc
          have hde : ((wst : Int) == (i : Int)) = false := by simp; omega
          have hsw := fun W hW => swap_any base t k v hr i wst W hW (by rw [HRN.out]; exact hi) (by rw [HRN.out]; exact hwn) (by omega) (by rw [HRN.out]; omega)
          have HSW := Lib.hid hsw
          clear hsw
          by_cases hl1 : bl ≤ 2 * i + 2
          · have hd1 : decide ((bl : Int) ≤ 2 * (i : Int) + 2) = true := decide_eq_true (by omega)
            have hd2 : decide ((bl : Int) < (n : Int)) = false := decide_eq_false (by omega)
            have hd3 : decide (bl < n) = false := decide_eq_false (by omega)
            go_wp2_with fail
            refine (HSW.out _ xs).mono ?_
            rintro e w4 ⟨rfl, x4, o4⟩
            have ol4 := ons.trans o4
            clear xs ons o4 c0 c1 c2
            go_wp2
            go_roundw
            case rel =>
              exact ⟨wst, _, rfl, hwn, by rw [TopM.swp_len, HRN.out], x4, TopM.dn_step HUR.out (by rw [HRN.out]; exact hi) SK.out.1 hw0 HWC.out SK.out.2.2.1 hall.out, (TopM.swp_perm hr i wst (by rw [HRN.out]; exact hi) SK.out.1).trans pr, ol4⟩
            case measure => simp [intOf]; omega
          · have hd1 : decide ((bl : Int) ≤ 2 * (i : Int) + 2) = false := decide_eq_false (by omega)
            go_wp2_with fail
            refine (HSW.out _ xs).mono ?_
            rintro e w4 ⟨rfl, x4, o4⟩
            have ol4 := ons.trans o4
            clear xs ons o4 c0 c1 c2
            go_wp2
            go_roundw
            case rel =>
              exact ⟨wst, _, rfl, hwn, by rw [TopM.swp_len, HRN.out], x4, TopM.dn_step HUR.out (by rw [HRN.out]; exact hi) SK.out.1 hw0 HWC.out SK.out.2.2.1 hall.out, (TopM.swp_perm hr i wst (by rw [HRN.out]; exact hi) SK.out.1).trans pr, ol4⟩
            case measure => simp [intOf]; omega
end Go.Proofs.YtpinpnbhbngclaaGreat

/- The worst of a bound; how many it keeps. -/
namespace Go.Proofs.YtpinpnbhbngclaaGreat
open Go.RowKit

theorem TopAt.drewN {w : World} {base t k : Nat} {v : Value} {h : List (Int × Int)} (x : TopAt w base t k v h) (n : Nat) : TopAt (w.drewN n) base t k v h := ⟨x.old, x.blk, x.row⟩

theorem bdrewN {B : Nat} {a w : World} (h : Below B a w) (n : Nat) : Below B a (w.drewN n) := ⟨h.os, h.tape, h.output, h.size, h.block⟩
/-- are k kept? -/
def fullB (k : Nat) (h : List (Int × Int)) : Bool := decide (0 < k) && decide (k ≤ h.length)
def worstV (k : Nat) (h : List (Int × Int)) : Int × Int := if fullB k h = true then TopM.at_ h 0 else (0, 0)
set_option maxHeartbeats 4000000 in
set_option maxRecDepth 100000 in
theorem worst_no (base t k : Nat) (v : Value) (h : List (Int × Int)) (w : World) (hx : TopAt w base t k v h) (hf : fullB k h = false) :
    Calls Tryz.prog 87 #[.pointer (some ⟨t, 0, none⟩)] w fun e w' => e = .returned (.tuple #[sv (0, 0), .bool false]) ∧ Below w.heap.size w w' := by
  obtain ⟨A, cap, rfl, hcap, hA⟩ := hx.row.form
  have c0 := hx.c0
  have c2 := hx.c2
  obtain ⟨n, hn⟩ : ∃ n, n = h.length := ⟨_, rfl⟩
  unfold fullB at hf
  rw [← hn] at c2 hf
  have ht := hx.lt
  clear hx hA hcap hn
  by_cases h0 : k = 0
  · subst h0
    clear hf
    have hd : (((0 : Nat) : Int) == 0) = true := by decide
    go_enter Tryz.func87, Tryz.ntmps87
    go_wp2
    go_quiet (fail)
    go_wp2
    exact bodyPost_ret (v := .tuple #[sv (0, 0), .bool false]) (by simp [results, Tryz.results87, go_sem, sv]) rfl ⟨rfl, ((((bdrewN ((Below.refl _ w).alloc (Nat.le_refl _) _) _).setCell (Nat.le_refl _) _).setCell (Nat.le_refl _) _).alloc (by simp) _)⟩
  · have hlt : n < k := by
      simp at hf; omega
    have hd : ((k : Int) == 0) = false := by simp; omega
    have hd1 : decide ((n : Int) < (k : Int)) = true := decide_eq_true (by omega)
    have hd2 : decide (n < k) = true := decide_eq_true (by omega)
    clear hf
    go_enter Tryz.func87, Tryz.ntmps87
    go_wp2
    go_quiet (fail)
    go_wp2
    exact bodyPost_ret (v := .tuple #[sv (0, 0), .bool false]) (by simp [results, Tryz.results87, go_sem, sv]) rfl ⟨rfl, ((((bdrewN ((Below.refl _ w).alloc (Nat.le_refl _) _) _).setCell (Nat.le_refl _) _).setCell (Nat.le_refl _) _).alloc (by simp) _)⟩
set_option maxHeartbeats 4000000 in
set_option maxRecDepth 100000 in
theorem worst_yes (base t k : Nat) (v : Value) (h : List (Int × Int)) (w : World) (hx : TopAt w base t k v h) (hf : fullB k h = true) :
    Calls Tryz.prog 87 #[.pointer (some ⟨t, 0, none⟩)] w fun e w' => e = .returned (.tuple #[sv (TopM.at_ h 0), .bool true]) ∧ Below w.heap.size w w' := by
  unfold fullB at hf
  simp at hf
  obtain ⟨g, cap, hv, hbg, hg, hcap, hfz, hc⟩ := hx.row.cells (by omega)
  have c0 := hx.c0
  have c2 := hx.c2
  obtain ⟨x0, x1⟩ := hc 0 (by omega)
  have ai := TopM.at_get (show 0 < h.length by omega)
  rw [← ai] at x0 x1
  obtain ⟨x, hxe⟩ : ∃ x, x = TopM.at_ h 0 := ⟨_, rfl⟩
  rw [← hxe] at x0 x1 ⊢
  rw [Nat.zero_mul] at x0 x1
  obtain ⟨n, hn⟩ : ∃ n, n = h.length := ⟨_, rfl⟩
  rw [hv, ← hn] at c2
  rw [← hn] at hf hcap
  obtain ⟨hf0, hf1⟩ := hf
  have ht := hx.lt
  have hd : ((k : Int) == 0) = false := by simp; omega
  have hd1 : decide ((n : Int) < (k : Int)) = false := decide_eq_false (by omega)
  have hd2 : decide (n < k) = false := decide_eq_false (by omega)
  have hn0 : (0 : Int) < (n : Int) := by omega
  have hn0' : 0 < n := by omega
  clear hx hc hfz ai hxe hn hv
  go_enter Tryz.func87, Tryz.ntmps87
  go_wp2
  go_quiet (fail)
  go_wp2
  exact bodyPost_ret (v := .tuple #[sv x, .bool true]) (by simp [results, Tryz.results87, go_sem, sv]) rfl ⟨rfl, (((bdrewN ((Below.refl _ w).alloc (Nat.le_refl _) _) _).setCell (Nat.le_refl _) _).setCell (Nat.le_refl _) _)⟩
theorem worst_any (base t k : Nat) (v : Value) (h : List (Int × Int)) (w : World) (hx : TopAt w base t k v h) :
    Calls Tryz.prog 87 #[.pointer (some ⟨t, 0, none⟩)] w fun e w' => e = .returned (.tuple #[sv (worstV k h), .bool (fullB k h)]) ∧ Below w.heap.size w w' := by
  unfold worstV
  cases hf : fullB k h with
  | true => rw [if_pos rfl]; exact worst_yes base t k v h w hx hf
  | false => rw [if_neg (by decide)]; exact worst_no base t k v h w hx hf
end Go.Proofs.YtpinpnbhbngclaaGreat

/- One more is offered. -/
namespace Go.Proofs.YtpinpnbhbngclaaGreat
open Go.RowKit

theorem keepAc {w : World} {o : Obj} {b i : Nat} {u : Value} (hc : w.cell? ⟨b, i, none⟩ = some u) (h : b < w.heap.size) : (w.alloc o).drew.cell? ⟨b, i, none⟩ = some u := (((Below.refl w.heap.size w).alloc (Nat.le_refl _) o).drew.cell (p := ⟨b, i, none⟩) h).trans hc
theorem keepAf {w : World} {o : Obj} {b i : Nat} {u : Bool} (hc : w.frozen? ⟨b, i, none⟩ = u) (h : b < w.heap.size) : (w.alloc o).drew.frozen? ⟨b, i, none⟩ = u := (((Below.refl w.heap.size w).alloc (Nat.le_refl _) o).drew.frozen (p := ⟨b, i, none⟩) h).trans hc
theorem laid_room {w2 w3 : World} {base t k n gg cap3 : Nat} {v : Value} {h : List (Int × Int)} {p : Int × Int} {o : Obj} (hx : TopAt w2 base t k v h) (hn : n = h.length)
    (hown3 : w3.ownsRow base 54 2 (.slice (some ⟨gg, 0, none⟩) (n + 1) cap3) (n + 1) (h.flatMap enc2 ++ enc2 p)) (hgrow : (w2.alloc o).drew.grownBy w3 v.ownBlock) (hat : v.ownBlock = some gg ∨ gg = w2.heap.size + 1) :
    TopAt (w3.setCell ⟨t, 2, none⟩ (.slice (some ⟨gg, 0, none⟩) (n + 1) cap3)) base t k (.slice (some ⟨gg, 0, none⟩) (n + 1) cap3) (h ++ [p]) ∧
    Only (own2 t v) w2 (w3.setCell ⟨t, 2, none⟩ (.slice (some ⟨gg, 0, none⟩) (n + 1) cap3)) ∧ (v.ownBlock = some gg ∨ w2.heap.size ≤ gg) := by
  have hne := hx.ne
  have hlt := hx.lt
  have hgt : gg ≠ t := by
    rintro rfl
    rcases hat with e | e
    · exact hne e
    · omega
  have hb3 : w3.heap[t]? = w2.heap[t]? := (hgrow.block t (by simp; omega) (Ne.symm hne)).trans (Below.heap_alloc w2 o t hlt)
  refine ⟨⟨hx.old, ?_, ?_⟩, ?_, ?_⟩
  · exact heap_setCell_row (hb3.trans hx.blk) 2 _
  · have hr : PairRow w3 base (.slice (some ⟨gg, 0, none⟩) (n + 1) cap3) (h ++ [p]) := by
      unfold PairRow
      rw [List.length_append, List.flatMap_append, ← hn]
      simpa using hown3
    refine hr.kept fun g hg => Below.heap_setCell w3 _ _ g (fun e => hgt ?_)
    have e2 : gg = g := by simpa [Value.ownBlock] using hg
    rw [e2]
    exact e
  · have h1 : Only (own2 t v) w2 w3 := ((Only.refl (own2 t v) w2).alloc o).drew.trans (Only.of_grown hgrow (fun b hb => .inr hb))
    exact h1.set_ (.inl rfl) 2 _
  · rcases hat with e | e
    · exact .inl e
    · exact .inr (by omega)
set_option maxHeartbeats 4000000 in
set_option maxRecDepth 100000 in
theorem offer_room (base t k : Nat) (v : Value) (h : List (Int × Int)) (p : Int × Int) (w : World) (hx : TopAt w base t k v h) (hh : TopM.Heap h) (hl : h.length ≤ 1000000) (hk : h.length < k) :
    Calls Tryz.prog 83 #[.pointer (some ⟨t, 0, none⟩), sv p] w fun e w' => e = .returned (.bool true) ∧ ∃ v' h', TopAt w' base t k v' h' ∧ TopM.Heap h' ∧ h'.Perm (h ++ [p]) ∧ Only (own2 t v) w w' ∧ ∀ b, v'.ownBlock = some b → v.ownBlock = some b ∨ w.heap.size ≤ b := by
  obtain ⟨A, cap, hv, hcap, hA⟩ := hx.row.form
  obtain ⟨p1, p2⟩ := p
  unfold sv
  obtain ⟨n, hn⟩ : ∃ n, n = h.length := ⟨_, rfl⟩
  have hb1 : Below w.heap.size w (w.alloc (.cells #[.int .i64 p1, .int .i64 p2] 54)) := (Below.refl _ w).alloc (Nat.le_refl _) _
  have x1 := hx.later hb1
  have z0 : (w.alloc (.cells #[.int .i64 p1, .int .i64 p2] 54)).cell? ⟨w.heap.size, 0, none⟩ = some (.int .i64 p1) := by go_simp
  have z1 : (w.alloc (.cells #[.int .i64 p1, .int .i64 p2] 54)).cell? ⟨w.heap.size, 1, none⟩ = some (.int .i64 p2) := by go_simp
  have hs1 : w.heap.size < (w.alloc (.cells #[.int .i64 p1, .int .i64 p2] 54)).heap.size := by simp
  have hd1 : decide ((n : Int) < (k : Int)) = true := decide_eq_true (by omega)
  have hd2 : decide (n < k) = true := decide_eq_true (by omega)
  have htw := hx.lt
  have hov : ∀ b, v.ownBlock = some b → b < w.heap.size := fun b hb => (World.ownsRow.lt hx.row b hb).2
  have HL := Lib.hid hl
  have HN := Lib.hid hn
  have HV := Lib.hid hv
  clear hx hn hv hl hk
  go_enter Tryz.func83, Tryz.ntmps83
  go_wp2
  obtain ⟨B, hB⟩ : ∃ B, B = w.heap.size := ⟨_, rfl⟩
  rw [← hB] at z0 z1 hs1 ⊢
  generalize w.alloc (.cells #[.int .i64 p1, .int .i64 p2] 54) = w1 at hb1 x1 z0 z1 hs1 ⊢
  have c0 := x1.c0
  have c2 := x1.c2
  rw [HV.out, ← HN.out] at c2
  go_quiet (fail)
  have x2 := x1.drewN nq
  have hb2 := bdrewN hb1 nq
  have s2 : B < (w1.drewN nq).heap.size := hs1
  have y0 : (w1.drewN nq).cell? ⟨B, 0, none⟩ = some (.int .i64 p1) := z0
  have y1 : (w1.drewN nq).cell? ⟨B, 1, none⟩ = some (.int .i64 p2) := z1
  clear x1 hb1 z0 z1 c0 c2 hs1
  generalize w1.drewN nq = w2 at x2 hb2 y0 y1 s2 ⊢
  go_wp2
  obtain ⟨i0, hi0, hz0, hz1, hz2⟩ := info_parts pair_info
  have hown : w2.ownsRow base 54 2 v n (h.flatMap enc2) := by have := x2.row; unfold PairRow at this; rw [← HN.out] at this; exact this
  have hbase : base ≤ w2.heap.size := Nat.le_trans x2.old (Nat.le_of_lt x2.lt)
  have htl := x2.lt
  have c2 := x2.c2
  have f2 := x2.f2 2
  have ag := x2.ne
  have ak : v.ownBlock ≠ some B := fun e => by have := hov B e; omega
  rw [HV.out] at hown c2 ag ak
  rw [← HN.out] at hown c2 ag ak
  have hn1 : n ≤ 1000000 := by rw [HN.out]; exact HL.out
  have HX := Lib.hid x2
  clear x2
  have HB := Lib.hid hB
  have hBt : B ≠ t := by omega
  clear hB
  go_region_law
    ((refine step_append_lies _ (by rfl) _ _ _ (by rfl) base 54 i0 _ 2 16 Tryz.underlying30 hi0 hz0 hz1 hz2 rfl (by omega) (.slice A n cap) n (h.flatMap enc2) (by rfl) ((hown.alloc _).drew)
        ⟨w2.heap.size, 0, none⟩ 1 1 [.int .i64 p1, .int .i64 p2] (by rfl) (by rfl) (World.news_of_block (cs := #[.int .i64 p1, .int .i64 p2]) (t := 54) (fr := (0, 0)) (heap_alloc_new w2 _)) (by simp [Value.oneCell'])
        (by omega) (by simp [maxLen]; omega) (by omega) (by simp; omega) (w2.heap.size + 1) (by simp) ?_; intro gg cap3 w3 hown3 hgrow hat hlt; have k2 := (hgrow.cell_far ⟨t, 2, none⟩ (by simp; omega) (Ne.symm ag)).trans (keepAc c2 htl); have k2f := (hgrow.frozen_far ⟨t, 2, none⟩ (by simp; omega) (Ne.symm ag)).trans (keepAf f2 htl)))
  all_goals
    obtain ⟨x4, o4, hat4⟩ := laid_room (p := (p1, p2)) HX.out HN.out hown3 (by rw [HV.out, ← HN.out]; exact hgrow) (by rw [HV.out, ← HN.out]; exact hat)
    clear hown3 hgrow hat hlt k2 k2f c2 f2 y0 y1 htl hown
    generalize w3.setCell ⟨t, 2, none⟩ (.slice (some ⟨gg, 0, none⟩) (n + 1) cap3) = w4 at x4 o4 ⊢
    have hup := TopM.up_start hh (p1, p2)
    have hlen : (h ++ [(p1, p2)]).length = n + 1 := by rw [HN.out]; simp
    have hrise := rise_any base t k (.slice (some ⟨gg, 0, none⟩) (n + 1) cap3) (h ++ [(p1, p2)]) (n + 1) w4 x4 hlen (by omega) (by rw [Nat.add_sub_cancel, HN.out]; exact hup) (by omega)
    have HH := Lib.hid hup
    have HLEN := Lib.hid hlen
    have HR := Lib.hid hrise
    clear hup hlen hrise x4
    go_wp2_with fail
    refine HR.out.mono ?_
    rintro e w5 ⟨rfl, h', x5, hh5, hp5, o5⟩
    go_wp2
    go_ret
    have hsz := hb2.size
    have o24 : Only (own2 t v) w w4 := (Only.of_below _ hb2).trans o4
    refine ⟨rfl, _, h', x5, hh5, hp5, o24.from_new (o5.wide fun b hb => ?_), fun b hb => ?_⟩
    · rcases hb with e | e
      · exact .inl (.inl e)
      · have e2 : gg = b := by simpa [Value.ownBlock] using e
        rw [← e2]
        rcases hat4 with h | h
        · exact .inl (.inr h)
        · exact .inr (by omega)
    · have e2 : gg = b := by simpa [Value.ownBlock] using hb
      rw [← e2]
      rcases hat4 with h | h
      · exact .inl h
      · exact .inr (by omega)
end Go.Proofs.YtpinpnbhbngclaaGreat

/- One more is offered where as many are kept as may be. -/
namespace Go.Proofs.YtpinpnbhbngclaaGreat
open Go.RowKit

set_option maxHeartbeats 4000000 in
set_option maxRecDepth 100000 in
theorem offer_none (base t : Nat) (v : Value) (h : List (Int × Int)) (p : Int × Int) (w : World) (hx : TopAt w base t 0 v h) :
    Calls Tryz.prog 83 #[.pointer (some ⟨t, 0, none⟩), sv p] w fun e w' => e = .returned (.bool false) ∧ Below w.heap.size w w' := by
  obtain ⟨A, cap, hv, hcap, hA⟩ := hx.row.form
  obtain ⟨p1, p2⟩ := p
  unfold sv
  obtain ⟨n, hn⟩ : ∃ n, n = h.length := ⟨_, rfl⟩
  have hb1 : Below w.heap.size w (w.alloc (.cells #[.int .i64 p1, .int .i64 p2] 54)) := (Below.refl _ w).alloc (Nat.le_refl _) _
  have x1 := hx.later hb1
  have hd1 : decide ((n : Int) < ((0 : Nat) : Int)) = false := decide_eq_false (by omega)
  have hd2 : decide (n < 0) = false := decide_eq_false (by omega)
  have hw : ∀ W (hW : TopAt W base t 0 v h), _ := fun W hW => worst_no base t 0 v h W hW (by unfold fullB; simp)
  have HW := Lib.hid hw
  have HN := Lib.hid hn
  have HV := Lib.hid hv
  clear hx hn hv hw
  go_enter Tryz.func83, Tryz.ntmps83
  go_wp2
  generalize w.alloc (.cells #[.int .i64 p1, .int .i64 p2] 54) = w1 at hb1 x1 ⊢
  have c0 := x1.c0
  have c2 := x1.c2
  rw [HV.out, ← HN.out] at c2
  go_quiet (fail)
  have x2 := x1.drewN nq
  have hb2 := bdrewN hb1 nq
  clear x1 hb1 c0 c2
  generalize w1.drewN nq = w2 at x2 hb2 ⊢
  go_wp2_with fail
  refine (HW.out _ x2).mono ?_
  rintro e w3 ⟨rfl, hb3⟩
  have hb := hb2.trans (hb3.mono hb2.size)
  unfold sv
  clear hb2 hb3 x2
  go_wp2
  go_quiet (fail)
  go_wp2
  go_ret
  exact ⟨rfl, bdrewN (hb.alloc hb.size _) _⟩

theorem keep2c {w : World} {o1 o2 : Obj} {b i : Nat} {u : Value} (hc : w.cell? ⟨b, i, none⟩ = some u) (h : b < w.heap.size) : ((w.alloc o1).alloc o2).drew.cell? ⟨b, i, none⟩ = some u := ((((Below.refl w.heap.size w).alloc (Nat.le_refl _) o1).alloc (by simp) o2).drew.cell (p := ⟨b, i, none⟩) h).trans hc
set_option maxHeartbeats 4000000 in
set_option maxRecDepth 100000 in
theorem offer_no (base t k : Nat) (v : Value) (h : List (Int × Int)) (p : Int × Int) (w : World) (hx : TopAt w base t k v h) (hk : 0 < k) (hl : k ≤ h.length) (hbt : TopM.bet p (TopM.at_ h 0) = false) :
    Calls Tryz.prog 83 #[.pointer (some ⟨t, 0, none⟩), sv p] w fun e w' => e = .returned (.bool false) ∧ Below w.heap.size w w' := by
  obtain ⟨A, cap, hv, hcap, hA⟩ := hx.row.form
  obtain ⟨p1, p2⟩ := p
  obtain ⟨n, hn⟩ : ∃ n, n = h.length := ⟨_, rfl⟩
  have hd1 : decide ((n : Int) < (k : Int)) = false := decide_eq_false (by omega)
  have hd2 : decide (n < k) = false := decide_eq_false (by omega)
  have hw : ∀ W (hW : TopAt W base t k v h), _ := fun W hW => worst_yes base t k v h W hW (by unfold fullB; simp; omega)
  have hbet := fun W => better_any (p1, p2) (TopM.at_ h 0) W
  rw [hbt] at hbet
  obtain ⟨⟨q1, q2⟩, hq⟩ : ∃ q, q = TopM.at_ h 0 := ⟨_, rfl⟩
  rw [← hq] at hw hbet
  unfold sv at *
  have hb1 : Below w.heap.size w (w.alloc (.cells #[.int .i64 p1, .int .i64 p2] 54)) := (Below.refl _ w).alloc (Nat.le_refl _) _
  have x1 := hx.later hb1
  have z0 : (w.alloc (.cells #[.int .i64 p1, .int .i64 p2] 54)).cell? ⟨w.heap.size, 0, none⟩ = some (.int .i64 p1) := by go_simp
  have z1 : (w.alloc (.cells #[.int .i64 p1, .int .i64 p2] 54)).cell? ⟨w.heap.size, 1, none⟩ = some (.int .i64 p2) := by go_simp
  have hs1 : w.heap.size < (w.alloc (.cells #[.int .i64 p1, .int .i64 p2] 54)).heap.size := by simp
  have HW := Lib.hid hw
  have HN := Lib.hid hn
  have HV := Lib.hid hv
  have HBT := Lib.hid hbet
  clear hx hn hv hw hbet hbt hq hk hl
  go_enter Tryz.func83, Tryz.ntmps83
  go_wp2
  obtain ⟨B, hB⟩ : ∃ B, B = w.heap.size := ⟨_, rfl⟩
  rw [← hB] at z0 z1 hs1 ⊢
  have HB := Lib.hid hB
  generalize w.alloc (.cells #[.int .i64 p1, .int .i64 p2] 54) = w1 at hb1 x1 z0 z1 hs1 ⊢
  clear hB
  have c0 := x1.c0
  have c2 := x1.c2
  rw [HV.out, ← HN.out] at c2
  go_quiet (fail)
  have x2 := x1.drewN nq
  have hb2 := bdrewN hb1 nq
  have s2 : B < (w1.drewN nq).heap.size := hs1
  have y0 : (w1.drewN nq).cell? ⟨B, 0, none⟩ = some (.int .i64 p1) := z0
  have y1 : (w1.drewN nq).cell? ⟨B, 1, none⟩ = some (.int .i64 p2) := z1
  clear x1 hb1 z0 z1 c0 c2 hs1
  generalize w1.drewN nq = w2 at x2 hb2 y0 y1 s2 ⊢
  go_wp2_with fail
  refine (HW.out _ x2).mono ?_
  rintro e w3 ⟨rfl, hb3⟩
  have hb := hb2.trans (hb3.mono hb2.size)
  have y0 := (hb3.cell (p := ⟨B, 0, none⟩) s2).trans y0
  have y1 := (hb3.cell (p := ⟨B, 1, none⟩) s2).trans y1
  have x3 := x2.later hb3
  have s3 : B < w3.heap.size := Nat.lt_of_lt_of_le s2 hb3.size
  clear hb2 hb3 x2 s2
  have hs4 := x3.lt
  have c1 : w3.cell? ⟨t, 1, none⟩ = some (.func (.func 42) #[] #[]) := x3.c1
  have hb4 : Below w3.heap.size w3 (w3.alloc (.cells #[.int .i64 q1, .int .i64 q2] 54)) := (Below.refl _ w3).alloc (Nat.le_refl _) _
  have u0 : (w3.alloc (.cells #[.int .i64 q1, .int .i64 q2] 54)).cell? ⟨w3.heap.size, 0, none⟩ = some (.int .i64 q1) := by go_simp
  have u1 : (w3.alloc (.cells #[.int .i64 q1, .int .i64 q2] 54)).cell? ⟨w3.heap.size, 1, none⟩ = some (.int .i64 q2) := by go_simp
  have s4 : w3.heap.size < (w3.alloc (.cells #[.int .i64 q1, .int .i64 q2] 54)).heap.size := by simp
  go_wp2
  obtain ⟨C, hC⟩ : ∃ C, C = w3.heap.size := ⟨_, rfl⟩
  rw [← hC] at u0 u1 s4 ⊢
  have HC := Lib.hid hC
  have b0 := (hb4.cell (p := ⟨B, 0, none⟩) s3).trans y0
  have b1 := (hb4.cell (p := ⟨B, 1, none⟩) s3).trans y1
  have x4 := x3.later hb4
  have hbw := hb.trans (hb4.mono hb.size)
  have s5 : B < (w3.alloc (.cells #[.int .i64 q1, .int .i64 q2] 54)).heap.size := Nat.lt_of_lt_of_le s3 hb4.size
  clear y0 y1 x3 hb hb4 c1 s3 hC hs4
  generalize w3.alloc (.cells #[.int .i64 q1, .int .i64 q2] 54) = w4 at u0 u1 s4 b0 b1 x4 hbw s5 ⊢
  have hs4 := x4.lt
  have c1 : w4.cell? ⟨t, 1, none⟩ = some (.func (.func 42) #[] #[]) := x4.c1
  have HX4 := Lib.hid x4
  clear x4
  go_region_held3 (fun w' => w'.cell? ⟨t, 1, none⟩ = some (.func (.func 42) #[] #[]) ∧ w'.cell? ⟨B, 0, none⟩ = some (.int .i64 p1) ∧ w'.cell? ⟨B, 1, none⟩ = some (.int .i64 p2) ∧ w'.cell? ⟨C, 0, none⟩ = some (.int .i64 q1) ∧ w'.cell? ⟨C, 1, none⟩ = some (.int .i64 q2))
    (first
      | exact ⟨keep2c c1 hs4, keep2c b0 s5, keep2c b1 s5, keep2c u0 s4, keep2c u1 s4⟩
      | go_keep)
    ((first | ((with_reducible refine (HBT.out _).mono ?_); rintro e w5 ⟨rfl, o1, o2, rfl⟩)))
  have hbz : Below w.heap.size w ((w4.alloc o1).alloc o2).drew := ((hbw.alloc hbw.size o1).alloc (Nat.le_trans hbw.size (by simp)) o2).drew
  generalize ((w4.alloc o1).alloc o2).drew = w5 at hbz ⊢
  go_wp2
  go_ret
  exact ⟨rfl, hbz⟩
set_option maxHeartbeats 4000000 in
set_option maxRecDepth 100000 in
theorem offer_yes (base t k : Nat) (v : Value) (h : List (Int × Int)) (p : Int × Int) (w : World) (hx : TopAt w base t k v h) (hk : 0 < k) (hl : k ≤ h.length) (hh : TopM.Heap h) (hl6 : h.length ≤ 1000000) (hbt : TopM.bet p (TopM.at_ h 0) = true) :
    Calls Tryz.prog 83 #[.pointer (some ⟨t, 0, none⟩), sv p] w fun e w' => e = .returned (.bool true) ∧ ∃ h', TopAt w' base t k v h' ∧ TopM.Heap h' ∧ h'.Perm (h.set 0 p) ∧ Only (own2 t v) w w' := by
  obtain ⟨A, cap, hv, hcap, hA⟩ := hx.row.form
  obtain ⟨p1, p2⟩ := p
  obtain ⟨n, hn⟩ : ∃ n, n = h.length := ⟨_, rfl⟩
  have hd1 : decide ((n : Int) < (k : Int)) = false := decide_eq_false (by omega)
  have hd2 : decide (n < k) = false := decide_eq_false (by omega)
  have hw : ∀ W (hW : TopAt W base t k v h), _ := fun W hW => worst_yes base t k v h W hW (by unfold fullB; simp; omega)
  have hbet := fun W => better_any (p1, p2) (TopM.at_ h 0) W
  rw [hbt] at hbet
  obtain ⟨⟨q1, q2⟩, hq⟩ : ∃ q, q = TopM.at_ h 0 := ⟨_, rfl⟩
  rw [← hq] at hw hbet
  unfold sv at *
  have hb1 : Below w.heap.size w (w.alloc (.cells #[.int .i64 p1, .int .i64 p2] 54)) := (Below.refl _ w).alloc (Nat.le_refl _) _
  have x1 := hx.later hb1
  have z0 : (w.alloc (.cells #[.int .i64 p1, .int .i64 p2] 54)).cell? ⟨w.heap.size, 0, none⟩ = some (.int .i64 p1) := by go_simp
  have z1 : (w.alloc (.cells #[.int .i64 p1, .int .i64 p2] 54)).cell? ⟨w.heap.size, 1, none⟩ = some (.int .i64 p2) := by go_simp
  have hs1 : w.heap.size < (w.alloc (.cells #[.int .i64 p1, .int .i64 p2] 54)).heap.size := by simp
  have HW := Lib.hid hw
  have HN := Lib.hid hn
  have HV := Lib.hid hv
  have HBT := Lib.hid hbet
  have HL := Lib.hid hl6
  have hn0 : 0 < n := by omega
  clear hx hn hv hw hbet hbt hq hk hl hl6
  go_enter Tryz.func83, Tryz.ntmps83
  go_wp2
  obtain ⟨B, hB⟩ : ∃ B, B = w.heap.size := ⟨_, rfl⟩
  rw [← hB] at z0 z1 hs1 ⊢
  have HB := Lib.hid hB
  generalize w.alloc (.cells #[.int .i64 p1, .int .i64 p2] 54) = w1 at hb1 x1 z0 z1 hs1 ⊢
  clear hB
  have c0 := x1.c0
  have c2 := x1.c2
  rw [HV.out, ← HN.out] at c2
  go_quiet (fail)
  have x2 := x1.drewN nq
  have hb2 := bdrewN hb1 nq
  have s2 : B < (w1.drewN nq).heap.size := hs1
  have y0 : (w1.drewN nq).cell? ⟨B, 0, none⟩ = some (.int .i64 p1) := z0
  have y1 : (w1.drewN nq).cell? ⟨B, 1, none⟩ = some (.int .i64 p2) := z1
  clear x1 hb1 z0 z1 c0 c2 hs1
  generalize w1.drewN nq = w2 at x2 hb2 y0 y1 s2 ⊢
  go_wp2_with fail
  refine (HW.out _ x2).mono ?_
  rintro e w3 ⟨rfl, hb3⟩
  have hb := hb2.trans (hb3.mono hb2.size)
  have y0 := (hb3.cell (p := ⟨B, 0, none⟩) s2).trans y0
  have y1 := (hb3.cell (p := ⟨B, 1, none⟩) s2).trans y1
  have x3 := x2.later hb3
  have s3 : B < w3.heap.size := Nat.lt_of_lt_of_le s2 hb3.size
  clear hb2 hb3 x2 s2
  have hs4 := x3.lt
  have c1 : w3.cell? ⟨t, 1, none⟩ = some (.func (.func 42) #[] #[]) := x3.c1
  have hb4 : Below w3.heap.size w3 (w3.alloc (.cells #[.int .i64 q1, .int .i64 q2] 54)) := (Below.refl _ w3).alloc (Nat.le_refl _) _
  have u0 : (w3.alloc (.cells #[.int .i64 q1, .int .i64 q2] 54)).cell? ⟨w3.heap.size, 0, none⟩ = some (.int .i64 q1) := by go_simp
  have u1 : (w3.alloc (.cells #[.int .i64 q1, .int .i64 q2] 54)).cell? ⟨w3.heap.size, 1, none⟩ = some (.int .i64 q2) := by go_simp
  have s4 : w3.heap.size < (w3.alloc (.cells #[.int .i64 q1, .int .i64 q2] 54)).heap.size := by simp
  go_wp2
  obtain ⟨C, hC⟩ : ∃ C, C = w3.heap.size := ⟨_, rfl⟩
  rw [← hC] at u0 u1 s4 ⊢
  have HC := Lib.hid hC
  have b0 := (hb4.cell (p := ⟨B, 0, none⟩) s3).trans y0
  have b1 := (hb4.cell (p := ⟨B, 1, none⟩) s3).trans y1
  have x4 := x3.later hb4
  have hbw := hb.trans (hb4.mono hb.size)
  have s5 : B < (w3.alloc (.cells #[.int .i64 q1, .int .i64 q2] 54)).heap.size := Nat.lt_of_lt_of_le s3 hb4.size
  clear y0 y1 x3 hb hb4 c1 s3 hC hs4
  generalize w3.alloc (.cells #[.int .i64 q1, .int .i64 q2] 54) = w4 at u0 u1 s4 b0 b1 x4 hbw s5 ⊢
  have hs4 := x4.lt
  have c1 : w4.cell? ⟨t, 1, none⟩ = some (.func (.func 42) #[] #[]) := x4.c1
  have HX4 := Lib.hid x4
  clear x4
  go_region_held3 (fun w' => w'.cell? ⟨t, 1, none⟩ = some (.func (.func 42) #[] #[]) ∧ w'.cell? ⟨B, 0, none⟩ = some (.int .i64 p1) ∧ w'.cell? ⟨B, 1, none⟩ = some (.int .i64 p2) ∧ w'.cell? ⟨C, 0, none⟩ = some (.int .i64 q1) ∧ w'.cell? ⟨C, 1, none⟩ = some (.int .i64 q2))
    (first
      | exact ⟨keep2c c1 hs4, keep2c b0 s5, keep2c b1 s5, keep2c u0 s4, keep2c u1 s4⟩
      | go_keep)
    ((first | ((with_reducible refine (HBT.out _).mono ?_); rintro e w5 ⟨rfl, o1, o2, rfl⟩)))
  have hbz : Below w.heap.size w ((w4.alloc o1).alloc o2).drew := ((hbw.alloc hbw.size o1).alloc (Nat.le_trans hbw.size (by simp)) o2).drew
  have x5 : TopAt ((w4.alloc o1).alloc o2).drew base t k v h := ((HX4.out.alloc o1).alloc o2).drew
  have e0 : ((w4.alloc o1).alloc o2).drew.cell? ⟨B, 0, none⟩ = some (.int .i64 p1) := keep2c b0 s5
  have e1 : ((w4.alloc o1).alloc o2).drew.cell? ⟨B, 1, none⟩ = some (.int .i64 p2) := keep2c b1 s5
  clear b0 b1 u0 u1 c1 hbw
  generalize ((w4.alloc o1).alloc o2).drew = w5 at hbz x5 e0 e1 ⊢
  obtain ⟨g, cap2, hv2, hbg, hg, hcap2, hfz, hc⟩ := x5.row.cells (by rw [← HN.out]; exact hn0)
  obtain ⟨g0, g1⟩ := hc 0 (by rw [← HN.out]; exact hn0)
  rw [Nat.zero_mul] at g0 g1
  have f0 := hfz 0
  have f1 := hfz 1
  have c2 := x5.c2
  rw [hv2, ← HN.out] at c2
  have hn0' : (0 : Int) < (n : Int) := by omega
  have HV2 := Lib.hid hv2
  have HX5 := Lib.hid x5
  clear hc hfz hv2 x5
  go_wp2
  go_region
  all_goals
    have hx6 := HX5.out.set_ HV2.out 0 (p1, p2) (by rw [← HN.out]; exact hn0)
    have hS : own2 t v g := Or.inr (by rw [HV2.out]; rfl)
    have o6 := (((Only.of_below (own2 t v) hbz).set_ hS 0 (.int .i64 p1)).set_ hS 1 (.int .i64 p2)).drew
    have hx6d := hx6.drew
    rw [Nat.zero_mul, Nat.zero_add] at hx6d
    clear hx6 c2 f0 f1 g0 g1 e0 e1
    generalize ((w5.setCell ⟨g, 0, none⟩ (.int .i64 p1)).setCell ⟨g, 1, none⟩ (.int .i64 p2)).drew = w6 at hx6d o6 ⊢
    have hdn := TopM.dn_start hh (p1, p2) (by rw [← HN.out]; exact hn0)
    have hsk := sink_any base t k v (h.set 0 (p1, p2)) n w6 hx6d (by rw [List.length_set, ← HN.out]) hn0 hdn (by have := HL.out; rw [← HN.out] at this; omega)
    have HSK := Lib.hid hsk
    clear hsk hdn hx6d
    go_wp2_with fail
    refine HSK.out.mono ?_
    rintro e w7 ⟨rfl, h', x7, hh7, hp7, o7⟩
    go_wp2
    go_ret
    exact ⟨rfl, h', x7, hh7, hp7, o6.trans o7⟩
end Go.Proofs.YtpinpnbhbngclaaGreat
