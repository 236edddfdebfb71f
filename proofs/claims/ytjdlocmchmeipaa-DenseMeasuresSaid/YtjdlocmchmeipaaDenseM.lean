
/- The document's Find, whatever it is asked; the answers that it fixes first. -/
import Derived.Test.YtjdlocmchmeipaaDenseL
import Derived.Test.YtjdlocmchmeipaaDenseLb
import Derived.Test.YtjdlocmchmeipaaTopM
import Derived.Laws.StructEq
namespace Go.Proofs.Ytjdlocmchmeipaa
open Go.RowKit

set_option maxHeartbeats 1000000 in
set_option maxRecDepth 100000 in
theorem reffind7_range1 (x k : Int) (v1 v2 v4 : Value) (w : World) (h : mOf x = none) :
    Calls Try.prog 12 #[.int .i64 x, v1, v2, .int .i64 k, v4] w fun e w' => e = .returned (.tuple #[.slice none 0 0, .int .i64 1]) ∧ w = w' := by
  obtain ⟨h0, h1⟩ := mOf_none h
  have d0 : (x != 0) = true := by simpa using h0
  have d1 : (x != 1) = true := by simpa using h1
  clear h h0 h1
  go_enter Try.func12, Try.ntmps12
  go_wp2
  go_ret2
  exact ⟨rfl, rfl⟩
set_option maxHeartbeats 1000000 in
set_option maxRecDepth 100000 in
theorem reffind7_range2 (m : Bool) (k : Int) (v1 v2 v4 : Value) (w : World) (h : k < 1 ∨ 1000 < k) :
    Calls Try.prog 12 #[.int .i64 (mI m), v1, v2, .int .i64 k, v4] w fun e w' => e = .returned (.tuple #[.slice none 0 0, .int .i64 1]) ∧ w = w' := by
  by_cases h1 : k < 1
  · have hd : decide (k < 1) = true := decide_eq_true h1
    clear h
    cases m with
    | false =>
      unfold mI
      go_enter Try.func12, Try.ntmps12
      go_wp2
      go_ret2
      exact ⟨rfl, rfl⟩
    | true =>
      unfold mI
      go_enter Try.func12, Try.ntmps12
      go_wp2
      go_ret2
      exact ⟨rfl, rfl⟩
  · have hd : decide (k < 1) = false := decide_eq_false h1
    have h2 : 1000 < k := by omega
    have hd2 : decide (1000 < k) = true := decide_eq_true h2
    clear h
    cases m with
    | false =>
      unfold mI
      go_enter Try.func12, Try.ntmps12
      go_wp2
      go_ret2
      exact ⟨rfl, rfl⟩
    | true =>
      unfold mI
      go_enter Try.func12, Try.ntmps12
      go_wp2
      go_ret2
      exact ⟨rfl, rfl⟩
theorem reffind7_any (x k : Int) (A1 A2 A4 : Option Addr) (n1 n2 n4 c1 c2 c4 : Nat) (q nl : List Int) (l : List (Int × List Int)) (w : World) (hq : Ivs w A1 n1 q) (hr : Rws w A2 n2 l) (hnt : Ivs w A4 n4 nl) (hn1 : n1 ≤ 1000000) (hn2 : n2 ≤ 1000000) (hn4 : n4 ≤ 1000000) (hsh : ∀ r ∈ l, r.2.length ≤ 1000000) :
    Calls Try.prog 12 #[.int .i64 x, .slice A1 n1 c1, .slice A2 n2 c2, .int .i64 k, .slice A4 n4 c4] w fun e w' => ∃ v', e = .returned (.tuple #[v', .int .i64 (fE x q l k)]) ∧ Prd w' v' (TopM.best k.toNat (fA x q l k (butB nl))) ∧ Below w.heap.size w w' := by
  have hempty : fE x q l k ≠ 0 → ∀ w', Prd w' (.slice none 0 0) (TopM.best k.toNat (fA x q l k (butB nl))) := fun h w' => by
    unfold fA
    rw [if_neg h, TopM.best_nil]
    exact prd_nil w'
  by_cases h1 : mOf x = none
  · have e1 : fE x q l k = 1 := by unfold fE; rw [if_pos (.inl h1)]
    refine (reffind7_range1 x k _ _ _ w h1).mono ?_
    rintro e w' ⟨rfl, rfl⟩
    exact ⟨_, by rw [e1], hempty (by rw [e1]; decide) _, Below.refl _ _⟩
  · obtain ⟨m, hm2⟩ : ∃ m, mOf x = some m := by
      cases h : mOf x with
      | none => exact absurd h h1
      | some m => exact ⟨m, rfl⟩
    obtain rfl := mOf_some hm2
    by_cases h2 : k < 1 ∨ 1000 < k
    · have e1 : fE (mI m) q l k = 1 := by unfold fE; rw [if_pos (.inr h2)]
      refine (reffind7_range2 m k _ _ _ w h2).mono ?_
      rintro e w' ⟨rfl, rfl⟩
      exact ⟨_, by rw [e1], hempty (by rw [e1]; decide) _, Below.refl _ _⟩
    · obtain ⟨kn, rfl⟩ : ∃ kn : Nat, k = kn := ⟨k.toNat, by omega⟩
      rw [Int.toNat_natCast]
      cases m with
      | false => exact reffind7_prod A1 A2 A4 n1 n2 n4 c1 c2 c4 q nl l kn (butB nl) w (by omega) (by omega) hq hr hnt hn1 hn2 hn4 hsh (fun _ => rfl)
      | true => exact reffind7_dist A1 A2 A4 n1 n2 n4 c1 c2 c4 q nl l kn (butB nl) w (by omega) (by omega) hq hr hnt hn1 hn2 hn4 hsh (fun _ => rfl)

/-! ### the answers that the document fixes first -/
abbrev zs8 : List Int := [0, 0, 0, 0, 0, 0, 0, 0]
abbrev os8 : List Int := [1, 1, 1, 1, 1, 1, 1, 1]
theorem ivs_new (w : World) (l : List Int) (n : Nat) (h : l.length = n) (T : TypeId) : Ivs (w.alloc (.cells (l.map iv).toArray T)) (some ⟨w.heap.size, 0, none⟩) n l :=
  ⟨h, fun k hk => ⟨w.heap.size, 0, rfl, by simp, by
    have := cell_of_cells (i := k) (v := iv l[k]) (heap_alloc_new w (.cells (l.map iv).toArray T)) (by simp [hk])
    rw [Nat.zero_add]
    exact this⟩⟩
theorem aw7_best : TopM.best 1 [(1, 0), (2, 8)] = [(2, 8)] := by
  unfold TopM.best
  rw [TopM.srt_is (a := [(2, 8), (1, 0)]) (by unfold TopM.Srt; simp; decide) (List.Perm.swap _ _ _)]
  rfl
theorem aw7_find : fE 0 os8 [(1, zs8), (2, os8)] 1 = 0 ∧ fA 0 os8 [(1, zs8), (2, os8)] 1 (fun _ => true) = [(1, 0), (2, 8)] := by decide
theorem yes_any (d : Int) (w : World) : Calls Try.prog 19 #[.int .i64 d] w fun e w' => e = .returned (.bool true) ∧ w = w' := by
  go_enter Try.func19, Try.ntmps19
  go_wp2
  go_ret
  exact ⟨rfl, rfl⟩
theorem yes_may (w : World) : MayIs w (.func (.func 19) #[] #[]) (fun _ => true) :=
  ⟨_, _, rfl, enters_of Try.func19 (by kernel_rfl) rfl, fun W _ d => (yes_any d W).mono (fun _ _ ⟨he, hw⟩ => ⟨he, by rw [← hw]; exact Below.refl _ _⟩)⟩
set_option maxHeartbeats 8000000 in
set_option maxRecDepth 100000 in
theorem awake7_any (w : World) :
    Calls Try.prog 6 #[] w fun e w' => e = .returned (.bool true) ∧ Below w.heap.size w w' := by
  have hZ := (ivs_new w zs8 8 rfl 3).later (pl1 _ (.cells (os8.map iv).toArray 3))
  have hO := ivs_new (w.alloc (.cells (zs8.map iv).toArray 3)) os8 8 rfl 3
  have hB := (pl1 w (.cells (zs8.map iv).toArray 3)).trans ((pl1 (w.alloc (.cells (zs8.map iv).toArray 3)) (.cells (os8.map iv).toArray 3)).mono (by simp))
  rw [show (w.alloc (.cells (zs8.map iv).toArray 3)).heap.size = w.heap.size + 1 by simp] at hO
  have HZ : Hid (Ivs ((w.alloc (.cells #[.int .i64 0, .int .i64 0, .int .i64 0, .int .i64 0, .int .i64 0, .int .i64 0, .int .i64 0, .int .i64 0] 3)).alloc (.cells #[.int .i64 1, .int .i64 1, .int .i64 1, .int .i64 1, .int .i64 1, .int .i64 1, .int .i64 1, .int .i64 1] 3)) (some ⟨w.heap.size, 0, none⟩) 8 zs8) := Lib.hid hZ
  have HO : Hid (Ivs ((w.alloc (.cells #[.int .i64 0, .int .i64 0, .int .i64 0, .int .i64 0, .int .i64 0, .int .i64 0, .int .i64 0, .int .i64 0] 3)).alloc (.cells #[.int .i64 1, .int .i64 1, .int .i64 1, .int .i64 1, .int .i64 1, .int .i64 1, .int .i64 1, .int .i64 1] 3)) (some ⟨w.heap.size + 1, 0, none⟩) 8 os8) := Lib.hid hO
  have HB : Hid (Below w.heap.size w ((w.alloc (.cells #[.int .i64 0, .int .i64 0, .int .i64 0, .int .i64 0, .int .i64 0, .int .i64 0, .int .i64 0, .int .i64 0] 3)).alloc (.cells #[.int .i64 1, .int .i64 1, .int .i64 1, .int .i64 1, .int .i64 1, .int .i64 1, .int .i64 1, .int .i64 1] 3))) := Lib.hid hB
  clear hZ hO hB
  go_enter Try.func6, Try.ntmps6
  go_wp2_with fail
  generalize ((w.alloc (.cells #[.int .i64 0, .int .i64 0, .int .i64 0, .int .i64 0, .int .i64 0, .int .i64 0, .int .i64 0, .int .i64 0] 3)).alloc (.cells #[.int .i64 1, .int .i64 1, .int .i64 1, .int .i64 1, .int .i64 1, .int .i64 1, .int .i64 1, .int .i64 1] 3)) = U at HZ HO HB ⊢
  obtain ⟨Z, hZe⟩ : ∃ Z, Z = w.heap.size := ⟨_, rfl⟩
  rw [← hZe] at HZ HO ⊢
  clear hZe
  have S1 := Lib.hid (fun W (hW : Below U.heap.size U W) => dscore_any 1 _ _ 8 8 8 8 zs8 os8 W (HZ.out.later hW) (HO.out.later hW))
  rw [show scV 1 zs8 os8 = -8 by decide, show scE 1 zs8 os8 = 0 by decide] at S1
  have S2 := Lib.hid (fun W (hW : Below U.heap.size U W) => dscore_any 0 _ _ 8 8 8 8 os8 os8 W (HO.out.later hW) (HO.out.later hW))
  rw [show scV 0 os8 os8 = 8 by decide, show scE 0 os8 os8 = 0 by decide] at S2
  have S3 := Lib.hid (fun W (hW : Below U.heap.size U W) => dscore_any 2 _ _ 8 8 8 8 zs8 os8 W (HZ.out.later hW) (HO.out.later hW))
  rw [show scV 2 zs8 os8 = 0 by decide, show scE 2 zs8 os8 = 1 by decide] at S3
  have S4 := Lib.hid (fun W (hW : Below U.heap.size U W) => dscore_any 0 none _ 0 8 0 8 [] os8 W ⟨rfl, fun k hk => by simp at hk⟩ (HO.out.later hW))
  rw [show scV 0 [] os8 = 0 by decide, show scE 0 [] os8 = 2 by decide] at S4
  refine (S1.out _ (Below.refl _ _)).mono ?_
  rintro e w1 ⟨rfl, b1⟩
  have B1 := Lib.hid b1
  clear b1
  go_wp2_with fail
  refine (S2.out _ B1.out).mono ?_
  rintro e w2 ⟨rfl, b2⟩
  have B2 := Lib.hid (B1.out.trans (b2.mono B1.out.size))
  clear b2
  go_wp2_with fail
  refine (S3.out _ B2.out).mono ?_
  rintro e w3 ⟨rfl, b3⟩
  have B3 := Lib.hid (B2.out.trans (b3.mono B2.out.size))
  clear b3
  go_wp2_with fail
  refine (S4.out _ B3.out).mono ?_
  rintro e w4 ⟨rfl, b4⟩
  have B4 := Lib.hid (B3.out.trans (b4.mono B3.out.size))
  clear b4
  have hrow := heap_alloc_new w4 (.cells #[.int .i64 1, .slice (some ⟨Z, 0, none⟩) 8 8, .int .i64 2, .slice (some ⟨Z + 1, 0, none⟩) 8 8] 52)
  have hR : Rws (w4.alloc (.cells #[.int .i64 1, .slice (some ⟨Z, 0, none⟩) 8 8, .int .i64 2, .slice (some ⟨Z + 1, 0, none⟩) 8 8] 52)) (some ⟨w4.heap.size, 0, none⟩) 2 [(1, zs8), (2, os8)] := by
    refine ⟨rfl, fun k hk => ?_⟩
    have hb5 := B4.out.trans ((pl1 w4 (.cells #[.int .i64 1, .slice (some ⟨Z, 0, none⟩) 8 8, .int .i64 2, .slice (some ⟨Z + 1, 0, none⟩) 8 8] 52)).mono B4.out.size)
    match k, hk with
    | 0, _ => exact ⟨w4.heap.size, 0, some ⟨Z, 0, none⟩, 8, 8, rfl, by simp, cell_of_cells (i := 0) hrow rfl, cell_of_cells (i := 1) hrow rfl, HZ.out.later hb5⟩
    | 1, _ => exact ⟨w4.heap.size, 0, some ⟨Z + 1, 0, none⟩, 8, 8, rfl, by simp, cell_of_cells (i := 2) hrow rfl, cell_of_cells (i := 3) hrow rfl, HO.out.later hb5⟩
  have B5 := Lib.hid (B4.out.trans ((pl1 w4 (.cells #[.int .i64 1, .slice (some ⟨Z, 0, none⟩) 8 8, .int .i64 2, .slice (some ⟨Z + 1, 0, none⟩) 8 8] 52)).mono B4.out.size))
  have hf := dfind_any _ 0 1 _ _ 8 2 8 2 os8 [(1, zs8), (2, os8)] _ (fun _ => true) (HO.out.later B5.out) hR (by omega) (yes_may _)
  rw [aw7_find.1, aw7_find.2, show (1 : Int).toNat = 1 from rfl, aw7_best] at hf
  have HF := Lib.hid hf
  clear hf hR hrow
  go_wp2_with fail
  refine HF.out.mono ?_
  rintro e w6 ⟨v', rfl, ⟨A, cp, rfl, hcp, hA, hP⟩, b6⟩
  obtain ⟨b, o, rfl, hbl, q0, q1⟩ := hP.2 0 (by simp)
  have B6 := Lib.hid (B5.out.trans (b6.mono B5.out.size))
  simp only [List.length_singleton] at hcp
  rw [Nat.zero_mul, Nat.add_zero] at q0 q1
  have RZ := Lib.hid (fun W (hW : Below U.heap.size U W) => dright_any (some ⟨Z, 0, none⟩) 8 8 zs8 W (HZ.out.later hW))
  rw [show DenM.vec zs8 = true by decide] at RZ
  clear b6 hP hA
  go_wp2_with (first | (refine (RZ.out _ (by first | exact B6.out | exact B6.out.trans ((pl1 _ _).mono B6.out.size))).mono ?_; rintro e w7 ⟨rfl, rfl⟩))
  go_ret
  exact ⟨rfl, HB.out.trans (B6.out.mono HB.out.size)⟩
end Go.Proofs.Ytjdlocmchmeipaa
