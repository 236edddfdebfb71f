/- awake of layer 4 answers true. -/
import Derived.Test.YthanlbjoiomfcaaTopL
namespace Go.Proofs.Ythanlbjoiomfcaa
open Go.RowKit

theorem srt_one (x : Int × Int) : TopM.srt [x] = [x] := TopM.srt_is (List.pairwise_singleton _ _) (List.Perm.refl _)
theorem aw_b1 : TopM.best 1 [(3, 5)] = [(3, 5)] := by unfold TopM.best; rw [srt_one]; rfl
theorem aw_b2 : TopM.best 1 [(3, 5), (2, 5)] = [(2, 5)] := by
  unfold TopM.best
  rw [TopM.srt_is (a := [(2, 5), (3, 5)]) (by unfold TopM.Srt; simp; decide) (List.Perm.swap _ _ _)]
  rfl
theorem aw_b3 : TopM.best 1 [(3, 5), (2, 5), (9, 5)] = [(2, 5)] := by
  unfold TopM.best
  rw [TopM.srt_is (a := [(2, 5), (3, 5), (9, 5)]) (by unfold TopM.Srt; simp; decide) (List.Perm.swap _ _ _)]
  rfl
theorem bnd_one {k : Nat} {l h : List (Int × Int)} {x : Int × Int} (hb : TopM.Bnd k l h) (he : TopM.best k l = [x]) : h = [x] := by
  have := hb.2
  rw [he] at this
  exact List.perm_singleton.1 this
theorem only_below {S : Nat → Prop} {a w w' : World} {t : Nat} (hb : Below t a w) (ho : Only S w w') (hS : ∀ b, S b → t ≤ b) (ht : t ≤ w.heap.size) : Below t a w' := hb.trans (ho.below hS ht)
theorem own_from {w : World} {base t k : Nat} {v : Value} {h : List (Int × Int)} (hx : TopAt w base t k v h) : ∀ b, own2 t v b → base ≤ b := fun b hb => by
  rcases hb with e | e
  · rw [e]; exact hx.old
  · exact (World.ownsRow.lt hx.row b e).1
theorem TopAt.base {w : World} {base t k : Nat} {v : Value} {h : List (Int × Int)} (hx : TopAt w base t k v h) : base ≤ w.heap.size := Nat.le_trans hx.old (Nat.le_of_lt hx.lt)

set_option maxHeartbeats 8000000 in
set_option maxRecDepth 100000 in
theorem awake4_any (w : World) :
    Calls Try.prog 65 #[] w fun e w' => e = .returned (.bool true) ∧ Below w.heap.size w w' := by
  have hnew := new_any 1 w (by decide)
  rw [show (1 : Int).toNat = 1 from rfl] at hnew
  obtain ⟨t, ht⟩ : ∃ t, t = w.heap.size := ⟨_, rfl⟩
  rw [← ht] at hnew ⊢
  have HNEW := Lib.hid hnew
  clear hnew ht
  go_enter Try.func65, Try.ntmps65
  go_wp2_with fail
  refine HNEW.out.mono ?_
  rintro e w1 ⟨rfl, x1, b1⟩
  clear HNEW
  have hw := worst_no t t 1 _ _ w1 x1 (by decide)
  unfold sv at hw
  have HW := Lib.hid hw
  clear hw
  go_wp2_with fail
  refine HW.out.mono ?_
  rintro e w2 ⟨rfl, c2⟩
  have x2 := x1.later c2
  have b2 := b1.trans (c2.mono x1.base)
  clear x1 b1 c2 HW
  have d2 : Below w2.heap.size w2 (w2.alloc (.cells #[.int .i64 0, .int .i64 0] 100)) := (Below.refl _ w2).alloc (Nat.le_refl _) _
  have x3 := x2.later d2
  have b3 := b2.trans (d2.mono x2.base)
  have ho := offer_any t t 1 _ [] [] (3, 5) _ x3 (TopM.bnd_nil 1) (by simp)
  rw [show keptB 1 [] (3, 5) = true by decide] at ho
  unfold sv at ho
  have HO := Lib.hid ho
  clear ho x2 b2 d2
  go_wp2_with fail
  refine HO.out.mono ?_
  rintro e w4 ⟨rfl, v1, h1, x4, n1, o4, _⟩
  have b4 := only_below b3 o4 (own_from x3) x3.base
  obtain rfl := bnd_one n1 aw_b1
  clear x3 b3 o4 HO
  have ho := offer_any t t 1 _ _ _ (2, 5) _ x4 n1 (by simp)
  rw [show keptB 1 [(3, 5)] (2, 5) = true by decide] at ho
  unfold sv at ho
  have HO := Lib.hid ho
  clear ho
  go_wp2_with fail
  refine HO.out.mono ?_
  rintro e w5 ⟨rfl, v2, h2, x5, n2, o5, _⟩
  have b5 := only_below b4 o5 (own_from x4) x4.base
  obtain rfl := bnd_one n2 aw_b2
  clear x4 b4 o5 HO n1
  have ho := offer_any t t 1 _ _ _ (9, 5) _ x5 n2 (by simp)
  rw [show keptB 1 [(2, 5)] (9, 5) = false by decide] at ho
  unfold sv at ho
  have HO := Lib.hid ho
  clear ho
  go_wp2_with fail
  refine HO.out.mono ?_
  rintro e w6 ⟨rfl, v3, h3, x6, n3, o6, _⟩
  have b6 := only_below b5 o6 (own_from x5) x5.base
  obtain rfl := bnd_one n3 aw_b3
  clear x5 b5 o6 HO n2 n3
  have hw := worst_yes t t 1 _ _ _ x6 (by decide)
  rw [show TopM.at_ [(2, 5)] 0 = (2, 5) by decide] at hw
  unfold sv at hw
  have HW := Lib.hid hw
  clear hw
  go_wp2_with fail
  refine HW.out.mono ?_
  rintro e w7 ⟨rfl, c7⟩
  have x7 := x6.later c7
  have b7 := b6.trans (c7.mono x6.base)
  clear x6 b6 c7 HW
  have d7 : Below w7.heap.size w7 (w7.alloc (.cells #[.int .i64 2, .int .i64 5] 100)) := (Below.refl _ w7).alloc (Nat.le_refl _) _
  have x8 := x7.later d7
  have b8 := b7.trans (d7.mono x7.base)
  have y0 : (w7.alloc (.cells #[.int .i64 2, .int .i64 5] 100)).cell? ⟨w7.heap.size, 0, none⟩ = some (.int .i64 2) := by go_simp
  have y1 : (w7.alloc (.cells #[.int .i64 2, .int .i64 5] 100)).cell? ⟨w7.heap.size, 1, none⟩ = some (.int .i64 5) := by go_simp
  have s8 : w7.heap.size < (w7.alloc (.cells #[.int .i64 2, .int .i64 5] 100)).heap.size := by simp
  clear x7 b7 d7
  obtain ⟨C, hC⟩ : ∃ C, C = w7.heap.size := ⟨_, rfl⟩
  have hl := list_any t t 1 _ _ _ x8 (by simp)
  rw [srt_one] at hl
  have HL := Lib.hid hl
  clear hl
  rw [← hC] at y0 y1 s8
  go_wp2_with fail
  rw [← hC]
  clear hC
  generalize w7.alloc (.cells #[.int .i64 2, .int .i64 5] 100) = w8 at x8 b8 y0 y1 s8 HL ⊢
  refine HL.out.mono ?_
  rintro e U ⟨v4, rfl, ⟨A, cp, rfl, hcp, hA, hP⟩, c8⟩
  obtain ⟨b, o, rfl, hbU, q0, q1⟩ := hP.2 0 (by simp)
  have xU := x8.later c8
  have bU := b8.trans (c8.mono x8.base)
  have z0 := keepB c8 y0 s8
  have z1 := keepB c8 y1 s8
  have hCU : C < U.heap.size := Nat.lt_of_lt_of_le s8 c8.size
  have hprd : Prd U (.slice (some ⟨b, o, none⟩) 1 cp) [(2, 5)] := ⟨_, cp, rfl, hcp, hA, hP⟩
  simp only [List.length_singleton] at hcp
  rw [Nat.zero_mul, Nat.add_zero] at q0 q1
  have hLen : Hid (∀ W, Below U.heap.size U W → Calls Try.prog 72 #[.pointer (some ⟨t, 0, none⟩)] W fun e w' => e = .returned (.int .i64 1) ∧ W = w') := Lib.hid (fun W hW => toplen_any t t 1 _ _ W (xU.later hW))
  have hB0 : Hid (∀ W, Below U.heap.size U W → Calls Try.prog 75 #[.int .i64 0, .slice (some ⟨b, o, none⟩) 1 cp] W fun e w' => ∃ A c, e = .returned (.slice A 0 c) ∧ Below U.heap.size U w') := Lib.hid (fun W hW => (best_any 0 _ _ W (by decide) (hprd.later hW) (by simp)).mono (by
    rintro e w' ⟨v', rfl, ⟨A, c, rfl, _⟩, hb⟩
    exact ⟨A, c, rfl, hW.trans (hb.mono hW.size)⟩))
  have hB9 : Hid (∀ W, Below U.heap.size U W → Calls Try.prog 75 #[.int .i64 9, .slice (some ⟨b, o, none⟩) 1 cp] W fun e w' => ∃ A c, e = .returned (.slice A 1 c) ∧ Below U.heap.size U w') := Lib.hid (fun W hW => (best_any 9 _ _ W (by decide) (hprd.later hW) (by simp)).mono (by
    rintro e w' ⟨v', rfl, ⟨A, c, rfl, _⟩, hb⟩
    refine ⟨A, c, ?_, hW.trans (hb.mono hW.size)⟩
    unfold TopM.best
    rw [srt_one]
    rfl))
  have XU := Lib.hid xU
  clear x8 b8 y0 y1 s8 HL c8 hP hprd xU hA
  go_wp2_with fail
  go_region_held3 (fun w' => w'.cell? ⟨C, 0, none⟩ = some (.int .i64 2) ∧ w'.cell? ⟨C, 1, none⟩ = some (.int .i64 5) ∧ w'.cell? ⟨b, o, none⟩ = some (.int .i64 2) ∧ w'.cell? ⟨b, o + 1, none⟩ = some (.int .i64 5) ∧ Below U.heap.size U w')
    ((first | exact ⟨keepB hbz z0 hCU, keepB hbz z1 hCU, keepB hbz q0 hbU, keepB hbz q1 hbU, hbz⟩ | exact ⟨z0, z1, q0, q1, (Below.refl U.heap.size U).drew⟩ | go_keep))
    (first
      | (go_at_call 72; ((with_reducible refine (hLen.out _ (by first | assumption | exact (Below.refl _ _).drew)).mono ?_); rintro e wz ⟨rfl, rfl⟩))
      | (go_at_call 75; first | ((with_reducible refine (hB0.out _ (by first | assumption | exact (Below.refl _ _).drew)).mono ?_); rintro e wz ⟨A0, cz, rfl, hbz⟩) | ((with_reducible refine (hB9.out _ (by first | assumption | exact (Below.refl _ _).drew)).mono ?_); rintro e wz9 ⟨A9, c9, rfl, hbz⟩)))
  have htU : t ≤ U.heap.size := XU.out.base
  have bz := bU.trans (hbz.mono htU)
  go_wp2
  go_ret
  exact ⟨rfl, bz⟩
end Go.Proofs.Ythanlbjoiomfcaa
