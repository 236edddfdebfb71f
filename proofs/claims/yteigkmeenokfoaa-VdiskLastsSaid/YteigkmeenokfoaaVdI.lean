
/- What lasts of a file. -/
import Derived.Test.YteigkmeenokfoaaVdH
import Derived.Deep.QuietTactic
import Derived.BigQuiet
import Derived.StillTailTactics
namespace Go.Proofs.Yteigkmeenokfoaa.Vd
open Go.RowKit Go.Proofs.Yteigkmeenokfoaa VdM Go.Maps

theorem ByteRow.take {w : World} {p : Option Addr} {n c : Nat} {l : List UInt8} (h : ByteRow w (.slice p n c) l) (k : Nat) (hk : k ≤ l.length) : ByteRow w (.slice p k c) (l.take k) := by
  have hl : (l.take k).length = k := by simp; omega
  refine ⟨by simp, ?_⟩
  rcases h.2 with ⟨e, e2⟩ | ⟨g, cap, cur, e, hb, hg, hnc, hcm, hcs, ht⟩
  · injection e with e1 e2' e3
    subst e1
    subst e3
    left
    have : k = 0 := by omega
    subst this
    exact ⟨rfl, hl⟩
  · injection e with e1 e2' e3
    subst e1
    subst e3
    right
    refine ⟨g, c, cur, by rw [hl], hb, hg, by omega, hcm, hcs, ?_⟩
    rw [hl, List.map_take, ← ht, List.take_take]
    congr 1
    omega
theorem slice_bytes {w : World} {p : Option Addr} {n c : Nat} {l : List UInt8} (h : ByteRow w (.slice p n c) l) : n = l.length ∧ l.length ≤ c ∧ (p = none ∧ c = 0 ∨ ∃ g, p = some ⟨g, 0, none⟩) := by
  rcases h.2 with ⟨e, e2⟩ | ⟨g, cap, cur, e, hb, hg, hnc, hcm, hcs, ht⟩
  · injection e with e1 e3 e4
    exact ⟨by omega, by omega, .inl ⟨e1, e4⟩⟩
  · injection e with e1 e3 e4
    exact ⟨e3, by omega, .inr ⟨g, e1⟩⟩
set_option maxHeartbeats 1000000 in
set_option maxRecDepth 100000 in
theorem fsync_any (w : World) (R : Nat) (p : Option Addr) (n c : Nat) (sy : Int) (hR : FileAt w R (.slice p n c) sy) :
    Calls Try.prog 28 #[.pointer (some ⟨R, 0, none⟩)] w fun e w' => e = .returned (.tuple #[]) ∧ FileAt w' R (.slice p n c) (n : Int) ∧ Turned (fun b => b = R) w w' := by
  obtain ⟨c0, c1, f0, f1⟩ := file_cells hR
  have HR := Lib.hid hR
  clear hR
  go_enter Try.func28, Try.ntmps28
  go_wp2
  go_end0
  refine ⟨rfl, ?_, Turned.setc (F := fun b => b = R) rfl _ _⟩
  have := heap_setCell_row HR.out 1 (.int .i64 (n : Int))
  simpa using this
set_option maxHeartbeats 1000000 in
set_option maxRecDepth 100000 in
theorem fail_any (w : World) (R n c sy : Nat) (p : Option Addr) (keep : Int) (hR : FileAt w R (.slice p n c) (sy : Int)) (hs : sy ≤ n) (hn : n ≤ 1048576) (hc : n ≤ c) :
    Calls Try.prog 30 #[.pointer (some ⟨R, 0, none⟩), .int .i64 keep] w fun e w' => e = .returned (.tuple #[]) ∧ FileAt w' R (.slice p (sy + min keep.toNat (n - sy)) c) ((sy + min keep.toNat (n - sy) : Nat) : Int) ∧ Turned (fun b => b = R) w w' := by
  obtain ⟨c0, c1, f0, f1⟩ := file_cells hR
  have hw : IntKind.i64.wrap ((n : Int) - (sy : Int)) = (n : Int) - (sy : Int) := by rw [IntKind.wrap_i64]; omega
  have HR := Lib.hid hR
  clear hR
  go_enter Try.func30, Try.ntmps30
  go_wp2
  go_quiet (fail)
  have hbq := below_drewN_p w nq
  have hR2 := blk_stay hbq HR.out
  have HBQ := Lib.hid hbq
  generalize w.drewN nq = w2 at hR2 HBQ ⊢
  clear c0 c1 f0 f1 hbq HR
  obtain ⟨c0, c1, f0, f1⟩ := file_cells hR2
  obtain ⟨tl, htl⟩ : ∃ x : Nat, x = n - sy := ⟨_, rfl⟩
  have htI : (n : Int) - (sy : Int) = (tl : Int) := by omega
  rw [htI]
  obtain ⟨kk, hkk⟩ : ∃ x : Nat, x = keep.toNat := ⟨_, rfl⟩
  obtain ⟨kp, hkp⟩ : ∃ x : Nat, x = min kk tl := ⟨_, rfl⟩
  obtain ⟨kn, hkn⟩ : ∃ x : Nat, x = sy + kp := ⟨_, rfl⟩
  have hm1 : (if keep < 0 then 0 else keep) = (kk : Int) := by split <;> omega
  have hm2 : (if (tl : Int) < (kk : Int) then (tl : Int) else (kk : Int)) = (kp : Int) := by split <;> omega
  have hm3 : (if tl < kk then (tl : Int) else (kk : Int)) = (kp : Int) := by split <;> omega
  have hw2 : IntKind.i64.wrap ((sy : Int) + (kp : Int)) = (kn : Int) := by rw [IntKind.wrap_i64]; omega
  have hk1 : kn ≤ n := by omega
  have hk2 : kn ≤ c := by omega
  have hkc : (kn : Int) ≤ (c : Int) := by omega
  have hk0 : (0 : Int) ≤ (kn : Int) := by omega
  have hres : sy + min keep.toNat (n - sy) = kn := by rw [hkn, hkp, htl, hkk]
  have HRES := Lib.hid hres
  have HR2 := Lib.hid hR2
  clear hR2 htl htI hkk hkp hkn hw hres
  go_wp2
  go_still_tail 17, (by kernel_rfl)
  change wpList _ _ _ _ _ w2.drew
  have hR3 : FileAt w2.drew R (.slice p n c) (sy : Int) := HR2.out
  have HB3 := Lib.hid (HBQ.out.drew)
  clear HBQ HR2 c0 c1 f0 f1
  generalize w2.drew = w3 at hR3 HB3 ⊢
  obtain ⟨c0, c1, f0, f1⟩ := file_cells hR3
  have hR4 : FileAt (w3.setCell ⟨R, 0, none⟩ (.slice p kn c)) R (.slice p kn c) (sy : Int) := by
    have := heap_setCell_row hR3 0 (.slice p kn c)
    simpa using this
  have HS := Lib.hid (fsync_any _ R _ kn c _ hR4)
  clear hR3 hR4
  go_wp2_with fail
  refine HS.out.mono ?_
  rintro e w5 ⟨rfl, hR5, hT5⟩
  have HR5 := Lib.hid hR5
  have HT5 := Lib.hid hT5
  clear hR5 hT5
  go_wp2
  go_end0
  rw [HRES.out]
  exact ⟨rfl, HR5.out, ((Turned.of_below (S := fun b => b = R) HB3.out).set_ rfl 0 _).trans HT5.out⟩
end Go.Proofs.Yteigkmeenokfoaa.Vd
