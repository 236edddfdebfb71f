/- Own texts, merged (10 of 42). -/
import Derived.Test.YtddnnhfffmhpmaaGreatDoorSm9
import Derived.Laws.EntriesVeiled
import Derived.LaidEqlPtr

/- The program's reader: Fixed. -/
namespace Go.Proofs.YtddnnhfffmhpmaaGreatDoor
open Go.RowKit

/-- Fixed, of any w and n -/
def fxR (w n : Int) (s : List UInt8) (bad : Bool) : Option (List Nat × List UInt8) := if bad = false ∧ 0 ≤ w ∧ w ≤ 32 ∧ 0 ≤ n ∧ n ≤ 65536 then PackM.rFix w.toNat n.toNat s else none
def fxV (w n : Int) (s : List UInt8) (bad : Bool) : List Int := match fxR w n s bad with | none => [] | some x => toI x.1
def fxS (w n : Int) (s : List UInt8) (bad : Bool) : List UInt8 := match fxR w n s bad with | none => [] | some x => x.2
def fxB (w n : Int) (s : List UInt8) (bad : Bool) : Bool := match fxR w n s bad with | none => true | some _ => false
theorem fx_none {w n : Int} {s : List UInt8} {bad : Bool} (h : fxR w n s bad = none) : fxV w n s bad = [] ∧ fxS w n s bad = [] ∧ fxB w n s bad = true := by
  unfold fxV fxS fxB; rw [h]; exact ⟨rfl, rfl, rfl⟩

set_option maxHeartbeats 400000 in
theorem bitsOf_any (w : World) (s : ByteArray) :
    Calls Tryz.prog 224 #[.string s] w fun e w' => e = .returned (.func (.func 245) #[] #[.pointer (some ⟨w.heap.size, 0, none⟩), .pointer (some ⟨w.heap.size + 1, 0, none⟩)]) ∧ w' = (w.alloc (.cells #[.string s] 9)).alloc (.cells #[.int .i64 0] 3) := by
  have hmk : ∀ (fn : Fn) (first cap : Array Value) (w : World), (Instr.makeFunc fn first cap).run Tryz.prog w = .ok (.func fn first cap) w := fun _ _ _ _ => rfl
  go_enter Tryz.func224, Tryz.ntmps224
  go_wp2
  go_ret
  exact ⟨by simp, rfl⟩

set_option maxHeartbeats 1600000 in
set_option maxRecDepth 100000 in
theorem rfixed_in (w : World) (b : Nat) (s : List UInt8) (bad : Bool) (m n : Nat) (hl : s.length ≤ 100000000) (hbad : bad = true → s = []) (h : RD w b s bad) (hm : m ≤ 32) (hn : n ≤ 65536) :
    Calls Tryz.prog 201 #[.pointer (some ⟨b, 0, none⟩), .int .i64 (m : Int), .int .i64 (n : Int)] w fun e w' => RowEnd w.heap.size b (fxV m n s bad) (fxS m n s bad) (fxB m n s bad) e w' ∧ w.grownBy w' (some b) := by
  have hbl := h.lt
  obtain ⟨p, hp⟩ : ∃ p, p = m * n := ⟨_, rfl⟩
  have hpl : p ≤ 2097152 := by
    rw [hp]
    calc m * n ≤ 32 * n := Nat.mul_le_mul_right _ hm
      _ ≤ 2097152 := by omega
  have hpI : (m : Int) * (n : Int) = (p : Int) := by rw [hp]; simp
  have HP := Lib.hid hp
  clear hp
  obtain ⟨L, hL⟩ : ∃ L, L = (p + 7) / 8 := ⟨_, rfl⟩
  have hLl : L ≤ 300000 := by omega
  have hLp : p ≤ 8 * L := by omega
  have hLp2 : 8 * L ≤ p + 7 := by omega
  have HL := Lib.hid hL
  clear hL
  have h0 : RD (w.alloc (.cells #[.int .i64 (m : Int)] 3)) b s bad := h.alloc _
  have hd : decide ((m : Int) < 0) = false := decide_eq_false (by omega)
  have hd1 : decide (32 < (m : Int)) = false := decide_eq_false (by omega)
  have hd2 : decide ((n : Int) < 0) = false := decide_eq_false (by omega)
  have hd3 : decide (65536 < (n : Int)) = false := decide_eq_false (by omega)
  obtain ⟨B4, hB4⟩ : ∃ B4, B4 = w.heap.size := ⟨_, rfl⟩
  go_enter Tryz.func201, Tryz.ntmps201
  go_wp2_with fail
  refine (packedSize_any m n p _ HP.out (by omega)).mono ?_
  rintro e w0 ⟨rfl, rfl⟩
  rw [← HL.out]
  go_wp2_with fail
  refine (rbytes_any _ b s bad (L : Int) (by omega) h0).mono ?_
  rintro e w1 ⟨rfl, hr, hg⟩
  have k4 : w1.cell? ⟨w.heap.size, 0, none⟩ = some (.int .i64 (m : Int)) := (cell_of_grown hg (p := ⟨w.heap.size, 0, none⟩) (by simp) (fun e => by injection e with e; simp at e; omega)).trans (by simp)
  have hsz : w.heap.size < w1.heap.size := by have := hg.size; simp at this; omega
  have hT : Turned (fun k => k = b) w w1 := ((Turned.refl _ w).alloc _).trans (Turned.of_grown hg rfl)
  rw [← hB4] at k4 hsz ⊢
  have HB4 := Lib.hid hB4
  have hb4b : B4 ≠ b := by omega
  clear hB4
  have c1 := hr.c1
  by_cases hgood : bad = false ∧ L ≤ s.length
  · obtain ⟨rfl, hLs⟩ := hgood
    have e1 : byV (L : Int) s = s.take L := by unfold byV; rw [if_pos ⟨by omega, by omega⟩, Int.toNat_natCast]
    have e2 : byS (L : Int) s = s.drop L := by unfold byS; rw [if_pos ⟨by omega, by omega⟩, Int.toNat_natCast]
    have e3 : byB (L : Int) s false = false := by unfold byB; rw [if_pos ⟨by omega, by omega⟩]
    rw [e3] at c1
    rw [e2, e3] at hr
    rw [e1]
    clear e1 e2 e3
    obtain ⟨P, hPE⟩ : ∃ P, P = s.take L := ⟨_, rfl⟩
    have hPl : P.length = L := by rw [hPE, List.length_take]; omega
    rw [← hPE]
    have HPE := Lib.hid hPE
    clear hPE
    have hmk : ∀ (fn : Fn) (first cap : Array Value) (w : World), (Instr.makeFunc fn first cap).run Tryz.prog w = .ok (.func fn first cap) w := fun _ _ _ _ => rfl
    have HPL := Lib.hid hPl
    clear hPl
    go_wp2_with fail
    refine (bitsOf_any _ _).mono ?_
    rintro e w2 ⟨rfl, rfl⟩
    obtain ⟨Bs, hBs⟩ : ∃ Bs, Bs = w1.heap.size := ⟨_, rfl⟩
    have x8 : (((w1.alloc (.cells #[.string (ofBytes P)] 9)).alloc (.cells #[.int .i64 0] 3)).alloc (.cells #[.func (.func 245) #[] #[.pointer (some ⟨w1.heap.size, 0, none⟩), .pointer (some ⟨w1.heap.size + 1, 0, none⟩)]] 148)).cell? ⟨w1.heap.size + 1 + 1, 0, none⟩ = some (.func (.func 245) #[] #[.pointer (some ⟨w1.heap.size, 0, none⟩), .pointer (some ⟨w1.heap.size + 1, 0, none⟩)]) := by go_simp
    have xa : (((w1.alloc (.cells #[.string (ofBytes P)] 9)).alloc (.cells #[.int .i64 0] 3)).alloc (.cells #[.func (.func 245) #[] #[.pointer (some ⟨w1.heap.size, 0, none⟩), .pointer (some ⟨w1.heap.size + 1, 0, none⟩)]] 148)).cell? ⟨w1.heap.size + 1, 0, none⟩ = some (.int .i64 0) := by go_simp
    have xf : (((w1.alloc (.cells #[.string (ofBytes P)] 9)).alloc (.cells #[.int .i64 0] 3)).alloc (.cells #[.func (.func 245) #[] #[.pointer (some ⟨w1.heap.size, 0, none⟩), .pointer (some ⟨w1.heap.size + 1, 0, none⟩)]] 148)).frozen? ⟨w1.heap.size + 1, 0, none⟩ = false := by go_simp
    have xs : (((w1.alloc (.cells #[.string (ofBytes P)] 9)).alloc (.cells #[.int .i64 0] 3)).alloc (.cells #[.func (.func 245) #[] #[.pointer (some ⟨w1.heap.size, 0, none⟩), .pointer (some ⟨w1.heap.size + 1, 0, none⟩)]] 148)).cell? ⟨w1.heap.size, 0, none⟩ = some (.string (ofBytes P)) := by go_simp
    have x4 : (((w1.alloc (.cells #[.string (ofBytes P)] 9)).alloc (.cells #[.int .i64 0] 3)).alloc (.cells #[.func (.func 245) #[] #[.pointer (some ⟨w1.heap.size, 0, none⟩), .pointer (some ⟨w1.heap.size + 1, 0, none⟩)]] 148)).cell? ⟨B4, 0, none⟩ = some (.int .i64 (m : Int)) := by
      rw [World.cell?_alloc_lt _ _ _ (by simp; omega), World.cell?_alloc_lt _ _ _ (by simp; omega), World.cell?_alloc_lt _ _ _ hsz]; exact k4
    have xr : RD (((w1.alloc (.cells #[.string (ofBytes P)] 9)).alloc (.cells #[.int .i64 0] 3)).alloc (.cells #[.func (.func 245) #[] #[.pointer (some ⟨w1.heap.size, 0, none⟩), .pointer (some ⟨w1.heap.size + 1, 0, none⟩)]] 148)) b (s.drop L) false := ((hr.alloc _).alloc _).alloc _
    have xz : (((w1.alloc (.cells #[.string (ofBytes P)] 9)).alloc (.cells #[.int .i64 0] 3)).alloc (.cells #[.func (.func 245) #[] #[.pointer (some ⟨w1.heap.size, 0, none⟩), .pointer (some ⟨w1.heap.size + 1, 0, none⟩)]] 148)).heap.size = w1.heap.size + 3 := by simp
    have xT : Turned (fun k => k = b) w (((w1.alloc (.cells #[.string (ofBytes P)] 9)).alloc (.cells #[.int .i64 0] 3)).alloc (.cells #[.func (.func 245) #[] #[.pointer (some ⟨w1.heap.size, 0, none⟩), .pointer (some ⟨w1.heap.size + 1, 0, none⟩)]] 148)) := ((hT.alloc _).alloc _).alloc _
    go_wp2_with fail
    have hrlt := hr.lt
    clear hT c1 k4
    generalize ((w1.alloc (.cells #[.string (ofBytes P)] 9)).alloc (.cells #[.int .i64 0] 3)).alloc (.cells #[.func (.func 245) #[] #[.pointer (some ⟨w1.heap.size, 0, none⟩), .pointer (some ⟨w1.heap.size + 1, 0, none⟩)]] 148) = w3 at x8 xa xf xs x4 xr xz xT ⊢
    rw [← hBs] at x8 xa xf xs xz hsz hrlt ⊢
    have hsw : w.heap.size ≤ Bs := by rw [hBs]; have := HB4.out; omega
    clear hBs hr
    have HXZ := Lib.hid xz
    refine (rowfix_any w3 b (Bs + 1 + 1) B4 Bs (Bs + 1) n m P (s.drop L) hm hn (by rw [HPL.out, Nat.mul_comm, ← HP.out]; omega) (by rw [HPL.out]; omega) (by omega) (by omega) (by omega) (by omega) (by omega) (by omega) (by omega) (by omega) xr x8 x4 xs xa xf).mono ?_
    clear xz
    rintro e w4 ⟨⟨g, rfl, hgw, hgl, hIA⟩, ya, yf, yT⟩
    have y4 := (yT.cell (p := ⟨B4, 0, none⟩) (by show B4 < _; rw [HXZ.out]; omega) (by show ¬ B4 = _; omega)).trans x4
    have y8 := (yT.cell (p := ⟨Bs + 1 + 1, 0, none⟩) (by show Bs + 1 + 1 < _; rw [HXZ.out]; omega) (by show ¬ Bs + 1 + 1 = _; omega)).trans x8
    have ys := (yT.cell (p := ⟨Bs, 0, none⟩) (by show Bs < _; rw [HXZ.out]; omega) (by show ¬ Bs = _; omega)).trans xs
    have yr : RD w4 b (s.drop L) false := xr.kept (yT.block b xr.lt (by omega))
    rw [Nat.mul_comm, ← HP.out] at ya
    obtain ⟨f, hf⟩ : ∃ f, f = L * 8 - p := ⟨_, rfl⟩
    have hfI : (L : Int) * 8 - (p : Int) = (f : Int) := by omega
    have hPs : (ofBytes P).size = L := by rw [size_ofBytes, HPL.out]
    have hsz4 := yT.size
    have hg3 : Bs + 3 ≤ g := by rw [← HXZ.out]; exact hgw
    have hszB : Bs + 3 ≤ w4.heap.size := by rw [← HXZ.out]; exact hsz4
    have htk := take_any w4 Bs (Bs + 1) f p P (by omega) (by rw [HPL.out]; omega) (by rw [HPL.out]; omega) (by omega) (by omega) (by omega) ys ya yf
    have HF := Lib.hid hf
    have HIA := Lib.hid hIA
    clear hf x8 xa xf xs x4 hIA
    go_wp2_with fail
    refine htk.mono ?_
    rintro e w5 ⟨rfl, _, _, zT⟩
    have zr : RD w5 b (s.drop L) false := yr.kept (zT.block b yr.lt (by omega))
    have hTT : Turned (fun k => k = b ∨ w.heap.size ≤ k) w w5 := ((xT.wide (fun k e => .inl e)).trans (yT.wide (fun k e => .inr (by omega)))).trans (zT.wide (fun k e => .inr (by omega)))
    have hgr : w.grownBy w5 (some b) := hTT.grown (fun k hk e => e.elim id (fun e => by omega))
    obtain ⟨z, hz⟩ : ∃ z, z = PackM.bv P p f := ⟨_, rfl⟩
    rw [← hz]
    have HZ := Lib.hid hz
    have hrf : PackM.rFix m n s = if z = 0 then some (PackM.nums P m n, s.drop L) else none := by
      unfold PackM.rFix
      rw [← HP.out, ← HL.out, if_neg (by omega), ← HPE.out, ← HF.out, ← hz]
    have hfx : fxR (m : Int) (n : Int) s false = if z = 0 then some (PackM.nums P m n, s.drop L) else none := by
      unfold fxR
      rw [if_pos ⟨rfl, by omega, by omega, by omega, by omega⟩, Int.toNat_natCast, Int.toNat_natCast, hrf]
    have HFX := Lib.hid hfx
    clear hz hrf hfx htk
    by_cases hz0 : z = 0
    · have hz0I : ((z : Int) != 0) = false := by simp [hz0]
      go_wp2
      go_ret
      refine ⟨?_, hgr⟩
      have e := HFX.out
      rw [if_pos hz0] at e
      unfold fxV fxS fxB
      rw [e]
      have hln : (toI (PackM.nums P m n)).length = n := by rw [toI_length, nums_length]
      refine ⟨some ⟨g, 0, none⟩, n, by rw [hln]; rfl, fun ad h => (by injection h with h; subst h; show w.heap.size ≤ g; omega), ?_, zr⟩
      exact (HIA.out.turned zT hgl (by omega)).ints (Nat.lt_of_lt_of_le hgl zT.size) rfl
    · have hz0I : ((z : Int) != 0) = true := by simp [hz0]
      go_wp2_with fail
      refine (rfail_any _ _ _ _ zr).mono ?_
      rintro e w6 ⟨rfl, hr6, hg6⟩
      go_wp2
      go_ret
      have e := HFX.out
      rw [if_neg hz0] at e
      have hx := fx_none e
      rw [hx.1, hx.2.1, hx.2.2]
      exact ⟨RowEnd.none_ rfl hr6, hgr.trans hg6⟩
  · have e3 : byB (L : Int) s bad = true := by
      unfold byB
      by_cases hLs : L ≤ s.length
      · rw [if_pos ⟨by omega, by omega⟩]
        cases bad with
        | true => rfl
        | false => exact absurd ⟨rfl, hLs⟩ hgood
      · rw [if_neg (by omega)]
    have e2 : byS (L : Int) s = [] := by
      unfold byS
      by_cases hLs : L ≤ s.length
      · rw [if_pos ⟨by omega, by omega⟩]
        cases hbb : bad with
        | true => rw [hbad hbb]; simp
        | false => exact absurd ⟨hbb, hLs⟩ hgood
      · rw [if_neg (by omega)]
    have hfx : fxR (m : Int) (n : Int) s bad = none := by
      unfold fxR
      cases hbb : bad with
      | true => rw [if_neg (fun h => by cases h.1)]
      | false =>
        rw [if_pos ⟨rfl, by omega, by omega, by omega, by omega⟩, Int.toNat_natCast, Int.toNat_natCast]
        unfold PackM.rFix
        rw [← HP.out, ← HL.out, if_pos]
        have : ¬ L ≤ s.length := fun h => hgood ⟨hbb, h⟩
        omega
    have HX := Lib.hid (fx_none hfx)
    rw [e3] at c1
    rw [e2, e3] at hr
    clear e2 e3 hfx
    go_wp2
    go_ret
    rw [HX.out.1, HX.out.2.1, HX.out.2.2]
    exact ⟨RowEnd.none_ rfl hr, hT.grown (fun k _ e => e)⟩
end Go.Proofs.YtddnnhfffmhpmaaGreatDoor

/- The document's reader: fail, Bytes, take, TakeVarint, TakeZigzag. -/
namespace Go.Proofs.YtddnnhfffmhpmaaGreatDoor
open Go.RowKit

end Go.Proofs.YtddnnhfffmhpmaaGreatDoor

/- The document's reader: TakeVarint, TakeZigzag, Bytes. -/
namespace Go.Proofs.YtddnnhfffmhpmaaGreatDoor
open Go.RowKit

section
variable (w : World) (s : List UInt8) (bad : Bool)
end

end Go.Proofs.YtddnnhfffmhpmaaGreatDoor

/- The document's reader: Bytes. -/
namespace Go.Proofs.YtddnnhfffmhpmaaGreatDoor
open Go.RowKit

end Go.Proofs.YtddnnhfffmhpmaaGreatDoor

/- The document's reader: TakeRising. -/
namespace Go.Proofs.YtddnnhfffmhpmaaGreatDoor
open Go.RowKit

section
variable {w : World} {b : Nat} {s : List UInt8} {bad : Bool}
end
end Go.Proofs.YtddnnhfffmhpmaaGreatDoor

/- The document's reader: TakeFixed. -/
namespace Go.Proofs.YtddnnhfffmhpmaaGreatDoor
open Go.RowKit

end Go.Proofs.YtddnnhfffmhpmaaGreatDoor

/- awake of layer 2 answers true. -/
namespace Go.Proofs.YtddnnhfffmhpmaaGreatDoor
open Go.RowKit

end Go.Proofs.YtddnnhfffmhpmaaGreatDoor

/- awake of layer 2 answers true: the walk. -/
namespace Go.Proofs.YtddnnhfffmhpmaaGreatDoor
open Go.RowKit

end Go.Proofs.YtddnnhfffmhpmaaGreatDoor

/- PackBack's parts: what was written is read. -/
namespace Go.Proofs.YtddnnhfffmhpmaaGreatDoor
open Go.RowKit

theorem cat2 (x t : List UInt8) : ofBytes x ++ ofBytes t = ofBytes (x ++ t) := by rw [append_ofBytes, ofBytes_list]
theorem diffs_len : ∀ (l : List Int) (last : Int), -1 ≤ last → PackM.rises last l = true → (∀ v ∈ l, v ≤ 9223372036854775807) → (PackM.diffs last l).length ≤ 10 * l.length
  | [], _, _, _, _ => by simp [PackM.diffs]
  | v :: t, last, hl, hr, hm => by
    simp only [PackM.rises, Bool.and_eq_true, decide_eq_true_eq] at hr
    have hv := hm v (by simp)
    have h1 := PackM.vw_len10 (v - 1 - last).toNat (by omega)
    have h2 := diffs_len t v (by omega) hr.2 (fun x hx => hm x (by simp [hx]))
    simp only [PackM.diffs, List.length_append, List.length_cons]
    omega
theorem risS_len (l : List Int) (h : l.length ≤ 1000) (h64 : I64 l) : (risS l).length ≤ 10010 := by
  unfold risS
  split
  · rename_i hr
    have h1 := diffs_len l (-1) (by omega) hr (fun v hv => (h64 v hv).2)
    have h2 := PackM.vw_len10 l.length (by omega)
    simp only [PackM.risB, List.length_append]
    omega
  · simp
theorem fixS_len (m : Int) (l : List Int) (h : l.length ≤ 1000) : (fixS m l).length ≤ 10010 := by
  unfold fixS
  split
  · rename_i hr
    rw [PackM.fixB, PackM.packed_length, List.length_map]
    have : m.toNat * l.length ≤ 32 * l.length := Nat.mul_le_mul_right _ (by omega)
    omega
  · simp

theorem map_back (l : List Int) (h : ∀ v ∈ l, 0 ≤ v) : toI (l.map Int.toNat) = l := by
  unfold toI
  rw [List.map_map]
  have : ∀ v ∈ l, (Int.ofNat ∘ Int.toNat) v = v := fun v hv => by
    have := h v hv
    simp only [Function.comp_apply, Int.ofNat_eq_natCast]
    omega
  rw [List.map_congr_left this, List.map_id']
end Go.Proofs.YtddnnhfffmhpmaaGreatDoor
