/- Own texts, merged (29 of 42). -/
import Derived.Test.YtddnnhfffmhpmaaGreatDoorSm25
import Derived.Test.YtddnnhfffmhpmaaGreatDoorSm28
import Derived.Test.YtddnnhfffmhpmaaGreatDoorSm6
import Derived.Deep.RegionHeld3
import Derived.Test.YtddnnhfffmhpmaaGreatDoorSm15
import Derived.Test.YtddnnhfffmhpmaaGreatDoorSm19
import Derived.Test.YtddnnhfffmhpmaaGreatDoorSm13
import Derived.Test.YtddnnhfffmhpmaaGreatDoorSm5
import Derived.Test.YtddnnhfffmhpmaaGreatDoorSm23
import Derived.Test.YtddnnhfffmhpmaaGreatDoorSm24

/- What is a number behind a prefix? -/
namespace Go.Proofs.YtddnnhfffmhpmaaGreatDoor.St
open Go.RowKit Go.Proofs.YtddnnhfffmhpmaaGreatDoor StoM

def digS : ByteArray := ⟨#[48, 49, 50, 51, 52, 53, 54, 55, 56, 57]⟩
theorem trim_dec {i : Nat} (hi : i < 100) (w : World) : Calls Tryz.prog 186 #[.string (ofBytes (dec i)), .string digS] w fun e w' => e = .returned (.string ⟨#[]⟩) ∧ Below w.heap.size w w' := by
  have h : Calls Tryz.prog 186 #[.string (ofBytes (dec i)), .string digS] w fun e w' => e = .returned (.string ⟨(Lib.trimS (ofBytes (dec i)).data.toList digS.data.toList).toArray⟩) ∧ Below w.heap.size w w' :=
    Any.strings_Trim_laid trimL (by kernel_rfl) (ofBytes (dec i)) digS w (by rw [size_ofBytes]; have := dec_len i; omega) (by decide) (ascii_of_all (by decide))
  rw [ofBytes_list, (by decide +kernel : ∀ a : Fin 100, Lib.trimS (dec a.val) digS.data.toList = []) ⟨i, hi⟩] at h
  exact h
theorem cutp_any (s p : ByteArray) (w : World) : Calls Tryz.prog 185 #[.string s, .string p] w fun e w' => e = .returned (.tuple #[.string (ofBytes (Lib.trimPrefix s.data.toList p.data.toList)), .bool (Lib.hasPrefix s.data.toList p.data.toList)]) ∧ w = w' :=
  (Any.strings_CutPrefix cutL s p w).mono fun _ _ ⟨h1, h2⟩ => ⟨h1, h2.symm⟩
theorem prefix_yes (p l : List UInt8) : Lib.hasPrefix (p ++ l) p = true ∧ Lib.trimPrefix (p ++ l) p = l := by
  have h : Lib.hasPrefix (p ++ l) p = true := by
    unfold Lib.hasPrefix
    exact List.isPrefixOf_iff_prefix.2 ⟨l, rfl⟩
  exact ⟨h, by unfold Lib.trimPrefix; rw [if_pos h]; simp⟩
set_option maxHeartbeats 800000 in
set_option maxRecDepth 100000 in
theorem behind_no (p s : ByteArray) (h : Lib.hasPrefix s.data.toList p.data.toList = false) (w : World) : Calls Tryz.prog 150 #[.string p, .string s] w fun e w' => e = .returned (.tuple #[.string ⟨#[]⟩, .bool false]) ∧ Below w.heap.size w w' := by
  have HC := Lib.hid (cutp_any s p w)
  rw [h] at HC
  clear h
  go_enter Tryz.func150, Tryz.ntmps150
  go_wp2_with fail
  refine HC.out.mono ?_
  rintro e w' ⟨rfl, rfl⟩
  go_wp2
  go_ret2
  exact ⟨rfl, Below.refl _ _⟩
set_option maxHeartbeats 1600000 in
set_option maxRecDepth 100000 in
theorem behind_yes (p : ByteArray) (i : Nat) (hi : i < 100) (s : ByteArray) (hs : s.data.toList = p.data.toList ++ dec i) (w : World) : Calls Tryz.prog 150 #[.string p, .string s] w fun e w' => e = .returned (.tuple #[.string (ofBytes (dec i)), .bool true]) ∧ Below w.heap.size w w' := by
  have HC := Lib.hid (cutp_any s p w)
  rw [hs, (prefix_yes _ _).1, (prefix_yes _ _).2] at HC
  have HT := Lib.hid (fun W => trim_dec hi W)
  obtain ⟨q, hq⟩ : ∃ q, q = ofBytes (dec i) := ⟨_, rfl⟩
  have hne : q.toList.isEmpty = false := by
    rw [hq, Lib.toList_data, ofBytes_list]
    have := dec_len i
    cases h : dec i with
    | nil => rw [h] at this; simp at this
    | cons a t => rfl
  have hz : (q.toList == [48]) = decide (i = 0) := by
    rw [hq, Lib.toList_data, ofBytes_list]
    exact (by decide +kernel : ∀ a : Fin 100, (dec a.val == [48]) = decide (a.val = 0)) ⟨i, hi⟩
  have hsz : 0 < q.size := by
    rw [hq, size_ofBytes]
    have := dec_len i
    omega
  rw [← hq] at HC HT ⊢
  unfold digS at HT
  by_cases h0 : i = 0
  · rw [decide_eq_true h0] at hz
    clear hs hi hq h0
    go_enter Tryz.func150, Tryz.ntmps150
    go_wp2_with fail
    refine HC.out.mono ?_
    rintro e w' ⟨rfl, rfl⟩
    go_wp2_with fail
    refine (HT.out w).mono ?_
    rintro e w1 ⟨rfl, hb⟩
    have HB := Lib.hid hb
    clear hb
    go_wp2
    go_quiet (fail)
    go_wp2
    go_ret2
    exact ⟨rfl, HB.out.trans (below_drewN_p _ _ |>.mono HB.out.size)⟩
  · rw [decide_eq_false h0] at hz
    have hd : ((q[0].toNat : Int) != 48) = true := by
      have := (by decide +kernel : ∀ a : Fin 100, a.val ≠ 0 → (dec a.val).head? ≠ some 48) ⟨i, hi⟩ h0
      have h1 : q.data.toList = dec i := by rw [hq, ofBytes_list]
      have e : q.data.toList.head? = some q[0] := by
        rw [List.head?_eq_getElem?, Array.getElem?_toList, Array.getElem?_eq_getElem hsz]
        rfl
      rw [h1] at e
      rw [e] at this
      have hne2 : q[0] ≠ 48 := fun h => this (by rw [h])
      have hnat : q[0].toNat ≠ 48 := fun h => hne2 (UInt8.toNat_inj.1 (by rw [h]; rfl))
      simp
      omega
    clear hs hi hq h0
    go_enter Tryz.func150, Tryz.ntmps150
    go_wp2_with fail
    refine HC.out.mono ?_
    rintro e w' ⟨rfl, rfl⟩
    go_wp2_with fail
    refine (HT.out w).mono ?_
    rintro e w1 ⟨rfl, hb⟩
    have HB := Lib.hid hb
    clear hb
    go_wp2
    go_quiet (fail)
    go_wp2
    go_ret2
    exact ⟨rfl, HB.out.trans (below_drewN_p _ _ |>.mono HB.out.size)⟩
end Go.Proofs.YtddnnhfffmhpmaaGreatDoor.St

/- Which files play no part? -/
namespace Go.Proofs.YtddnnhfffmhpmaaGreatDoor.St
open Go.RowKit Go.Proofs.YtddnnhfffmhpmaaGreatDoor StoM

set_option maxHeartbeats 1600000 in
set_option maxRecDepth 100000 in
theorem indexI_any (A : Option Addr) (n cp : Nat) (l : List Int) (F : FuncId) (B : Array Value) (q : Int → Bool) (w : World) (hI : Ivs w A n l) (hn : n ≤ 1000000000) (hcall : ∀ args w, (callFunc F args).run Tryz.prog w = .ok (.enter F args) w)
    (hq : ∀ W, Below w.heap.size w W → ∀ x ∈ l, Calls Tryz.prog F (#[.int .i64 x] ++ B) W fun e w' => e = .returned (.bool (q x)) ∧ Below W.heap.size W w') :
    Calls Tryz.prog 189 #[.slice A n cp, .func (.func F) #[] B] w fun e w' => (∃ i : Int, e = .returned (.int .i64 i) ∧ (0 ≤ i ↔ ∃ x ∈ l, q x = true)) ∧ Below w.heap.size w w' := by
  have HI := Lib.hid hI
  have HL := Lib.hid hI.1
  have HQ := Lib.hid hq
  have HCALL := Lib.hid hcall
  clear hI hq hcall
  go_enter Tryz.func189, Tryz.ntmps189
  go_wp2
  go_loopw [8] (fun x wr => ∃ k : Nat, x = .int .i64 k ∧ k ≤ n ∧ Below w.heap.size w wr ∧ ∀ j (h : j < l.length), j < k → q l[j] = false) (fun x _ => n - (intOf x).toNat)
  case atStart => exact ⟨0, rfl, Nat.zero_le _, Below.refl _ _, fun j _ hj => by omega⟩
  case round =>
    obtain ⟨k, rfl, hkn, hB, hq⟩ := hrel
    by_cases hlt : k < n
    · have hmi : (k : Int) < (n : Int) := by omega
      have hkl : k < l.length := by rw [HL.out]; exact hlt
      have hst := HQ.out wr hB l[k] (List.getElem_mem hkl)
      obtain ⟨b, o, rfl, hbl, c0⟩ := (HI.out.later hB).2 k hkl
      obtain ⟨p, hp⟩ : ∃ x, x = l[k] := ⟨_, rfl⟩
      rw [← hp] at c0 hst
      have HST := Lib.hid hst
      have HQ2 := Lib.hid hq
      obtain ⟨x, hx⟩ : ∃ x, x = q p := ⟨_, rfl⟩
      have HX := Lib.hid hx
      have HP := Lib.hid hp
      have HB := Lib.hid hB
      clear hst hq hp hx hbl hB
      have hcall := HCALL.out
      go_wp2_with fail
      refine HST.out.mono ?_
      rintro e w2 ⟨rfl, hb⟩
      rw [← HX.out]
      have HB2 := Lib.hid (HB.out.trans (hb.mono HB.out.size))
      clear hb hcall c0
      cases x with
      | true =>
        go_wp2
        go_ret
        exact ⟨⟨k, rfl, ⟨fun _ => ⟨l[k], List.getElem_mem hkl, by rw [← HP.out]; exact HX.out.symm⟩, fun _ => by omega⟩⟩, HB2.out⟩
      | false =>
        go_wp2
        go_roundw
        case rel => exact ⟨k + 1, by go_num, by omega, HB2.out, fun j hjl hj => by
          rcases Nat.lt_or_ge j k with e | e
          · exact HQ2.out j hjl e
          · obtain rfl : j = k := by omega
            rw [← HP.out]
            exact HX.out.symm⟩
        case measure => simp [intOf]; omega
    · have hmi : ¬ (k : Int) < (n : Int) := by omega
      obtain rfl : k = n := by omega
      have HB := Lib.hid hB
      have HQ2 := Lib.hid hq
      clear hB hq
      go_wp2
      go_ret
      refine ⟨⟨-1, rfl, ⟨fun h => by omega, fun ⟨x, hx, h⟩ => ?_⟩⟩, HB.out⟩
      obtain ⟨j, hj, rfl⟩ := List.getElem_of_mem hx
      rw [HQ2.out j hj (by rw [← HL.out]; exact hj)] at h
      cases h
set_option maxHeartbeats 400000 in
set_option maxRecDepth 100000 in
theorem containsI_any (A : Option Addr) (n cp : Nat) (l : List Int) (F : FuncId) (B : Array Value) (q : Int → Bool) (w : World) (hI : Ivs w A n l) (hn : n ≤ 1000000000) (hcall : ∀ args w, (callFunc F args).run Tryz.prog w = .ok (.enter F args) w)
    (hq : ∀ W, Below w.heap.size w W → ∀ x ∈ l, Calls Tryz.prog F (#[.int .i64 x] ++ B) W fun e w' => e = .returned (.bool (q x)) ∧ Below W.heap.size W w') (r : Bool) (hr : r = true ↔ ∃ x ∈ l, q x = true) :
    Calls Tryz.prog 152 #[.slice A n cp, .func (.func F) #[] B] w fun e w' => e = .returned (.bool r) ∧ Below w.heap.size w w' := by
  have HF := Lib.hid (indexI_any A n cp l F B q w hI hn hcall hq)
  have HR := Lib.hid hr
  clear hI hcall hq hr
  go_enter Tryz.func152, Tryz.ntmps152
  go_wp2_with fail
  refine HF.out.mono ?_
  rintro e w' ⟨⟨i, rfl, hi⟩, hR⟩
  have hd : decide (0 ≤ i) = r := by
    cases r with
    | true => exact decide_eq_true (hi.2 (HR.out.1 rfl))
    | false => exact decide_eq_false (fun h => by have := HR.out.2 (hi.1 h); cases this)
  clear hi
  go_wp2
  go_ret
  exact ⟨rfl, hR⟩
set_option maxHeartbeats 800000 in
set_option maxRecDepth 100000 in
theorem drops1_any (i n : Nat) (hi : i < 100) (hn : n < 100) (B : Nat) (w : World) (b0 : w.cell? ⟨B, 0, none⟩ = some (.string (ofBytes (segN i)))) :
    Calls Tryz.prog 153 #[.int .i64 (n : Int), .pointer (some ⟨B, 0, none⟩)] w fun e w' => e = .returned (.bool (decide (n = i))) ∧ Below w.heap.size w w' := by
  have HS := Lib.hid (fun W => segname_any n hn W)
  have he : ((ofBytes (segN n)).toList == (ofBytes (segN i)).toList) = decide (n = i) := by
    rw [Lib.toList_data, Lib.toList_data, ofBytes_list, ofBytes_list]
    by_cases h : n = i
    · subst h; simp
    · rw [decide_eq_false h, beq_eq_false_iff_ne]
      exact fun e => h (segN_inj hn hi e)
  obtain ⟨x, hx⟩ : ∃ x, x = decide (n = i) := ⟨_, rfl⟩
  rw [← hx] at he ⊢
  clear hx hi hn
  generalize ofBytes (segN n) = t at HS he
  generalize ofBytes (segN i) = u at b0 he
  go_enter Tryz.func153, Tryz.ntmps153
  go_wp2
  go_region_held3 (fun W => W.cell? ⟨B, 0, none⟩ = some (.string u) ∧ Below w.heap.size w W)
    ((first | exact Kp.d1 b0 | assumption | go_keep))
    (first
      | (go_at_call 56; ((with_reducible refine (HS.out _).mono ?_); rintro e ws ⟨rfl, rfl⟩)))
  all_goals
    go_wp2
    go_ret
    exact ⟨rfl, (Below.refl _ _).drew⟩
end Go.Proofs.YtddnnhfffmhpmaaGreatDoor.St

/- drops. -/
namespace Go.Proofs.YtddnnhfffmhpmaaGreatDoor.St
open Go.RowKit Go.Proofs.YtddnnhfffmhpmaaGreatDoor StoM

theorem enters_d1 : ∀ args w, (callFunc 153 args).run Tryz.prog w = .ok (.enter 153 args) w := enters_of Tryz.func153 (by kernel_rfl) rfl
set_option maxHeartbeats 1600000 in
set_option maxRecDepth 100000 in
theorem drops_log (f i n cp : Nat) (A : Option Addr) (segs : List Nat) (hf : f < 100) (hi : i < 100) (w : World) :
    Calls Tryz.prog 100 #[.agg #[.int .i64 (f : Int), .slice A n cp], .string (ofBytes (logN i))] w fun e w' => e = .returned (.bool (dropB f segs (logN i))) ∧ Below w.heap.size w w' := by
  rw [drop_log hi]
  have H1 := Lib.hid (fun W => behind_yes ⟨#[108, 111, 103, 46]⟩ i hi (ofBytes (logN i)) (by rw [ofBytes_list]; rfl) W)
  have H2 := Lib.hid (fun W => itoa_any f hf W)
  have H3 := Lib.hid (fun W => isbelow_any (ofBytes (dec i)) (ofBytes (dec f)) W)
  rw [below_dec hi hf] at H3
  obtain ⟨x, hx⟩ : ∃ x, x = decide (i < f) := ⟨_, rfl⟩
  rw [← hx] at H3 ⊢
  clear hx hf hi
  generalize ofBytes (logN i) = t at H1 ⊢
  generalize ofBytes (dec i) = u at H1 H3
  generalize ofBytes (dec f) = v at H2 H3
  have hb0 := als_below [.cells #[.int .i64 (f : Int), .slice A n cp] 76, .cells #[.string t] 9] w
  have h0 := als_at [.cells #[.int .i64 (f : Int), .slice A n cp] 76, .cells #[.string t] 9] w 0 (by simp)
  have h1 := als_at [.cells #[.int .i64 (f : Int), .slice A n cp] 76, .cells #[.string t] 9] w 1 (by simp)
  have HB0 := Lib.hid hb0
  have G0 := Lib.hid h0
  have G1 := Lib.hid h1
  simp only [als] at HB0 G0 G1
  clear hb0 h0 h1
  go_enter Tryz.func100, Tryz.ntmps100
  go_wp2_with fail
  refine (H1.out _).mono ?_
  rintro e w1 ⟨rfl, hb⟩
  have c0 : w1.cell? ⟨w.heap.size, 0, none⟩ = some (.int .i64 (f : Int)) := cell_of_cells (blk_stay hb G0.out) rfl
  have HB1 := Lib.hid (HB0.out.trans (hb.mono HB0.out.size))
  clear hb HB0 G0 G1
  go_wp2_with fail
  refine (H2.out _).mono ?_
  rintro e w2 ⟨rfl, rfl⟩
  go_wp2_with fail
  refine (H3.out _).mono ?_
  rintro e w2 ⟨rfl, hb⟩
  have HB2 := Lib.hid (HB1.out.trans (hb.mono HB1.out.size))
  clear hb HB1 c0
  go_wp2
  go_ret
  exact ⟨rfl, HB2.out⟩
set_option maxHeartbeats 1600000 in
set_option maxRecDepth 100000 in
theorem drops_seg (f i n cp : Nat) (A : Option Addr) (segs : List Nat) (hi : i < 100) (hs : ∀ x ∈ segs, x < 100) (hn : n ≤ 1000000) (w : World) (hI : Ivs w A n (segs.map Int.ofNat)) :
    Calls Tryz.prog 100 #[.agg #[.int .i64 (f : Int), .slice A n cp], .string (ofBytes (segN i))] w fun e w' => e = .returned (.bool (dropB f segs (segN i))) ∧ Below w.heap.size w w' := by
  rw [drop_seg hi]
  have H1 := Lib.hid (fun W => behind_no ⟨#[108, 111, 103, 46]⟩ (ofBytes (segN i)) (by rw [ofBytes_list]; rfl) W)
  have H2 := Lib.hid (fun W => behind_yes ⟨#[115, 101, 103, 46]⟩ i hi (ofBytes (segN i)) (by rw [ofBytes_list]; rfl) W)
  have H3 := Lib.hid (fun W B (hb : Below w.heap.size w W) (b0 : W.cell? ⟨B, 0, none⟩ = some (.string (ofBytes (segN i)))) => containsI_any A n cp (segs.map Int.ofNat) 153 #[.pointer (some ⟨B, 0, none⟩)] (fun x => decide (x.toNat = i)) W (hI.later hb) (by omega) enters_d1 (fun W' hW' x hx => by
    obtain ⟨y, hy, rfl⟩ := List.mem_map.1 hx
    exact drops1_any i y hi (hs y hy) B W' ((hW'.cell (p := ⟨B, 0, none⟩) (World.block_lt_of_cell? W _ b0)).trans b0)) (decide (i ∈ segs)) (by
      rw [decide_eq_true_eq]
      constructor
      · intro h
        exact ⟨Int.ofNat i, List.mem_map.2 ⟨i, h, rfl⟩, by simp⟩
      · rintro ⟨x, hx, h⟩
        obtain ⟨y, hy, rfl⟩ := List.mem_map.1 hx
        have e : y = i := by simpa using h
        rw [← e]
        exact hy))
  obtain ⟨x, hx⟩ : ∃ x, x = decide (i ∈ segs) := ⟨_, rfl⟩
  rw [← hx] at H3 ⊢
  clear hx hs hi hn hI
  generalize ofBytes (segN i) = t at H1 H2 H3 ⊢
  generalize ofBytes (dec i) = u at H2
  have hb0 := als_below [.cells #[.int .i64 (f : Int), .slice A n cp] 76, .cells #[.string t] 9] w
  have h0 := als_at [.cells #[.int .i64 (f : Int), .slice A n cp] 76, .cells #[.string t] 9] w 0 (by simp)
  have h1 := als_at [.cells #[.int .i64 (f : Int), .slice A n cp] 76, .cells #[.string t] 9] w 1 (by simp)
  have HB0 := Lib.hid hb0
  have G0 := Lib.hid h0
  have G1 := Lib.hid h1
  simp only [als] at HB0 G0 G1
  clear hb0 h0 h1
  go_enter Tryz.func100, Tryz.ntmps100
  go_wp2_with fail
  refine (H1.out _).mono ?_
  rintro e w1 ⟨rfl, hb⟩
  have GG0 := Lib.hid (blk_stay hb G0.out)
  have GG1 := Lib.hid (blk_stay hb G1.out)
  have HB1 := Lib.hid (HB0.out.trans (hb.mono HB0.out.size))
  have c2 : w1.cell? ⟨w.heap.size + 1, 0, none⟩ = some (.string t) := cell_of_cells GG1.out rfl
  clear hb HB0 G0 G1
  go_wp2_with fail
  refine (H2.out _).mono ?_
  rintro e w2 ⟨rfl, hb⟩
  have HB2 := Lib.hid (HB1.out.trans (hb.mono HB1.out.size))
  have c1 : w2.cell? ⟨w.heap.size, 1, none⟩ = some (.slice A n cp) := cell_of_cells (blk_stay hb GG0.out) rfl
  have c3 : w2.cell? ⟨w.heap.size + 1, 0, none⟩ = some (.string t) := cell_of_cells (blk_stay hb GG1.out) rfl
  have H3 := Lib.hid (H3.out w2 (w.heap.size + 1) HB2.out c3)
  clear hb HB1 GG0 GG1 c2
  go_wp2_with fail
  refine H3.out.mono ?_
  rintro e w3 ⟨rfl, hb⟩
  have HB3 := Lib.hid (HB2.out.trans (hb.mono HB2.out.size))
  clear hb HB2 c1 c3
  go_wp2
  go_ret
  exact ⟨rfl, HB3.out⟩
set_option maxHeartbeats 1600000 in
set_option maxRecDepth 100000 in
theorem drops_other (f n cp : Nat) (A : Option Addr) (segs : List Nat) (b : Bool) (w : World) :
    Calls Tryz.prog 100 #[.agg #[.int .i64 (f : Int), .slice A n cp], .string (ofBytes (if b = true then newN else manN))] w fun e w' => e = .returned (.bool (dropB f segs (if b = true then newN else manN))) ∧ Below w.heap.size w w' := by
  have hr : dropB f segs (if b = true then newN else manN) = b := by
    cases b with
    | true => exact drop_new _ _
    | false => exact drop_man _ _
  rw [hr]
  have H1 := Lib.hid (fun W => behind_no ⟨#[108, 111, 103, 46]⟩ (ofBytes (if b = true then newN else manN)) (by rw [ofBytes_list]; cases b <;> rfl) W)
  have H2 := Lib.hid (fun W => behind_no ⟨#[115, 101, 103, 46]⟩ (ofBytes (if b = true then newN else manN)) (by rw [ofBytes_list]; cases b <;> rfl) W)
  have he : ((ofBytes (if b = true then newN else manN)).toList == [109, 97, 110, 46, 110, 101, 119]) = b := by
    rw [Lib.toList_data, ofBytes_list]
    cases b <;> rfl
  clear hr
  generalize ofBytes (if b = true then newN else manN) = t at H1 H2 he ⊢
  have hb0 := als_below [.cells #[.int .i64 (f : Int), .slice A n cp] 76, .cells #[.string t] 9] w
  have h1 := als_at [.cells #[.int .i64 (f : Int), .slice A n cp] 76, .cells #[.string t] 9] w 1 (by simp)
  have HB0 := Lib.hid hb0
  have G1 := Lib.hid h1
  simp only [als] at HB0 G1
  clear hb0 h1
  go_enter Tryz.func100, Tryz.ntmps100
  go_wp2_with fail
  refine (H1.out _).mono ?_
  rintro e w1 ⟨rfl, hb⟩
  have GG1 := Lib.hid (blk_stay hb G1.out)
  have HB1 := Lib.hid (HB0.out.trans (hb.mono HB0.out.size))
  have c2 : w1.cell? ⟨w.heap.size + 1, 0, none⟩ = some (.string t) := cell_of_cells GG1.out rfl
  clear hb HB0 G1
  go_wp2_with fail
  refine (H2.out _).mono ?_
  rintro e w2 ⟨rfl, hb⟩
  have HB2 := Lib.hid (HB1.out.trans (hb.mono HB1.out.size))
  have c3 : w2.cell? ⟨w.heap.size + 1, 0, none⟩ = some (.string t) := cell_of_cells (blk_stay hb GG1.out) rfl
  clear hb HB1 GG1 c2
  go_wp2
  go_ret
  exact ⟨rfl, HB2.out⟩
/-- of the names that there are -/
theorem drops_any (L S f n cp : Nat) (A : Option Addr) (segs : List Nat) (nm : VdM.Name) (hk : Known L S nm) (hL : L ≤ 100) (hS : S ≤ 100) (hf : f < 100) (hs : ∀ x ∈ segs, x < 100) (hn : n ≤ 1000000) (w : World) (hI : Ivs w A n (segs.map Int.ofNat)) :
    Calls Tryz.prog 100 #[.agg #[.int .i64 (f : Int), .slice A n cp], .string (ofBytes nm)] w fun e w' => e = .returned (.bool (dropB f segs nm)) ∧ Below w.heap.size w w' := by
  rcases hk with rfl | rfl | ⟨i, hi, rfl⟩ | ⟨i, hi, rfl⟩
  · exact drops_other f n cp A segs false w
  · exact drops_other f n cp A segs true w
  · exact drops_log f i n cp A segs hf (by omega) w
  · exact drops_seg f i n cp A segs (by omega) hs hn w hI
end Go.Proofs.YtddnnhfffmhpmaaGreatDoor.St

/- What plays no part is taken away. -/
namespace Go.Proofs.YtddnnhfffmhpmaaGreatDoor.St
open Go.RowKit Go.Proofs.YtddnnhfffmhpmaaGreatDoor StoM
open VdM

theorem funcTy : RowTy 57 99 .nilFunc 1 8 := ⟨by kernel_rfl, Tryz.underlying99, rfl, by decide, by decide⟩
theorem enters_c1 : ∀ args w, (callFunc 101 args).run Tryz.prog w = .ok (.enter 101 args) w := enters_of Tryz.func101 (by kernel_rfl) rfl
set_option maxHeartbeats 2000000 in
set_option maxRecDepth 100000 in
theorem clear1_any (W : World) (Fd : Nat → Prop) (B0 B1 s d : Nat) (k : Dsk) (nm : ByteArray) (b0 : W.cell? ⟨B0, 0, none⟩ = some (.pointer (some ⟨s, 0, none⟩))) (b1 : W.cell? ⟨B1, 0, none⟩ = some (.string nm)) (s0 : W.cell? ⟨s, 0, none⟩ = some (.pointer (some ⟨d, 0, none⟩)))
    (h : Vd.Is W Fd d k) (hn : nm.size ≤ 1000000) (he : k.eff + 1 ≤ 1000000000) :
    Calls Tryz.prog 101 #[.pointer (some ⟨B0, 0, none⟩), .pointer (some ⟨B1, 0, none⟩)] W (DoesK W Fd d k fun k => VdM.remove k nm.data.toList) := by
  have hI := h.later (Below.refl W.heap.size W).drew
  have HA := Lib.hid (Vd.remove_any W.drew Fd d k hI nm hn he)
  have HW : Hid (∀ w' k', Vd.Went W.drew w' Fd d k' → Vd.Went W w' Fd d k') := Lib.hid (fun w' k' hw => Vd.Went.on (Turned.of_below (Below.refl W.heap.size W).drew) hw)
  clear h hI he
  go_enter Tryz.func101, Tryz.ntmps101
  go_wp2
  go_still_tail 5, (by kernel_rfl)
  change wpList _ _ _ _ _ W.drew
  generalize W.drew = w2 at HA HW ⊢
  go_wp2_with fail
  refine HA.out.mono ?_
  rintro e w3 ⟨rfl, hw⟩
  have HR := Lib.hid (HW.out _ _ hw)
  clear hw
  go_wp2
  go_ret
  exact ⟨rfl, HR.out⟩
/-- a row of closures, each of which takes a file away: L: the names, and the variables that hold them -/
def stepV (B1 : Nat) (p : Name × Nat) : Value := .func (.func 101) #[] #[.pointer (some ⟨B1, 0, none⟩), .pointer (some ⟨p.2, 0, none⟩)]
theorem clear_in (U : World) (Fd : Nat → Prop) (B1 g cp s d : Nat) (k : Dsk) (L : List (Name × Nat)) (b0 : U.cell? ⟨B1, 0, none⟩ = some (.pointer (some ⟨s, 0, none⟩))) (s0 : U.cell? ⟨s, 0, none⟩ = some (.pointer (some ⟨d, 0, none⟩)))
    (hL : ∀ p ∈ L, U.cell? ⟨p.2, 0, none⟩ = some (.string (ofBytes p.1)) ∧ ¬ Fd p.2 ∧ p.1.length ≤ 1000000) (hg : ∀ j u, (L.map (stepV B1))[j]? = some u → U.cell? ⟨g, j, none⟩ = some u)
    (n0 : ¬ Fd B1) (ng : ¬ Fd g) (ns : ¬ Fd s) (h : Vd.Is U Fd d k) (hl : L.length ≤ 1000) (he : k.eff + 1001 ≤ 1000000000) :
    Calls Tryz.prog 29 #[.slice (some ⟨g, 0, none⟩) L.length cp] U (DoesK U Fd d k (remAll (L.map (·.1)))) := by
  have hc := chain_any U U Fd d g L.length cp 1 k ((L.map (·.1)).map fun n k => VdM.remove k n) (L.map (stepV B1)) (by simp) (by simp) (by omega) (Vd.Went.same h (Below.refl _ _)) ng
    (fun j hj => hg j _ (List.getElem?_eq_getElem hj)) (fun i hi k1 => by
      rw [List.getElem_map]
      exact remove_eff k1 _)
    (fun i h1 h2 k1 W hk hD => by
      have hi : i < L.length := by simpa using h2
      have hp := hL L[i] (List.getElem_mem hi)
      have e1 : (L.map (stepV B1))[i] = stepV B1 L[i] := by simp
      have e2 : ((L.map (·.1)).map fun n k => VdM.remove k n)[i] = fun k => VdM.remove k L[i].1 := by simp
      rw [e1, e2]
      refine ⟨_, _, _, rfl, enters_c1, ?_⟩
      obtain ⟨hT, F', hI, hF⟩ := id hD
      have hcc := clear1_any W F' B1 L[i].2 s d k1 (ofBytes L[i].1) (hD.cell b0 n0) (hD.cell hp.1 hp.2.1) (hD.cell s0 ns) hI (by rw [size_ofBytes]; exact hp.2.2) (by omega)
      rw [ofBytes_list] at hcc
      refine hcc.mono ?_
      rintro e W' ⟨rfl, hw⟩
      exact ⟨rfl, dk_on hT hF hw⟩)
  unfold DoesK at hc ⊢
  rw [chain_rem] at hc
  exact hc
end Go.Proofs.YtddnnhfffmhpmaaGreatDoor.St

/- clearFiles. -/
namespace Go.Proofs.YtddnnhfffmhpmaaGreatDoor.St
open Go.RowKit Go.Proofs.YtddnnhfffmhpmaaGreatDoor StoM
open VdM

/-- the closures so far -/
structure Stps (N : Nat) (W : World) (B1 : Nat) (v : Value) (L : List (Name × Nat)) : Prop where
  row : W.ownsRow N 57 1 v L.length (L.map (stepV B1))
  box : ∀ p ∈ L, W.heap[p.2]? = some (.cells #[.string (ofBytes p.1)] 9 (0, 0)) ∧ N ≤ p.2
theorem Stps.nil_ (N : Nat) (W : World) (B1 : Nat) : Stps N W B1 (.slice none 0 0) [] := ⟨World.ownsRow_nil _ _ _ _, fun p hp => by simp at hp⟩
theorem Stps.later {N : Nat} {W W' : World} {B1 : Nat} {v : Value} {L : List (Name × Nat)} (h : Stps N W B1 v L) (hb : Below W.heap.size W W') : Stps N W' B1 v L :=
  ⟨row_later h.row hb, fun p hp => ⟨blk_stay hb (h.box p hp).1, (h.box p hp).2⟩⟩
theorem Stps.more {N : Nat} {W W' : World} {B1 : Nat} {v v' : Value} {L : List (Name × Nat)} (h : Stps N W B1 v L) {nm : Name} {B : Nat} (hB : W.heap[B]? = some (.cells #[.string (ofBytes nm)] 9 (0, 0))) (hN : N ≤ B)
    (hr : W'.ownsRow N 57 1 v' (L.length + 1) (L.map (stepV B1) ++ [stepV B1 (nm, B)])) (hg : W.grownBy W' v.ownBlock) : Stps N W' B1 v' (L ++ [(nm, B)]) := by
  have hne : ∀ {b : Nat} {x : ByteArray}, W.heap[b]? = some (.cells #[.string x] 9 (0, 0)) → v.ownBlock ≠ some b := fun {b x} hb e => by
    obtain ⟨A, cp, e2⟩ := row_shape h.row
    rcases h.row.2 with ⟨rfl, _⟩ | ⟨g, cap, cur, rfl, _, hgg, _⟩
    · cases e
    · have : g = b := by simpa [Value.ownBlock] using e
      rw [this, hb] at hgg
      injection hgg with hgg
      injection hgg with _ hgg
      revert hgg
      decide
  refine ⟨by simpa using hr, fun p hp => ?_⟩
  rcases List.mem_append.1 hp with hp | hp
  · obtain ⟨h1, h2⟩ := h.box p hp
    exact ⟨(hg.block p.2 (Array.getElem?_eq_some_iff.1 h1).1 (fun e => hne h1 e.symm)).trans h1, h2⟩
  · obtain rfl : p = (nm, B) := by simpa using hp
    exact ⟨(hg.block B (Array.getElem?_eq_some_iff.1 hB).1 (fun e => hne hB e.symm)).trans hB, hN⟩
set_option maxHeartbeats 8000000 in
set_option maxRecDepth 100000 in
theorem clear_any (w : World) (Fd : Nat → Prop) (s d f n cp L S : Nat) (A : Option Addr) (k : Dsk) (segs : List Nat) (s0 : w.cell? ⟨s, 0, none⟩ = some (.pointer (some ⟨d, 0, none⟩))) (s1 : w.cell? ⟨s, 1, none⟩ = some (.int .i64 (f : Int))) (s2 : w.cell? ⟨s, 2, none⟩ = some (.slice A n cp)) (ns : ¬ Fd s) (h : Vd.Is w Fd d k)
    (hI : Ivs w A n (segs.map Int.ofNat)) (hnm : Nm L S k.fs) (hL : L ≤ 100) (hS : S ≤ 100) (hf : f < 100) (hs : ∀ x ∈ segs, x < 100) (hn : n ≤ 1000000) (he : k.eff + 1001 ≤ 1000000000) :
    Calls Tryz.prog 68 #[.pointer (some ⟨s, 0, none⟩)] w (DoesK w Fd d k fun k => clr k f segs) := by
  obtain ⟨N, hN⟩ : ∃ N, N = w.heap.size := ⟨_, rfl⟩
  have hb1 := pl1 w (.cells #[.pointer (some ⟨s, 0, none⟩)] 26)
  have hB1 : (w.alloc (.cells #[.pointer (some ⟨s, 0, none⟩)] 26)).heap[N]? = some (.cells #[.pointer (some ⟨s, 0, none⟩)] 26 (0, 0)) := by rw [hN]; exact heap_alloc_new w _
  have hsl := World.block_lt_of_cell? w _ s0
  have HLS := Lib.hid (Vd.list_any _ Fd d k (h.later hb1))
  have HI := Lib.hid h
  have HIV := Lib.hid hI
  have z0 := (hb1.cell (p := ⟨s, 0, none⟩) hsl).trans s0
  have z1 := (hb1.cell (p := ⟨s, 1, none⟩) hsl).trans s1
  have z2 := (hb1.cell (p := ⟨s, 2, none⟩) hsl).trans s2
  have HB1 := Lib.hid hB1
  have HBW := Lib.hid hb1
  have HNE := Lib.hid hN
  have HSL : Hid (s < N) := Lib.hid (by rw [hN]; exact hsl)
  clear s0 s1 s2 hI hb1 hB1 hsl h hN
  go_enter Tryz.func68, Tryz.ntmps68
  go_wp2_with fail
  rw [← HNE.out]
  generalize w.alloc (.cells #[.pointer (some ⟨s, 0, none⟩)] 26) = U at HLS HB1 HBW z0 z1 z2 ⊢
  refine HLS.out.mono ?_
  rintro e w1 ⟨v, rfl, hrow, hb⟩
  obtain ⟨p, c, rfl, hat⟩ := Vd.NameRow.at_ hrow
  have HZ0 := Lib.hid (show U.cell? ⟨s, 0, none⟩ = some (.pointer (some ⟨d, 0, none⟩)) ∧ U.cell? ⟨s, 1, none⟩ = some (.int .i64 (f : Int)) ∧ U.cell? ⟨s, 2, none⟩ = some (.slice A n cp) from ⟨z0, z1, z2⟩)
  have HAT := Lib.hid hat
  have HB := Lib.hid hb
  obtain ⟨ns', hns'⟩ : ∃ x, x = (k.fs.map (·.1)).length := ⟨_, rfl⟩
  have HNS := Lib.hid hns'
  have hns64 : ns' ≤ 64 := by
    rw [hns', List.length_map]
    exact HI.out.ok.most
  rw [← hns']
  clear hat hb z0 z1 z2 HLS hrow hns'
  go_wp2_with fail
  go_loopw [3, 12] (fun v x wr => ∃ (i : Nat) (L : List (Name × Nat)), x = .int .i64 i ∧ i ≤ ns' ∧ Below w1.heap.size w1 wr ∧ Stps w1.heap.size wr N v L ∧ L.map (·.1) = ((k.fs.map (·.1)).take i).filter (dropB f segs)) (fun _ x _ => ns' - (intOf x).toNat)
  case atStart => exact ⟨0, [], rfl, Nat.zero_le _, Below.refl _ _, Stps.nil_ _ _ _, rfl⟩
  case round =>
    obtain ⟨i, Ls, rfl, hin, hB2, hst, hfil⟩ := hrel
    by_cases hlt : i < ns'
    · have hmi : (i : Int) < (ns' : Int) := by omega
      have hil : i < (k.fs.map (·.1)).length := by rw [← HNS.out]; exact hlt
      obtain ⟨g, rfl, hg1, hg2, hcl⟩ := HAT.out i hil
      obtain ⟨nm, hnmE⟩ : ∃ nm, nm = (k.fs.map (·.1))[i] := ⟨_, rfl⟩
      rw [← hnmE] at hcl
      have hkn : Known L S nm := by
        rw [hnmE]
        obtain ⟨x, hx, e⟩ := List.mem_map.1 (List.getElem_mem hil)
        rw [← e]
        exact hnm x hx
      have c0 : wr.cell? ⟨g, i, none⟩ = some (.string (ofBytes nm)) := (hB2.cell (p := ⟨g, i, none⟩) hg2).trans hcl
      have HUR := Lib.hid (HB.out.trans (hB2.mono HB.out.size))
      have hNr : N < wr.heap.size := Nat.lt_of_lt_of_le (Array.getElem?_eq_some_iff.1 HB1.out).1 HUR.out.size
      have hsr : s < wr.heap.size := Nat.lt_trans HSL.out hNr
      have hNU : N < U.heap.size := (Array.getElem?_eq_some_iff.1 HB1.out).1
      have hbv := pl1 wr (.cells #[.string (ofBytes nm)] 9)
      have HV := Lib.hid (HUR.out.trans (hbv.mono HUR.out.size))
      have d0 : (wr.alloc (.cells #[.string (ofBytes nm)] 9)).cell? ⟨N, 0, none⟩ = some (.pointer (some ⟨s, 0, none⟩)) := (HV.out.cell (p := ⟨N, 0, none⟩) hNU).trans (cell_of_cells HB1.out rfl)
      have d1 : (wr.alloc (.cells #[.string (ofBytes nm)] 9)).cell? ⟨s, 1, none⟩ = some (.int .i64 (f : Int)) := (HV.out.cell (p := ⟨s, 1, none⟩) (Nat.lt_trans HSL.out hNU)).trans HZ0.out.2.1
      have d2 : (wr.alloc (.cells #[.string (ofBytes nm)] 9)).cell? ⟨s, 2, none⟩ = some (.slice A n cp) := (HV.out.cell (p := ⟨s, 2, none⟩) (Nat.lt_trans HSL.out hNU)).trans HZ0.out.2.2
      have d3 : (wr.alloc (.cells #[.string (ofBytes nm)] 9)).cell? ⟨wr.heap.size, 0, none⟩ = some (.string (ofBytes nm)) := cell_of_cells (heap_alloc_new wr _) rfl
      have HBX := Lib.hid (heap_alloc_new wr (.cells #[.string (ofBytes nm)] 9))
      have HST := Lib.hid (hst.later hbv)
      have HB2 := Lib.hid (hB2.trans (hbv.mono hB2.size))
      have HWV : Hid (Below w.heap.size w (wr.alloc (.cells #[.string (ofBytes nm)] 9))) := Lib.hid (HBW.out.trans (HV.out.mono HBW.out.size))
      have HNV : Hid (w1.heap.size ≤ wr.heap.size) := Lib.hid hB2.size
      have HFIL := Lib.hid hfil
      have HNM := Lib.hid hnmE
      have HKN := Lib.hid hkn
      clear hcl hnmE hkn hbv hst hB2 hfil hg1 hg2 hNU hNr hsr HUR
      go_wp2
      obtain ⟨B, hB⟩ : ∃ B, B = wr.heap.size := ⟨_, rfl⟩
      rw [← hB] at d3 HBX HNV ⊢
      clear hB
      generalize wr.alloc (.cells #[.string (ofBytes nm)] 9) = V at d0 d1 d2 d3 HBX HST HB2 HV HWV ⊢
      have R1 := Lib.hid (fun W (hK : W.cell? ⟨N, 0, none⟩ = some (.pointer (some ⟨s, 0, none⟩)) ∧ W.cell? ⟨s, 1, none⟩ = some (.int .i64 (f : Int)) ∧ W.cell? ⟨s, 2, none⟩ = some (.slice A n cp) ∧ W.cell? ⟨B, 0, none⟩ = some (.string (ofBytes nm)) ∧ Below V.heap.size V W) =>
        drops_any L S f n cp A segs nm HKN.out hL hS hf hs hn W (HIV.out.later (HWV.out.trans (hK.2.2.2.2.mono HWV.out.size))))
      obtain ⟨dr, hdr⟩ : ∃ x, x = dropB f segs nm := ⟨_, rfl⟩
      rw [← hdr] at R1
      have HDR := Lib.hid hdr
      clear hdr
      go_region_held3 (fun W => W.cell? ⟨N, 0, none⟩ = some (.pointer (some ⟨s, 0, none⟩)) ∧ W.cell? ⟨s, 1, none⟩ = some (.int .i64 (f : Int)) ∧ W.cell? ⟨s, 2, none⟩ = some (.slice A n cp) ∧ W.cell? ⟨B, 0, none⟩ = some (.string (ofBytes nm)) ∧ Below V.heap.size V W)
        ((first | exact Kp.c4 hb (by assumption) | exact Kp.d4 d0 d1 d2 d3 | go_keep))
        (first
          | (go_at_call 100; ((with_reducible refine (R1.out _ (by assumption)).mono ?_); rintro e wq ⟨rfl, hb⟩)))
      all_goals
        have hwq : wq.cell? ⟨N, 0, none⟩ = some (.pointer (some ⟨s, 0, none⟩)) ∧ wq.cell? ⟨s, 1, none⟩ = some (.int .i64 (f : Int)) ∧ wq.cell? ⟨s, 2, none⟩ = some (.slice A n cp) ∧ wq.cell? ⟨B, 0, none⟩ = some (.string (ofBytes nm)) ∧ Below V.heap.size V wq := by assumption
        have HQ := Lib.hid hwq.2.2.2.2
        have HSQ := Lib.hid (HST.out.later HQ.out)
        have HBQ := Lib.hid (blk_stay HQ.out HBX.out)
        have HB3 := Lib.hid (HB2.out.trans (HQ.out.mono HB2.out.size))
        have HN3 : Hid (w1.heap.size ≤ wq.heap.size) := Lib.hid (by
          have h1 := HNV.out
          have h2 := (Array.getElem?_eq_some_iff.1 HBQ.out).1
          omega)
        have htake : (k.fs.map (·.1)).take (i + 1) = (k.fs.map (·.1)).take i ++ [nm] := by rw [HNM.out]; exact List.take_succ_eq_append_getElem hil
        have HTK := Lib.hid htake
        have hlen : Ls.length ≤ 64 := by
          have h1 := congrArg List.length HFIL.out
          rw [List.length_map] at h1
          have h2 := List.length_filter_le (dropB f segs) ((k.fs.map (·.1)).take i)
          rw [List.length_take] at h2
          omega
        clear hwq hb htake d0 d1 d2 d3 c0 R1 HST HBX HB2 HV HWV
        cases dr with
        | false =>
          go_wp2
          go_roundw
          case rel => exact ⟨i + 1, Ls, by go_num, by omega, HB3.out, HSQ.out, by rw [HTK.out, List.filter_append, List.filter_cons, ← HDR.out]; simpa using HFIL.out⟩
          case measure => simp [intOf]; omega
        | true =>
          obtain ⟨A3, cp3, hv3⟩ := row_shape HSQ.out.row
          rw [hv3] at HSQ ⊢
          clear hv3
          have hbz := pl1 wq (.cells #[stepV N (nm, B)] 57)
          have HS4 := Lib.hid (HSQ.out.later hbz)
          have HB4 := Lib.hid (blk_stay hbz HBQ.out)
          have HX4 := Lib.hid (heap_alloc_new wq (.cells #[stepV N (nm, B)] 57))
          have HB5 := Lib.hid (HB3.out.trans (hbz.mono HB3.out.size))
          have HN4 : Hid (w1.heap.size ≤ (wq.alloc (.cells #[stepV N (nm, B)] 57)).heap.size) := Lib.hid (Nat.le_trans HN3.out hbz.size)
          clear hbz HSQ HBQ HB3 HN3 HQ
          unfold stepV at HX4
          go_wp2_with (at_builtin; refine wpList_append_one funcTy rfl _ _ rfl w1.heap.size _ _ _ rfl HS4.out.row _ _ [stepV N (nm, B)] rfl rfl (fun j u hu => ?_) ?_ HN4.out (by omega) ?_; rotate_left 2; intro v' w5 hr5 hg5 _)
          · exact ⟨⟨i + 1, Ls ++ [(nm, B)], by go_num, by omega, HB5.out.grown hg5 HB5.out.size (fun g hg => (World.ownsRow.lt HS4.out.row g hg).1), HS4.out.more HB4.out HNV.out hr5 hg5, by rw [HTK.out, List.filter_append, List.filter_cons, ← HDR.out, List.map_append, HFIL.out]; simp⟩, by simp [intOf]; omega⟩
          · match j, hu with
            | 0, hu => 
              have e : stepV N (nm, B) = u := by simpa using hu
              rw [← e]
              exact rfl
          · exact rfl
    · have hmi : ¬ (i : Int) < (ns' : Int) := by omega
      obtain rfl : i = ns' := by omega
      have hall : Ls.map (·.1) = dropped k.fs f segs := by
        rw [hfil, HNS.out, List.take_length]
        rfl
      have hlen : Ls.length ≤ 64 := by
        have h1 := congrArg List.length hall
        rw [List.length_map] at h1
        have h2 := List.length_filter_le (dropB f segs) (k.fs.map (·.1))
        have h3 := HNS.out
        unfold dropped at h1
        omega
      have HUR := Lib.hid (HB.out.trans (hB2.mono HB.out.size))
      have HWR := Lib.hid (HBW.out.trans (HUR.out.mono HBW.out.size))
      have hIr := HI.out.later HWR.out
      have hnF : ∀ b, w.heap.size ≤ b → ¬ Fd b := fun b hb hF => by have := HI.out.lt b hF; omega
      have hNU : N < U.heap.size := (Array.getElem?_eq_some_iff.1 HB1.out).1
      have hNw : w.heap.size ≤ w1.heap.size := Nat.le_trans HBW.out.size HB.out.size
      have e0 : wr.cell? ⟨N, 0, none⟩ = some (.pointer (some ⟨s, 0, none⟩)) := (HUR.out.cell (p := ⟨N, 0, none⟩) hNU).trans (cell_of_cells HB1.out rfl)
      have e1 : wr.cell? ⟨s, 0, none⟩ = some (.pointer (some ⟨d, 0, none⟩)) := (HUR.out.cell (p := ⟨s, 0, none⟩) (Nat.lt_trans HSL.out hNU)).trans HZ0.out.1
      have HE : Hid (Calls Tryz.prog 29 #[u3] wr (DoesK w Fd d k fun k => clr k f segs)) := Lib.hid (by
        have hfin : ∀ e w', DoesK wr Fd d k (remAll (Ls.map (·.1))) e w' → DoesK w Fd d k (fun k => clr k f segs) e w' := fun e w' hd => by
          rw [hall] at hd
          exact DoesK.on hd HWR.out
        rcases row_form hst.row with ⟨e, h0⟩ | ⟨g, cap, e, _, hg1, hg2, hg3⟩
        · have hnil : Ls = [] := List.eq_nil_of_length_eq_zero h0
          rw [e]
          refine (inorder_none wr (fun W => Vd.Went wr W Fd d k) (fun _ _ => False) (Vd.Went.same hIr (Below.refl _ _))).mono ?_
          rintro e' w' (⟨rfl, hp⟩ | ⟨c, _, _, hq⟩)
          · exact hfin _ _ (by rw [hnil]; exact ⟨rfl, hp⟩)
          · exact hq.elim
        · rw [e]
          refine (clear_in wr Fd N g cap s d k Ls e0 e1 (fun p hp => ?_) hg3 (hnF _ (by have := HNE.out; omega)) (hnF _ (by omega)) ns hIr (by omega) he).mono hfin
          obtain ⟨q1, q2⟩ := hst.box p hp
          refine ⟨cell_of_cells q1 rfl, hnF _ (by omega), ?_⟩
          have hm : p.1 ∈ dropped k.fs f segs := by rw [← hall]; exact List.mem_map.2 ⟨p, hp, rfl⟩
          obtain ⟨x, hx, ex⟩ := List.mem_map.1 (List.mem_filter.1 hm).1
          have := (HI.out.ok.names x hx).2
          rw [ex] at this
          omega)
      clear hall hlen HUR HWR hIr hnF hNU hNw e0 e1 hst hfil hB2
      go_wp2_with fail
      refine HE.out.mono ?_
      rintro e w2 ⟨rfl, hd⟩
      have HD := Lib.hid hd
      clear hd
      go_wp2
      go_ret
      exact ⟨rfl, HD.out⟩
end Go.Proofs.YtddnnhfffmhpmaaGreatDoor.St

/- Bytes: a frame, a manifest; numbers of segments. -/
namespace Go.Proofs.YtddnnhfffmhpmaaGreatDoor.St
open Go.RowKit Go.Proofs.YtddnnhfffmhpmaaGreatDoor DocM StoM

theorem ssure_any (s : ByteArray) (c : Int) (w : World) : Calls Tryz.prog 86 #[.string s, .int .i64 c] w fun e w' => e = .returned (.string s) ∧ w = w' := by
  go_enter Tryz.func86, Tryz.ntmps86
  go_wp2
  go_ret
  exact ⟨rfl, rfl⟩
theorem sealed_len (l : List UInt8) : (CrcM.sealed l).length = l.length + 4 := by simp [CrcM.sealed, CrcM.le4]
theorem seal_bytes (l : List UInt8) (hl : l.length ≤ 100000000) (w : World) : Calls Tryz.prog 85 #[.string (ofBytes l)] w fun e w' => e = .returned (.string (ofBytes (CrcM.sealed l))) ∧ Below w.heap.size w w' := by
  have := Seal_any (ofBytes l) w (by rw [size_ofBytes]; exact hl)
  rw [ofBytes_list] at this
  exact this
set_option maxHeartbeats 800000 in
set_option maxRecDepth 100000 in
theorem frame_any (c : Ch) (w : World) (hc : rightC c = 0) : Calls Tryz.prog 51 #[.string (ofBytes (prB c))] w fun e w' => e = .returned (.string (ofBytes (frameB c))) ∧ Below w.heap.size w w' := by
  have hl := Do.prB_len hc
  have hsl := sealed_len (prB c)
  have HS := Lib.hid (seal_bytes (prB c) (by omega) w)
  have HV := Lib.hid (fun W => varint_any ((CrcM.sealed (prB c)).length : Nat) W (by omega) (by omega))
  have hvl := varB_len ((CrcM.sealed (prB c)).length : Nat) (by omega)
  have ha := fun W => Do.str_add (P := Tryz.prog) (varB ((CrcM.sealed (prB c)).length : Nat)) (CrcM.sealed (prB c)) (by omega) (by omega) W
  have hsz : ((ofBytes (CrcM.sealed (prB c))).size : Int) = ((CrcM.sealed (prB c)).length : Nat) := by rw [size_ofBytes]
  unfold frameB
  generalize varC ((CrcM.sealed (prB c)).length : Nat) = vc at HV
  generalize varB ((CrcM.sealed (prB c)).length : Nat) = v at HV ha ⊢
  rw [← hsz] at HV
  clear hl hsl hvl hsz hc
  generalize ofBytes (v ++ CrcM.sealed (prB c)) = r at ha ⊢
  generalize ofBytes v = u at HV ha
  generalize ofBytes (CrcM.sealed (prB c)) = t at HS HV ha
  generalize ofBytes (prB c) = q at HS ⊢
  go_enter Tryz.func51, Tryz.ntmps51
  go_wp2_with fail
  refine HS.out.mono ?_
  rintro e w1 ⟨rfl, hb⟩
  have HB := Lib.hid hb
  clear hb
  go_wp2_with fail
  refine (HV.out w1).mono ?_
  rintro e w2 ⟨rfl, hb⟩
  have HB2 := Lib.hid (HB.out.trans (hb.mono HB.out.size))
  clear hb
  go_wp2_with fail
  refine (ssure_any _ _ _).mono ?_
  rintro e w3 ⟨rfl, rfl⟩
  go_wp2
  go_ret
  exact ⟨rfl, HB2.out⟩
/-! ### segments -/
theorem last_ivs {w : World} {A : Option Addr} {n : Nat} {l : List Nat} (h : Ivs w A n (l.map Int.ofNat)) (hn : 0 < n) : ∃ b o, A = some ⟨b, o, none⟩ ∧ b < w.heap.size ∧ ∃ x : Nat, l.getLast? = some x ∧ w.cell? ⟨b, o + (n - 1), none⟩ = some (.int .i64 (x : Int)) := by
  have hl := h.1
  rw [List.length_map] at hl
  obtain ⟨b, o, e, hb, hc⟩ := h.2 (n - 1) (by rw [List.length_map]; omega)
  refine ⟨b, o, e, hb, l[n - 1]'(by omega), ?_, ?_⟩
  · rw [List.getLast?_eq_getElem?, List.getElem?_eq_getElem (by omega)]
    congr 2
    omega
  · rw [hc, List.getElem_map]
    rfl
set_option maxHeartbeats 800000 in
set_option maxRecDepth 100000 in
theorem lastseg_any (f : Int) (A : Option Addr) (n cp : Nat) (l : List Nat) (x : Nat) (w : World) (hI : Ivs w A n (l.map Int.ofNat)) (hx : l.getLast? = some x) (hn : n ≤ 1000000) :
    Calls Tryz.prog 66 #[.agg #[.int .i64 f, .slice A n cp]] w fun e w' => e = .returned (.int .i64 (x : Int)) ∧ Below w.heap.size w w' := by
  have hn0 : 0 < n := by
    have h1 := hI.1
    rw [List.length_map] at h1
    cases l with
    | nil => cases hx
    | cons a t => simp at h1; omega
  obtain ⟨b, o, rfl, hb, y, hy, hc⟩ := last_ivs hI hn0
  rw [hx] at hy
  injection hy with hy
  subst hy
  have hb1 := pl1 w (.cells #[.int .i64 f, .slice (some ⟨b, o, none⟩) n cp] 76)
  have c0 := (hb1.cell (p := ⟨b, o + (n - 1), none⟩) hb).trans hc
  have hw : IntKind.i64.wrap ((n : Int) - 1) = ((n - 1 : Nat) : Int) := by rw [IntKind.wrap_i64]; omega
  obtain ⟨m, hm⟩ : ∃ m, m = n - 1 := ⟨_, rfl⟩
  have hmn : m < n := by omega
  rw [← hm] at c0 hw
  have HB1 := Lib.hid hb1
  have hmi : (m : Int) < (n : Int) := by omega
  have hm0 : (0 : Int) ≤ (m : Int) := by omega
  have e1 : (n : Int) - 1 = (m : Int) := by omega
  clear hm hb1 hc hI hx
  go_enter Tryz.func66, Tryz.ntmps66
  go_wp2
  go_ret
  exact ⟨rfl, HB1.out⟩
end Go.Proofs.YtddnnhfffmhpmaaGreatDoor.St

/- The next segment's number; a manifest's bytes. -/
namespace Go.Proofs.YtddnnhfffmhpmaaGreatDoor.St
open Go.RowKit Go.Proofs.YtddnnhfffmhpmaaGreatDoor DocM StoM

def nextN (l : List Nat) : Nat := match l.getLast? with | none => 0 | some n => n + 1
theorem nextN_eq (g : Gst) : nextSeg g = nextN (segNos g) := rfl
set_option maxHeartbeats 800000 in
set_option maxRecDepth 100000 in
theorem nextseg_any (f : Int) (A : Option Addr) (n cp : Nat) (l : List Nat) (w : World) (hI : Ivs w A n (l.map Int.ofNat)) (hl : ∀ x ∈ l, x < 100) (hn : n ≤ 1000000) :
    Calls Tryz.prog 41 #[.agg #[.int .i64 f, .slice A n cp]] w fun e w' => e = .returned (.int .i64 (nextN l : Int)) ∧ Below w.heap.size w w' := by
  have hb1 := pl1 w (.cells #[.int .i64 f, .slice A n cp] 76)
  cases hg : l.getLast? with
  | none =>
    have e : l = [] := List.getLast?_eq_none_iff.1 hg
    have hn0 : n = 0 := by rw [← hI.1, e]; rfl
    have hx : nextN l = 0 := by unfold nextN; rw [hg]
    rw [hx]
    subst hn0
    have HB1 := Lib.hid hb1
    clear hb1 hI hl hg hx e
    go_enter Tryz.func41, Tryz.ntmps41
    go_wp2
    go_ret
    exact ⟨rfl, HB1.out⟩
  | some x =>
    have hx : nextN l = x + 1 := by unfold nextN; rw [hg]
    have hx1 := hl x (List.mem_of_getLast? hg)
    have hn0 : ((n : Int) == 0) = false := by
      have h1 := hI.1
      rw [List.length_map] at h1
      cases l with
      | nil => cases hg
      | cons a t => simp at h1; simp; omega
    rw [hx]
    have HL := Lib.hid (lastseg_any f A n cp l x _ (hI.later hb1) hg hn)
    have HB1 := Lib.hid hb1
    clear hb1 hI hl hg hx
    go_enter Tryz.func41, Tryz.ntmps41
    go_wp2_with fail
    refine HL.out.mono ?_
    rintro e w1 ⟨rfl, hb⟩
    have HB2 := Lib.hid (HB1.out.trans (hb.mono HB1.out.size))
    clear hb
    go_wp2
    go_ret
    exact ⟨by go_num, HB2.out⟩
theorem rises_nat : ∀ (l : List Nat) (last : Int), (∀ x ∈ l, last < (x : Int)) → l.Pairwise (· < ·) → PackM.rises last (l.map Int.ofNat) = true
  | [], _, _, _ => rfl
  | a :: t, last, h1, h2 => by
    obtain ⟨h3, h4⟩ := List.pairwise_cons.1 h2
    rw [List.map_cons, PackM.rises, rises_nat t _ (fun x hx => by have := h3 x hx; show (a : Int) < x; omega) h4]
    have := h1 a List.mem_cons_self
    simpa using this
theorem ris_segs {l : List Nat} (h : l.Pairwise (· < ·)) : risC (l.map Int.ofNat) = 0 := by
  unfold risC
  rw [if_pos (rises_nat l (-1) (fun x _ => by omega) h)]
set_option maxHeartbeats 2000000 in
set_option maxRecDepth 100000 in
theorem manprint_any (f n cp : Nat) (A : Option Addr) (l : List Nat) (w : World) (hI : Ivs w A n (l.map Int.ofNat)) (hr : l.Pairwise (· < ·)) (hl : ∀ x ∈ l, x < 100) (hn : n ≤ 1000) (hf : f ≤ 1000000) :
    Calls Tryz.prog 67 #[.agg #[.int .i64 (f : Int), .slice A n cp]] w fun e w' => e = .returned (.tuple #[.string (ofBytes (manB f l)), .bool true]) ∧ Below w.heap.size w w' := by
  have hb1 := pl1 w (.cells #[.int .i64 (f : Int), .slice A n cp] 76)
  have h64 : I64 (l.map Int.ofNat) := fun v hv => by
    obtain ⟨x, hx, rfl⟩ := List.mem_map.1 hv
    have := hl x hx
    simp
    omega
  have hll : (l.map Int.ofNat).length ≤ 1000 := by rw [hI.1]; exact hn
  have HR := Lib.hid (rising_any A n cp (l.map Int.ofNat) _ (by omega) (hI.later hb1) h64)
  have hrl := risS_len (l.map Int.ofNat) hll h64
  rw [ris_segs hr] at HR
  have HV := Lib.hid (fun W => varint_any (f : Nat) W (by omega) (by omega))
  have hvl := varB_len (f : Nat) (by omega)
  have HX : Hid (manB f l = CrcM.sealed (varB (f : Nat) ++ risS (l.map Int.ofNat))) := Lib.hid rfl
  obtain ⟨s0, hs0⟩ : ∃ x, x = risS (l.map Int.ofNat) := ⟨_, rfl⟩
  obtain ⟨s1, hs1⟩ : ∃ x, x = varB (f : Nat) := ⟨_, rfl⟩
  rw [← hs0] at HR HX hrl
  rw [← hs1] at HV HX hvl
  have ha := fun W => Do.str_add (P := Tryz.prog) s1 s0 (by omega) (by omega) W
  have HS := Lib.hid (fun W => seal_bytes (s1 ++ s0) (by rw [List.length_append]; omega) W)
  have hd1 : decide ((1073741824 : Int) < (f : Int)) = false := decide_eq_false (by omega)
  have hd2 : decide ((1048576 : Int) < (n : Int)) = false := decide_eq_false (by omega)
  rw [HX.out]
  generalize CrcM.sealed (s1 ++ s0) = r at HS ⊢
  generalize s1 ++ s0 = t at ha HS
  generalize varC (f : Nat) = vc at HV
  have HB1 := Lib.hid hb1
  have hB0 : (w.alloc (.cells #[.int .i64 (f : Int), .slice A n cp] 76)).heap[w.heap.size]? = some (.cells #[.int .i64 (f : Int), .slice A n cp] 76 (0, 0)) := heap_alloc_new w _
  have HB0 := Lib.hid hB0
  clear hs0 hs1 hrl hvl h64 hll hI hr hl hb1 hB0 HX
  go_enter Tryz.func67, Tryz.ntmps67
  go_wp2_with fail
  refine HR.out.mono ?_
  rintro e w1 ⟨rfl, hb⟩
  have c0 : w1.cell? ⟨w.heap.size, 0, none⟩ = some (.int .i64 (f : Int)) := cell_of_cells (blk_stay hb HB0.out) rfl
  have c1 : w1.cell? ⟨w.heap.size, 1, none⟩ = some (.slice A n cp) := cell_of_cells (blk_stay hb HB0.out) rfl
  have HB2 := Lib.hid (HB1.out.trans (hb.mono HB1.out.size))
  clear hb HB0
  go_wp2_with fail
  refine (HV.out w1).mono ?_
  rintro e w2 ⟨rfl, hb⟩
  have HB3 := Lib.hid (HB2.out.trans (hb.mono HB2.out.size))
  clear hb c0 c1
  go_wp2_with fail
  refine (ssure_any _ _ _).mono ?_
  rintro e w3 ⟨rfl, rfl⟩
  go_wp2_with fail
  refine (HS.out _).mono ?_
  rintro e w4 ⟨rfl, hb⟩
  have HB4 := Lib.hid (HB3.out.trans (hb.mono HB3.out.size))
  clear hb
  go_wp2
  go_ret2
  exact ⟨rfl, HB4.out⟩
end Go.Proofs.YtddnnhfffmhpmaaGreatDoor.St

/- A segment's bytes. -/
namespace Go.Proofs.YtddnnhfffmhpmaaGreatDoor.St
open Go.RowKit Go.Proofs.YtddnnhfffmhpmaaGreatDoor DocM StoM Do

theorem strTy : RowTy 9 137 (.string ⟨#[]⟩) 1 16 := ⟨by kernel_rfl, Tryz.underlying137, rfl, by decide, by decide⟩
theorem joinX : Builder.Extra Tryz.prog joinL_ren where
  sizeBuilder := by kernel_rfl
  liesBuilder := by kernel_rfl
  t5 := Tryz.underlying5
  a5 := Tryz.isAgg5
  z5 := Tryz.sizeOf5
  v5 := Tryz.zeroValue5
  infoByte := by kernel_rfl
  cellsByte := by kernel_rfl
  sizeByte := by kernel_rfl
  neB5 := by decide
def strV (x : List UInt8) : Value := .string (ofBytes x)
theorem join_none (xs : List (List UInt8)) : Lib.join xs [] = xs.flatten := by
  induction xs with
  | nil => rfl
  | cons x r ih =>
    cases r with
    | nil => simp [Lib.join_one]
    | cons y t =>
      rw [Lib.join_cons]
      simp [Lib.joinTail]
theorem join_any (w : World) (base : Nat) (v : Value) (xs : List (List UInt8)) (h : w.ownsRow base 9 1 v xs.length (xs.map strV)) (hn : xs.length ≤ 1000000) (hl : xs.flatten.length ≤ 140737488355328) :
    Calls Tryz.prog 103 #[v, .string ⟨#[]⟩] w fun e w' => e = .returned (.string (ofBytes xs.flatten)) ∧ Below w.heap.size w w' := by
  rcases row_form h with ⟨rfl, h0⟩ | ⟨g, cap, rfl, h1, _, h2, h3⟩
  · have e : xs = [] := List.eq_nil_of_length_eq_zero h0
    subst e
    refine (Any.strings_Join_none joinL joinX none 0 ⟨#[]⟩ w).mono ?_
    rintro e w' ⟨rfl, rfl⟩
    exact ⟨rfl, Below.refl _ _⟩
  · have hm : (xs.map ofBytes).map (·.data.toList) = xs := by
      rw [List.map_map]
      conv => rhs; rw [← List.map_id xs]
      exact List.map_congr_left fun x _ => ofBytes_list x
    have := Any.strings_Join joinL joinX g 0 cap (xs.map ofBytes) ⟨#[]⟩ w (fun j x hx => by
      rw [Nat.zero_add]
      refine h3 j _ ?_
      rw [List.getElem?_map] at hx ⊢
      cases hg : xs[j]? with
      | none => rw [hg] at hx; cases hx
      | some y => rw [hg] at hx; simp only [Option.map_some, Option.some.injEq] at hx ⊢; rw [← hx]; rfl) h2 (by rw [List.length_map]; omega) (by rw [List.length_map]; exact h1) (by rw [hm]; show (Lib.join xs []).length ≤ _; rw [join_none]; exact hl)
    rw [hm, List.length_map] at this
    have e : (⟨#[]⟩ : ByteArray).data.toList = [] := rfl
    rw [e, join_none] at this
    exact this
theorem prs_len : ∀ (l : Chs), (∀ c ∈ l, rightC c = 0) → (l.map prB).flatten.length ≤ 60000 * l.length
  | [], _ => by simp
  | c :: t, h => by
    have h1 := Do.prB_len (h c List.mem_cons_self)
    have h2 := prs_len t fun x hx => h x (List.mem_cons_of_mem _ hx)
    rw [List.map_cons, List.flatten_cons, List.length_append, List.length_cons]
    omega
/-- what stands ahead of the loop, and in it -/
def partsL (l : Chs) (i : Nat) : List (List UInt8) := varB (l.length : Nat) :: (l.take i).map prB
theorem parts_len (l : Chs) (i : Nat) (h : i ≤ l.length) : (partsL l i).length = i + 1 := by simp [partsL]; omega
theorem parts_next (l : Chs) (i : Nat) (h : i < l.length) : partsL l (i + 1) = partsL l i ++ [prB l[i]] := by
  unfold partsL
  rw [List.take_succ_eq_append_getElem h, List.map_append, List.cons_append]
  rfl
theorem parts_all (l : Chs) : (partsL l l.length).flatten = segT l := by
  unfold partsL segT
  rw [List.take_length, List.flatten_cons, List.flatMap_def]
set_option maxHeartbeats 4000000 in
set_option maxRecDepth 100000 in
theorem segprint_any (w : World) (F : Nat → Prop) (b : Nat) (l : Chs) (h : MapAt w F b l) (hr : ∀ c ∈ l, rightC c = 0) (hl : l.length ≤ 1000) :
    Calls Tryz.prog 70 #[.map (some b)] w fun e w' => e = .returned (.string (ofBytes (segB l))) ∧ Below w.heap.size w w' := by
  have hlen := len_run h
  have HV := Lib.hid (varint_any (l.length : Nat) w (by omega) (by omega))
  have hvl := varB_len (l.length : Nat) (by omega)
  have hp := prs_len l hr
  obtain ⟨v0, hv0⟩ : ∃ x, x = varB (l.length : Nat) := ⟨_, rfl⟩
  have HV0 := Lib.hid hv0
  rw [← hv0] at HV hvl
  generalize varC (l.length : Nat) = vc at HV
  have HM := Lib.hid h
  have HR := Lib.hid hr
  have HP := Lib.hid hp
  have HVL := Lib.hid hvl
  obtain ⟨n, hn⟩ : ∃ n, n = l.length := ⟨_, rfl⟩
  have HN := Lib.hid hn
  rw [← hn] at hlen HV
  have hn1 : n ≤ 1000 := by omega
  clear h hr hp hvl hv0 hn hl
  go_enter Tryz.func70, Tryz.ntmps70
  go_wp2_with fail
  refine HV.out.mono ?_
  rintro e w1 ⟨rfl, hb⟩
  have HB := Lib.hid hb
  clear hb
  go_wp2_with fail
  refine (ssure_any _ _ _).mono ?_
  rintro e w2 ⟨rfl, rfl⟩
  go_wp2_with fail
  have hx := heap_alloc_new w1 (.cells #[.string (ofBytes v0)] 9)
  have hbx := pl1 w1 (.cells #[.string (ofBytes v0)] 9)
  have HROW : Hid ((w1.alloc (.cells #[.string (ofBytes v0)] 9)).ownsRow w1.heap.size 9 1 (.slice (some ⟨w1.heap.size, 0, none⟩) 1 1) 1 ((partsL l 0).map strV)) := Lib.hid ⟨rfl, .inr ⟨w1.heap.size, 1, #[.string (ofBytes v0)], rfl, Nat.le_refl _, hx, Nat.le_refl _, by simp [maxLen], rfl, by rw [HV0.out]; rfl⟩⟩
  have HB1 := Lib.hid (HB.out.trans (hbx.mono HB.out.size))
  have HM1 := Lib.hid (HM.out.later HB1.out)
  have HX1 : Hid (w1.heap.size < (w1.alloc (.cells #[.string (ofBytes v0)] 9)).heap.size) := Lib.hid (by simp)
  have HW1 := Lib.hid HB.out.size
  obtain ⟨g0, hg0⟩ : ∃ g0, g0 = w1.heap.size := ⟨_, rfl⟩
  rw [← hg0] at HROW HX1 HW1 ⊢
  clear hx hbx HB hg0
  generalize w1.alloc (.cells #[.string (ofBytes v0)] 9) = U at HROW HB1 HM1 HX1 ⊢
  refine (dkeys_any (some b) U).mono ?_
  rintro e w2 ⟨rfl, rfl⟩
  go_wp2_with fail
  refine (dsorted_map U F b l HM1.out (by rw [← HN.out]; omega)).mono ?_
  rintro e w3 ⟨A, cp, rfl, hrow, hb⟩
  rw [← HN.out] at hrow ⊢
  have HIV : Hid (w3.ownsRow U.heap.size 3 1 (.slice A n cp) (l.map (·.doc)).length ((l.map (·.doc)).map iv)) := Lib.hid hrow
  have HR3 := Lib.hid (row_later HROW.out hb)
  have HB3 := Lib.hid (HB1.out.trans (hb.mono HB1.out.size))
  have HM3 := Lib.hid (HM1.out.later hb)
  have HX3 : Hid (g0 < w3.heap.size) := Lib.hid (Nat.lt_of_lt_of_le HX1.out hb.size)
  clear hrow hb HROW HM1 HB1 HX1
  go_wp2_with fail
  obtain ⟨dn, hdn⟩ : ∃ x, x = (l.map (·.doc)).length := ⟨_, rfl⟩
  rw [← hdn] at HIV
  clear hdn
  go_loopw [3, 17] (fun v x wr => ∃ i : Nat, x = .int .i64 i ∧ i ≤ n ∧ wr.ownsRow g0 9 1 v (i + 1) ((partsL l i).map strV) ∧ wr.ownsRow U.heap.size 3 1 (.slice A n cp) dn ((l.map (·.doc)).map iv) ∧ Below w.heap.size w wr ∧ g0 < wr.heap.size) (fun _ x _ => n - (intOf x).toNat)
  case atStart => exact ⟨0, rfl, Nat.zero_le _, HR3.out, HIV.out, HB3.out, HX3.out⟩
  case round =>
    obtain ⟨i, rfl, hin, hrow, hdocs, hB, hg⟩ := hrel
    by_cases hlt : i < n
    · have hmi : (i : Int) < (n : Int) := by omega
      have hil : i < l.length := by rw [← HN.out]; exact hlt
      obtain ⟨c, hcE⟩ : ∃ c, c = l[i] := ⟨_, rfl⟩
      have hc0 := HR.out l[i] (List.getElem_mem hil)
      rw [← hcE] at hc0
      have hdocl : (l.map (·.doc))[i]? = some c.doc := by rw [List.getElem?_map, List.getElem?_eq_getElem hil, hcE]; rfl
      have hcell : ∃ g, A = some ⟨g, 0, none⟩ ∧ wr.cell? ⟨g, i, none⟩ = some (.int .i64 c.doc) := by
        rcases row_form hdocs with ⟨e, h0⟩ | ⟨g, cap, e, _, _, _, h3⟩
        · have hl0 := hdocs.1
          rw [List.length_map, List.length_map, h0] at hl0
          omega
        · injection e with e
          exact ⟨g, e, h3 i _ (by rw [List.getElem?_map, hdocl]; rfl)⟩
      obtain ⟨g, rfl, hcell⟩ := hcell
      obtain ⟨D, T, ho, hrp, hri, hct⟩ := HM.out.later hB
      have hlk : lkC l c.doc = some c := by rw [hcE]; exact lk_of_mem hri (List.getElem_mem hil)
      have hlook := look_run ho hrp (n := c.doc) (by have := docok hc0; unfold DocOk at this; omega)
      have hC := hct c.doc c hlk
      unfold lkV at hlook
      rw [hlk] at hlook
      simp only at hlook
      obtain ⟨p1, n1, k1, p2, n2, k2, hT1, hV1⟩ := hC.shape
      rw [hT1, hV1] at hlook hC
      obtain ⟨A1, cp1, e1, hc1, _, hP⟩ := hC.t
      injection e1 with e1 e2 e3
      obtain ⟨A2, cp2, e4, hI⟩ := hC.v
      injection e4 with e4 e5 e6
      rw [← e1] at hP
      rw [← e4] at hI
      rw [← e2] at hP
      rw [← e5] at hI
      have hn1' : n1 ≤ 1000000000 := by
        have := (rgt_of hc0).len
        omega
      have HPR := Lib.hid (Do.print_any c p1 p2 n1 k1 n2 k2 wr hP hI hn1')
      unfold Do.prA at HPR
      rw [if_pos hc0, hc0] at HPR
      have HC := Lib.hid hcE
      have HROW := Lib.hid hrow
      have HDOC := Lib.hid hdocs
      have HBB := Lib.hid hB
      clear hc0 hcE hdocl ho hrp hri hct hlk hC hT1 hV1 e1 e4 e2 e3 e5 e6 hc1 hP hI hn1' hrow hdocs hB
      generalize chV c (.slice p1 n1 k1) (.slice p2 n2 k2) = cv at hlook HPR
      go_wp2_with fail
      refine HPR.out.mono ?_
      rintro e w4 ⟨rfl, hb⟩
      have HB4 := Lib.hid (HBB.out.trans (hb.mono HBB.out.size))
      have HR4 := Lib.hid (row_later HROW.out hb)
      have HD4 := Lib.hid (row_later HDOC.out hb)
      have HG4 : Hid (g0 < w4.heap.size) := Lib.hid (Nat.lt_of_lt_of_le hg hb.size)
      clear hb HROW HDOC HBB hlook hcell hg HPR
      go_wp2_with fail
      refine (ssure_any _ _ _).mono ?_
      rintro e w5 ⟨rfl, rfl⟩
      obtain ⟨A3, cp3, hv3⟩ := row_shape HR4.out
      rw [hv3] at HR4 ⊢
      clear hv3
      have hbz := pl1 w4 (.cells #[.string (ofBytes (prB c))] 9)
      have HX5 := Lib.hid (heap_alloc_new w4 (.cells #[.string (ofBytes (prB c))] 9))
      have HB5 := Lib.hid (HB4.out.trans (hbz.mono HB4.out.size))
      have HR5 := Lib.hid (row_later HR4.out hbz)
      have HD5 := Lib.hid (row_later HD4.out hbz)
      have HG5 : Hid (g0 < (w4.alloc (.cells #[.string (ofBytes (prB c))] 9)).heap.size) := Lib.hid (Nat.lt_of_lt_of_le HG4.out hbz.size)
      clear hbz HB4 HR4 HD4 HG4
      go_wp2_with (at_builtin; refine wpList_append_one strTy rfl _ _ rfl g0 _ _ _ rfl HR5.out _ _ [.string (ofBytes (prB c))] rfl rfl (fun j u hu => ?_) ?_ (Nat.le_of_lt HG5.out) (by omega) ?_; rotate_left 2; intro v' w6 hr6 hg6 _)
      · have hap : ∀ k, (Value.slice (some ⟨g, 0, none⟩) n cp).ownBlock = some k → (Value.slice A3 (i + 1) cp3).ownBlock ≠ some k := fun k hk => rows_apart HD5.out HR5.out (by decide) hk
        exact ⟨⟨i + 1, by go_num, by omega, by rw [parts_next l i hil, List.map_append, ← HC.out]; exact hr6, row_off HD5.out hg6 hap, HB5.out.grown hg6 HB5.out.size (fun k hk => Nat.le_trans HW1.out (World.ownsRow.lt HR5.out k hk).1), Nat.lt_of_lt_of_le HG5.out hg6.size⟩, by simp [intOf]; omega⟩
      · match j, hu with
        | 0, hu =>
          have e : Value.string (ofBytes (prB c)) = u := by simpa using hu
          rw [← e]
          exact cell_of_cells (i := 0) HX5.out rfl
      · intro u hu
        obtain rfl : u = Value.string (ofBytes (prB c)) := by simpa using hu
        rfl
    · have hmi : ¬ (i : Int) < (n : Int) := by omega
      have hiN : i = l.length := by rw [← HN.out]; omega
      have hrow' : wr.ownsRow g0 9 1 u3 (partsL l l.length).length ((partsL l l.length).map strV) := by
        rw [parts_len l l.length (Nat.le_refl _), ← hiN]
        exact hrow
      have hfl : (partsL l l.length).flatten.length ≤ 100000000 := by
        unfold partsL
        rw [List.take_length, List.flatten_cons, List.length_append, ← HV0.out]
        have h1 := HP.out
        have h2 := HVL.out
        have h3 := HN.out
        omega
      have HJ := Lib.hid (join_any wr g0 u3 (partsL l l.length) hrow' (by rw [parts_len l l.length (Nat.le_refl _), ← hiN]; omega) (by omega))
      have HS := Lib.hid (fun W => seal_bytes (partsL l l.length).flatten hfl W)
      rw [parts_all] at HJ HS
      have HX : Hid (segB l = CrcM.sealed (segT l)) := Lib.hid rfl
      generalize CrcM.sealed (segT l) = r at HS HX
      generalize segT l = t at HJ HS
      have HBB := Lib.hid hB
      clear hrow hdocs hB hg hrow' hfl hiN
      go_wp2_with fail
      refine HJ.out.mono ?_
      rintro e w4 ⟨rfl, hb⟩
      have HB4 := Lib.hid (HBB.out.trans (hb.mono HBB.out.size))
      clear hb
      go_wp2_with fail
      refine (HS.out _).mono ?_
      rintro e w5 ⟨rfl, hb⟩
      have HB5 := Lib.hid (HB4.out.trans (hb.mono HB4.out.size))
      clear hb
      go_wp2
      go_ret
      exact ⟨by rw [HX.out]; rfl, HB5.out⟩
end Go.Proofs.YtddnnhfffmhpmaaGreatDoor.St

/- The store in memory. -/
namespace Go.Proofs.YtddnnhfffmhpmaaGreatDoor.St
open Go.RowKit Go.Proofs.YtddnnhfffmhpmaaGreatDoor DocM StoM Do
open VdM

/-- where a store's parts lie: its object, its disk, the live, the settled, the new changes -/
structure Pl where
  s : Nat
  d : Nat
  ml : Nat
  ms : Nat
  mc : Nat
/-- what a store may turn -/
def fullF (p : Pl) (Fd : Nat → Prop) (b : Nat) : Prop := Fd b ∨ b = p.s ∨ b = p.ml ∨ b = p.ms ∨ b = p.mc
theorem full_more {p : Pl} {Fd Fd' : Nat → Prop} {N : Nat} (h : ∀ b, Fd' b → Fd b ∨ N ≤ b) : ∀ b, fullF p Fd' b → fullF p Fd b ∨ N ≤ b := fun b hb => by
  rcases hb with hb | hb
  · exact (h b hb).elim (fun x => .inl (.inl x)) .inr
  · exact .inl (.inr hb)
/-- what a store's object holds -/
def sCells (p : Pl) (f : Nat) (A : Option Addr) (n cp lg : Nat) (begun lost : Bool) : Array Value := #[.pointer (some ⟨p.d, 0, none⟩), .int .i64 (f : Int), .slice A n cp, .int .i64 (lg : Int), .bool begun, .map (some p.ml), .map (some p.ms), .map (some p.mc), .bool lost]
structure StAt (w : World) (Fd : Nat → Prop) (p : Pl) (k : Dsk) (f : Nat) (segs : List Nat) (lg : Nat) (begun lost : Bool) (lv st cm : Chs) : Prop where
  blk : ∃ A n cp, w.heap[p.s]? = some (.cells (sCells p f A n cp lg begun lost) 78 (0, 0)) ∧ Ivs w A n (segs.map Int.ofNat) ∧ Away (fullF p Fd) (.slice A n cp)
  disk : Vd.Is w Fd p.d k
  live : MapAt w (fullF p Fd) p.ml lv
  settled : MapAt w (fullF p Fd) p.ms st
  came : MapAt w (fullF p Fd) p.mc cm
  ns : ¬ Fd p.s
  nl : ¬ Fd p.ml
  nst : ¬ Fd p.ms
  nc : ¬ Fd p.mc
  ls : p.ml ≠ p.ms
  lc : p.ml ≠ p.mc
  sc : p.ms ≠ p.mc
section
variable {w w' U W : World} {Fd Fd0 : Nat → Prop} {p : Pl} {k k' : Dsk} {f : Nat} {segs : List Nat} {lg : Nat} {begun lost : Bool} {lv st cm : Chs}
theorem ivs_away {S : Nat → Prop} {A : Option Addr} {n cp : Nat} {l : List Int} (h : Ivs w A n l) (hT : Turned S w w') (ha : Away S (.slice A n cp)) : Ivs w' A n l := by
  refine ⟨h.1, fun k hk => ?_⟩
  obtain ⟨b, o, e, hb, hc⟩ := h.2 k hk
  have hn := ha A n cp rfl (by have := h.1; omega) _ e
  exact ⟨b, o, e, Nat.lt_of_lt_of_le hb hT.size, (hT.cell (p := ⟨b, o + k, none⟩) hb hn).trans hc⟩
theorem away_more {A : Option Addr} {n cp : Nat} {l : List Int} {F F' : Nat → Prop} (h : Ivs w A n l) (ha : Away F (.slice A n cp)) (hF : ∀ b, F' b → F b ∨ w.heap.size ≤ b) : Away F' (.slice A n cp) := fun A' n' cp' e hn a hA hb => by
  rcases hF _ hb with hb | hb
  · exact ha A' n' cp' e hn a hA hb
  · injection e with e1 e2
    obtain ⟨b, o, e4, hl, _⟩ := h.2 0 (by have := h.1; omega)
    rw [e1, hA] at e4
    injection e4 with e4
    rw [e4] at hb
    simp only at hb
    omega
theorem StAt.slt (h : StAt w Fd p k f segs lg begun lost lv st cm) : p.s < w.heap.size := by
  obtain ⟨A, n, cp, hb, _⟩ := h.blk
  exact (Array.getElem?_eq_some_iff.1 hb).1
theorem StAt.lt (h : StAt w Fd p k f segs lg begun lost lv st cm) : ∀ b, fullF p Fd b → b < w.heap.size := fun b hb => by
  rcases hb with hb | rfl | rfl | rfl | rfl
  · exact h.disk.lt b hb
  · exact h.slt
  · exact h.live.lt
  · exact h.settled.lt
  · exact h.came.lt
/-- the store's object is no map -/
theorem StAt.sm (h : StAt w Fd p k f segs lg begun lost lv st cm) : p.s ≠ p.ml ∧ p.s ≠ p.ms ∧ p.s ≠ p.mc := by
  obtain ⟨A, n, cp, hb, _⟩ := h.blk
  have hm : ∀ {b : Nat} {l : Chs}, MapAt w (fullF p Fd) b l → p.s ≠ b := fun {b l} hm e => by
    obtain ⟨D, T, ⟨es, clock, hx, _⟩, _⟩ := hm
    rw [← e, hb] at hx
    cases hx
  exact ⟨hm h.live, hm h.settled, hm h.came⟩
theorem StAt.later (h : StAt w Fd p k f segs lg begun lost lv st cm) (hb : Below w.heap.size w w') : StAt w' Fd p k f segs lg begun lost lv st cm := by
  obtain ⟨A, n, cp, h1, h2, h3⟩ := h.blk
  exact ⟨⟨A, n, cp, blk_stay hb h1, h2.later hb, h3⟩, h.disk.later hb, h.live.later hb, h.settled.later hb, h.came.later hb, h.ns, h.nl, h.nst, h.nc, h.ls, h.lc, h.sc⟩
/-- its disk has become another -/
theorem StAt.went (h : StAt w Fd p k f segs lg begun lost lv st cm) (hw : Vd.Went w w' Fd p.d k') : ∃ Fd', StAt w' Fd' p k' f segs lg begun lost lv st cm ∧ ∀ b, Fd' b → Fd b ∨ w.heap.size ≤ b := by
  obtain ⟨hT, Fd', hI, hF⟩ := hw
  obtain ⟨A, n, cp, h1, h2, h3⟩ := h.blk
  have hFF := full_more (p := p) hF
  have hS : ∀ b, Fd b → fullF p Fd b := fun b hb => .inl hb
  have hn : ∀ b, ¬ Fd b → b < w.heap.size → ¬ Fd' b := fun b h1 h2 h3 => (hF b h3).elim h1 (fun h => by omega)
  exact ⟨Fd', ⟨⟨A, n, cp, (hT.block p.s h.slt h.ns).trans h1, ivs_away h2 hT (h3.less hS), away_more h2 h3 hFF⟩, hI, h.live.turned hT h.nl hS hFF, h.settled.turned hT h.nst hS hFF, h.came.turned hT h.nc hS hFF, hn _ h.ns h.slt, hn _ h.nl h.live.lt, hn _ h.nst h.settled.lt, hn _ h.nc h.came.lt, h.ls, h.lc, h.sc⟩, hF⟩
/-- a cell of its object is turned -/
theorem StAt.set_ {f' : Nat} {segs' : List Nat} {lg' : Nat} {begun' lost' : Bool} (h : StAt w Fd p k f segs lg begun lost lv st cm) (hT : Turned (fun b => b = p.s) w w')
    (hb : ∃ A n cp, w'.heap[p.s]? = some (.cells (sCells p f' A n cp lg' begun' lost') 78 (0, 0)) ∧ Ivs w' A n (segs'.map Int.ofNat) ∧ Away (fullF p Fd) (.slice A n cp)) : StAt w' Fd p k f' segs' lg' begun' lost' lv st cm := by
  have hS : ∀ b, b = p.s → fullF p Fd b := fun b hb => .inr (.inl hb)
  have hsm := h.sm
  exact ⟨hb, h.disk.turned hT (fun b hb e => h.ns (by rw [← e]; exact hb)), h.live.turned hT (fun e => hsm.1 e.symm) hS (fun _ h => .inl h), h.settled.turned hT (fun e => hsm.2.1 e.symm) hS (fun _ h => .inl h), h.came.turned hT (fun e => hsm.2.2 e.symm) hS (fun _ h => .inl h), h.ns, h.nl, h.nst, h.nc, h.ls, h.lc, h.sc⟩
/-- its live documents are others -/
theorem StAt.lives {lv' : Chs} (h : StAt w Fd p k f segs lg begun lost lv st cm) (hT : Turned (fun b => b = p.ml) w w') (hm : MapAt w' (fullF p Fd) p.ml lv') : StAt w' Fd p k f segs lg begun lost lv' st cm := by
  have hS : ∀ b, b = p.ml → fullF p Fd b := fun b hb => .inr (.inr (.inl hb))
  obtain ⟨A, n, cp, h1, h2, h3⟩ := h.blk
  exact ⟨⟨A, n, cp, (hT.block p.s h.slt h.sm.1).trans h1, ivs_away h2 hT (h3.less hS), h3⟩, h.disk.turned hT (fun b hb e => h.nl (by rw [← e]; exact hb)), hm, h.settled.turned hT (fun e => h.ls e.symm) hS (fun _ h => .inl h), h.came.turned hT (fun e => h.lc e.symm) hS (fun _ h => .inl h), h.ns, h.nl, h.nst, h.nc, h.ls, h.lc, h.sc⟩
theorem StAt.settles {st' : Chs} (h : StAt w Fd p k f segs lg begun lost lv st cm) (hT : Turned (fun b => b = p.ms) w w') (hm : MapAt w' (fullF p Fd) p.ms st') : StAt w' Fd p k f segs lg begun lost lv st' cm := by
  have hS : ∀ b, b = p.ms → fullF p Fd b := fun b hb => .inr (.inr (.inr (.inl hb)))
  obtain ⟨A, n, cp, h1, h2, h3⟩ := h.blk
  exact ⟨⟨A, n, cp, (hT.block p.s h.slt h.sm.2.1).trans h1, ivs_away h2 hT (h3.less hS), h3⟩, h.disk.turned hT (fun b hb e => h.nst (by rw [← e]; exact hb)), h.live.turned hT h.ls hS (fun _ h => .inl h), hm, h.came.turned hT (fun e => h.sc e.symm) hS (fun _ h => .inl h), h.ns, h.nl, h.nst, h.nc, h.ls, h.lc, h.sc⟩
theorem StAt.comes {cm' : Chs} (h : StAt w Fd p k f segs lg begun lost lv st cm) (hT : Turned (fun b => b = p.mc) w w') (hm : MapAt w' (fullF p Fd) p.mc cm') : StAt w' Fd p k f segs lg begun lost lv st cm' := by
  have hS : ∀ b, b = p.mc → fullF p Fd b := fun b hb => .inr (.inr (.inr (.inr hb)))
  obtain ⟨A, n, cp, h1, h2, h3⟩ := h.blk
  exact ⟨⟨A, n, cp, (hT.block p.s h.slt h.sm.2.2).trans h1, ivs_away h2 hT (h3.less hS), h3⟩, h.disk.turned hT (fun b hb e => h.nc (by rw [← e]; exact hb)), h.live.turned hT h.lc hS (fun _ h => .inl h), h.settled.turned hT h.sc hS (fun _ h => .inl h), hm, h.ns, h.nl, h.nst, h.nc, h.ls, h.lc, h.sc⟩
/-- behind U nothing has turned but the store's own; it stands so in W -/
def At1 (U : World) (Fd0 : Nat → Prop) (p : Pl) (k : Dsk) (f : Nat) (segs : List Nat) (lg : Nat) (begun lost : Bool) (lv st cm : Chs) (W : World) : Prop :=
  Turned (fullF p Fd0) U W ∧ ∃ Fd, StAt W Fd p k f segs lg begun lost lv st cm ∧ ∀ b, Fd b → Fd0 b ∨ U.heap.size ≤ b
theorem At1.start (h : StAt w Fd p k f segs lg begun lost lv st cm) : At1 w Fd p k f segs lg begun lost lv st cm w := ⟨Turned.refl _ _, Fd, h, fun _ h => .inl h⟩
theorem At1.cell {a : Addr} {v : Value} (h : At1 U Fd0 p k f segs lg begun lost lv st cm W) (hc : U.cell? a = some v) (hn : ¬ fullF p Fd0 a.block) : W.cell? a = some v := (h.1.cell (World.block_lt_of_cell? U _ hc) hn).trans hc
theorem at1_by (hT : Turned (fullF p Fd0) U W) (hS : StAt W Fd p k f segs lg begun lost lv st cm) (hF : ∀ b, Fd b → Fd0 b ∨ U.heap.size ≤ b) (hw : Vd.Went W w' Fd p.d k') : At1 U Fd0 p k' f segs lg begun lost lv st cm w' := by
  obtain ⟨Fd', hS', hF'⟩ := hS.went hw
  exact ⟨hT.from_new (hw.1.wide fun b hb => (hF b hb).elim (fun x => .inl (.inl x)) .inr), Fd', hS', fun b hb => (hF' b hb).elim (hF b) (fun x => .inr (Nat.le_trans hT.size x))⟩
theorem At1.trans {U0 : World} {Fd1 : Nat → Prop} (h : At1 U Fd0 p k f segs lg begun lost lv st cm W) (hT : Turned (fullF p Fd1) U0 U) (hF : ∀ b, Fd0 b → Fd1 b ∨ U0.heap.size ≤ b) : At1 U0 Fd1 p k f segs lg begun lost lv st cm W := by
  obtain ⟨hT0, Fd, hSt, hF0⟩ := h
  exact ⟨hT.from_new (hT0.wide (full_more hF)), Fd, hSt, fun b hb => (hF0 b hb).elim (hF b) (fun x => .inr (Nat.le_trans hT.size x))⟩
end
end Go.Proofs.YtddnnhfffmhpmaaGreatDoor.St

/- The steps of replace that write. -/
namespace Go.Proofs.YtddnnhfffmhpmaaGreatDoor.St
open Go.RowKit Go.Proofs.YtddnnhfffmhpmaaGreatDoor DocM StoM Do
open VdM

set_option maxHeartbeats 2000000 in
set_option maxRecDepth 100000 in
theorem repl1_any (W : World) (Fd F : Nat → Prop) (B0 B1 B2 s d b f n cp x : Nat) (A : Option Addr) (k : Dsk) (l : Chs) (segs : List Nat)
    (b0 : W.cell? ⟨B0, 0, none⟩ = some (.pointer (some ⟨s, 0, none⟩))) (b1 : W.cell? ⟨B1, 0, none⟩ = some (.int .i64 (f : Int))) (b2 : W.cell? ⟨B1, 1, none⟩ = some (.slice A n cp)) (b3 : W.cell? ⟨B2, 0, none⟩ = some (.map (some b))) (s0 : W.cell? ⟨s, 0, none⟩ = some (.pointer (some ⟨d, 0, none⟩)))
    (n0 : ¬ Fd B0) (n1 : ¬ Fd B1) (n2 : ¬ Fd B2) (ns : ¬ Fd s) (hI : Ivs W A n (segs.map Int.ofNat)) (hx : segs.getLast? = some x) (hx1 : x < 100) (hn : n ≤ 1000) (hM : MapAt W F b l) (hr : ∀ c ∈ l, rightC c = 0) (hl : l.length ≤ 1000) (h : Vd.Is W Fd d k) (he : k.eff + 2 ≤ 1000000000) :
    Calls Tryz.prog 69 #[.pointer (some ⟨B0, 0, none⟩), .pointer (some ⟨B1, 0, none⟩), .pointer (some ⟨B2, 0, none⟩)] W (DoesK W Fd d k fun k => wr k (segN x) (segB l)) := by
  have HL := Lib.hid (fun W' (hb : Below W.heap.size W W') => lastseg_any f A n cp segs x W' (hI.later hb) hx (by omega))
  have HN := Lib.hid (fun W' => segname_any x hx1 W')
  have HP := Lib.hid (fun W' (hb : Below W.heap.size W W') => segprint_any W' F b l (hM.later hb) hr hl)
  have hsz : (ofBytes (segN x)).size ≤ 1000000 := by rw [size_ofBytes]; have := dec_len x; simp [segN, segP]; omega
  have HW := Lib.hid (fun W' (hb : Below W.heap.size W W') => (write_any W' Fd s d k (ofBytes (segN x)) (ofBytes (segB l)) ((hb.cell (p := ⟨s, 0, none⟩) (World.block_lt_of_cell? W _ s0)).trans s0) ns (h.later hb) hsz he).mono (fun e w' (hd : DoesK W' Fd d k _ e w') => (⟨hd.1, hd.2, Turned.of_below hb⟩ : e = .returned (.int .i64 (wr k (ofBytes (segN x)).data.toList (ofBytes (segB l)).data.toList).2) ∧ Dk W' Fd d (wr k (ofBytes (segN x)).data.toList (ofBytes (segB l)).data.toList).1 w' ∧ Turned Fd W W')))
  have KT := Lib.hid (fun (X Y : World) (hX : X.cell? ⟨B0, 0, none⟩ = some (.pointer (some ⟨s, 0, none⟩)) ∧ X.cell? ⟨B1, 0, none⟩ = some (.int .i64 (f : Int)) ∧ X.cell? ⟨B1, 1, none⟩ = some (.slice A n cp) ∧ X.cell? ⟨B2, 0, none⟩ = some (.map (some b))) (hT : Turned Fd X Y) =>
    (⟨(hT.cell (p := ⟨B0, 0, none⟩) (World.block_lt_of_cell? X _ hX.1) n0).trans hX.1, (hT.cell (p := ⟨B1, 0, none⟩) (World.block_lt_of_cell? X _ hX.2.1) n1).trans hX.2.1, (hT.cell (p := ⟨B1, 1, none⟩) (World.block_lt_of_cell? X _ hX.2.2.1) n1).trans hX.2.2.1, (hT.cell (p := ⟨B2, 0, none⟩) (World.block_lt_of_cell? X _ hX.2.2.2) n2).trans hX.2.2.2⟩ :
      Y.cell? ⟨B0, 0, none⟩ = some (.pointer (some ⟨s, 0, none⟩)) ∧ Y.cell? ⟨B1, 0, none⟩ = some (.int .i64 (f : Int)) ∧ Y.cell? ⟨B1, 1, none⟩ = some (.slice A n cp) ∧ Y.cell? ⟨B2, 0, none⟩ = some (.map (some b))))
  have HB0 : Hid (Below W.heap.size W W.drew) := Lib.hid (Below.refl _ _).drew
  rw [ofBytes_list, ofBytes_list] at HW
  obtain ⟨r, hr'⟩ : ∃ r, r = wr k (segN x) (segB l) := ⟨_, rfl⟩
  have HR := Lib.hid hr'
  rw [← hr'] at HW
  generalize ofBytes (segN x) = nm at HN HW hsz
  generalize ofBytes (segB l) = tx at HP HW
  clear hr' hI hx hx1 hn hM hr hl h he n0 n1 n2 ns s0 hsz
  go_enter Tryz.func69, Tryz.ntmps69
  go_upto_region 1 with fail
  go_region_held3 (fun w' => w'.cell? ⟨B0, 0, none⟩ = some (.pointer (some ⟨s, 0, none⟩)) ∧ w'.cell? ⟨B1, 0, none⟩ = some (.int .i64 (f : Int)) ∧ w'.cell? ⟨B1, 1, none⟩ = some (.slice A n cp) ∧ w'.cell? ⟨B2, 0, none⟩ = some (.map (some b)))
    ((first | exact ⟨b0, b1, b2, b3⟩ | assumption | go_keep))
    (first
      | (go_at_call 66; ((with_reducible refine (HL.out _ HB0.out).mono ?_); rintro e w1 ⟨rfl, hb1⟩; have hk1 := KT.out _ _ ⟨b0, b1, b2, b3⟩ (Turned.of_below ((Below.refl _ _).drew.trans hb1)); have HB1 := Lib.hid (HB0.out.trans (hb1.mono HB0.out.size)); clear hb1))
      | (go_at_call 56; ((with_reducible refine (HN.out _).mono ?_); rintro e w2 ⟨rfl, rfl⟩))
      | (go_at_call 70; ((with_reducible refine (HP.out _ HB1.out).mono ?_); rintro e w3 ⟨rfl, hb3⟩; have hk3 := KT.out _ _ hk1 (Turned.of_below hb3); have HB3 := Lib.hid (HB1.out.trans (hb3.mono HB1.out.size)); clear hb3))
      | (go_at_call 49; ((with_reducible refine (HW.out _ HB3.out).mono ?_); rintro e w4 ⟨rfl, hd, hT⟩; have hk4 := KT.out _ _ hk3 hd.1; have HD := Lib.hid hd; clear hd hT)))
  all_goals
    go_wp2
    go_ret
    unfold DoesK
    simp only
    rw [← HR.out]
    exact ⟨rfl, Vd.Went.on (Turned.of_below HB3.out) HD.out⟩
set_option maxHeartbeats 2000000 in
set_option maxRecDepth 100000 in
theorem repl2_any (W : World) (Fd : Nat → Prop) (B0 B1 s d : Nat) (k : Dsk) (x : ByteArray) (b0 : W.cell? ⟨B0, 0, none⟩ = some (.pointer (some ⟨s, 0, none⟩))) (b1 : W.cell? ⟨B1, 0, none⟩ = some (.string x)) (s0 : W.cell? ⟨s, 0, none⟩ = some (.pointer (some ⟨d, 0, none⟩))) (hs : ¬ Fd s)
    (h : Vd.Is W Fd d k) (he : k.eff + 4 ≤ 1000000000) :
    Calls Tryz.prog 71 #[.pointer (some ⟨B0, 0, none⟩), .pointer (some ⟨B1, 0, none⟩)] W (DoesK W Fd d k fun k => swp k x.data.toList) := by
  have HA := Lib.hid (swap_any W Fd s d k x s0 hs h he)
  clear h he hs s0
  go_enter Tryz.func71, Tryz.ntmps71
  go_wp2_with fail
  refine HA.out.mono ?_
  rintro e w3 ⟨rfl, hw⟩
  have HR := Lib.hid hw
  clear hw
  go_wp2
  go_ret
  exact ⟨rfl, HR.out⟩
end Go.Proofs.YtddnnhfffmhpmaaGreatDoor.St

/- The store takes a manifest; it is lost. -/
namespace Go.Proofs.YtddnnhfffmhpmaaGreatDoor.St
open Go.RowKit Go.Proofs.YtddnnhfffmhpmaaGreatDoor DocM StoM Do
open VdM

section
variable {w w' U W : World} {Fd Fd0 : Nat → Prop} {p : Pl} {k k' : Dsk} {f f' n' cp' : Nat} {segs segs' : List Nat} {lg lg' : Nat} {begun begun' lost lost' : Bool} {lv st cm : Chs} {A' : Option Addr}
/-- the object's cells: those that are read, and those that may be written -/
theorem StAt.cells (h : StAt w Fd p k f segs lg begun lost lv st cm) : ∃ A n cp, Ivs w A n (segs.map Int.ofNat) ∧ Away (fullF p Fd) (.slice A n cp) ∧ w.heap[p.s]? = some (.cells (sCells p f A n cp lg begun lost) 78 (0, 0)) ∧
    w.cell? ⟨p.s, 0, none⟩ = some (.pointer (some ⟨p.d, 0, none⟩)) ∧ w.cell? ⟨p.s, 1, none⟩ = some (.int .i64 (f : Int)) ∧ w.cell? ⟨p.s, 2, none⟩ = some (.slice A n cp) ∧ w.cell? ⟨p.s, 3, none⟩ = some (.int .i64 (lg : Int)) ∧ w.cell? ⟨p.s, 4, none⟩ = some (.bool begun) ∧
    w.cell? ⟨p.s, 5, none⟩ = some (.map (some p.ml)) ∧ w.cell? ⟨p.s, 6, none⟩ = some (.map (some p.ms)) ∧ w.cell? ⟨p.s, 7, none⟩ = some (.map (some p.mc)) ∧ w.cell? ⟨p.s, 8, none⟩ = some (.bool lost) ∧ ∀ i, w.frozen? ⟨p.s, i, none⟩ = false := by
  obtain ⟨A, n, cp, hb, hI, ha⟩ := h.blk
  exact ⟨A, n, cp, hI, ha, hb, cell_of_cells hb rfl, cell_of_cells hb rfl, cell_of_cells hb rfl, cell_of_cells hb rfl, cell_of_cells hb rfl, cell_of_cells hb rfl, cell_of_cells hb rfl, cell_of_cells hb rfl, cell_of_cells hb rfl, fun i => frozen_of_cells hb⟩
theorem StAt.man_ (h : StAt w Fd p k f segs lg begun lost lv st cm) (hI : Ivs w A' n' (segs'.map Int.ofNat)) (ha : Away (fullF p Fd) (.slice A' n' cp')) :
    Turned (fun b => b = p.s) w ((w.setCell ⟨p.s, 1, none⟩ (.int .i64 (f' : Int))).setCell ⟨p.s, 2, none⟩ (.slice A' n' cp')) ∧
    StAt ((w.setCell ⟨p.s, 1, none⟩ (.int .i64 (f' : Int))).setCell ⟨p.s, 2, none⟩ (.slice A' n' cp')) Fd p k f' segs' lg begun lost lv st cm := by
  obtain ⟨A, n, cp, hb, _⟩ := h.blk
  have hT : Turned (fun b => b = p.s) w ((w.setCell ⟨p.s, 1, none⟩ (.int .i64 (f' : Int))).setCell ⟨p.s, 2, none⟩ (.slice A' n' cp')) := ((Turned.refl (fun b => b = p.s) w).set_ rfl 1 _).set_ rfl 2 _
  refine ⟨hT, h.set_ hT ⟨A', n', cp', ?_, ivs_away hI hT (ha.less fun b hb => .inr (.inl hb)), ha⟩⟩
  have := heap_setCell_row (heap_setCell_row hb 1 (.int .i64 (f' : Int))) 2 (.slice A' n' cp')
  rw [this]
  rfl
theorem StAt.lost_ (h : StAt w Fd p k f segs lg begun lost lv st cm) :
    Turned (fun b => b = p.s) w (w.setCell ⟨p.s, 8, none⟩ (.bool lost')) ∧ StAt (w.setCell ⟨p.s, 8, none⟩ (.bool lost')) Fd p k f segs lg begun lost' lv st cm := by
  obtain ⟨A, n, cp, hb, hI, ha⟩ := h.blk
  have hT : Turned (fun b => b = p.s) w (w.setCell ⟨p.s, 8, none⟩ (.bool lost')) := (Turned.refl (fun b => b = p.s) w).set_ rfl 8 _
  refine ⟨hT, h.set_ hT ⟨A, n, cp, ?_, ivs_away hI hT (ha.less fun b hb => .inr (.inl hb)), ha⟩⟩
  rw [heap_setCell_row hb 8 (.bool lost')]
  rfl
theorem StAt.begun_ (h : StAt w Fd p k f segs lg begun lost lv st cm) :
    Turned (fun b => b = p.s) w (w.setCell ⟨p.s, 4, none⟩ (.bool begun')) ∧ StAt (w.setCell ⟨p.s, 4, none⟩ (.bool begun')) Fd p k f segs lg begun' lost lv st cm := by
  obtain ⟨A, n, cp, hb, hI, ha⟩ := h.blk
  have hT : Turned (fun b => b = p.s) w (w.setCell ⟨p.s, 4, none⟩ (.bool begun')) := (Turned.refl (fun b => b = p.s) w).set_ rfl 4 _
  refine ⟨hT, h.set_ hT ⟨A, n, cp, ?_, ivs_away hI hT (ha.less fun b hb => .inr (.inl hb)), ha⟩⟩
  rw [heap_setCell_row hb 4 (.bool begun')]
  rfl
theorem StAt.log_ (h : StAt w Fd p k f segs lg begun lost lv st cm) :
    Turned (fun b => b = p.s) w (w.setCell ⟨p.s, 3, none⟩ (.int .i64 (lg' : Int))) ∧ StAt (w.setCell ⟨p.s, 3, none⟩ (.int .i64 (lg' : Int))) Fd p k f segs lg' begun lost lv st cm := by
  obtain ⟨A, n, cp, hb, hI, ha⟩ := h.blk
  have hT : Turned (fun b => b = p.s) w (w.setCell ⟨p.s, 3, none⟩ (.int .i64 (lg' : Int))) := (Turned.refl (fun b => b = p.s) w).set_ rfl 3 _
  refine ⟨hT, h.set_ hT ⟨A, n, cp, ?_, ivs_away hI hT (ha.less fun b hb => .inr (.inl hb)), ha⟩⟩
  rw [heap_setCell_row hb 3 (.int .i64 (lg' : Int))]
  rfl
end
set_option maxHeartbeats 2000000 in
set_option maxRecDepth 100000 in
theorem repl3_any (W : World) (Fd : Nat → Prop) (p : Pl) (B0 B1 f' n' cp' L S : Nat) (A' : Option Addr) (k : Dsk) (f : Nat) (segs segs' : List Nat) (lg : Nat) (begun lost : Bool) (lv st cm : Chs) (h : StAt W Fd p k f segs lg begun lost lv st cm)
    (b0 : W.cell? ⟨B0, 0, none⟩ = some (.int .i64 (f' : Int))) (b1 : W.cell? ⟨B0, 1, none⟩ = some (.slice A' n' cp')) (b2 : W.cell? ⟨B1, 0, none⟩ = some (.pointer (some ⟨p.s, 0, none⟩))) (hne : B1 ≠ p.s) (hI : Ivs W A' n' (segs'.map Int.ofNat)) (ha : Away (fullF p Fd) (.slice A' n' cp'))
    (hnm : Nm L S k.fs) (hL : L ≤ 100) (hS : S ≤ 100) (hf : f' < 100) (hs : ∀ x ∈ segs', x < 100) (hn : n' ≤ 1000000) (he : k.eff + 1001 ≤ 1000000000) :
    Calls Tryz.prog 73 #[.pointer (some ⟨B0, 0, none⟩), .pointer (some ⟨B1, 0, none⟩)] W fun e w' => e = .returned (.int .i64 (clr k f' segs').2) ∧ At1 W Fd p (clr k f' segs').1 f' segs' lg begun lost lv st cm w' := by
  obtain ⟨A, n, cp, _, _, hblk, s0, s1, s2, s3, s4, s5, s6, s7, s8, sf⟩ := h.cells
  have f1 := sf 1
  have f2 := sf 2
  have hm := h.man_ (f' := f') hI ha
  obtain ⟨A2, n2, cp2, hI2, ha2, hblk2, t0, t1, t2, _⟩ := hm.2.cells
  have b2' : ((W.setCell ⟨p.s, 1, none⟩ (.int .i64 (f' : Int))).setCell ⟨p.s, 2, none⟩ (.slice A' n' cp')).cell? ⟨B1, 0, none⟩ = some (.pointer (some ⟨p.s, 0, none⟩)) := (hm.1.cell (p := ⟨B1, 0, none⟩) (World.block_lt_of_cell? W _ b2) hne).trans b2
  have hn2 : n2 ≤ 1000000 := by
    have h1 := hI2.1
    have h2 := hI.1
    omega
  have hc : Calls Tryz.prog 68 #[.pointer (some ⟨p.s, 0, none⟩)] ((W.setCell ⟨p.s, 1, none⟩ (.int .i64 (f' : Int))).setCell ⟨p.s, 2, none⟩ (.slice A' n' cp')) fun e w' => e = .returned (.int .i64 (clr k f' segs').2) ∧ At1 W Fd p (clr k f' segs').1 f' segs' lg begun lost lv st cm w' :=
    (clear_any _ Fd p.s p.d f' n2 cp2 L S A2 k segs' t0 t1 t2 h.ns hm.2.disk hI2 hnm hL hS hf hs hn2 he).mono fun e w' hd => ⟨hd.1, at1_by (hm.1.wide fun b hb => .inr (.inl hb)) hm.2 (fun _ h => .inl h) hd.2⟩
  have HC := Lib.hid hc
  clear hc
  obtain ⟨r, hr⟩ : ∃ r, r = clr k f' segs' := ⟨_, rfl⟩
  rw [← hr] at HC ⊢
  clear hr hm hI2 ha2 hblk2 t0 t1 t2 hn2 hblk h hI ha hnm hL hS hf hs hn he s3 s4 s5 s6 s7 s8 sf
  go_enter Tryz.func73, Tryz.ntmps73
  go_wp2_with fail
  refine HC.out.mono ?_
  rintro e w3 ⟨rfl, hw⟩
  have HR := Lib.hid hw
  clear hw
  go_wp2
  go_ret
  exact ⟨rfl, HR.out⟩
set_option maxHeartbeats 4000000 in
set_option maxRecDepth 100000 in
theorem lose_any (W U : World) (Fd0 : Nat → Prop) (p : Pl) (k : Dsk) (f : Nat) (segs : List Nat) (lg : Nat) (begun lost : Bool) (lv st cm : Chs) (h : At1 U Fd0 p k f segs lg begun lost lv st cm W) :
    Calls Tryz.prog 79 #[.pointer (some ⟨p.s, 0, none⟩)] W fun e w' => e = .returned (.tuple #[]) ∧ At1 U Fd0 p k 0 [] lg begun true [] [] [] w' := by
  obtain ⟨hT0, Fd, hS, hF0⟩ := h
  obtain ⟨A, n, cp, _, _, hblk, s0, s1, s2, s3, s4, s5, s6, s7, s8, sf⟩ := hS.cells
  obtain ⟨w1, run1, m1, g1⟩ := clear_run hS.live
  have T1 : Turned (fun b => b = p.ml) W w1 := Turned.of_grown g1 rfl
  have hS1 := hS.lives T1 m1
  obtain ⟨w2, run2, m2, g2⟩ := clear_run hS1.settled
  have T2 : Turned (fun b => b = p.ms) w1 w2 := Turned.of_grown g2 rfl
  have hS2 := hS1.settles T2 m2
  obtain ⟨w3, run3, m3, g3⟩ := clear_run hS2.came
  have T3 : Turned (fun b => b = p.mc) w2 w3 := Turned.of_grown g3 rfl
  have hS3 := hS2.comes T3 m3
  obtain ⟨_, _, _, _, _, _, _, _, _, _, _, _, t6, _, _, _⟩ := hS1.cells
  obtain ⟨_, _, _, _, _, _, _, _, _, _, _, _, _, t7, _, _⟩ := hS2.cells
  obtain ⟨A3, n3, cp3, _, _, _, _, u1, u2, _, _, _, _, _, u8, uf⟩ := hS3.cells
  have u1f := uf 1
  have u2f := uf 2
  have hm := hS3.man_ (f' := 0) (A' := none) (n' := 0) (cp' := 0) (segs' := []) ⟨rfl, fun k hk => by simp at hk⟩ (Away.nil_ _)
  obtain ⟨_, _, _, _, _, _, _, _, _, _, _, _, _, _, v8, vf⟩ := hm.2.cells
  have v8f := vf 8
  have hl := hm.2.lost_ (lost' := true)
  have hfin : At1 U Fd0 p k 0 [] lg begun true [] [] [] ((((w3.setCell ⟨p.s, 1, none⟩ (.int .i64 0)).setCell ⟨p.s, 2, none⟩ (.slice none 0 0))).setCell ⟨p.s, 8, none⟩ (.bool true)) := by
    refine ⟨hT0.trans (((((T1.wide ?_).trans (T2.wide ?_)).trans (T3.wide ?_)).trans (hm.1.wide ?_)).trans (hl.1.wide ?_)), Fd, hl.2, hF0⟩
    · exact fun b hb => .inr (.inr (.inl hb))
    · exact fun b hb => .inr (.inr (.inr (.inl hb)))
    · exact fun b hb => .inr (.inr (.inr (.inr hb)))
    · exact fun b hb => .inr (.inl hb)
    · exact fun b hb => .inr (.inl hb)
  have HF := Lib.hid hfin
  have v8' : ((w3.setCell ⟨p.s, 1, none⟩ (.int .i64 0)).setCell ⟨p.s, 2, none⟩ (.slice none 0 0)).cell? ⟨p.s, 8, none⟩ = some (.bool lost) := v8
  have v8f' : ((w3.setCell ⟨p.s, 1, none⟩ (.int .i64 0)).setCell ⟨p.s, 2, none⟩ (.slice none 0 0)).frozen? ⟨p.s, 8, none⟩ = false := v8f
  clear hT0 hS hF0 hblk T1 T2 T3 m1 m2 m3 g1 g2 g3 hS1 hS2 hS3 hm hl hfin v8 v8f vf uf sf s0 s1 s2 s3 s4 s6 s7 s8
  go_enter Tryz.func79, Tryz.ntmps79
  go_wp2
  go_end0
  exact ⟨rfl, HF.out⟩
set_option maxHeartbeats 2000000 in
set_option maxRecDepth 100000 in
theorem act_any (w : World) (s : Nat) (v : Value) (R : World → Int → Prop) (R7 : World → Prop) (hin : Calls Tryz.prog 29 #[v] w (fun e w' => ∃ c : Int, e = .returned (.int .i64 c) ∧ R w' c))
    (hl : ∀ w', R w' 7 → Calls Tryz.prog 79 #[.pointer (some ⟨s, 0, none⟩)] w' (fun e w'' => e = .returned (.tuple #[]) ∧ R7 w'')) :
    Calls Tryz.prog 47 #[.pointer (some ⟨s, 0, none⟩), v] w fun e w' => ∃ c : Int, e = .returned (.int .i64 c) ∧ ((c ≠ 7 ∧ R w' c) ∨ (c = 7 ∧ R7 w')) := by
  have HI := Lib.hid hin
  have HL := Lib.hid hl
  clear hin hl
  go_enter Tryz.func47, Tryz.ntmps47
  go_wp2_with fail
  refine HI.out.mono ?_
  rintro e w2 ⟨c, rfl, hR⟩
  by_cases h7 : c = 7
  · subst h7
    have HC := Lib.hid (HL.out w2 hR)
    clear hR
    go_wp2_with fail
    refine HC.out.mono ?_
    rintro e w3 ⟨rfl, hw⟩
    have HR := Lib.hid hw
    clear hw
    go_wp2
    go_ret
    exact ⟨7, rfl, .inr ⟨rfl, HR.out⟩⟩
  · have HR := Lib.hid hR
    have h7b : (c == 7) = false := by simpa using h7
    have H7 := Lib.hid h7
    clear hR h7
    go_wp2
    go_ret
    exact ⟨c, rfl, .inl ⟨H7.out, HR.out⟩⟩
end Go.Proofs.YtddnnhfffmhpmaaGreatDoor.St

/- replace. -/
namespace Go.Proofs.YtddnnhfffmhpmaaGreatDoor.St
open Go.RowKit Go.Proofs.YtddnnhfffmhpmaaGreatDoor DocM StoM Do
open VdM

theorem enters_clr : ∀ args w, (callFunc 68 args).run Tryz.prog w = .ok (.enter 68 args) w := enters_of Tryz.func68 (by kernel_rfl) rfl
theorem enters_r1 : ∀ args w, (callFunc 69 args).run Tryz.prog w = .ok (.enter 69 args) w := enters_of Tryz.func69 (by kernel_rfl) rfl
theorem enters_r2 : ∀ args w, (callFunc 71 args).run Tryz.prog w = .ok (.enter 71 args) w := enters_of Tryz.func71 (by kernel_rfl) rfl
theorem enters_r3 : ∀ args w, (callFunc 73 args).run Tryz.prog w = .ok (.enter 73 args) w := enters_of Tryz.func73 (by kernel_rfl) rfl
/-- what replace leaves, in memory, of a step's error c: the old manifest, or the new one -/
def Repl (U : World) (Fd : Nat → Prop) (p : Pl) (k : Dsk) (f : Nat) (segs : List Nat) (f' : Nat) (segs' : List Nat) (lg : Nat) (begun lost : Bool) (lv st cm : Chs) (c : Int) (W : World) : Prop :=
  (c = 0 ∧ At1 U Fd p k f' segs' lg begun lost lv st cm W) ∨ (c ≠ 0 ∧ At1 U Fd p k f segs lg begun lost lv st cm W) ∨ (c ≠ 0 ∧ c ≠ 6 ∧ At1 U Fd p k f' segs' lg begun lost lv st cm W)
set_option maxHeartbeats 1000000 in
theorem repl_in (U : World) (Fd : Nat → Prop) (p : Pl) (k : Dsk) (f f' n' cp' : Nat) (segs segs' : List Nat) (lg : Nat) (begun lost : Bool) (lv st cm : Chs) (B0 B1 B2 B3 g b x L S : Nat) (A' : Option Addr) (l : Chs)
    (h : StAt U Fd p k f segs lg begun lost lv st cm) (hbl : (b = p.mc ∧ l = cm) ∨ (b = p.ms ∧ l = st))
    (b0 : U.cell? ⟨B0, 0, none⟩ = some (.pointer (some ⟨p.s, 0, none⟩))) (b1 : U.cell? ⟨B1, 0, none⟩ = some (.int .i64 (f' : Int))) (b1' : U.cell? ⟨B1, 1, none⟩ = some (.slice A' n' cp')) (b2 : U.cell? ⟨B2, 0, none⟩ = some (.map (some b))) (b3 : U.cell? ⟨B3, 0, none⟩ = some (.string (ofBytes (manB f' segs'))))
    (g0 : U.cell? ⟨g, 0, none⟩ = some (.func (.func 68) #[.pointer (some ⟨p.s, 0, none⟩)] #[]))
    (g1 : U.cell? ⟨g, 1, none⟩ = some (.func (.func 69) #[] #[.pointer (some ⟨B0, 0, none⟩), .pointer (some ⟨B1, 0, none⟩), .pointer (some ⟨B2, 0, none⟩)]))
    (g2 : U.cell? ⟨g, 2, none⟩ = some (.func (.func 71) #[] #[.pointer (some ⟨B0, 0, none⟩), .pointer (some ⟨B3, 0, none⟩)]))
    (g3 : U.cell? ⟨g, 3, none⟩ = some (.func (.func 73) #[] #[.pointer (some ⟨B1, 0, none⟩), .pointer (some ⟨B0, 0, none⟩)]))
    (m0 : ¬ fullF p Fd B0) (m1 : ¬ fullF p Fd B1) (m2 : ¬ fullF p Fd B2) (m3 : ¬ fullF p Fd B3) (mg : ¬ fullF p Fd g)
    (hI : Ivs U A' n' (segs'.map Int.ofNat)) (ha : Away (fullF p Fd) (.slice A' n' cp')) (hx : segs'.getLast? = some x) (hx1 : x < S) (hn : n' ≤ 1000) (hr : ∀ c ∈ l, rightC c = 0) (hl : l.length ≤ 1000)
    (hnm : Nm L S k.fs) (hL : L ≤ 100) (hS : S ≤ 100) (hf : f < 100) (hf' : f' < 100) (hsl : segs.length ≤ 100) (hs : ∀ y ∈ segs, y < 100) (hs' : ∀ y ∈ segs', y < 100) (he : k.eff + 5000 ≤ 1000000000) :
    Calls Tryz.prog 29 #[.slice (some ⟨g, 0, none⟩) 4 4] U fun e w' => ∃ c : Int, e = .returned (.int .i64 c) ∧ c = (chainK (replR f segs f' segs' x l) k).2 ∧ Repl U Fd p (chainK (replR f segs f' segs' x l) k).1 f segs f' segs' lg begun lost lv st cm c w' := by
  obtain ⟨R, hR⟩ : ∃ R, R = chainK (replR f segs f' segs' x l) k := ⟨_, rfl⟩
  rw [← hR]
  have hKs : Known L S (segN x) := .inr (.inr (.inr ⟨x, hx1, rfl⟩))
  have hlen : (replR f segs f' segs' x l).length = 4 := rfl
  have hc := inorder_any U g 4 4 [.func (.func 68) #[.pointer (some ⟨p.s, 0, none⟩)] #[], .func (.func 69) #[] #[.pointer (some ⟨B0, 0, none⟩), .pointer (some ⟨B1, 0, none⟩), .pointer (some ⟨B2, 0, none⟩)], .func (.func 71) #[] #[.pointer (some ⟨B0, 0, none⟩), .pointer (some ⟨B3, 0, none⟩)], .func (.func 73) #[] #[.pointer (some ⟨B1, 0, none⟩), .pointer (some ⟨B0, 0, none⟩)]] rfl (by omega)
    (fun i W => ∃ k1, ((i < 4 ∧ At1 U Fd p k1 f segs lg begun lost lv st cm W) ∨ (i = 4 ∧ At1 U Fd p k1 f' segs' lg begun lost lv st cm W)) ∧ R = chainK ((replR f segs f' segs' x l).drop i) k1 ∧ Nm L S k1.fs ∧ k1.eff ≤ k.eff + 100 * i)
    (fun W c => R.2 = c ∧ (At1 U Fd p R.1 f segs lg begun lost lv st cm W ∨ (c ≠ 6 ∧ At1 U Fd p R.1 f' segs' lg begun lost lv st cm W)))
    ⟨k, .inl ⟨by omega, At1.start h⟩, hR, hnm, by omega⟩
    (fun i W ⟨k1, h1, _⟩ j hj => by
      have hcell : ∀ {a : Addr} {v : Value}, U.cell? a = some v → ¬ fullF p Fd a.block → W.cell? a = some v := fun hc hn => by
        rcases h1 with ⟨_, h1⟩ | ⟨_, h1⟩
        · exact h1.cell hc hn
        · exact h1.cell hc hn
      match j, hj with
      | 0, _ => exact hcell g0 mg
      | 1, _ => exact hcell g1 mg
      | 2, _ => exact hcell g2 mg
      | 3, _ => exact hcell g3 mg)
    (fun i hi W ⟨k1, h1, h2, h3, h4⟩ => by
      have hi4 : i < 4 := hi
      rcases h1 with ⟨_, h1⟩ | ⟨h5, _⟩
      rotate_left
      · omega
      have hfin : ∀ {e : Ending} {W' : World} (hi3 : i < 3) (hj : i < (replR f segs f' segs' x l).length), e = .returned (.int .i64 ((replR f segs f' segs' x l)[i] k1).2) → At1 U Fd p ((replR f segs f' segs' x l)[i] k1).1 f segs lg begun lost lv st cm W' → Nm L S ((replR f segs f' segs' x l)[i] k1).1.fs → ((replR f segs f' segs' x l)[i] k1).1.eff ≤ k1.eff + 100 →
          OrdEnd (fun W => ∃ k1, ((i + 1 < 4 ∧ At1 U Fd p k1 f segs lg begun lost lv st cm W) ∨ (i + 1 = 4 ∧ At1 U Fd p k1 f' segs' lg begun lost lv st cm W)) ∧ R = chainK ((replR f segs f' segs' x l).drop (i + 1)) k1 ∧ Nm L S k1.fs ∧ k1.eff ≤ k.eff + 100 * (i + 1)) (fun W c => R.2 = c ∧ (At1 U Fd p R.1 f segs lg begun lost lv st cm W ∨ (c ≠ 6 ∧ At1 U Fd p R.1 f' segs' lg begun lost lv st cm W))) e W' := fun hi3 hj he1 hA hN hE => by
        rcases chain_step hj k k1 (by rw [← hR]; exact h2) with ⟨z, hc⟩ | ⟨z, hc⟩
        · rw [z] at he1
          exact .inl ⟨he1, _, .inl ⟨by omega, hA⟩, by rw [hR]; exact hc, hN, by omega⟩
        · rw [← hR] at hc
          exact .inr ⟨_, z, he1, by rw [hc], .inl (by rw [hc]; exact hA)⟩
      obtain ⟨hT, F', hS', hF'⟩ := id h1
      have hF2 := full_more (p := p) hF'
      have hk64 := hS'.disk.ok.most
      have hIW := ivs_away hI hT ha
      have haW : Away (fullF p F') (.slice A' n' cp') := away_more hI ha hF2
      obtain ⟨A, n, cp, hIo, hao, hblk, s0, s1, s2, _⟩ := hS'.cells
      have nF : ∀ {B : Nat}, B < U.heap.size → ¬ fullF p Fd B → ¬ fullF p F' B := fun hB hn hb => (hF2 _ hb).elim hn (fun h => by omega)
      have c0 := h1.cell b0 m0
      have c1 := h1.cell b1 m1
      have c1' := h1.cell b1' m1
      have c2 := h1.cell b2 m2
      have c3 := h1.cell b3 m3
      have u0 := nF (World.block_lt_of_cell? U _ b0) m0
      have u1 := nF (World.block_lt_of_cell? U _ b1) m1
      have u2 := nF (World.block_lt_of_cell? U _ b2) m2
      have u3 := nF (World.block_lt_of_cell? U _ b3) m3
      have hn0 : n ≤ 1000 := by
        have e := hIo.1
        rw [List.length_map] at e
        omega
      have hi0 : i = 0 ∨ i = 1 ∨ i = 2 ∨ i = 3 := by omega
      rcases hi0 with rfl | rfl | rfl | rfl
      · refine ⟨_, _, _, rfl, enters_clr, ?_⟩
        refine (clear_any W F' p.s p.d f n cp L S A k1 segs s0 s1 s2 hS'.ns hS'.disk hIo h3 hL hS hf hs (by omega) (by omega)).mono ?_
        rintro e W' hd
        have := clr_eff k1 f segs
        exact hfin (by omega) (by rw [hlen]; omega) hd.1 (at1_by hT hS' hF' hd.2) (nm_clr h3 _ _) (by show (clr k1 f segs).1.eff ≤ _; omega)
      · refine ⟨_, _, _, rfl, enters_r1, ?_⟩
        have hMW : MapAt W (fullF p F') b l := by
          rcases hbl with ⟨rfl, rfl⟩ | ⟨rfl, rfl⟩
          · exact hS'.came
          · exact hS'.settled
        refine (repl1_any W F' (fullF p F') B0 B1 B2 p.s p.d b f' n' cp' x A' k1 l segs' c0 c1 c1' c2 s0 (fun h => u0 (.inl h)) (fun h => u1 (.inl h)) (fun h => u2 (.inl h)) hS'.ns hIW hx (by omega) hn hMW hr hl hS'.disk (by omega)).mono ?_
        rintro e W' hd
        have := wr_eff k1 (segN x) (segB l)
        exact hfin (by omega) (by rw [hlen]; omega) hd.1 (at1_by hT hS' hF' hd.2) (nm_wr h3 hKs _) (by show (wr k1 (segN x) (segB l)).1.eff ≤ _; omega)
      · refine ⟨_, _, _, rfl, enters_r2, ?_⟩
        have hc2 := repl2_any W F' B0 B3 p.s p.d k1 (ofBytes (manB f' segs')) c0 c3 s0 hS'.ns hS'.disk (by omega)
        rw [ofBytes_list] at hc2
        refine hc2.mono ?_
        rintro e W' hd
        have := swp_eff k1 (manB f' segs')
        exact hfin (by omega) (by rw [hlen]; omega) hd.1 (at1_by hT hS' hF' hd.2) (nm_swp h3 _) (by show (swp k1 (manB f' segs')).1.eff ≤ _; omega)
      · refine ⟨_, _, _, rfl, enters_r3, ?_⟩
        refine (repl3_any W F' p B1 B0 f' n' cp' L S A' k1 f segs segs' lg begun lost lv st cm hS' c1 c1' c0 (fun e => u0 (.inr (.inl e))) hIW haW h3 hL hS hf' hs' (by omega) (by omega)).mono ?_
        rintro e W' ⟨he1, hA1⟩
        have hA := hA1.trans hT hF'
        have := clr_eff k1 f' segs'
        rcases chain_step (fs := replR f segs f' segs' x l) (i := 3) (by omega) k k1 (by rw [← hR]; exact h2) with ⟨z, hc⟩ | ⟨z, hc⟩
        · have z' : (clr k1 f' segs').2 = 0 := z
          rw [z'] at he1
          exact .inl ⟨he1, (clr k1 f' segs').1, .inr ⟨rfl, hA⟩, by rw [hR]; exact hc, nm_clr h3 _ _, by omega⟩
        · rw [← hR] at hc
          have hc' : R = clr k1 f' segs' := hc
          exact .inr ⟨_, z, he1, congrArg Prod.snd hc', .inr ⟨clr_no6 k1 f' segs', by rw [hc']; exact hA⟩⟩)
  refine hc.mono ?_
  rintro e w' (⟨rfl, k1, h1, h2, _⟩ | ⟨c, hc0, rfl, h1, h2⟩)
  · have h2' : R = (k1, 0) := h2
    rcases h1 with ⟨h, _⟩ | ⟨_, h1⟩
    · omega
    · exact ⟨0, rfl, by rw [h2'], .inl ⟨rfl, by rw [h2']; exact h1⟩⟩
  · refine ⟨c, rfl, h1.symm, ?_⟩
    rcases h2 with h2 | ⟨h6, h2⟩
    · exact .inr (.inl ⟨hc0, h2⟩)
    · exact .inr (.inr ⟨hc0, h6, h2⟩)
end Go.Proofs.YtddnnhfffmhpmaaGreatDoor.St
