/- FuseOrder: called with any two slices of documents with scores and any number it returns true, and the arguments read behind the call as they read before. No condition. -/
import Derived.Deep.RegionHeld3
import Derived.Test.YtneofgaklofigaaMgO4

/- FuseTurns, walked: the calls and what is the same. -/
namespace Go.Proofs.Ytneofgaklofigaa.Fu
open Go.RowKit Go.Proofs.Ytneofgaklofigaa FuM

set_option maxHeartbeats 4000000 in
set_option maxRecDepth 100000 in
/-- without the guard -/
theorem turns_out (A1 A2 : Option Addr) (n1 n2 cp1 cp2 : Nat) (a b c k : Int) (w : World) (hno : ¬ ((n1 ≤ 60 ∧ n2 ≤ 60) ∧ 1 ≤ k ∧ k ≤ 999)) :
    Calls Try.prog 3 #[.slice A1 n1 cp1, .slice A2 n2 cp2, .int .i64 a, .int .i64 b, .int .i64 c, .int .i64 k] w fun e w' => e = .returned (.bool true) ∧ Below w.heap.size w w' := by
  have HA := Lib.hid (awake8_any w)
  by_cases h1 : n1 ≤ 60
  · have d1 : decide ((60 : Int) < (n1 : Int)) = false := decide_eq_false (by omega)
    by_cases h2 : n2 ≤ 60
    · have d2 : decide ((60 : Int) < (n2 : Int)) = false := decide_eq_false (by omega)
      by_cases h3 : 1 ≤ k
      · have d3 : decide (k < 1) = false := decide_eq_false (by omega)
        have d4 : decide (999 < k) = true := decide_eq_true (by omega)
        clear hno h1 h2 h3
        go_enter Try.func3, Try.ntmps3
        go_wp2_with fail
        refine HA.out.mono ?_
        rintro e w1 ⟨rfl, hb⟩
        go_wp2
        go_ret
        exact ⟨rfl, hb⟩
      · have d3 : decide (k < 1) = true := decide_eq_true (by omega)
        clear hno h1 h2 h3
        go_enter Try.func3, Try.ntmps3
        go_wp2_with fail
        refine HA.out.mono ?_
        rintro e w1 ⟨rfl, hb⟩
        go_wp2
        go_ret
        exact ⟨rfl, hb⟩
    · have d2 : decide ((60 : Int) < (n2 : Int)) = true := decide_eq_true (by omega)
      clear hno h1 h2
      go_enter Try.func3, Try.ntmps3
      go_wp2_with fail
      refine HA.out.mono ?_
      rintro e w1 ⟨rfl, hb⟩
      go_wp2
      go_ret
      exact ⟨rfl, hb⟩
  · have d1 : decide ((60 : Int) < (n1 : Int)) = true := decide_eq_true (by omega)
    clear hno h1
    go_enter Try.func3, Try.ntmps3
    go_wp2_with fail
    refine HA.out.mono ?_
    rintro e w1 ⟨rfl, hb⟩
    go_wp2
    go_ret
    exact ⟨rfl, hb⟩
/-- the same map gives the same rows -/
theorem fused_same {w1 w2 : World} {v1 v2 : Value} {l1 l2 : List FV} {cd : Int} {M1 M2 : VM} {k : Int} (h1 : Fused w1 v1 l1 cd M1 k) (h2 : Fused w2 v2 l2 cd M2 k) (e : ∀ d, M1 d = M2 d) : l2 = l1 := by
  by_cases h0 : cd = 0
  · obtain ⟨o1, ho1, rfl⟩ := h1.2.1 h0
    obtain ⟨o2, ho2, rfl⟩ := h2.2.1 h0
    exact (ho1.best ho2 e _).symm
  · rw [h1.2.2 h0, h2.2.2 h0]
theorem fused_more {w1 w2 : World} {v1 v2 : Value} {l1 l2 : List FV} {cd : Int} {M : VM} {k : Int} (hk : 0 ≤ k) (h1 : Fused w1 v1 l1 cd M k) (h2 : Fused w2 v2 l2 cd M (k + 1)) : l1 = l2.take l1.length ∧ l1.length ≤ l2.length := by
  by_cases h0 : cd = 0
  · obtain ⟨o1, ho1, rfl⟩ := h1.2.1 h0
    obtain ⟨o2, ho2, rfl⟩ := h2.2.1 h0
    rw [ho1.best ho2 (fun _ => rfl), show (k + 1).toNat = k.toNat + 1 by omega]
    exact best_next _ _
  · rw [h1.2.2 h0, h2.2.2 h0]
    exact ⟨rfl, Nat.le_refl _⟩
/-- no more than there are documents -/
theorem fused_len {w1 : World} {v1 : Value} {l1 : List FV} {cd : Int} {f g : Nat → Int → Int × Int} {x y : List (Int × Int)} {k : Int} (h1 : Fused w1 v1 l1 cd (both f g x y) k) (hok : cd = 0 → OkM (both f g x y)) : l1.length ≤ x.length + y.length := by
  by_cases h0 : cd = 0
  · obtain ⟨o1, ho1, rfl⟩ := h1.2.1 h0
    have := off_len ho1 (hok h0)
    rw [FuM.best_len]
    omega
  · rw [h1.2.2 h0]
    exact Nat.zero_le _
theorem rkC_zero {x y : List (Int × Int)} {c k : Int} (h : rkC x y c k = 0) : listB x = true ∧ listB y = true ∧ (1 ≤ c ∧ c ≤ 1000000) ∧ 1 ≤ k ∧ k ≤ 1000 := by
  unfold rkC at h
  split at h
  · cases h
  · split at h
    · cases h
    · rename_i h1 h2
      simp only [Bool.not_eq_false, Bool.and_eq_true, decide_eq_true_eq] at h1 h2
      exact ⟨h1.1, h1.2, h2.1, h2.2⟩
theorem wtC_zero {x y : List (Int × Int)} {a b k : Int} (h : wtC x y a b k = 0) : listB x = true ∧ listB y = true ∧ (0 ≤ a ∧ a ≤ 1000000) ∧ 0 ≤ b ∧ b ≤ 1000000 := by
  unfold wtC at h
  split at h
  · cases h
  · split at h
    · cases h
    · rename_i h1 h2
      simp only [Bool.not_eq_false, Bool.and_eq_true, decide_eq_true_eq] at h1 h2
      exact ⟨h1.1, h1.2, h2.1.1.1, h2.1.1.2⟩
theorem rk_okm {x y : List (Int × Int)} {c k : Int} (h : rkC x y c k = 0) : OkM (both (rkF c) (rkF c) x y) := by
  obtain ⟨h1, h2, hc, _⟩ := rkC_zero h
  have g1 := far_of h1
  have g2 := far_of h2
  exact fun d p hp => both_ok (good_rk c hc x y g1.2.1 g2.2.1) d p hp
theorem wt_okm {x y : List (Int × Int)} {a b k : Int} (h : wtC x y a b k = 0) : OkM (both (wtF a) (wtF b) x y) := by
  obtain ⟨h1, h2, ha, hb⟩ := wtC_zero h
  have g1 := far_of h1
  have g2 := far_of h2
  exact fun d p hp => both_ok (good_wt a b ha hb x y g1.1 g2.1) d p hp
end Go.Proofs.Ytneofgaklofigaa.Fu

/- FuseOrder: a set of documents that have come; what is fused by ranks. -/
namespace Go.Proofs.Ytneofgaklofigaa.Fu
open Go.RowKit Go.Proofs.Ytneofgaklofigaa FuM Go.Maps

def boolElem (v : Value) : Option (MD × List MemPlace) :=
  match v with
  | .bool b => some (.lit (.bool b), [])
  | _ => none
theorem boolElem_mk (b : Bool) : boolElem (.bool b) = some (.lit (.bool b), []) := rfl
theorem boolElem_inv {v : Value} {y : MD × List MemPlace} (h : boolElem v = some y) : ∃ b, v = .bool b ∧ y = (.lit (.bool b), []) := by
  unfold boolElem at h
  split at h
  · rename_i b
    injection h with h
    exact ⟨b, rfl, h.symm⟩
  · cases h
abbrev OwnS (w : World) (b n : Nat) (D : MD) : Prop := w.ownsMap Try.prog 3 boolElem b n D
theorem OwnS.later {w w' : World} {b n : Nat} {D : MD} (h : OwnS w b n D) (hb : Below w.heap.size w w') : OwnS w' b n D := h.kept (grown_of hb) (by simp)
/-- the map's datum D is the set S -/
structure RepS (D : MD) (S : List Int) : Prop where
  map : IsMap D
  has : ∀ d, Maps.has D (keyL d) = decide (d ∈ S)
  at_ : ∀ d, d ∈ S → ∀ z, D.atKey (keyL d) z = .lit (.bool true)
theorem RepS.none_ : RepS (.map [] : MD) [] := ⟨⟨[], rfl⟩, fun _ => rfl, fun d h => by simp at h⟩
theorem RepS.put {D : MD} {S : List Int} (h : RepS D S) (d : Int) : RepS (D.put (keyL d) (.lit (.bool true))) (S ++ [d]) := by
  refine ⟨h.map.put _ _, fun e => ?_, fun e he z => ?_⟩
  · by_cases c : e = d
    · subst c
      rw [has_put_same h.map (show WideAt.IsKeyLit (keyL e) from trivial)]
      simp
    · rw [has_put_other (keyL_ne c), h.has e]
      simp [c]
  · by_cases c : e = d
    · subst c
      exact atKey_put_same h.map (show WideAt.IsKeyLit (keyL e) from trivial) _ _
    · rw [atKey_put_other (keyL_ne c)]
      refine h.at_ e ?_ z
      simpa [c] using he
theorem bool_zero (w : World) : (zeroValue 4).run Try.prog w = .ok (.bool false) w := by kernel_rfl
set_option maxRecDepth 100000 in
theorem seen_look {W : World} {b n : Nat} {D : MD} {S : List Int} (hown : OwnS W b n D) (hr : RepS D S) (d : Int) (hd : -9223372036854775808 ≤ d ∧ d ≤ 9223372036854775807) (q : Bool) (hq : q = decide (d ∈ S)) :
    (Instr.lookup 39 (.map (some b)) (.int .i64 d) false).run Try.prog W = .ok (.bool q) W := by
  obtain ⟨v, ps, hrun, hv⟩ := hown.lookup key_law Try.underlying39 (bool_zero W) (boolElem_mk false) (key_is hd)
  refine hrun.trans ?_
  clear hrun
  obtain ⟨c, rfl, hc⟩ := boolElem_inv hv
  injection hc with hc _
  by_cases h : d ∈ S
  · rw [hr.at_ d h] at hc
    injection hc with hc
    injection hc with hc
    rw [hq, decide_eq_true h, ← hc]
  · have hn : Maps.has D (keyL d) = false := by rw [hr.has d, decide_eq_false h]
    rw [atKey_of_not_has hn] at hc
    injection hc with hc
    injection hc with hc
    rw [hq, decide_eq_false h, ← hc]
/-- what the law asks of what is fused -/
structure Told (x y : List (Int × Int)) (l : List FV) : Prop where
  nd : (l.map (·.1.1)).Nodup
  bt : ∀ i (h : i + 1 < l.length), FuM.bet l[i] l[i + 1] = true
  mx : ∀ z ∈ x, z.1 ∈ l.map (·.1.1)
  my : ∀ z ∈ y, z.1 ∈ l.map (·.1.1)
  len : l.length ≤ x.length + y.length
  fst : ∀ (hx : 0 < x.length) (hy : 0 < y.length) (hl : 0 < l.length), x[0].1 = y[0].1 → l[0].1.1 = x[0].1
  df : ∀ z ∈ l, -9223372036854775808 ≤ z.1.1 ∧ z.1.1 ≤ 9223372036854775807
theorem told_of {w' : World} {v' : Value} {l : List FV} {x y : List (Int × Int)} {c : Int} (ix : I2 x) (iy : I2 y) (hx : x.length ≤ 60) (hy : y.length ≤ 60) (h0 : rkC x y c 1000 = 0) (h : Fused w' v' l 0 (both (rkF c) (rkF c) x y) 1000) : Told x y l := by
  obtain ⟨h1, h2, hc, _⟩ := rkC_zero h0
  have g1 := far_of h1
  have g2 := far_of h2
  have hok := rk_okm h0
  obtain ⟨off, ho, rfl⟩ := h.2.1 rfl
  have hlen := off_len ho hok
  have e : FuM.best (1000 : Int).toNat off = FuM.srt off := FuM.best_all (by show off.length ≤ 1000; omega)
  rw [e]
  have hp := FuM.srt_perm off
  have hmem : ∀ d, d ∈ (FuM.srt off).map (·.1.1) ↔ d ∈ x.map (·.1) ∨ d ∈ y.map (·.1) := fun d => by
    rw [(hp.map (·.1.1)).mem_iff, off_has ho hok, both_mem]
  refine ⟨(hp.map (·.1.1)).nodup_iff.2 (off_docs ho), fun i hi => srt_bet ho.1 i hi, fun z hz => (hmem _).2 (.inl (List.mem_map.2 ⟨z, hz, rfl⟩)), fun z hz => (hmem _).2 (.inr (List.mem_map.2 ⟨z, hz, rfl⟩)), by rw [FuM.srt_len]; exact hlen, fun x0 y0 hl he => both_first c hc x y g1.2.1 g2.2.1 g1.2.2 g2.2.2 x0 y0 he off ho hl, fun z hz => ?_⟩
  have hd : z.1.1 ∈ (FuM.srt off).map (·.1.1) := List.mem_map.2 ⟨z, hz, rfl⟩
  rcases (hmem _).1 hd with hd | hd
  · obtain ⟨u, hu, e⟩ := List.mem_map.1 hd
    rw [← e]
    exact (ix u hu).1
  · obtain ⟨u, hu, e⟩ := List.mem_map.1 hd
    rw [← e]
    exact (iy u hu).1
theorem mk_seen (w : World) : (Instr.makeMap 39 none).run Try.prog w = .ok (.map (some w.heap.size)) (w.alloc (.map #[] 0)) := by
  simp [Instr.makeMap, Result.andThen]
set_option maxHeartbeats 4000000 in
set_option maxRecDepth 100000 in
/-- without the guard -/
theorem order_out (A1 A2 : Option Addr) (n1 n2 cp1 cp2 : Nat) (c : Int) (w : World) (hno : ¬ (n1 ≤ 60 ∧ n2 ≤ 60)) :
    Calls Try.prog 4 #[.slice A1 n1 cp1, .slice A2 n2 cp2, .int .i64 c] w fun e w' => e = .returned (.bool true) ∧ Below w.heap.size w w' := by
  have HA := Lib.hid (awake8_any w)
  by_cases h1 : n1 ≤ 60
  · have d1 : decide ((60 : Int) < (n1 : Int)) = false := decide_eq_false (by omega)
    have d2 : decide ((60 : Int) < (n2 : Int)) = true := decide_eq_true (by omega)
    clear hno h1
    go_enter Try.func4, Try.ntmps4
    go_wp2_with fail
    refine HA.out.mono ?_
    rintro e w1 ⟨rfl, hb⟩
    go_wp2
    go_ret
    exact ⟨rfl, hb⟩
  · have d1 : decide ((60 : Int) < (n1 : Int)) = true := decide_eq_true (by omega)
    clear hno h1
    go_enter Try.func4, Try.ntmps4
    go_wp2_with fail
    refine HA.out.mono ?_
    rintro e w1 ⟨rfl, hb⟩
    go_wp2
    go_ret
    exact ⟨rfl, hb⟩
end Go.Proofs.Ytneofgaklofigaa.Fu

/- FuseOrder, walked: within the guard. -/
namespace Go.Proofs.Ytneofgaklofigaa.Fu
open Go.RowKit Go.Proofs.Ytneofgaklofigaa FuM Go.Maps

theorem below_dnz {B : Nat} {U W : World} (h : Below B U W) (hB : B ≤ W.heap.size) (q : Nat) : Below B U (W.drewN q) := h.trans ((drewN_below _ _).mono hB)
set_option maxHeartbeats 16000000 in
set_option maxRecDepth 100000 in
theorem order_main (A1 A2 : Option Addr) (n1 n2 cp1 cp2 : Nat) (x y : List (Int × Int)) (c : Int) (w : World) (hx : Pairs w A1 n1 x) (hy : Pairs w A2 n2 y) (ix : I2 x) (iy : I2 y) (hn1 : n1 ≤ 60) (hn2 : n2 ≤ 60) :
    Calls Try.prog 4 #[.slice A1 n1 cp1, .slice A2 n2 cp2, .int .i64 c] w fun e w' => e = .returned (.bool true) ∧ Below w.heap.size w w' := by
  have HA := Lib.hid (awake8_any w)
  have HX := Lib.hid hx
  have HY := Lib.hid hy
  have R1 := fun W (hW : Below w.heap.size w W) => ranks_any A1 A2 n1 n2 cp1 cp2 x y c 1000 W (hx.later hW) (hy.later hW) ix iy (by omega) (by omega)
  have HL := Lib.hid (And.intro hx.1 hy.1)
  have HT := Lib.hid (fun (w' : World) (v' : Value) (l : List FV) (h0 : rkC x y c 1000 = 0) h => told_of (w' := w') (v' := v') (l := l) ix iy (by have := HL.out; omega) (by have := HL.out; omega) h0 h)
  obtain ⟨cd, hcd⟩ : ∃ cd, cd = rkC x y c 1000 := ⟨_, rfl⟩
  rw [← hcd] at R1
  have HCD := Lib.hid hcd
  have HR1 := Lib.hid R1
  have HIX := Lib.hid ix
  have HIY := Lib.hid iy
  have d1 : decide ((60 : Int) < (n1 : Int)) = false := decide_eq_false (by omega)
  have d2 : decide ((60 : Int) < (n2 : Int)) = false := decide_eq_false (by omega)
  clear hx hy R1 hcd ix iy
  go_enter Try.func4, Try.ntmps4
  go_wp2_with fail
  refine HA.out.mono ?_
  rintro e w0 ⟨rfl, b0⟩
  have B0 := Lib.hid b0
  clear b0
  go_wp2_with fail
  refine (HR1.out _ B0.out).mono ?_
  rintro e w1 ⟨v1, l, rfl, f1, b1⟩
  have B1 := Lib.hid (B0.out.trans (b1.mono B0.out.size))
  clear b1 HR1 HA B0
  by_cases h0 : cd = 0
  · subst h0
    have TO := Lib.hid (HT.out _ _ _ HCD.out.symm f1)
    obtain ⟨P, cl, rfl, hcl, _, hP⟩ := f1.1
    obtain ⟨m, hm⟩ : ∃ m, m = l.length := ⟨_, rfl⟩
    rw [← hm] at hcl ⊢
    have HM := Lib.hid hm
    have HP := Lib.hid hP
    have hmk := mk_seen
    clear f1 HT HCD hm hP
    have OW := Lib.hid (show OwnS (w1.alloc (.map #[] 0)) w1.heap.size 0 (.map []) from World.ownsMap_made _ _ _ _)
    have BW := Lib.hid (pl1 w1 (.map #[] 0))
    go_wp2
    clear hmk
    obtain ⟨b, hb⟩ : ∃ b, b = w1.heap.size := ⟨_, rfl⟩
    rw [← hb] at OW ⊢
    have HBE := Lib.hid hb
    clear hb
    go_loopw [10] (fun z wr => ∃ (i : Nat) (D : MD), z = .int .i64 i ∧ i ≤ m ∧ OwnS wr b i D ∧ RepS D ((l.take i).map (·.1.1)) ∧ Below w1.heap.size w1 wr) (fun z _ => m - (intOf z).toNat)
    case atStart => exact ⟨0, _, by go_num, Nat.zero_le _, OW.out, RepS.none_, BW.out⟩
    case round =>
      obtain ⟨i, D, rfl, hi, hO, hR, hb⟩ := hrel
      by_cases hlt : i < m
      · have hd1 : decide ((i : Int) < (m : Int)) = true := decide_eq_true (by omega)
        have hd2 : decide (i < m) = true := decide_eq_true hlt
        have hil : i < l.length := by rw [← HM.out]; exact hlt
        obtain ⟨g, o, rfl, hgl, q0, q1, q2⟩ := HP.out.2 i hil
        have hgU : g < wr.heap.size := Nat.lt_of_lt_of_le hgl hb.size
        have c0 := (hb.cell (p := ⟨g, o + i * 3, none⟩) hgl).trans q0
        have c1 := (hb.cell (p := ⟨g, o + i * 3 + 1, none⟩) hgl).trans q1
        have c2 := (hb.cell (p := ⟨g, o + i * 3 + 2, none⟩) hgl).trans q2
        have hdz := TO.out.df l[i] (List.getElem_mem hil)
        have hnew : l[i].1.1 ∉ (l.take i).map (·.1.1) := by
          have hnd := TO.out.nd
          rw [← List.take_append_drop i l, List.map_append, List.nodup_append] at hnd
          intro hm
          exact hnd.2.2 _ hm l[i].1.1 (List.mem_map.2 ⟨l[i], by rw [List.drop_eq_getElem_cons hil]; exact List.mem_cons_self, rfl⟩) rfl
        have hlk := fun W (hW : Below wr.heap.size wr W) => seen_look (hO.later hW) hR l[i].1.1 hdz false (decide_eq_false hnew).symm
        have hbt := TO.out.bt
        have hkey := key_is hdz
        obtain ⟨z, hz⟩ : ∃ z, z = l[i] := ⟨_, rfl⟩
        rw [← hz] at c0 c1 c2 hlk hkey
        have HZ := Lib.hid hz
        have HLK := Lib.hid hlk
        have hrt := fun W (hW : Below wr.heap.size wr W) => (right_any z.1.2 W (fv_r64 z)).mono (R' := fun e w' => e = .returned (.bool true) ∧ Below wr.heap.size wr w') (fun e w' ⟨h1, h2⟩ => ⟨by rw [h1, fv_rt z], hW.trans (h2.mono hW.size)⟩)
        unfold rv at hrt
        have HRT := Lib.hid hrt
        have HO := Lib.hid hO
        have HR := Lib.hid hR
        have HB := Lib.hid hb
        have hib : i < 200 := by
          have h1 := TO.out.len
          have h2 := HL.out
          have h3 := HM.out
          omega
        have hi0 : (0 : Int) ≤ (i : Int) := by omega
        have hin : (i : Int) < (m : Int) := by omega
        by_cases hi1 : i = 0
        · have hz0 : decide ((0 : Int) < (i : Int)) = false := decide_eq_false (by omega)
          have hz1 : decide (0 < i) = false := decide_eq_false (by omega)
          clear hO hR hb q0 q1 q2 hnew hbt hz hrt hdz hlk hi1
          go_wp2_with fail
          refine wp_region_held_drew (S := (fun w' => w'.cell? ⟨g, o + i * 3, none⟩ = some (.int .i64 z.1.1) ∧ w'.cell? ⟨g, o + i * 3 + 1, none⟩ = some (.int .i64 z.1.2.1) ∧ w'.cell? ⟨g, o + i * 3 + 2, none⟩ = some (.int .i64 z.1.2.2) ∧ (Instr.lookup 39 (.map (some b)) (.int .i64 z.1.1) false).run Try.prog w' = .ok (.bool false) w' ∧ Below wr.heap.size wr w')) (by kernel_rfl) ?_ (fun hHeld => ?_)
          · exact ⟨c0, c1, c2, HLK.out _ (Below.refl wr.heap.size wr).drew, (Below.refl wr.heap.size wr).drew⟩
          refine wpAnyH_take (i := 0) (oi := ?oi0_z) (v := ?v0_z) ?hi0_z ?h10_z ?h20_z ?h30_z ?hq0_z ?hy0_z ?hs0_z ?hn0_z
          case hi0_z => (simp only [List.getElem?_toArray, List.getElem?_cons_zero]; rfl)
          case h10_z => kernel_rfl
          case h20_z => kernel_rfl
          case h30_z => kernel_rfl
          case hy0_z => (refine Or.inl ⟨by rfl, ?_⟩; intro w0 hSw; (try dsimp only at hSw); go_simp; try (with_reducible rfl))
          case hq0_z => exact fun _ _ _ h => h
          case hs0_z => assumption
          try simp only [Act.put, List.setIfInBounds_toArray, List.set_cons_zero, List.set_cons_succ]
          refine wpAnyH_take (i := 1) (oi := ?oi1_z) (v := ?v1_z) ?hi1_z ?h11_z ?h21_z ?h31_z ?hq1_z ?hy1_z ?hs1_z ?hn1_z
          case hi1_z => (simp only [List.getElem?_toArray, List.getElem?_cons_succ, List.getElem?_cons_zero]; rfl)
          case h11_z => kernel_rfl
          case h21_z => kernel_rfl
          case h31_z => kernel_rfl
          case hy1_z => (refine Or.inl ⟨by rfl, ?_⟩; intro w0 hSw; (try dsimp only at hSw); go_simp; try (with_reducible rfl))
          case hq1_z => exact fun _ _ _ h => h
          case hs1_z => assumption
          try simp only [Act.put, List.setIfInBounds_toArray, List.set_cons_zero, List.set_cons_succ]
          refine wpAnyH_take (i := 2) (oi := ?oi2_z) (v := ?v2_z) ?hi2_z ?h12_z ?h22_z ?h32_z ?hq2_z ?hy2_z ?hs2_z ?hn2_z
          case hi2_z => (simp only [List.getElem?_toArray, List.getElem?_cons_succ, List.getElem?_cons_zero]; rfl)
          case h12_z => kernel_rfl
          case h22_z => kernel_rfl
          case h32_z => kernel_rfl
          case hy2_z => (refine Or.inl ⟨by rfl, ?_⟩; intro w0 hSw; (try dsimp only at hSw); go_simp; try (with_reducible rfl))
          case hq2_z => exact fun _ _ _ h => h
          case hs2_z => assumption
          try simp only [Act.put, List.setIfInBounds_toArray, List.set_cons_zero, List.set_cons_succ]
          refine wpAnyH_take (i := 3) (oi := ?oi3_z) (v := ?v3_z) ?hi3_z ?h13_z ?h23_z ?h33_z ?hq3_z ?hy3_z ?hs3_z ?hn3_z
          case hi3_z => (simp only [List.getElem?_toArray, List.getElem?_cons_succ, List.getElem?_cons_zero]; rfl)
          case h13_z => kernel_rfl
          case h23_z => kernel_rfl
          case h33_z => kernel_rfl
          case hy3_z => (refine Or.inl ⟨by rfl, ?_⟩; intro w0 hSw; (try dsimp only at hSw); go_simp; try (with_reducible rfl))
          case hq3_z => exact fun _ _ _ h => h
          case hs3_z => assumption
          try simp only [Act.put, List.setIfInBounds_toArray, List.set_cons_zero, List.set_cons_succ]
          refine wpAnyH_take (i := 4) (oi := ?oi4_z) (v := ?v4_z) ?hi4_z ?h14_z ?h24_z ?h34_z ?hq4_z ?hy4_z ?hs4_z ?hn4_z
          case hi4_z => (simp only [List.getElem?_toArray, List.getElem?_cons_succ, List.getElem?_cons_zero]; rfl)
          case h14_z => kernel_rfl
          case h24_z => kernel_rfl
          case h34_z => kernel_rfl
          case hy4_z => (refine Or.inl ⟨by rfl, ?_⟩; intro w0 hSw; (try dsimp only at hSw); go_simp; try (with_reducible rfl))
          case hq4_z => exact fun _ _ _ h => h
          case hs4_z => assumption
          try simp only [Act.put, List.setIfInBounds_toArray, List.set_cons_zero, List.set_cons_succ]
          refine wpAnyH_take (i := 5) (oi := ?oi5_z) (v := ?v5_z) ?hi5_z ?h15_z ?h25_z ?h35_z ?hq5_z ?hy5_z ?hs5_z ?hn5_z
          case hi5_z => (simp only [List.getElem?_toArray, List.getElem?_cons_succ, List.getElem?_cons_zero]; rfl)
          case h15_z => kernel_rfl
          case h25_z => kernel_rfl
          case h35_z => kernel_rfl
          case hy5_z => (refine Or.inl ⟨by rfl, ?_⟩; intro w0 hSw; (try dsimp only at hSw); go_simp; try (with_reducible rfl))
          case hq5_z => exact fun _ _ _ h => h
          case hs5_z => assumption
          try simp only [Act.put, List.setIfInBounds_toArray, List.set_cons_zero, List.set_cons_succ]
          refine wpAnyH_take (i := 6) (oi := ?oi6_z) (v := ?v6_z) ?hi6_z ?h16_z ?h26_z ?h36_z ?hq6_z ?hy6_z ?hs6_z ?hn6_z
          case hi6_z => (simp only [List.getElem?_toArray, List.getElem?_cons_succ, List.getElem?_cons_zero]; rfl)
          case h16_z => kernel_rfl
          case h26_z => kernel_rfl
          case h36_z => kernel_rfl
          case hy6_z => (refine Or.inl ⟨by rfl, ?_⟩; intro w0 hSw; (try dsimp only at hSw); go_simp; try (with_reducible rfl))
          case hq6_z => exact fun _ _ _ h => h
          case hs6_z => assumption
          try simp only [Act.put, List.setIfInBounds_toArray, List.set_cons_zero, List.set_cons_succ]
          refine wpAnyH_take (i := 7) (oi := ?oi7_z) (v := ?v7_z) ?hi7_z ?h17_z ?h27_z ?h37_z ?hq7_z ?hy7_z ?hs7_z ?hn7_z
          case hi7_z => (simp only [List.getElem?_toArray, List.getElem?_cons_succ, List.getElem?_cons_zero]; rfl)
          case h17_z => kernel_rfl
          case h27_z => kernel_rfl
          case h37_z => kernel_rfl
          case hy7_z => (refine Or.inl ⟨by rfl, ?_⟩; intro w0 hSw; (try dsimp only at hSw); go_simp; try (with_reducible rfl))
          case hq7_z => exact fun _ _ _ h => h
          case hs7_z => assumption
          try simp only [Act.put, List.setIfInBounds_toArray, List.set_cons_zero, List.set_cons_succ]
          refine wpAnyH_take (i := 8) (oi := ?oi8_z) (v := ?v8_z) ?hi8_z ?h18_z ?h28_z ?h38_z ?hq8_z ?hy8_z ?hs8_z ?hn8_z
          case hi8_z => (simp only [List.getElem?_toArray, List.getElem?_cons_succ, List.getElem?_cons_zero]; rfl)
          case h18_z => kernel_rfl
          case h28_z => kernel_rfl
          case h38_z => kernel_rfl
          case hy8_z => (refine Or.inl ⟨by rfl, ?_⟩; intro w0 hSw; (try dsimp only at hSw); go_simp; try (with_reducible rfl))
          case hq8_z => exact fun _ _ _ h => h
          case hs8_z => assumption
          try simp only [Act.put, List.setIfInBounds_toArray, List.set_cons_zero, List.set_cons_succ]
          refine wpAnyH_take (i := 9) (oi := ?oi9_z) (v := ?v9_z) ?hi9_z ?h19_z ?h29_z ?h39_z ?hq9_z ?hy9_z ?hs9_z ?hn9_z
          case hi9_z => (simp only [List.getElem?_toArray, List.getElem?_cons_succ, List.getElem?_cons_zero]; rfl)
          case h19_z => kernel_rfl
          case h29_z => kernel_rfl
          case h39_z => kernel_rfl
          case hy9_z => (refine Or.inl ⟨by rfl, ?_⟩; intro w0 hSw; (try dsimp only at hSw); go_simp; try (with_reducible rfl))
          case hq9_z => exact fun _ _ _ h => h
          case hs9_z => assumption
          try simp only [Act.put, List.setIfInBounds_toArray, List.set_cons_zero, List.set_cons_succ]
          refine wpAnyH_take (i := 10) (oi := ?oi10_z) (v := ?v10_z) ?hi10_z ?h110_z ?h210_z ?h310_z ?hq10_z ?hy10_z ?hs10_z ?hn10_z
          case hi10_z => (simp only [List.getElem?_toArray, List.getElem?_cons_succ, List.getElem?_cons_zero]; rfl)
          case h110_z => kernel_rfl
          case h210_z => kernel_rfl
          case h310_z => kernel_rfl
          case hy10_z => (refine Or.inl ⟨by rfl, ?_⟩; intro w0 hSw; (try dsimp only at hSw); go_simp; try (with_reducible rfl))
          case hq10_z => exact fun _ _ _ h => h
          case hs10_z => assumption
          try simp only [Act.put, List.setIfInBounds_toArray, List.set_cons_zero, List.set_cons_succ]
          refine wpAnyH_take (i := 11) (oi := ?oi11_z) (v := ?v11_z) ?hi11_z ?h111_z ?h211_z ?h311_z ?hq11_z ?hy11_z ?hs11_z ?hn11_z
          case hi11_z => (simp only [List.getElem?_toArray, List.getElem?_cons_succ, List.getElem?_cons_zero]; rfl)
          case h111_z => kernel_rfl
          case h211_z => kernel_rfl
          case h311_z => kernel_rfl
          case hy11_z => (refine Or.inl ⟨by rfl, ?_⟩; intro w0 hSw; (try dsimp only at hSw); go_simp; try (with_reducible rfl))
          case hq11_z => exact fun _ _ _ h => h
          case hs11_z => assumption
          try simp only [Act.put, List.setIfInBounds_toArray, List.set_cons_zero, List.set_cons_succ]
          refine wpAnyH_take (i := 12) (oi := ?oi12_z) (v := ?v12_z) ?hi12_z ?h112_z ?h212_z ?h312_z ?hq12_z ?hy12_z ?hs12_z ?hn12_z
          case hi12_z => (simp only [List.getElem?_toArray, List.getElem?_cons_succ, List.getElem?_cons_zero]; rfl)
          case h112_z => kernel_rfl
          case h212_z => kernel_rfl
          case h312_z => kernel_rfl
          case hy12_z => (refine Or.inl ⟨by rfl, ?_⟩; intro w0 hSw; (try dsimp only at hSw); go_simp; try (with_reducible rfl))
          case hq12_z => exact fun _ _ _ h => h
          case hs12_z => assumption
          try simp only [Act.put, List.setIfInBounds_toArray, List.set_cons_zero, List.set_cons_succ]
          refine wpAnyH_ready (rs := [13]) (by kernel_rfl) (by simp) ?_
          refine AllReadyH.cons (o := _) rfl (fun K hK => ?_) AllReadyH.nil
          go_simp
          refine (HRT.out _ (Below.refl _ _).drew).mono ?_
          rintro e wz ⟨rfl, hbz⟩
          go_wp2_with fail
          refine hK.out _ _ ?_ (fun hHeld2 => ?_)
          · exact ⟨keepV hbz c0 hgU, keepV hbz c1 hgU, keepV hbz c2 hgU, HLK.out _ hbz, hbz⟩
          clear hK K
          try simp only [Act.put, List.setIfInBounds_toArray, List.set_cons_zero, List.set_cons_succ]
          clear hHeld
          have hHeld := hHeld2
          clear hHeld2
          refine wpAnyH_take (i := 14) (oi := ?oi14_z) (v := ?v14_z) ?hi14_z ?h114_z ?h214_z ?h314_z ?hq14_z ?hy14_z ?hs14_z ?hn14_z
          case hi14_z => (simp only [List.getElem?_toArray, List.getElem?_cons_succ, List.getElem?_cons_zero]; rfl)
          case h114_z => kernel_rfl
          case h214_z => kernel_rfl
          case h314_z => kernel_rfl
          case hy14_z => (refine Or.inl ⟨by rfl, ?_⟩; intro w0 hSw; (try dsimp only at hSw); go_simp; try (with_reducible rfl))
          case hq14_z => exact fun _ _ _ h => h
          case hs14_z => assumption
          try simp only [Act.put, List.setIfInBounds_toArray, List.set_cons_zero, List.set_cons_succ]
          refine wpAnyH_take (i := 15) (oi := ?oi15_z) (v := ?v15_z) ?hi15_z ?h115_z ?h215_z ?h315_z ?hq15_z ?hy15_z ?hs15_z ?hn15_z
          case hi15_z => (simp only [List.getElem?_toArray, List.getElem?_cons_succ, List.getElem?_cons_zero]; rfl)
          case h115_z => kernel_rfl
          case h215_z => kernel_rfl
          case h315_z => kernel_rfl
          case hy15_z => (refine Or.inl ⟨by rfl, ?_⟩; intro w0 hSw; (try dsimp only at hSw); go_simp; try (with_reducible rfl))
          case hq15_z => exact fun _ _ _ h => h
          case hs15_z => assumption
          try simp only [Act.put, List.setIfInBounds_toArray, List.set_cons_zero, List.set_cons_succ]
          refine wpAnyH_take (i := 16) (oi := ?oi16_z) (v := ?v16_z) ?hi16_z ?h116_z ?h216_z ?h316_z ?hq16_z ?hy16_z ?hs16_z ?hn16_z
          case hi16_z => (simp only [List.getElem?_toArray, List.getElem?_cons_succ, List.getElem?_cons_zero]; rfl)
          case h116_z => kernel_rfl
          case h216_z => kernel_rfl
          case h316_z => kernel_rfl
          case hy16_z => (refine Or.inl ⟨by rfl, ?_⟩; intro w0 hSw; (try dsimp only at hSw); go_simp; try (with_reducible rfl))
          case hq16_z => exact fun _ _ _ h => h
          case hs16_z => assumption
          try simp only [Act.put, List.setIfInBounds_toArray, List.set_cons_zero, List.set_cons_succ]
          refine wpAnyH_take (i := 17) (oi := ?oi17_z) (v := ?v17_z) ?hi17_z ?h117_z ?h217_z ?h317_z ?hq17_z ?hy17_z ?hs17_z ?hn17_z
          case hi17_z => (simp only [List.getElem?_toArray, List.getElem?_cons_succ, List.getElem?_cons_zero]; rfl)
          case h117_z => kernel_rfl
          case h217_z => kernel_rfl
          case h317_z => kernel_rfl
          case hy17_z => (refine Or.inl ⟨by rfl, ?_⟩; intro w0 hSw; (try dsimp only at hSw); go_simp; try (with_reducible rfl))
          case hq17_z => exact fun _ _ _ h => h
          case hs17_z => assumption
          try simp only [Act.put, List.setIfInBounds_toArray, List.set_cons_zero, List.set_cons_succ]
          refine wpAnyH_take (i := 18) (oi := ?oi18_z) (v := ?v18_z) ?hi18_z ?h118_z ?h218_z ?h318_z ?hq18_z ?hy18_z ?hs18_z ?hn18_z
          case hi18_z => (simp only [List.getElem?_toArray, List.getElem?_cons_succ, List.getElem?_cons_zero]; rfl)
          case h118_z => kernel_rfl
          case h218_z => kernel_rfl
          case h318_z => kernel_rfl
          case hy18_z => (refine Or.inl ⟨by rfl, ?_⟩; intro w0 hSw; (try dsimp only at hSw); go_simp; try (with_reducible rfl))
          case hq18_z => exact fun _ _ _ h => h
          case hs18_z => assumption
          try simp only [Act.put, List.setIfInBounds_toArray, List.set_cons_zero, List.set_cons_succ]
          refine wpAnyH_take (i := 19) (oi := ?oi19_z) (v := ?v19_z) ?hi19_z ?h119_z ?h219_z ?h319_z ?hq19_z ?hy19_z ?hs19_z ?hn19_z
          case hi19_z => (simp only [List.getElem?_toArray, List.getElem?_cons_succ, List.getElem?_cons_zero]; rfl)
          case h119_z => kernel_rfl
          case h219_z => kernel_rfl
          case h319_z => kernel_rfl
          case hy19_z => (refine Or.inl ⟨by rfl, ?_⟩; intro w0 hSw; (try dsimp only at hSw); go_simp; try (with_reducible rfl))
          case hq19_z => exact fun _ _ _ h => h
          case hs19_z => assumption
          try simp only [Act.put, List.setIfInBounds_toArray, List.set_cons_zero, List.set_cons_succ]
          refine wpAnyH_take (i := 20) (oi := ?oi20_z) (v := undef) ?hi20_z ?h120_z ?h220_z ?h320_z ?hq20_z ?hy20_z ?hs20_z ?hn20_z
          case hi20_z => (simp only [List.getElem?_toArray, List.getElem?_cons_succ, List.getElem?_cons_zero]; rfl)
          case h120_z => kernel_rfl
          case h220_z => kernel_rfl
          case h320_z => kernel_rfl
          case hq20_z => exact fun _ _ _ h => h
          case hs20_z => assumption
          case hy20_z => exact Or.inr ⟨by rfl, rfl⟩
          try simp only [Act.put, List.setIfInBounds_toArray, List.set_cons_zero, List.set_cons_succ]
          refine wpAnyH_take (i := 21) (oi := ?oi21_z) (v := undef) ?hi21_z ?h121_z ?h221_z ?h321_z ?hq21_z ?hy21_z ?hs21_z ?hn21_z
          case hi21_z => (simp only [List.getElem?_toArray, List.getElem?_cons_succ, List.getElem?_cons_zero]; rfl)
          case h121_z => kernel_rfl
          case h221_z => kernel_rfl
          case h321_z => kernel_rfl
          case hq21_z => exact fun _ _ _ h => h
          case hs21_z => assumption
          case hy21_z => exact Or.inr ⟨by rfl, rfl⟩
          try simp only [Act.put, List.setIfInBounds_toArray, List.set_cons_zero, List.set_cons_succ]
          refine wpAnyH_take (i := 22) (oi := ?oi22_z) (v := undef) ?hi22_z ?h122_z ?h222_z ?h322_z ?hq22_z ?hy22_z ?hs22_z ?hn22_z
          case hi22_z => (simp only [List.getElem?_toArray, List.getElem?_cons_succ, List.getElem?_cons_zero]; rfl)
          case h122_z => kernel_rfl
          case h222_z => kernel_rfl
          case h322_z => kernel_rfl
          case hq22_z => exact fun _ _ _ h => h
          case hs22_z => assumption
          case hy22_z => exact Or.inr ⟨by rfl, rfl⟩
          try simp only [Act.put, List.setIfInBounds_toArray, List.set_cons_zero, List.set_cons_succ]
          refine wpAnyH_take (i := 23) (oi := ?oi23_z) (v := undef) ?hi23_z ?h123_z ?h223_z ?h323_z ?hq23_z ?hy23_z ?hs23_z ?hn23_z
          case hi23_z => (simp only [List.getElem?_toArray, List.getElem?_cons_succ, List.getElem?_cons_zero]; rfl)
          case h123_z => kernel_rfl
          case h223_z => kernel_rfl
          case h323_z => kernel_rfl
          case hq23_z => exact fun _ _ _ h => h
          case hs23_z => assumption
          case hy23_z => exact Or.inr ⟨by rfl, rfl⟩
          try simp only [Act.put, List.setIfInBounds_toArray, List.set_cons_zero, List.set_cons_succ]
          refine wpAnyH_take (i := 24) (oi := ?oi24_z) (v := undef) ?hi24_z ?h124_z ?h224_z ?h324_z ?hq24_z ?hy24_z ?hs24_z ?hn24_z
          case hi24_z => (simp only [List.getElem?_toArray, List.getElem?_cons_succ, List.getElem?_cons_zero]; rfl)
          case h124_z => kernel_rfl
          case h224_z => kernel_rfl
          case h324_z => kernel_rfl
          case hq24_z => exact fun _ _ _ h => h
          case hs24_z => assumption
          case hy24_z => exact Or.inr ⟨by rfl, rfl⟩
          try simp only [Act.put, List.setIfInBounds_toArray, List.set_cons_zero, List.set_cons_succ]
          refine wpAnyH_take (i := 25) (oi := ?oi25_z) (v := undef) ?hi25_z ?h125_z ?h225_z ?h325_z ?hq25_z ?hy25_z ?hs25_z ?hn25_z
          case hi25_z => (simp only [List.getElem?_toArray, List.getElem?_cons_succ, List.getElem?_cons_zero]; rfl)
          case h125_z => kernel_rfl
          case h225_z => kernel_rfl
          case h325_z => kernel_rfl
          case hq25_z => exact fun _ _ _ h => h
          case hs25_z => assumption
          case hy25_z => exact Or.inr ⟨by rfl, rfl⟩
          try simp only [Act.put, List.setIfInBounds_toArray, List.set_cons_zero, List.set_cons_succ]
          refine wpAnyH_take (i := 26) (oi := ?oi26_z) (v := undef) ?hi26_z ?h126_z ?h226_z ?h326_z ?hq26_z ?hy26_z ?hs26_z ?hn26_z
          case hi26_z => (simp only [List.getElem?_toArray, List.getElem?_cons_succ, List.getElem?_cons_zero]; rfl)
          case h126_z => kernel_rfl
          case h226_z => kernel_rfl
          case h326_z => kernel_rfl
          case hq26_z => exact fun _ _ _ h => h
          case hs26_z => assumption
          case hy26_z => exact Or.inr ⟨by rfl, rfl⟩
          try simp only [Act.put, List.setIfInBounds_toArray, List.set_cons_zero, List.set_cons_succ]
          refine wpAnyH_take (i := 27) (oi := ?oi27_z) (v := undef) ?hi27_z ?h127_z ?h227_z ?h327_z ?hq27_z ?hy27_z ?hs27_z ?hn27_z
          case hi27_z => (simp only [List.getElem?_toArray, List.getElem?_cons_succ, List.getElem?_cons_zero]; rfl)
          case h127_z => kernel_rfl
          case h227_z => kernel_rfl
          case h327_z => kernel_rfl
          case hq27_z => exact fun _ _ _ h => h
          case hs27_z => assumption
          case hy27_z => exact Or.inr ⟨by rfl, rfl⟩
          try simp only [Act.put, List.setIfInBounds_toArray, List.set_cons_zero, List.set_cons_succ]
          refine wpAnyH_take (i := 28) (oi := ?oi28_z) (v := undef) ?hi28_z ?h128_z ?h228_z ?h328_z ?hq28_z ?hy28_z ?hs28_z ?hn28_z
          case hi28_z => (simp only [List.getElem?_toArray, List.getElem?_cons_succ, List.getElem?_cons_zero]; rfl)
          case h128_z => kernel_rfl
          case h228_z => kernel_rfl
          case h328_z => kernel_rfl
          case hq28_z => exact fun _ _ _ h => h
          case hs28_z => assumption
          case hy28_z => exact Or.inr ⟨by rfl, rfl⟩
          try simp only [Act.put, List.setIfInBounds_toArray, List.set_cons_zero, List.set_cons_succ]
          refine wpAnyH_take (i := 29) (oi := ?oi29_z) (v := undef) ?hi29_z ?h129_z ?h229_z ?h329_z ?hq29_z ?hy29_z ?hs29_z ?hn29_z
          case hi29_z => (simp only [List.getElem?_toArray, List.getElem?_cons_succ, List.getElem?_cons_zero]; rfl)
          case h129_z => kernel_rfl
          case h229_z => kernel_rfl
          case h329_z => kernel_rfl
          case hq29_z => exact fun _ _ _ h => h
          case hs29_z => assumption
          case hy29_z => exact Or.inr ⟨by rfl, rfl⟩
          try simp only [Act.put, List.setIfInBounds_toArray, List.set_cons_zero, List.set_cons_succ]
          refine wpAnyH_take (i := 30) (oi := ?oi30_z) (v := undef) ?hi30_z ?h130_z ?h230_z ?h330_z ?hq30_z ?hy30_z ?hs30_z ?hn30_z
          case hi30_z => (simp only [List.getElem?_toArray, List.getElem?_cons_succ, List.getElem?_cons_zero]; rfl)
          case h130_z => kernel_rfl
          case h230_z => kernel_rfl
          case h330_z => kernel_rfl
          case hq30_z => exact fun _ _ _ h => h
          case hs30_z => assumption
          case hy30_z => exact Or.inr ⟨by rfl, rfl⟩
          try simp only [Act.put, List.setIfInBounds_toArray, List.set_cons_zero, List.set_cons_succ]
          refine wpAnyH_take (i := 31) (oi := ?oi31_z) (v := ?v31_z) ?hi31_z ?h131_z ?h231_z ?h331_z ?hq31_z ?hy31_z ?hs31_z ?hn31_z
          case hi31_z => (simp only [List.getElem?_toArray, List.getElem?_cons_succ, List.getElem?_cons_zero]; rfl)
          case h131_z => kernel_rfl
          case h231_z => kernel_rfl
          case h331_z => kernel_rfl
          case hy31_z => (refine Or.inl ⟨by rfl, ?_⟩; intro w0 hSw; (try dsimp only at hSw); go_simp; try (with_reducible rfl))
          case hq31_z => exact fun _ _ _ h => h
          case hs31_z => assumption
          try simp only [Act.put, List.setIfInBounds_toArray, List.set_cons_zero, List.set_cons_succ]
          refine wpAnyH_take (i := 32) (oi := ?oi32_z) (v := ?v32_z) ?hi32_z ?h132_z ?h232_z ?h332_z ?hq32_z ?hy32_z ?hs32_z ?hn32_z
          case hi32_z => (simp only [List.getElem?_toArray, List.getElem?_cons_succ, List.getElem?_cons_zero]; rfl)
          case h132_z => kernel_rfl
          case h232_z => kernel_rfl
          case h332_z => kernel_rfl
          case hy32_z => (refine Or.inl ⟨by rfl, ?_⟩; intro w0 hSw; (try dsimp only at hSw); go_simp; try (with_reducible rfl))
          case hq32_z => exact fun _ _ _ h => h
          case hs32_z => assumption
          try simp only [Act.put, List.setIfInBounds_toArray, List.set_cons_zero, List.set_cons_succ]
          refine wpAnyH_done (by kernel_rfl) ?_ _
          have c0z := keepV hbz c0 hgU
          have HO2 := Lib.hid (HO.out.later hbz)
          have HB2 := Lib.hid (HB.out.trans (hbz.mono HB.out.size))
          clear hbz c0 c1 c2
          go_wp2_with (at_mapUpdate; refine wpList_mapUpdate_own _ rfl _ _ _ 39 rfl 3 4 key_law Try.underlying39 _ b i _ rfl HO2.out (by unfold maxLen; omega) _ _ _ rfl rfl hkey (.lit (.bool true)) [] (boolElem_mk true) ?_; intro w5 hown5 hgrow5)
          have HN : Hid (OwnS w5 b (i + 1) (D.put (keyL z.1.1) (.lit (.bool true))) ∧ RepS (D.put (keyL z.1.1) (.lit (.bool true))) ((l.take (i + 1)).map (·.1.1)) ∧ Below w1.heap.size w1 w5) := Lib.hid (by
            refine ⟨hown5, ?_, HB2.out.grown hgrow5 HB2.out.size (fun q hq => by
              have e : b = q := Option.some.inj hq
              have := HBE.out
              omega)⟩
            rw [List.take_succ_eq_append_getElem hil, List.map_append, List.map_cons, List.map_nil, ← HZ.out]
            exact HR.out.put z.1.1)
          clear hown5 hgrow5
          go_wp2
          go_roundw
          case rel => exact ⟨i + 1, _, by go_num, by omega, HN.out.1, HN.out.2.1, HN.out.2.2⟩
          case measure => simp [intOf]; omega
        · obtain ⟨j, hj⟩ : ∃ j, i = j + 1 := ⟨i - 1, by omega⟩
          have hjl : j < l.length := by omega
          obtain ⟨g', o', e', _, r0, r1, r2⟩ := HP.out.2 j hjl
          injection e' with e'
          injection e' with e1' e2' _
          subst e1'
          subst e2'
          have e0 := (hb.cell (p := ⟨g, o + j * 3, none⟩) hgl).trans r0
          have e1 := (hb.cell (p := ⟨g, o + j * 3 + 1, none⟩) hgl).trans r1
          have e2 := (hb.cell (p := ⟨g, o + j * 3 + 2, none⟩) hgl).trans r2
          have hb2 := hbt j (by omega)
          rw [show l[j + 1]'(by omega) = z by rw [hz]; congr 1; omega] at hb2
          obtain ⟨u, hu⟩ : ∃ u, u = l[j] := ⟨_, rfl⟩
          rw [← hu] at e0 e1 e2 hb2
          have hbt2 := fun W (hW : Below wr.heap.size wr W) => (better_any u z W).mono (R' := fun e w' => e = .returned (.bool true) ∧ Below wr.heap.size wr w') (fun e w' ⟨h1, h2⟩ => ⟨by rw [h1, hb2], hW.trans (h2.low.mono hW.size)⟩)
          unfold sv at hbt2
          have HBT := Lib.hid hbt2
          have hz0 : decide ((0 : Int) < (i : Int)) = true := decide_eq_true (by omega)
          have hz1 : decide (0 < i) = true := decide_eq_true (by omega)
          have hwj : IntKind.i64.wrap ((i : Int) - 1) = (j : Int) := by
              have h1 := TO.out.len
              have h2 := HL.out
              have h3 := HM.out
              rw [IntKind.wrap_i64]
              omega
          have hj0 : (0 : Int) ≤ (j : Int) := by omega
          have hjn : (j : Int) < (m : Int) := by omega
          clear hO hR hb q0 q1 q2 r0 r1 r2 hnew hbt hbt2 hb2 hu hz hrt hdz hlk hi1 hj
          go_wp2_with fail
          go_region_held3 (fun w' => w'.cell? ⟨g, o + i * 3, none⟩ = some (.int .i64 z.1.1) ∧ w'.cell? ⟨g, o + i * 3 + 1, none⟩ = some (.int .i64 z.1.2.1) ∧ w'.cell? ⟨g, o + i * 3 + 2, none⟩ = some (.int .i64 z.1.2.2) ∧ w'.cell? ⟨g, o + j * 3, none⟩ = some (.int .i64 u.1.1) ∧ w'.cell? ⟨g, o + j * 3 + 1, none⟩ = some (.int .i64 u.1.2.1) ∧ w'.cell? ⟨g, o + j * 3 + 2, none⟩ = some (.int .i64 u.1.2.2) ∧ (Instr.lookup 39 (.map (some b)) (.int .i64 z.1.1) false).run Try.prog w' = .ok (.bool false) w' ∧ Below wr.heap.size wr w')
            ((first | exact ⟨keepV hbz c0 hgU, keepV hbz c1 hgU, keepV hbz c2 hgU, keepV hbz e0 hgU, keepV hbz e1 hgU, keepV hbz e2 hgU, HLK.out _ hbz, hbz⟩ | exact ⟨c0, c1, c2, e0, e1, e2, HLK.out _ (Below.refl wr.heap.size wr).drew, (Below.refl wr.heap.size wr).drew⟩ | go_keep))
            (first
              | (go_at_call 10; ((with_reducible refine (HRT.out _ (by first | assumption | exact (Below.refl _ _).drew)).mono ?_); rintro e wz ⟨rfl, hbz⟩))
              | (go_at_call 11; ((with_reducible refine (HBT.out _ (by first | assumption | exact (Below.refl _ _).drew)).mono ?_); rintro e wy ⟨rfl, hbz⟩)))
          have c0z := keepV hbz c0 hgU
          have HO2 := Lib.hid (HO.out.later hbz)
          have HB2 := Lib.hid (HB.out.trans (hbz.mono HB.out.size))
          clear hbz c0 c1 c2 e0 e1 e2
          go_wp2_with (at_mapUpdate; refine wpList_mapUpdate_own _ rfl _ _ _ 39 rfl 3 4 key_law Try.underlying39 _ b i _ rfl HO2.out (by unfold maxLen; omega) _ _ _ rfl rfl hkey (.lit (.bool true)) [] (boolElem_mk true) ?_; intro w5 hown5 hgrow5)
          have HN : Hid (OwnS w5 b (i + 1) (D.put (keyL z.1.1) (.lit (.bool true))) ∧ RepS (D.put (keyL z.1.1) (.lit (.bool true))) ((l.take (i + 1)).map (·.1.1)) ∧ Below w1.heap.size w1 w5) := Lib.hid (by
            refine ⟨hown5, ?_, HB2.out.grown hgrow5 HB2.out.size (fun q hq => by
              have e : b = q := Option.some.inj hq
              have := HBE.out
              omega)⟩
            rw [List.take_succ_eq_append_getElem hil, List.map_append, List.map_cons, List.map_nil, ← HZ.out]
            exact HR.out.put z.1.1)
          clear hown5 hgrow5
          go_wp2
          go_roundw
          case rel => exact ⟨i + 1, _, by go_num, by omega, HN.out.1, HN.out.2.1, HN.out.2.2⟩
          case measure => simp [intOf]; omega
      · have hd1 : decide ((i : Int) < (m : Int)) = false := decide_eq_false (by omega)
        have hd2 : decide (i < m) = false := decide_eq_false hlt
        obtain rfl : i = m := by omega
        rw [List.take_of_length_le (by rw [← HM.out]; exact Nat.le_refl _)] at hR
        have HO := Lib.hid hO
        have HR := Lib.hid hR
        have HB := Lib.hid hb
        have BX := Lib.hid (B1.out.trans (hb.mono B1.out.size))
        clear hO hR hb OW BW
        go_wp2_with fail
        go_loopw [11] (fun z w' => ∃ p2 : Nat, z = .int .i64 p2 ∧ p2 ≤ n1 ∧ w' = wr) (fun z _ => n1 - (intOf z).toNat)
        case atStart => exact ⟨0, by go_num, Nat.zero_le _, rfl⟩
        case round =>
          obtain ⟨p2, rfl, hpp2, hwp2⟩ := hrel
          subst hwp2
          by_cases hltp2 : p2 < n1
          · have f1 : decide ((p2 : Int) < (n1 : Int)) = true := decide_eq_true (by omega)
            have f2 : decide (p2 < n1) = true := decide_eq_true hltp2
            have hpl : p2 < x.length := by have := HL.out; omega
            obtain ⟨g2, o2, rfl, _, q0, _⟩ := (HX.out.later BX.out).2 p2 hpl
            have hdz := (HIX.out x[p2] (List.getElem_mem hpl)).1
            have hlk := seen_look HO.out HR.out x[p2].1 hdz true (decide_eq_true (TO.out.mx _ (List.getElem_mem hpl))).symm
            obtain ⟨d, hd⟩ : ∃ d, d = x[p2].1 := ⟨_, rfl⟩
            rw [← hd] at q0 hlk
            have hi0 : (0 : Int) ≤ (p2 : Int) := by omega
            have hin : (p2 : Int) < (n1 : Int) := by omega
            clear hd hdz
            go_wp2
            exact ⟨⟨p2 + 1, by go_num, by omega, trivial⟩, by simp [intOf]; omega⟩
          · have f1 : decide ((p2 : Int) < (n1 : Int)) = false := decide_eq_false (by omega)
            have f2 : decide (p2 < n1) = false := decide_eq_false hltp2
            clear hpp2 hltp2
            go_wp2_with fail
            go_loopw [12] (fun z w' => ∃ p3 : Nat, z = .int .i64 p3 ∧ p3 ≤ n2 ∧ w' = wr) (fun z _ => n2 - (intOf z).toNat)
            case atStart => exact ⟨0, by go_num, Nat.zero_le _, rfl⟩
            case round =>
              obtain ⟨p3, rfl, hpp3, hwp3⟩ := hrel
              subst hwp3
              by_cases hltp3 : p3 < n2
              · have f1 : decide ((p3 : Int) < (n2 : Int)) = true := decide_eq_true (by omega)
                have f2 : decide (p3 < n2) = true := decide_eq_true hltp3
                have hpl : p3 < y.length := by have := HL.out; omega
                obtain ⟨g2, o2, rfl, _, q0, _⟩ := (HY.out.later BX.out).2 p3 hpl
                have hdz := (HIY.out y[p3] (List.getElem_mem hpl)).1
                have hlk := seen_look HO.out HR.out y[p3].1 hdz true (decide_eq_true (TO.out.my _ (List.getElem_mem hpl))).symm
                obtain ⟨d, hd⟩ : ∃ d, d = y[p3].1 := ⟨_, rfl⟩
                rw [← hd] at q0 hlk
                have hi0 : (0 : Int) ≤ (p3 : Int) := by omega
                have hin : (p3 : Int) < (n2 : Int) := by omega
                clear hd hdz
                go_wp2
                exact ⟨⟨p3 + 1, by go_num, by omega, trivial⟩, by simp [intOf]; omega⟩
              · have f1 : decide ((p3 : Int) < (n2 : Int)) = false := decide_eq_false (by omega)
                have f2 : decide (p3 < n2) = false := decide_eq_false hltp3
                clear hpp3 hltp3
                go_wp2_with fail
                have t1 := TO.out.len
                have t2 := HL.out
                have t3 := HM.out
                obtain ⟨s12, hs12⟩ : ∃ s12, s12 = (n1 : Int) + (n2 : Int) := ⟨_, rfl⟩
                have hw12 : IntKind.i64.wrap ((n1 : Int) + (n2 : Int)) = s12 := by rw [hs12, IntKind.wrap_i64]; omega
                have hle : decide ((i : Int) ≤ s12) = true := decide_eq_true (by omega)
                by_cases hz1 : n1 = 0
                · have k1 : ((n1 : Int) == (0 : Int)) = true := by simp; exact hz1
                  clear hz1 hs12 t1 t2 t3
                  go_quiet (fail)
                  go_wp2
                  go_ret
                  exact ⟨rfl, below_dnz BX.out BX.out.size _⟩
                · have k1 : ((n1 : Int) == (0 : Int)) = false := by simp; exact hz1
                  by_cases hz2 : n2 = 0
                  · have k2 : ((n2 : Int) == (0 : Int)) = true := by simp; exact hz2
                    clear hz1 hz2 hs12 t1 t2 t3
                    go_quiet (fail)
                    go_wp2
                    go_ret
                    exact ⟨rfl, below_dnz BX.out BX.out.size _⟩
                  · have k2 : ((n2 : Int) == (0 : Int)) = false := by simp; exact hz2
                    have x0 : 0 < x.length := by omega
                    have y0 : 0 < y.length := by omega
                    obtain ⟨g2, o2, rfl, _, q0, _⟩ := (HX.out.later BX.out).2 0 x0
                    obtain ⟨g3, o3, rfl, _, q1, _⟩ := (HY.out.later BX.out).2 0 y0
                    rw [Nat.zero_mul, Nat.add_zero] at q0 q1
                    have hfst := TO.out.fst x0 y0
                    have hin := TO.out.mx _ (List.getElem_mem x0)
                    have hl0 : 0 < l.length := by
                      obtain ⟨z, hz, _⟩ := List.mem_map.1 hin
                      exact List.length_pos_of_mem hz
                    obtain ⟨g4, o4, rfl, hgl4, q2, _⟩ := HP.out.2 0 hl0
                    have q3 := (HB.out.cell (p := ⟨g4, o4 + 0 * 3, none⟩) hgl4).trans q2
                    rw [Nat.zero_mul, Nat.add_zero] at q3
                    have hfst2 := hfst hl0
                    obtain ⟨d, hd⟩ : ∃ d, d = x[0].1 := ⟨_, rfl⟩
                    obtain ⟨e, he⟩ : ∃ e, e = y[0].1 := ⟨_, rfl⟩
                    rw [← hd] at q0 hfst2
                    rw [← he] at q1 hfst2
                    have hn1p : (0 : Int) < (n1 : Int) := by omega
                    have hn2p : (0 : Int) < (n2 : Int) := by omega
                    have hmp : (0 : Int) < (i : Int) := by omega
                    by_cases hde : d = e
                    · rw [hfst2 hde] at q3
                      subst hde
                      have k3 : (d != d) = false := by simp
                      have k4 : (d == d) = true := by simp
                      clear hz1 hz2 hs12 t1 t2 t3 hd he hfst hfst2 hin q2
                      go_quiet (fail)
                      go_wp2
                      go_ret
                      exact ⟨rfl, below_dnz BX.out BX.out.size _⟩
                    · have k3 : (d != e) = true := by simpa using hde
                      clear hz1 hz2 hs12 t1 t2 t3 hd he hfst hfst2 hin q2 q3 hde
                      go_quiet (fail)
                      go_wp2
                      go_ret
                      exact ⟨rfl, below_dnz BX.out BX.out.size _⟩
  · have hl := f1.2.2 h0
    subst hl
    obtain ⟨P, cl, rfl, _⟩ := f1.1
    have hq : (cd != (0 : Int)) = true := by simpa using h0
    clear h0 f1 HT HCD
    go_wp2
    go_ret
    exact ⟨rfl, B1.out⟩
end Go.Proofs.Ytneofgaklofigaa.Fu

namespace Go.Proofs.Ytneofgaklofigaa.Fu
open Go.ChangeShapes Go.WideShapes Go.ChangeAt Go.RowKit Go.Proofs.Ytneofgaklofigaa

set_option maxRecDepth 100000 in
theorem fuseorder_lifted (os : Os) (started : os.Started) (H : Type) (enc : TypeId × Value → H) :
    ReturnsInHanded {} Try.checked os 4 .any (Rows.fuseOrderSpec.pre6 enc Try.prog Try.f4 Rows.fuseOrderRow.domain false) (Rows.fuseOrderSpec.post enc Try.prog Try.f4 false true false false) := by
  refine returnsInHanded_of_change (C := Try.checked) knob started (by kernel_rfl) Try.func4
    (ChangeSpec.witness6 (enc := enc) (C := Try.checked) false ⟨#[], #[.slice none 0 0, .slice none 0 0, .int .i64 0], []⟩ 8 (by kernel_rfl) (by kernel_rfl) (by kernel_rfl) (by kernel_rfl)) ?_
  intro W base args ds gs before hval0 hW hcnd _
  have hval : ∀ (j : Nat) t v, Try.f4.params[j]? = some t → args[j]? = some v → Value.okWide Try.prog W .any base t v := hval0
  have hW' := hW
  obtain ⟨p, q, hA0, hV, rfl, hfz, hnd⟩ := hW
  have hA : DataW.TrodAll enc Try.prog W 0 (fun _ => true) true Try.f4.params.toList args.toList ds p := hA0
  rw [Try.params4] at hA hval
  obtain ⟨v0, vs0, d0, ds0, p0, q0, hargs, rfl, rfl, h0, r0⟩ := trodAll_cons hA
  obtain ⟨v1, vs1, d1, ds1, p1, q1, rfl, rfl, rfl, h1, r1⟩ := trodAll_cons r0
  obtain ⟨v2, vs2, d2, ds2, p2, q2, rfl, rfl, rfl, h2, r2⟩ := trodAll_cons r1
  obtain ⟨rfl, rfl, rfl⟩ := trodAll_nil r2
  obtain rfl : args = #[v0, v1, v2] := by cases args; simp_all
  obtain ⟨rfl, rfl⟩ := trodVars_none hV
  obtain ⟨A1, n1, cp1, x, rfl, hx, ix⟩ := scoreds_of_trod (hval 0 22 v0 rfl rfl) (fun z hz => hW'.lt z (by simp [hz])) h0
  obtain ⟨A2, n2, cp2, y, rfl, hy, iy⟩ := scoreds_of_trod (hval 1 22 v1 rfl rfl) (fun z hz => hW'.lt z (by simp [hz])) h1
  obtain ⟨c, rfl, rfl, rfl, _⟩ := open_int Try.underlying3 (hval 2 3 v2 rfl rfl) h2
  have walk : Calls Try.prog 4 #[.slice A1 n1 cp1, .slice A2 n2 cp2, .int .i64 c] W fun e w' => e = .returned (.bool true) ∧ Below W.heap.size W w' := by
    by_cases hc : n1 ≤ 60 ∧ n2 ≤ 60
    · exact order_main A1 A2 n1 n2 cp1 cp2 x y c W hx hy ix iy hc.1 hc.2
    · exact order_out A1 A2 n1 n2 cp1 cp2 c W hc
  refine walk.mono fun e W' ⟨he, hg⟩ => ?_
  subst he
  exact ⟨_, rfl, law_post (s := Rows.fuseOrderSpec) hW' rfl rfl rfl rfl (by kernel_rfl) (by kernel_rfl) hg⟩
end Go.Proofs.Ytneofgaklofigaa.Fu
namespace Go.Proofs.Ytneofgaklofigaa
open Go.ChangeShapes Go.WideShapes Go.ChangeAt Go.RowKit
theorem fuseorder_holds : Rows.FuseOrderSaid :=
  OpenClaim.holds_of_wide 4 Try.f4 rfl rfl rfl rfl rfl rfl rfl ⟨rfl, rfl, rfl, rfl, rfl⟩ rfl rfl rfl rfl rfl (by kernel_rfl) Try.func4 (by kernel_rfl)
    (of_decide_eq_true (by kernel_rfl)) (by unfold Func.isWrapper; first | (rw [if_pos (by decide +kernel)]; kernel_rfl) | (rw [if_neg (by decide +kernel)]; exact ⟨rfl, rfl⟩))
    (fun os started H enc _ => Fu.fuseorder_lifted os started H enc)
end Go.Proofs.Ytneofgaklofigaa
