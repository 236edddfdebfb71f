
/- Parse and Same (the document's); what the laws ask with; awake of layer 10 answers true. -/
import Derived.Test.YtdjbdhfellofoaaDocR
namespace Go.Proofs.Ytdjbdhfellofoaa.Do
open Go.RowKit Go.Proofs.Ytdjbdhfellofoaa DocM

theorem empty_eq (t : List UInt8) (b : Bool) (hb : b = decide (t = [])) : ((ofBytes t).toList == (ByteArray.mk #[]).toList) = b := by
  rw [hb, ByteArray.toList_eq, ByteArray.toList_eq, ofBytes_list]
  cases t with
  | nil => rfl
  | cons a l => rfl
theorem empty_is (t : List UInt8) (b : Bool) (hb : b = decide (t = [])) : (ofBytes t).toList.isEmpty = b := by
  rw [hb, ByteArray.toList_eq, ofBytes_list]
  cases t with
  | nil => rfl
  | cons a l => rfl
set_option maxHeartbeats 8000000 in
set_option maxRecDepth 100000 in
theorem refparse10_any (w : World) (s : List UInt8) (hl : s.length ≤ 100000) :
    Calls Try.prog 11 #[.string (ofBytes s)] w fun e w' => (∃ T V, e = .returned (.tuple #[chV (paV s) T V, .int .i64 (paC s)]) ∧ Prd w' T (paV s).ts ∧ Vrd w' V (paV s).v) ∧ Below w.heap.size w w' := by
  have RE := Lib.hid (fun W => refread10_any W s hl)
  go_enter Try.func11, Try.ntmps11
  go_wp2_with fail
  obtain ⟨R, hR⟩ : ∃ R, R = w.heap.size := ⟨_, rfl⟩
  rw [← hR]
  have HRw : Hid (w.heap.size ≤ R) := Lib.hid (by omega)
  have A0 : Hid (Br (w.alloc (.cells #[.int .i64 0, .slice none 0 0, .slice none 0 0, .int .i64 0, .bool false] 36)) R #[.int .i64 0, .slice none 0 0, .slice none 0 0, .int .i64 0, .bool false]) := Lib.hid (by
    subst hR
    exact heap_alloc_new w _)
  have A3 := Lib.hid (pl1 w (.cells #[.int .i64 0, .slice none 0 0, .slice none 0 0, .int .i64 0, .bool false] 36))
  clear hR
  generalize (w.alloc (.cells #[.int .i64 0, .slice none 0 0, .slice none 0 0, .int .i64 0, .bool false] 36)) = wA at A0 A3 ⊢
  refine (RE.out _).mono ?_
  rintro e w1 ⟨⟨T, V, rfl, hT, hV, hNT, hNV⟩, hb⟩
  have HR0 : Hid (R < wA.heap.size) := Lib.hid A0.out.lt
  have B0 := Lib.hid (A0.out.later hb)
  have B3 := Lib.hid (A3.out.trans (hb.mono A3.out.size))
  obtain ⟨c, hc⟩ : ∃ c, c = rdV s := ⟨_, rfl⟩
  obtain ⟨ok, hok⟩ : ∃ c, c = rdK s := ⟨_, rfl⟩
  obtain ⟨rs, hrs⟩ : ∃ c, c = rdS s := ⟨_, rfl⟩
  rw [← hc] at hT hV ⊢
  rw [← hok, ← hrs]
  obtain ⟨sq, hsq⟩ : ∃ q, q = ofBytes rs := ⟨_, rfl⟩
  rw [← hsq]
  have HSQ := Lib.hid hsq
  clear hsq
  have HCV := Lib.hid hc
  have HOK := Lib.hid hok
  have HRS := Lib.hid hrs
  obtain ⟨AT, cT, eT, hcT, hAT, hPT⟩ := hT
  obtain ⟨AV, cV, eV, hIV⟩ := hV
  obtain ⟨nT, hnT⟩ : ∃ n, n = c.ts.length := ⟨_, rfl⟩
  obtain ⟨nV, hnV⟩ : ∃ n, n = c.v.length := ⟨_, rfl⟩
  rw [← hnT] at eT hPT hcT
  rw [← hnV] at eV hIV
  subst eT
  subst eV
  have FAR : Hid ((∀ ad, AT = some ad → ad.block ≠ R) ∧ ∀ ad, AV = some ad → ad.block ≠ R) := Lib.hid ⟨fun ad e => by
      have h1 := hNT _ _ _ rfl ad e
      have h2 := HR0.out
      omega, fun ad e => by
      have h1 := hNV _ _ _ rfl ad e
      have h2 := HR0.out
      omega⟩
  have HPT := Lib.hid hPT
  have HIV := Lib.hid hIV
  have HAT := Lib.hid (show nT ≤ cT ∧ (AT = none → cT = 0) from ⟨hcT, hAT⟩)
  have HNT := Lib.hid hnT
  have HNV := Lib.hid hnV
  clear hNT hNV HR0 hb A0 A3 RE hPT hIV hnT hnV hcT hAT hc hok hrs
  unfold chV
  obtain ⟨d, hd⟩ : ∃ d, d = c.doc := ⟨_, rfl⟩
  obtain ⟨tg, htg⟩ : ∃ d, d = c.tags := ⟨_, rfl⟩
  obtain ⟨gn, hgn⟩ : ∃ d, d = c.gone := ⟨_, rfl⟩
  rw [← hd, ← htg, ← hgn]
  have HD := Lib.hid (show d = c.doc ∧ tg = c.tags ∧ gn = c.gone from ⟨hd, htg, hgn⟩)
  clear hd htg hgn
  have e0 := B0.out.at_ 0 rfl
  have e1 := B0.out.at_ 1 rfl
  have e2 := B0.out.at_ 2 rfl
  have e3 := B0.out.at_ 3 rfl
  have e4 := B0.out.at_ 4 rfl
  have k0 := B0.out.free 0
  have k1 := B0.out.free 1
  have k2 := B0.out.free 2
  have k3 := B0.out.free 3
  have k4 := B0.out.free 4
  have hRl := B0.out.lt
  have hRn : R ≠ w1.heap.size := by omega
  have F0 := B0.out.fill (.int .i64 0) (.slice none 0 0) (.slice none 0 0) (.int .i64 0) (.bool false)
  have HF : Hid (Br ((((((w1.setCell ⟨R, 0, none⟩ (.int .i64 0)).setCell ⟨R, 1, none⟩ (.slice none 0 0)).setCell ⟨R, 2, none⟩ (.slice none 0 0)).setCell ⟨R, 3, none⟩ (.int .i64 0)).setCell ⟨R, 4, none⟩ (.bool false)).alloc (.cells #[.int .i64 d, .slice AT nT cT, .slice AV nV cV, .int .i64 tg, .bool gn] 36)) R #[.int .i64 0, .slice none 0 0, .slice none 0 0, .int .i64 0, .bool false] ∧ Below w.heap.size w ((((((w1.setCell ⟨R, 0, none⟩ (.int .i64 0)).setCell ⟨R, 1, none⟩ (.slice none 0 0)).setCell ⟨R, 2, none⟩ (.slice none 0 0)).setCell ⟨R, 3, none⟩ (.int .i64 0)).setCell ⟨R, 4, none⟩ (.bool false)).alloc (.cells #[.int .i64 d, .slice AT nT cT, .slice AV nV cV, .int .i64 tg, .bool gn] 36))) := Lib.hid ⟨F0.later (pl1 _ _), by
    have h1 := below_fill B3.out HRw.out (.int .i64 0) (.slice none 0 0) (.slice none 0 0) (.int .i64 0) (.bool false)
    exact h1.trans ((pl1 _ _).mono h1.size)⟩
  clear F0
  cases ok with
  | false =>
    have HN : Hid (paK s = false) := Lib.hid (by unfold paK; rw [← HOK.out]; rfl)
    go_wp2
    generalize ((((((w1.setCell ⟨R, 0, none⟩ (.int .i64 0)).setCell ⟨R, 1, none⟩ (.slice none 0 0)).setCell ⟨R, 2, none⟩ (.slice none 0 0)).setCell ⟨R, 3, none⟩ (.int .i64 0)).setCell ⟨R, 4, none⟩ (.bool false)).alloc (.cells #[.int .i64 d, .slice AT nT cT, .slice AV nV cV, .int .i64 tg, .bool gn] 36)) = WZ at HF ⊢
    have z0 := HF.out.1.at_ 0 rfl
    have z1 := HF.out.1.at_ 1 rfl
    have z2 := HF.out.1.at_ 2 rfl
    have z3 := HF.out.1.at_ 3 rfl
    have z4 := HF.out.1.at_ 4 rfl
    obtain ⟨n1, n2⟩ := pa_no HN.out
    exact bodyPost_ret (v := .tuple #[chV ch0 (.slice none 0 0) (.slice none 0 0), .int .i64 2]) (by simp [results, Try.results11, go_sem, z0, z1, z2, z3, z4, chV, ch0]) rfl ⟨⟨_, _, by rw [n1, n2], by rw [n1]; exact prd_nil _, by rw [n1]; exact Vrd.nil_ _⟩, HF.out.2⟩
  | true =>
    have HM : Hid (paK s = decide (rs = [])) := Lib.hid (by unfold paK; rw [← HOK.out, ← HRS.out, Bool.true_and])
    by_cases hz : rs = []
    · have hq := empty_is rs true (decide_eq_true hz).symm
      rw [← HSQ.out] at hq
      have HZ := Lib.hid hz
      have HY : Hid (paK s = true) := Lib.hid (by rw [HM.out, decide_eq_true hz])
      clear hz HF
      have F0 := B0.out.fill (.int .i64 d) (.slice AT nT cT) (.slice AV nV cV) (.int .i64 tg) (.bool gn)
      have HF : Hid (Br ((((((w1.setCell ⟨R, 0, none⟩ (.int .i64 d)).setCell ⟨R, 1, none⟩ (.slice AT nT cT)).setCell ⟨R, 2, none⟩ (.slice AV nV cV)).setCell ⟨R, 3, none⟩ (.int .i64 tg)).setCell ⟨R, 4, none⟩ (.bool gn)).alloc (.cells #[.int .i64 d, .slice AT nT cT, .slice AV nV cV, .int .i64 tg, .bool gn] 36)) R #[.int .i64 d, .slice AT nT cT, .slice AV nV cV, .int .i64 tg, .bool gn] ∧ Below w.heap.size w ((((((w1.setCell ⟨R, 0, none⟩ (.int .i64 d)).setCell ⟨R, 1, none⟩ (.slice AT nT cT)).setCell ⟨R, 2, none⟩ (.slice AV nV cV)).setCell ⟨R, 3, none⟩ (.int .i64 tg)).setCell ⟨R, 4, none⟩ (.bool gn)).alloc (.cells #[.int .i64 d, .slice AT nT cT, .slice AV nV cV, .int .i64 tg, .bool gn] 36))) := Lib.hid ⟨F0.later (pl1 _ _), by
        have h1 := below_fill B3.out HRw.out (.int .i64 d) (.slice AT nT cT) (.slice AV nV cV) (.int .i64 tg) (.bool gn)
        exact h1.trans ((pl1 _ _).mono h1.size)⟩
      have HK : Hid (∀ g, g < w1.heap.size → g ≠ R → ((((((w1.setCell ⟨R, 0, none⟩ (.int .i64 d)).setCell ⟨R, 1, none⟩ (.slice AT nT cT)).setCell ⟨R, 2, none⟩ (.slice AV nV cV)).setCell ⟨R, 3, none⟩ (.int .i64 tg)).setCell ⟨R, 4, none⟩ (.bool gn)).alloc (.cells #[.int .i64 d, .slice AT nT cT, .slice AV nV cV, .int .i64 tg, .bool gn] 36)).heap[g]? = w1.heap[g]?) := Lib.hid (fun g hg hne => by
        have q : ∀ (W : World) (i : Nat) (u : Value), (W.setCell ⟨R, i, none⟩ u).heap[g]? = W.heap[g]? := fun W i u => Below.heap_setCell W _ u g (fun e => hne e)
        rw [Below.heap_alloc _ _ g (by simp; omega), q, q, q, q, q])
      clear F0
      go_wp2
      have HS : Hid (w1.heap.size ≤ ((((((w1.setCell ⟨R, 0, none⟩ (.int .i64 d)).setCell ⟨R, 1, none⟩ (.slice AT nT cT)).setCell ⟨R, 2, none⟩ (.slice AV nV cV)).setCell ⟨R, 3, none⟩ (.int .i64 tg)).setCell ⟨R, 4, none⟩ (.bool gn)).alloc (.cells #[.int .i64 d, .slice AT nT cT, .slice AV nV cV, .int .i64 tg, .bool gn] 36)).heap.size) := Lib.hid (by simp)
      generalize ((((((w1.setCell ⟨R, 0, none⟩ (.int .i64 d)).setCell ⟨R, 1, none⟩ (.slice AT nT cT)).setCell ⟨R, 2, none⟩ (.slice AV nV cV)).setCell ⟨R, 3, none⟩ (.int .i64 tg)).setCell ⟨R, 4, none⟩ (.bool gn)).alloc (.cells #[.int .i64 d, .slice AT nT cT, .slice AV nV cV, .int .i64 tg, .bool gn] 36)) = WZ at HF HS HK ⊢
      have z0 := HF.out.1.at_ 0 rfl
      have z1 := HF.out.1.at_ 1 rfl
      have z2 := HF.out.1.at_ 2 rfl
      have z3 := HF.out.1.at_ 3 rfl
      have z4 := HF.out.1.at_ 4 rfl
      obtain ⟨n1, n2⟩ := pa_yes HY.out
      have HP : Pairs WZ AT nT c.ts := ⟨HPT.out.1, fun k hk => by
        obtain ⟨g, o, e, hg, q0, q1⟩ := HPT.out.2 k hk
        have hk' := HK.out g hg (FAR.out.1 _ e)
        exact ⟨g, o, e, Nat.lt_of_lt_of_le hg HS.out, (World.cell?_of_block (a := ⟨g, _, none⟩) hk').trans q0, (World.cell?_of_block (a := ⟨g, _, none⟩) hk').trans q1⟩⟩
      have HQ : Ivs WZ AV nV c.v := ⟨HIV.out.1, fun k hk => by
        obtain ⟨g, o, e, hg, q0⟩ := HIV.out.2 k hk
        have hk' := HK.out g hg (FAR.out.2 _ e)
        exact ⟨g, o, e, Nat.lt_of_lt_of_le hg HS.out, (World.cell?_of_block (a := ⟨g, _, none⟩) hk').trans q0⟩⟩
      have e1 : chV c (.slice AT nT cT) (.slice AV nV cV) = .agg #[.int .i64 d, .slice AT nT cT, .slice AV nV cV, .int .i64 tg, .bool gn] := by
        unfold chV
        rw [← HD.out.1, ← HD.out.2.1, ← HD.out.2.2]
      refine bodyPost_ret (v := .tuple #[.agg #[.int .i64 d, .slice AT nT cT, .slice AV nV cV, .int .i64 tg, .bool gn], .int .i64 0]) (by simp [results, Try.results11, go_sem, z0, z1, z2, z3, z4]) rfl ⟨⟨.slice AT nT cT, .slice AV nV cV, by rw [n1, n2, ← HCV.out, e1], ?_, ?_⟩, HF.out.2⟩
      · rw [n1, ← HCV.out]
        exact ⟨AT, cT, by rw [HNT.out], by rw [← HNT.out]; exact HAT.out.1, HAT.out.2, by rw [← HNT.out]; exact HP⟩
      · rw [n1, ← HCV.out]
        exact ⟨AV, cV, by rw [HNV.out], by rw [← HNV.out]; exact HQ⟩
    · have hq := empty_is rs false (decide_eq_false hz).symm
      rw [← HSQ.out] at hq
      have HN : Hid (paK s = false) := Lib.hid (by rw [HM.out, decide_eq_false hz])
      clear hz
      go_wp2
      generalize ((((((w1.setCell ⟨R, 0, none⟩ (.int .i64 0)).setCell ⟨R, 1, none⟩ (.slice none 0 0)).setCell ⟨R, 2, none⟩ (.slice none 0 0)).setCell ⟨R, 3, none⟩ (.int .i64 0)).setCell ⟨R, 4, none⟩ (.bool false)).alloc (.cells #[.int .i64 d, .slice AT nT cT, .slice AV nV cV, .int .i64 tg, .bool gn] 36)) = WZ at HF ⊢
      have z0 := HF.out.1.at_ 0 rfl
      have z1 := HF.out.1.at_ 1 rfl
      have z2 := HF.out.1.at_ 2 rfl
      have z3 := HF.out.1.at_ 3 rfl
      have z4 := HF.out.1.at_ 4 rfl
      obtain ⟨n1, n2⟩ := pa_no HN.out
      exact bodyPost_ret (v := .tuple #[chV ch0 (.slice none 0 0) (.slice none 0 0), .int .i64 2]) (by simp [results, Try.results11, go_sem, z0, z1, z2, z3, z4, chV, ch0]) rfl ⟨⟨_, _, by rw [n1, n2], by rw [n1]; exact prd_nil _, by rw [n1]; exact Vrd.nil_ _⟩, HF.out.2⟩
end Go.Proofs.Ytdjbdhfellofoaa.Do
namespace Go.Proofs.Ytdjbdhfellofoaa.Do
open Go.RowKit Go.Proofs.Ytdjbdhfellofoaa DocM

set_option maxHeartbeats 8000000 in
set_option maxRecDepth 100000 in
theorem refsame10_any (c : Ch) (A1 A2 A3 A4 : Option Addr) (n n2 n3 n4 p1 p2 p3 p4 : Nat) (w : World) (h1 : Pairs w A1 n c.ts) (h2 : Ivs w A2 n2 c.v) (h3 : Pairs w A3 n3 c.ts) (h4 : Ivs w A4 n4 c.v) (l1 : n ≤ 1000000) (l2 : n2 ≤ 1000000) :
    Calls Try.prog 17 #[chV c (.slice A1 n p1) (.slice A2 n2 p2), chV c (.slice A3 n3 p3) (.slice A4 n4 p4)] w fun e w' => e = .returned (.bool true) ∧ Below w.heap.size w w' := by
  obtain rfl : n = n3 := by rw [← h1.1, ← h3.1]
  obtain rfl : n2 = n4 := by rw [← h2.1, ← h4.1]
  have H1 := Lib.hid h1
  have H2 := Lib.hid h2
  have H3 := Lib.hid h3
  have H4 := Lib.hid h4
  have HL := Lib.hid h1.1
  obtain ⟨d, ts, v, tg, gn⟩ := c
  unfold chV
  simp only at H1 H2 H3 H4 HL ⊢
  have e1 : (d != d) = false := by simp
  have e2 : (tg != tg) = false := by simp
  have e3 : (gn != gn) = false := by simp
  have e4 : ((n : Int) != (n : Int)) = false := by simp
  have Q2 := Lib.hid (fun W (hW : Below w.heap.size w W) => rsame_any A2 A4 n2 n2 p2 p4 v v W (H2.out.later hW) (H4.out.later hW) l2 l2)
  have hvv : decide (v = v) = true := by simp
  rw [hvv] at Q2
  have B0 : Hid (∀ o1 o2, Below w.heap.size w ((w.alloc o1).alloc o2)) := Lib.hid (fun o1 o2 => (pl1 w o1).trans ((pl1 _ o2).mono (by simp)))
  clear h1 h2 h3 h4 H2 H4 hvv
  obtain ⟨B, hB⟩ : ∃ B, B = w.heap.size := ⟨_, rfl⟩
  have HQ := Lib.hid (fun W (hW : Below (w.alloc (.cells #[.int .i64 d, .slice A1 n p1, .slice A2 n2 p2, .int .i64 tg, .bool gn] 36)).heap.size (w.alloc (.cells #[.int .i64 d, .slice A1 n p1, .slice A2 n2 p2, .int .i64 tg, .bool gn] 36)) W) => box5 w 36 (.int .i64 d) (.slice A1 n p1) (.slice A2 n2 p2) (.int .i64 tg) (.bool gn) W hW)
  go_enter Try.func17, Try.ntmps17
  go_wp2_with fail
  refine (Q2.out _ (B0.out _ _)).mono ?_
  rintro e w1 ⟨rfl, q, rfl⟩
  obtain ⟨wb, hwb⟩ : ∃ wb, wb = w.alloc (.cells #[.int .i64 d, .slice A1 n p1, .slice A2 n2 p2, .int .i64 tg, .bool gn] 36) := ⟨_, rfl⟩
  have hC : wb.heap.size = w.heap.size + 1 := by rw [hwb]; simp
  rw [← hwb] at HQ ⊢
  have HQ2 := Lib.hid (fun W hW => box5 wb 36 (.int .i64 d) (.slice A3 n p3) (.slice A4 n2 p4) (.int .i64 tg) (.bool gn) W hW)
  have hbb : Below wb.heap.size wb (wb.alloc (.cells #[.int .i64 d, .slice A3 n p3, .slice A4 n2 p4, .int .i64 tg, .bool gn] 36)) := pl1 _ _
  have hbw : Below w.heap.size w wb := by rw [hwb]; exact pl1 _ _
  have HB2 : Hid (Below w.heap.size w ((wb.alloc (.cells #[.int .i64 d, .slice A3 n p3, .slice A4 n2 p4, .int .i64 tg, .bool gn] 36)).drewN q)) := Lib.hid ((hbw.trans (hbb.mono hbw.size)).trans ((below_drewN q).mono (Nat.le_trans hbw.size hbb.size)))
  rw [hC] at HQ2
  have HX : Hid (∀ W, Below ((wb.alloc (.cells #[.int .i64 d, .slice A3 n p3, .slice A4 n2 p4, .int .i64 tg, .bool gn] 36)).drewN q).heap.size ((wb.alloc (.cells #[.int .i64 d, .slice A3 n p3, .slice A4 n2 p4, .int .i64 tg, .bool gn] 36)).drewN q) W →
      W.cell? ⟨w.heap.size, 1, none⟩ = some (.slice A1 n p1) ∧ W.cell? ⟨w.heap.size + 1, 1, none⟩ = some (.slice A3 n p3)) := Lib.hid (fun W hW => by
    have h1 : Below (wb.alloc (.cells #[.int .i64 d, .slice A3 n p3, .slice A4 n2 p4, .int .i64 tg, .bool gn] 36)).heap.size (wb.alloc (.cells #[.int .i64 d, .slice A3 n p3, .slice A4 n2 p4, .int .i64 tg, .bool gn] 36)) W := (below_drewN q).trans hW
    exact ⟨(HQ.out W (hbb.trans (h1.mono hbb.size))).2.1, (HQ2.out W h1).2.1⟩)
  clear hC hbb hbw hwb hB HQ HQ2 Q2 B0
  go_wp2
  generalize ((wb.alloc (.cells #[.int .i64 d, .slice A3 n p3, .slice A4 n2 p4, .int .i64 tg, .bool gn] 36)).drewN q) = W2 at HX HB2 ⊢
  go_loopw [5] (fun x wr => ∃ k : Nat, x = .int .i64 k ∧ k ≤ n ∧ Below W2.heap.size W2 wr) (fun x _ => n - (intOf x).toNat)
  case atStart => exact ⟨0, by go_num, Nat.zero_le _, Below.refl _ _⟩
  case round =>
    obtain ⟨k, rfl, hk, hb⟩ := hrel
    obtain ⟨q1, q2⟩ := HX.out wr hb
    have HB := Lib.hid (HB2.out.trans (hb.mono HB2.out.size))
    by_cases hlt : k < n
    · have hd1 : decide ((k : Int) < (n : Int)) = true := decide_eq_true (by omega)
      have hmi : (k : Int) < (n : Int) := by omega
      have hk0 : (0 : Int) ≤ (k : Int) := by omega
      have hkl : k < ts.length := by rw [HL.out]; exact hlt
      obtain ⟨b1, o1, rfl, _, c0, c1⟩ := (H1.out.later HB.out).2 k hkl
      obtain ⟨b2, o2, rfl, _, r0, r1⟩ := (H3.out.later HB.out).2 k hkl
      obtain ⟨⟨x1, x2⟩, hx⟩ : ∃ x, x = ts[k] := ⟨_, rfl⟩
      rw [← hx] at c0 c1 r0 r1
      simp only at c0 c1 r0 r1
      have HBB := Lib.hid hb
      clear hb hx
      go_wp2
      go_quiet (fail)
      go_wp2
      go_roundw
      case rel => exact ⟨k + 1, by go_num, by omega, HBB.out.trans ((below_drewN _).mono HBB.out.size)⟩
      case measure => simp [intOf]; omega
    · have hd1 : decide ((k : Int) < (n : Int)) = false := decide_eq_false (by omega)
      clear hb
      go_wp2
      go_ret
      exact ⟨rfl, HB.out⟩
set_option maxRecDepth 100000 in
theorem of_any (c : Ch) (T V : Value) (w : World) (hT : ∃ A n cp, T = .slice A n cp) (hV : ∃ A n cp, V = .slice A n cp) :
    Calls Try.prog 9 #[chV c T V] w fun e w' => e = .returned (chV c T V) ∧ Below w.heap.size w w' := by
  obtain ⟨A1, n1, p1, rfl⟩ := hT
  obtain ⟨A2, n2, p2, rfl⟩ := hV
  obtain ⟨d, ts, v, tg, gn⟩ := c
  unfold chV
  simp only
  go_enter Try.func9, Try.ntmps9
  go_wp2
  have hz := box5 (w.alloc (.cells #[.int .i64 d, .slice A1 n1 p1, .slice A2 n2 p2, .int .i64 tg, .bool gn] 27)) 36 (.int .i64 d) (.slice A1 n1 p1) (.slice A2 n2 p2) (.int .i64 tg) (.bool gn) _ (Below.refl _ _)
  have hs : (w.alloc (.cells #[.int .i64 d, .slice A1 n1 p1, .slice A2 n2 p2, .int .i64 tg, .bool gn] 27)).heap.size = w.heap.size + 1 := by simp
  rw [hs] at hz
  obtain ⟨z0, z1, z2, z3, z4⟩ := hz
  have hb : Below w.heap.size w ((w.alloc (.cells #[.int .i64 d, .slice A1 n1 p1, .slice A2 n2 p2, .int .i64 tg, .bool gn] 27)).alloc (.cells #[.int .i64 d, .slice A1 n1 p1, .slice A2 n2 p2, .int .i64 tg, .bool gn] 36)) := (pl1 _ _).trans ((pl1 _ _).mono (by simp))
  generalize ((w.alloc (.cells #[.int .i64 d, .slice A1 n1 p1, .slice A2 n2 p2, .int .i64 tg, .bool gn] 27)).alloc (.cells #[.int .i64 d, .slice A1 n1 p1, .slice A2 n2 p2, .int .i64 tg, .bool gn] 36)) = WZ at z0 z1 z2 z3 z4 hb ⊢
  exact bodyPost_ret (v := .agg #[.int .i64 d, .slice A1 n1 p1, .slice A2 n2 p2, .int .i64 tg, .bool gn]) (by simp [results, Try.results9, go_sem, z0, z1, z2, z3, z4]) rfl ⟨rfl, hb⟩
def fewB (n n2 : Nat) : Bool := decide (n ≤ 100) && decide (n2 ≤ 20)
set_option maxRecDepth 100000 in
theorem few_any (c : Ch) (A1 A2 : Option Addr) (n n2 p1 p2 : Nat) (w : World) :
    Calls Try.prog 6 #[chV c (.slice A1 n p1) (.slice A2 n2 p2)] w fun e w' => e = .returned (.bool (fewB n n2)) ∧ Below w.heap.size w w' := by
  obtain ⟨d, ts, v, tg, gn⟩ := c
  unfold chV fewB
  simp only
  by_cases h1 : n ≤ 100
  · have e1 : decide ((n : Int) ≤ 100) = true := decide_eq_true (by omega)
    rw [decide_eq_true h1]
    by_cases h2 : n2 ≤ 20
    · have e2 : decide ((n2 : Int) ≤ 20) = true := decide_eq_true (by omega)
      rw [decide_eq_true h2]
      go_enter Try.func6, Try.ntmps6
      go_wp2
      go_ret
      exact ⟨rfl, pl1 _ _⟩
    · have e2 : decide ((n2 : Int) ≤ 20) = false := decide_eq_false (by omega)
      rw [decide_eq_false h2]
      go_enter Try.func6, Try.ntmps6
      go_wp2
      go_ret
      exact ⟨rfl, pl1 _ _⟩
  · have e1 : decide ((n : Int) ≤ 100) = false := decide_eq_false (by omega)
    rw [decide_eq_false h1]
    go_enter Try.func6, Try.ntmps6
    go_wp2
    go_ret
    exact ⟨rfl, pl1 _ _⟩
theorem noughts_any (w : World) : Calls Try.prog 20 #[] w fun e w' => e = .returned (.slice (some ⟨w.heap.size, 0, none⟩) 8 8) ∧ w' = w.alloc (.cells #[.int .i64 0, .int .i64 0, .int .i64 0, .int .i64 0, .int .i64 0, .int .i64 0, .int .i64 0, .int .i64 0] 3) := by
  go_enter Try.func20, Try.ntmps20
  go_wp2
  go_ret
  exact ⟨rfl, rfl⟩
end Go.Proofs.Ytdjbdhfellofoaa.Do
namespace Go.Proofs.Ytdjbdhfellofoaa.DocM
open Go.Proofs.Ytdjbdhfellofoaa
def nz : List Int := [0, 0, 0, 0, 0, 0, 0, 0]
def cAw : Ch := ⟨5, [(1, 2)], nz, 3, false⟩
def cTw : Ch := ⟨5, [(1, 2), (1, 2)], nz, 3, false⟩
def cGo : Ch := ⟨5, [], [], 0, true⟩
def awL : List UInt8 := [5, 0, 1, 1, 2, 0, 128, 128, 128, 128, 128, 128, 128, 128, 3]
theorem aw_right : rightC cAw = 0 := by decide +kernel
theorem go_right : rightC cGo = 0 := by decide +kernel
theorem tw_right : rightC cTw = 9 := by decide +kernel
theorem var_five : varB 5 = [5] := by unfold varB; rw [if_neg (by decide), PackM.vw_lt (by decide)]; rfl
theorem go_bytes : prB cGo = [5, 1] := by
  unfold prB cGo
  rw [if_pos rfl, var_five, var_one]
  rfl
theorem aw_bytes : prB cAw = awL := by
  have h1 : risS (tms cAw.ts) = [1, 1] := by
    have e : tms cAw.ts = [1] := rfl
    rw [e]
    unfold risS
    rw [if_pos (by decide)]
    have e1 : PackM.risB [1] = PackM.vw 1 ++ (PackM.vw 1 ++ []) := rfl
    rw [e1, PackM.vw_lt (by decide)]
    rfl
  have h2 : fixS 16 (wts cAw.ts) = [2, 0] := by decide +kernel
  have h3 : fixS 8 (cAw.v.map (· + 128)) = [128, 128, 128, 128, 128, 128, 128, 128] := by decide +kernel
  have h4 : fixS 8 [cAw.tags] = [3] := by decide +kernel
  unfold prB cont
  rw [if_neg (by decide), h1, h2, h3, h4, show cAw.doc = 5 from rfl, var_five, var_nought]
  rfl
theorem aw_read : rdC awL = some (cAw, []) := by
  have := rd_there aw_right []
  rw [List.append_nil, aw_bytes] at this
  exact this
theorem aw_parse : paV awL = cAw ∧ paC awL = 0 := by
  obtain ⟨h1, h2, h3⟩ := rd_some aw_read
  have hk : paK awL = true := by unfold paK; rw [h2, h3]; rfl
  unfold paV paC
  rw [hk, if_pos rfl, if_pos rfl]
  exact ⟨h1, rfl⟩
theorem nil_parse : paV [] = ch0 ∧ paC [] = 2 := by
  have hn : rdC [] = none := rfl
  obtain ⟨h1, h2, h3⟩ := rd_none hn
  have hk : paK [] = false := by unfold paK; rw [h2]; rfl
  unfold paV paC
  rw [hk]
  exact ⟨rfl, rfl⟩
end Go.Proofs.Ytdjbdhfellofoaa.DocM
namespace Go.Proofs.Ytdjbdhfellofoaa.Do
open Go.RowKit Go.Proofs.Ytdjbdhfellofoaa DocM

theorem nought_ivs (w : World) : Ivs (w.alloc (.cells #[.int .i64 0, .int .i64 0, .int .i64 0, .int .i64 0, .int .i64 0, .int .i64 0, .int .i64 0, .int .i64 0] 3)) (some ⟨w.heap.size, 0, none⟩) 8 nz := by
  refine ⟨rfl, fun k hk => ⟨w.heap.size, 0, rfl, by simp, ?_⟩⟩
  rw [Nat.zero_add, cell_of_row _ _ _ _ _ _ (heap_alloc_new w _)]
  have hk8 : k < 8 := hk
  match k, hk8 with
  | 0, _ => rfl
  | 1, _ => rfl
  | 2, _ => rfl
  | 3, _ => rfl
  | 4, _ => rfl
  | 5, _ => rfl
  | 6, _ => rfl
  | 7, _ => rfl
theorem term_row (w : World) (base : Nat) (hb : base ≤ w.heap.size) : PRow 56 (w.alloc (.cells #[.int .i64 1, .int .i64 2] 56)) base (.slice (some ⟨w.heap.size, 0, none⟩) 1 1) [(1, 2)] :=
  ⟨rfl, .inr ⟨w.heap.size, 1, #[.int .i64 1, .int .i64 2], rfl, hb, heap_alloc_new w _, Nat.le_refl _, by simp [maxLen], rfl, rfl⟩⟩
theorem pairs_turn {S : Nat → Prop} {w w' : World} {A : Option Addr} {n : Nat} {l : List (Int × Int)} (h : Pairs w A n l) (hT : Turned S w w') (hS : ∀ ad, A = some ad → ¬ S ad.block) : Pairs w' A n l :=
  ⟨h.1, fun k hk => by
    obtain ⟨b, o, e, hl, h0, h1⟩ := h.2 k hk
    have hs := hS ⟨b, o, none⟩ e
    exact ⟨b, o, e, Nat.lt_of_lt_of_le hl hT.size, (hT.cell (p := ⟨b, o + k * 2, none⟩) hl hs).trans h0, (hT.cell (p := ⟨b, o + k * 2 + 1, none⟩) hl hs).trans h1⟩⟩
theorem row_not_bx {w : World} {base : Nat} {v : Value} {l : List (Int × Int)} {C : Nat} {vs : Array Value} (h : PRow 56 w base v l) (hc : Bx w C vs) : v.ownBlock ≠ some C := fun e => by
  rcases h.2 with ⟨rfl, _⟩ | ⟨g, cap, cur, rfl, _, hgg, _⟩
  · simp [Value.ownBlock] at e
  · have e1 : g = C := by simpa [Value.ownBlock] using e
    subst e1
    unfold Bx at hc
    rw [hgg] at hc
    injection hc with hc
    injection hc with _ hc _
    revert hc
    decide
theorem print_aw (A A2 : Option Addr) (cp cp2 : Nat) (w : World) (h : Pairs w A 1 [(1, 2)]) (hv : Ivs w A2 8 nz) :
    Calls Try.prog 7 #[.agg #[.int .i64 5, .slice A 1 cp, .slice A2 8 cp2, .int .i64 3, .bool false]] w fun e w' => e = .returned (.tuple #[.string ⟨#[5, 0, 1, 1, 2, 0, 128, 128, 128, 128, 128, 128, 128, 128, 3]⟩, .int .i64 0]) ∧ Below w.heap.size w w' := by
  refine (print_any cAw A A2 1 cp 8 cp2 w h hv (by omega)).mono fun e w' ⟨h1, h2⟩ => ⟨?_, h2⟩
  rw [h1]
  unfold prA
  rw [aw_right, if_pos rfl, aw_bytes]
  rfl
theorem print_go (w : World) :
    Calls Try.prog 7 #[.agg #[.int .i64 5, .slice none 0 0, .slice none 0 0, .int .i64 0, .bool true]] w fun e w' => e = .returned (.tuple #[.string ⟨#[5, 1]⟩, .int .i64 0]) ∧ Below w.heap.size w w' := by
  refine (print_any cGo none none 0 0 0 0 w ⟨rfl, fun k hk => by simp [cGo] at hk⟩ (ivs_nil _ _) (by omega)).mono fun e w' ⟨h1, h2⟩ => ⟨?_, h2⟩
  rw [h1]
  unfold prA
  rw [go_right, if_pos rfl, go_bytes]
  rfl
theorem parse_aw (w : World) :
    Calls Try.prog 10 #[.string ⟨#[5, 0, 1, 1, 2, 0, 128, 128, 128, 128, 128, 128, 128, 128, 3]⟩] w fun e w' => (∃ A cp A2 cp2, e = .returned (.tuple #[.agg #[.int .i64 5, .slice A 1 cp, .slice A2 8 cp2, .int .i64 3, .bool false], .int .i64 0]) ∧ Pairs w' A 1 [(1, 2)] ∧ Ivs w' A2 8 nz ∧ (∀ ad, A = some ad → w.heap.size ≤ ad.block) ∧ ∀ ad, A2 = some ad → w.heap.size ≤ ad.block) ∧ Below w.heap.size w w' := by
  refine (parse_any' w awL (by decide)).mono fun e w' ⟨⟨T, V, h1, h2, h3, h5, h6⟩, h4⟩ => ⟨?_, h4⟩
  rw [aw_parse.1] at h1 h2 h3
  rw [aw_parse.2] at h1
  obtain ⟨A, cp, rfl, _, _, hP⟩ := h2
  obtain ⟨A2, cp2, rfl, hI⟩ := h3
  exact ⟨A, cp, A2, cp2, h1, hP, hI, fun ad e => h5 _ _ _ rfl ad e, fun ad e => h6 _ _ _ rfl ad e⟩
theorem parse_nil (w : World) :
    Calls Try.prog 10 #[.string ⟨#[]⟩] w fun e w' => (∃ A cp A2 cp2, e = .returned (.tuple #[.agg #[.int .i64 0, .slice A 0 cp, .slice A2 0 cp2, .int .i64 0, .bool false], .int .i64 2])) ∧ Below w.heap.size w w' := by
  refine (parse_any' w [] (by decide)).mono fun e w' ⟨⟨T, V, h1, h2, h3, _, _⟩, h4⟩ => ⟨?_, h4⟩
  rw [nil_parse.1] at h1 h2 h3
  rw [nil_parse.2] at h1
  obtain ⟨A, cp, rfl, _, _, _⟩ := h2
  obtain ⟨A2, cp2, rfl, _⟩ := h3
  exact ⟨A, cp, A2, cp2, h1⟩
theorem right_tw (A A2 : Option Addr) (cp cp2 : Nat) (w : World) (h : Pairs w A 2 [(1, 2), (1, 2)]) (hv : Ivs w A2 8 nz) :
    Calls Try.prog 15 #[.agg #[.int .i64 5, .slice A 2 cp, .slice A2 8 cp2, .int .i64 3, .bool false]] w fun e w' => e = .returned (.int .i64 9) ∧ Below w.heap.size w w' := by
  refine (right_any cTw A A2 2 cp 8 cp2 w h hv (by omega)).mono fun e w' ⟨h1, h2⟩ => ⟨?_, h2⟩
  rw [h1, tw_right]
theorem same_aw (A A2 : Option Addr) (cp cp2 : Nat) (w : World) (h : Pairs w A 1 [(1, 2)]) (hv : Ivs w A2 8 nz) :
    Calls Try.prog 19 #[.agg #[.int .i64 5, .slice A 1 cp, .slice A2 8 cp2, .int .i64 3, .bool false], .agg #[.int .i64 5, .slice A 1 cp, .slice A2 8 cp2, .int .i64 3, .bool false]] w fun e w' => e = .returned (.bool true) ∧ Below w.heap.size w w' := by
  refine (dsame_any cAw cAw A A2 A A2 1 8 1 8 cp cp2 cp cp2 w h hv h hv (by omega) (by omega) (by omega) (by omega)).mono fun e w' ⟨h1, h2⟩ => ⟨?_, h2⟩
  rw [h1, (same_iff cAw cAw).2 rfl]
set_option maxHeartbeats 8000000 in
set_option maxRecDepth 100000 in
theorem awake10_any (w : World) : Calls Try.prog 5 #[] w fun e w' => e = .returned (.bool true) ∧ Below w.heap.size w w' := by
  go_enter Try.func5, Try.ntmps5
  go_wp2_with fail
  refine (noughts_any _).mono ?_
  rintro e w' ⟨rfl, rfl⟩
  go_wp2_with fail
  have ROW := (term_row w w.heap.size (Nat.le_refl _)).later ((pl1 _ (.cells #[.int .i64 0, .int .i64 0, .int .i64 0, .int .i64 0, .int .i64 0, .int .i64 0, .int .i64 0, .int .i64 0] 3)).trans ((pl1 ((w.alloc (.cells #[.int .i64 1, .int .i64 2] 56)).alloc (.cells #[.int .i64 0, .int .i64 0, .int .i64 0, .int .i64 0, .int .i64 0, .int .i64 0, .int .i64 0, .int .i64 0] 3)) (.cells #[.int .i64 5, .slice (some ⟨w.heap.size, 0, none⟩) 1 1, .slice (some ⟨w.heap.size + 1, 0, none⟩) 8 8, .int .i64 3, .bool false] 27)).mono (by simp)))
  have hs1 : (w.alloc (.cells #[.int .i64 1, .int .i64 2] 56)).heap.size = w.heap.size + 1 := by simp
  have hs2 : ((w.alloc (.cells #[.int .i64 1, .int .i64 2] 56)).alloc (.cells #[.int .i64 0, .int .i64 0, .int .i64 0, .int .i64 0, .int .i64 0, .int .i64 0, .int .i64 0, .int .i64 0] 3)).heap.size = w.heap.size + 1 + 1 := by simp
  have NZ := (nought_ivs (w.alloc (.cells #[.int .i64 1, .int .i64 2] 56))).later (pl1 _ (.cells #[.int .i64 5, .slice (some ⟨w.heap.size, 0, none⟩) 1 1, .slice (some ⟨w.heap.size + 1, 0, none⟩) 8 8, .int .i64 3, .bool false] 27))
  have CX : Bx (((w.alloc (.cells #[.int .i64 1, .int .i64 2] 56)).alloc (.cells #[.int .i64 0, .int .i64 0, .int .i64 0, .int .i64 0, .int .i64 0, .int .i64 0, .int .i64 0, .int .i64 0] 3)).alloc (.cells #[.int .i64 5, .slice (some ⟨w.heap.size, 0, none⟩) 1 1, .slice (some ⟨w.heap.size + 1, 0, none⟩) 8 8, .int .i64 3, .bool false] 27)) ((w.alloc (.cells #[.int .i64 1, .int .i64 2] 56)).alloc (.cells #[.int .i64 0, .int .i64 0, .int .i64 0, .int .i64 0, .int .i64 0, .int .i64 0, .int .i64 0, .int .i64 0] 3)).heap.size #[.int .i64 5, .slice (some ⟨w.heap.size, 0, none⟩) 1 1, .slice (some ⟨w.heap.size + 1, 0, none⟩) 8 8, .int .i64 3, .bool false] := heap_alloc_new _ _
  have BB : Below w.heap.size w (((w.alloc (.cells #[.int .i64 1, .int .i64 2] 56)).alloc (.cells #[.int .i64 0, .int .i64 0, .int .i64 0, .int .i64 0, .int .i64 0, .int .i64 0, .int .i64 0, .int .i64 0] 3)).alloc (.cells #[.int .i64 5, .slice (some ⟨w.heap.size, 0, none⟩) 1 1, .slice (some ⟨w.heap.size + 1, 0, none⟩) 8 8, .int .i64 3, .bool false] 27)) := ((pl1 w _).trans ((pl1 (w.alloc (.cells #[.int .i64 1, .int .i64 2] 56)) (.cells #[.int .i64 0, .int .i64 0, .int .i64 0, .int .i64 0, .int .i64 0, .int .i64 0, .int .i64 0, .int .i64 0] 3)).mono (by simp))).trans ((pl1 ((w.alloc (.cells #[.int .i64 1, .int .i64 2] 56)).alloc (.cells #[.int .i64 0, .int .i64 0, .int .i64 0, .int .i64 0, .int .i64 0, .int .i64 0, .int .i64 0, .int .i64 0] 3)) _).mono (by simp; omega))
  rw [hs1] at NZ
  rw [hs2] at CX
  clear hs1 hs2
  have HW : Hid (w.heap.size < w.heap.size + 1 ∧ w.heap.size + 1 < w.heap.size + 1 + 1 ∧ w.heap.size ≤ w.heap.size) := Lib.hid (by omega)
  generalize (((w.alloc (.cells #[.int .i64 1, .int .i64 2] 56)).alloc (.cells #[.int .i64 0, .int .i64 0, .int .i64 0, .int .i64 0, .int .i64 0, .int .i64 0, .int .i64 0, .int .i64 0] 3)).alloc (.cells #[.int .i64 5, .slice (some ⟨w.heap.size, 0, none⟩) 1 1, .slice (some ⟨w.heap.size + 1, 0, none⟩) 8 8, .int .i64 3, .bool false] 27)) = W3 at ROW NZ CX BB ⊢
  obtain ⟨G1, hG1⟩ : ∃ g, g = w.heap.size := ⟨_, rfl⟩
  have HG : Hid (w.heap.size ≤ G1) := Lib.hid (by omega)
  rw [← hG1] at ROW NZ CX HW ⊢
  obtain ⟨G2, hG2⟩ : ∃ g, g = G1 + 1 := ⟨_, rfl⟩
  rw [← hG2] at NZ CX HW ⊢
  obtain ⟨G3, hG3⟩ : ∃ g, g = G2 + 1 := ⟨_, rfl⟩
  rw [← hG3] at CX HW ⊢
  have ROW := Lib.hid ROW
  have NZ := Lib.hid NZ
  have CX := Lib.hid CX
  have BB := Lib.hid BB
  clear hG1 hG2 hG3
  have PT := Lib.hid ROW.out.prd
  obtain ⟨PA, pc, ep, _, _, hpt⟩ := PT.out
  injection ep with ep1 ep2 ep3
  subst ep1; subst ep3
  have PT : Hid (Pairs W3 (some ⟨G1, 0, none⟩) 1 [(1, 2)]) := Lib.hid hpt
  clear hpt ep2
  refine (print_aw _ _ _ _ _ PT.out NZ.out).mono ?_
  rintro e w4 ⟨rfl, hb⟩
  have ROW := Lib.hid (ROW.out.later hb)
  have NZ := Lib.hid (NZ.out.later hb)
  have CX := Lib.hid (CX.out.later hb)
  have BB := Lib.hid (BB.out.trans (hb.mono BB.out.size))
  clear hb PT
  go_wp2_with fail
  refine (parse_aw _).mono ?_
  rintro e w5 ⟨⟨A5, c5, A6, c6, rfl, hP5, hI5, hn5, hn6⟩, hb⟩
  have LT4 : Hid (G1 < w4.heap.size ∧ G2 < w4.heap.size ∧ G3 < w4.heap.size ∧ w4.heap.size ≤ w5.heap.size) := Lib.hid (by
    have h1 := CX.out.lt
    have h2 := HW.out
    have h3 := hb.size
    omega)
  have N5 := Lib.hid (show (∀ ad, A5 = some ad → w4.heap.size ≤ ad.block) ∧ (∀ ad, A6 = some ad → w4.heap.size ≤ ad.block) from ⟨hn5, hn6⟩)
  have ROW := Lib.hid (ROW.out.later hb)
  have NZ := Lib.hid (NZ.out.later hb)
  have CX := Lib.hid (CX.out.later hb)
  have BB := Lib.hid (BB.out.trans (hb.mono BB.out.size))
  have P5 := Lib.hid hP5
  have I5 := Lib.hid hI5
  clear hb hP5 hI5 hn5 hn6
  go_wp2_with fail
  have CW : Hid (G3 < w5.heap.size) := Lib.hid CX.out.lt
  have PL := pl1 w5 (.cells #[.int .i64 5, .slice A5 1 c5, .slice A6 8 c6, .int .i64 3, .bool false] 27)
  have DX : Hid (Bx (w5.alloc (.cells #[.int .i64 5, .slice A5 1 c5, .slice A6 8 c6, .int .i64 3, .bool false] 27)) w5.heap.size #[.int .i64 5, .slice A5 1 c5, .slice A6 8 c6, .int .i64 3, .bool false]) := Lib.hid (heap_alloc_new _ _)
  have ROW := Lib.hid (ROW.out.later PL)
  have NZ := Lib.hid (NZ.out.later PL)
  have CX := Lib.hid (CX.out.later PL)
  have P5 := Lib.hid (P5.out.later PL)
  have I5 := Lib.hid (I5.out.later PL)
  have BB := Lib.hid (BB.out.trans (PL.mono BB.out.size))
  clear PL
  generalize hw6 : (w5.alloc (.cells #[.int .i64 5, .slice A5 1 c5, .slice A6 8 c6, .int .i64 3, .bool false] 27)) = w6 at ROW NZ CX P5 I5 BB DX ⊢
  obtain ⟨D, hD⟩ : ∃ D, D = w5.heap.size := ⟨_, rfl⟩
  have HD : Hid (w4.heap.size ≤ D) := Lib.hid (by have := LT4.out; omega)
  rw [← hD] at DX CW ⊢
  clear hw6 hD
  refine (print_go _).mono ?_
  rintro e w7 ⟨rfl, hb⟩
  have ROW := Lib.hid (ROW.out.later hb)
  have NZ := Lib.hid (NZ.out.later hb)
  have CX := Lib.hid (CX.out.later hb)
  have P5 := Lib.hid (P5.out.later hb)
  have I5 := Lib.hid (I5.out.later hb)
  have DX := Lib.hid (DX.out.later hb)
  have BB := Lib.hid (BB.out.trans (hb.mono BB.out.size))
  clear hb
  go_wp2_with fail
  refine (parse_nil _).mono ?_
  rintro e w8 ⟨⟨A7, c7, A8, c8, rfl⟩, hb⟩
  have ROW := Lib.hid (ROW.out.later hb)
  have NZ := Lib.hid (NZ.out.later hb)
  have CX := Lib.hid (CX.out.later hb)
  have P5 := Lib.hid (P5.out.later hb)
  have I5 := Lib.hid (I5.out.later hb)
  have DX := Lib.hid (DX.out.later hb)
  have BB := Lib.hid (BB.out.trans (hb.mono BB.out.size))
  clear hb
  have hb := pl1 w8 (.cells #[.int .i64 0, .slice A7 0 c7, .slice A8 0 c8, .int .i64 0, .bool false] 27)
  have ROW := Lib.hid (ROW.out.later hb)
  have NZ := Lib.hid (NZ.out.later hb)
  have CX := Lib.hid (CX.out.later hb)
  have P5 := Lib.hid (P5.out.later hb)
  have I5 := Lib.hid (I5.out.later hb)
  have DX := Lib.hid (DX.out.later hb)
  have BB := Lib.hid (BB.out.trans (hb.mono BB.out.size))
  clear hb
  go_upto_region 6 with fail
  generalize (w8.alloc (.cells #[.int .i64 0, .slice A7 0 c7, .slice A8 0 c8, .int .i64 0, .bool false] 27)) = w9 at ROW NZ CX P5 I5 BB DX ⊢
  have c1 := CX.out.at_ 1 rfl
  have f1 := CX.out.free 1
  obtain ⟨gg, cc, eg, _, _, _, _, hcell⟩ := ROW.out.cells (by simp)
  injection eg with eg eg2 eg3
  injection eg with eg
  injection eg with eg _ _
  subst eg
  obtain ⟨r0, r1⟩ := hcell 0 (by simp)
  rw [Nat.zero_mul] at r0 r1
  simp only [List.getElem_cons_zero] at r0 r1
  clear hcell eg2 eg3
  have HC1 := Lib.hid c1
  have HF1 := Lib.hid f1
  have HCL : Hid (G3 < w9.heap.size) := Lib.hid CX.out.lt
  have HNE : Hid (some G3 ≠ (Value.slice (some ⟨G1, 0, none⟩) 1 1).ownBlock) := Lib.hid (by
    have := HW.out
    simp [Value.ownBlock]
    omega)
  have HSZ : Hid (G1 ≤ w9.heap.size) := Lib.hid (by have := HW.out; have := HCL.out; omega)
  have hCl := HCL.out
  go_region_law
    ((refine step_pfield term_ty (pld _ _) (by rfl) _ _ (by rfl) G1 (.slice (some ⟨G1, 0, none⟩) 1 1) 1 _ (by rfl) ROW.out HSZ.out w9.heap.size 1 (1, 2) (by rfl) (new0d _ _ _ _) (new1d _ _ _ _) rfl (by omega) G3 1 _ HCL.out HC1.out HF1.out HNE.out ?_; intro A' cp' w' hown hgrow k2 k2f))
  all_goals
    have CXw := CX.out.kept (hgrow.block G3 HCL.out HNE.out)
    have R2 : Hid (Pairs (w'.setCell ⟨G3, 1, none⟩ (.slice A' (1 + 1) cp')) A' (1 + 1) [(1, 2), (1, 2)]) := Lib.hid (by
      have h1 := row_not_bx hown CXw
      obtain ⟨A9, c9, e9, _, _, hp⟩ := (hown.kept (w' := (w'.setCell ⟨G3, 1, none⟩ (.slice A' (1 + 1) cp'))) (fun g hg => Below.heap_setCell w' _ _ g (fun e => by
        have e' : g = G3 := e
        exact h1 (by rw [hg, e'])))).prd
      injection e9 with e9 _ _
      subst e9
      exact hp)
    have CX2 : Hid (Bx (w'.setCell ⟨G3, 1, none⟩ (.slice A' (1 + 1) cp')) G3 #[.int .i64 5, .slice A' (1 + 1) cp', .slice (some ⟨G2, 0, none⟩) 8 8, .int .i64 3, .bool false]) := Lib.hid (CXw.set_ 1 _)
    have HT : Turned (fun k => k = G1 ∨ k = G3) w9 (w'.setCell ⟨G3, 1, none⟩ (.slice A' (1 + 1) cp')) := (Turned.of_grown (S := fun k => k = G1 ∨ k = G3) (b := G1) hgrow (.inl rfl)).set_ (.inr rfl) 1 _
    have NZ2 := Lib.hid (NZ.out.turned HT (fun ad e => by
      injection e with e
      subst e
      have := HW.out
      show ¬ (G2 = G1 ∨ G2 = G3)
      omega))
    have P52 := Lib.hid (pairs_turn P5.out HT (fun ad e => by
      have h1 := N5.out.1 ad e
      have h2 := LT4.out
      show ¬ (ad.block = G1 ∨ ad.block = G3)
      omega))
    have I52 := Lib.hid (I5.out.turned HT (fun ad e => by
      have h1 := N5.out.2 ad e
      have h2 := LT4.out
      show ¬ (ad.block = G1 ∨ ad.block = G3)
      omega))
    have DX2 := Lib.hid (DX.out.kept (HT.block D DX.out.lt (by
      have h1 := HD.out
      have h2 := LT4.out
      omega)))
    have BB2 := Lib.hid (HT.below BB.out (fun k hk => by
      have h1 := HG.out
      have h2 := HW.out
      omega))
    clear CXw HT hown hgrow k2 k2f r0 r1 c1 f1 hCl
    generalize (w'.setCell ⟨G3, 1, none⟩ (.slice A' (1 + 1) cp')) = wN at R2 CX2 NZ2 P52 I52 DX2 BB2 ⊢
    clear ROW NZ CX P5 I5 BB DX HC1 HF1 HCL HNE HSZ
    have c0 := CX2.out.at_ 0 rfl
    have c1 := CX2.out.at_ 1 rfl
    have c2 := CX2.out.at_ 2 rfl
    have c3 := CX2.out.at_ 3 rfl
    have c4 := CX2.out.at_ 4 rfl
    have d0 := DX2.out.at_ 0 rfl
    have d1 := DX2.out.at_ 1 rfl
    have d2 := DX2.out.at_ 2 rfl
    have d3 := DX2.out.at_ 3 rfl
    have d4 := DX2.out.at_ 4 rfl
    go_wp2_with fail
    refine (right_tw _ _ _ _ _ R2.out NZ2.out).mono ?_
    rintro e wP ⟨rfl, hb⟩
    have DX3 := Lib.hid (DX2.out.later hb)
    have P53 := Lib.hid (P52.out.later hb)
    have I53 := Lib.hid (I52.out.later hb)
    have BB3 := Lib.hid (BB2.out.trans (hb.mono BB2.out.size))
    clear hb c0 c1 c2 c3 c4 d0 d1 d2 d3 d4 R2 CX2 NZ2 P52 I52 DX2 BB2
    have d0 := DX3.out.at_ 0 rfl
    have d1 := DX3.out.at_ 1 rfl
    have d2 := DX3.out.at_ 2 rfl
    have d3 := DX3.out.at_ 3 rfl
    have d4 := DX3.out.at_ 4 rfl
    go_wp2_with fail
    refine (same_aw _ _ _ _ _ P53.out I53.out).mono ?_
    rintro e wQ ⟨rfl, hb⟩
    have BB4 := Lib.hid (BB3.out.trans (hb.mono BB3.out.size))
    clear hb d0 d1 d2 d3 d4
    go_wp2
    go_ret
    exact ⟨by simp, BB4.out⟩
end Go.Proofs.Ytdjbdhfellofoaa.Do
