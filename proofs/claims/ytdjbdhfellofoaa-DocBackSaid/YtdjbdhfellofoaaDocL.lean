
/- Read and Parse (the program's). -/
import Derived.Test.YtdjbdhfellofoaaDocK
namespace Go.Proofs.Ytdjbdhfellofoaa.DocM
/-- the change that bytes tell, and is there one -/
def rdV (s : List UInt8) : Ch := match rdC s with | none => ch0 | some x => x.1
def rdK (s : List UInt8) : Bool := (rdC s).isSome
def rdS (s : List UInt8) : List UInt8 := match rdC s with | none => [] | some x => x.2
theorem rd_none {s : List UInt8} (h : rdC s = none) : rdV s = ch0 ∧ rdK s = false ∧ rdS s = [] := by unfold rdV rdK rdS; rw [h]; exact ⟨rfl, rfl, rfl⟩
theorem rd_some {s : List UInt8} {c : Ch} {t : List UInt8} (h : rdC s = some (c, t)) : rdV s = c ∧ rdK s = true ∧ rdS s = t := by unfold rdV rdK rdS; rw [h]; exact ⟨rfl, rfl, rfl⟩
/-- Parse's answer -/
def paK (s : List UInt8) : Bool := rdK s && decide (rdS s = [])
def paV (s : List UInt8) : Ch := if paK s = true then rdV s else ch0
def paC (s : List UInt8) : Int := if paK s = true then 0 else 2
end Go.Proofs.Ytdjbdhfellofoaa.DocM
namespace Go.Proofs.Ytdjbdhfellofoaa.Do
open Go.RowKit Go.Proofs.Ytdjbdhfellofoaa DocM

/-- what Read answers -/
def ReadEnd (N b : Nat) (s : List UInt8) (e : Ending) (w' : World) : Prop :=
  ∃ T V s' bad', e = .returned (.tuple #[chV (rdV s) T V, .bool (rdK s)]) ∧ Prd w' T (rdV s).ts ∧ Vrd w' V (rdV s).v ∧ RD w' b s' bad' ∧ (rdK s = true → s' = rdS s) ∧ NewS N T ∧ NewS N V
theorem bx_fill2 {w : World} {R b : Nat} {v0 v1 v2 v3 v4 : Value} (h : Bx w R #[v0, v1, v2, v3, v4]) (hne : R ≠ b) (u : World) (hu : u.heap.size ≤ R) {s : List UInt8} {bad : Bool} (hrd : RD w b s bad) (hg : u.grownBy w (some b)) (a0 a1 a2 a3 a4 : Value) :
    Bx (((((w.setCell ⟨R, 0, none⟩ a0).setCell ⟨R, 1, none⟩ a1).setCell ⟨R, 2, none⟩ a2).setCell ⟨R, 3, none⟩ a3).setCell ⟨R, 4, none⟩ a4) R #[a0, a1, a2, a3, a4] ∧
    RD (((((w.setCell ⟨R, 0, none⟩ a0).setCell ⟨R, 1, none⟩ a1).setCell ⟨R, 2, none⟩ a2).setCell ⟨R, 3, none⟩ a3).setCell ⟨R, 4, none⟩ a4) b s bad ∧
    u.grownBy (((((w.setCell ⟨R, 0, none⟩ a0).setCell ⟨R, 1, none⟩ a1).setCell ⟨R, 2, none⟩ a2).setCell ⟨R, 3, none⟩ a3).setCell ⟨R, 4, none⟩ a4) (some b) ∧
    ∀ g, g ≠ R → (((((w.setCell ⟨R, 0, none⟩ a0).setCell ⟨R, 1, none⟩ a1).setCell ⟨R, 2, none⟩ a2).setCell ⟨R, 3, none⟩ a3).setCell ⟨R, 4, none⟩ a4).heap[g]? = w.heap[g]? := by
  have n := Ne.symm hne
  refine ⟨h.fill a0 a1 a2 a3 a4, rd_away (rd_away (rd_away (rd_away (rd_away hrd n 0 a0) n 1 a1) n 2 a2) n 3 a3) n 4 a4, grown_put (grown_put (grown_put (grown_put (grown_put hg hu 0 a0) hu 1 a1) hu 2 a2) hu 3 a3) hu 4 a4, fun g hg => ?_⟩
  have q : ∀ (W : World) (i : Nat) (u : Value), (W.setCell ⟨R, i, none⟩ u).heap[g]? = W.heap[g]? := fun W i u => Below.heap_setCell W _ u g (fun e => hg e)
  rw [q, q, q, q, q]
set_option maxHeartbeats 8000000 in
set_option maxRecDepth 100000 in
theorem read_any' (w : World) (b : Nat) (s : List UInt8) (hl : s.length ≤ 100000000) (h : RD w b s false) :
    Calls Try.prog 13 #[.pointer (some ⟨b, 0, none⟩)] w fun e w' => ReadEnd w.heap.size b s e w' ∧ w.grownBy w' (some b) := by
  have TK := Lib.hid (fun W hW => take_any' W b s hl hW)
  have H := Lib.hid h
  clear h
  go_enter Try.func13, Try.ntmps13
  go_wp2_with fail
  obtain ⟨R, hR⟩ : ∃ R, R = w.heap.size := ⟨_, rfl⟩
  rw [← hR]
  have hbw := H.out.lt
  have RB : Hid (R ≠ b) := Lib.hid (by omega)
  have HRw : Hid (w.heap.size ≤ R) := Lib.hid (by omega)
  have A0 : Hid (Bx (w.alloc (.cells #[.int .i64 0, .slice none 0 0, .slice none 0 0, .int .i64 0, .bool false] 27)) R #[.int .i64 0, .slice none 0 0, .slice none 0 0, .int .i64 0, .bool false]) := Lib.hid (by
    subst hR
    exact heap_alloc_new w _)
  have A2 : Hid (RD (w.alloc (.cells #[.int .i64 0, .slice none 0 0, .slice none 0 0, .int .i64 0, .bool false] 27)) b s false) := Lib.hid (H.out.alloc _)
  have A3 : Hid (w.grownBy (w.alloc (.cells #[.int .i64 0, .slice none 0 0, .slice none 0 0, .int .i64 0, .bool false] 27)) (some b)) := Lib.hid (only_new (World.grownBy.refl w _) _)
  clear hR hbw H
  generalize (w.alloc (.cells #[.int .i64 0, .slice none 0 0, .slice none 0 0, .int .i64 0, .bool false] 27)) = wA at A0 A2 A3 ⊢
  refine (TK.out _ A2.out).mono ?_
  rintro e w1 ⟨⟨c, T, V, ok, s', bad', rfl, hT, hV, rd, hraw, hNT, hNV⟩, gr⟩
  have HR0 : Hid (R < wA.heap.size) := Lib.hid A0.out.lt
  have HAw : Hid (w.heap.size ≤ wA.heap.size) := Lib.hid A3.out.size
  have B0 := Lib.hid (A0.out.grown gr RB.out)
  have B2 := Lib.hid rd
  have B3 := Lib.hid (A3.out.trans gr)
  obtain ⟨AT, cT, eT, hcT, hAT, hPT⟩ := hT
  obtain ⟨AV, cV, eV, hIV⟩ := hV
  have HRAW := Lib.hid hraw
  obtain ⟨nT, hnT⟩ : ∃ n, n = c.ts.length := ⟨_, rfl⟩
  obtain ⟨nV, hnV⟩ : ∃ n, n = c.v.length := ⟨_, rfl⟩
  rw [← hnT] at eT hPT hcT
  rw [← hnV] at eV hIV
  subst eT
  subst eV
  have FAR : Hid ((∀ ad, AT = some ad → ad.block ≠ R) ∧ ∀ ad, AV = some ad → ad.block ≠ R) := Lib.hid ⟨fun ad e => by
      have h1 := hNT _ _ _ rfl ad e
      have h2 := HR0.out
      omega, fun ad e => by
      have h1 := hNV _ _ _ rfl ad e
      have h2 := HR0.out
      omega⟩
  have NEW : Hid (NewS w.heap.size (.slice AT nT cT) ∧ NewS w.heap.size (.slice AV nV cV)) := Lib.hid ⟨fun A n cp e ad e2 => Nat.le_trans HAw.out (hNT A n cp e ad e2), fun A n cp e ad e2 => Nat.le_trans HAw.out (hNV A n cp e ad e2)⟩
  clear hNT hNV HR0
  have HPT := Lib.hid hPT
  have HIV := Lib.hid hIV
  have HAT := Lib.hid (show nT ≤ cT ∧ (AT = none → cT = 0) from ⟨hcT, hAT⟩)
  have HNT := Lib.hid hnT
  have HNV := Lib.hid hnV
  clear rd gr A0 A2 A3 TK hraw hPT hIV hnT hnV hcT hAT
  have RR := Lib.hid (fun W hW hX hn => right_any c AT AV nT cT nV cV W hW hX hn)
  have HC0 : Hid (∀ x, x = c → True) := Lib.hid (fun _ _ => trivial)
  unfold chV at RR ⊢
  obtain ⟨d, hd⟩ : ∃ d, d = c.doc := ⟨_, rfl⟩
  obtain ⟨tg, htg⟩ : ∃ d, d = c.tags := ⟨_, rfl⟩
  obtain ⟨gn, hgn⟩ : ∃ d, d = c.gone := ⟨_, rfl⟩
  rw [← hd, ← htg, ← hgn] at RR ⊢
  have HD := Lib.hid (show d = c.doc ∧ tg = c.tags ∧ gn = c.gone from ⟨hd, htg, hgn⟩)
  clear hd htg hgn HC0
  have e0 := B0.out.at_ 0 rfl
  have e1 := B0.out.at_ 1 rfl
  have e2 := B0.out.at_ 2 rfl
  have e3 := B0.out.at_ 3 rfl
  have e4 := B0.out.at_ 4 rfl
  have k0 := B0.out.free 0
  have k1 := B0.out.free 1
  have k2 := B0.out.free 2
  have k3 := B0.out.free 3
  have k4 := B0.out.free 4
  have hRl := B0.out.lt
  cases ok with
  | false =>
    have HN : Hid (rdC s = none) := Lib.hid (by unfold rdC; rw [HRAW.out]; rfl)
    have F0 := bx_fill2 B0.out RB.out w HRw.out B2.out B3.out (.int .i64 0) (.slice none 0 0) (.slice none 0 0) (.int .i64 0) (.bool false)
    have HF : Hid (Bx ((((((w1.setCell ⟨R, 0, none⟩ (.int .i64 0)).setCell ⟨R, 1, none⟩ (.slice none 0 0)).setCell ⟨R, 2, none⟩ (.slice none 0 0)).setCell ⟨R, 3, none⟩ (.int .i64 0)).setCell ⟨R, 4, none⟩ (.bool false)).alloc (.cells #[.int .i64 d, .slice AT nT cT, .slice AV nV cV, .int .i64 tg, .bool gn] 27)) R #[.int .i64 0, .slice none 0 0, .slice none 0 0, .int .i64 0, .bool false] ∧ RD ((((((w1.setCell ⟨R, 0, none⟩ (.int .i64 0)).setCell ⟨R, 1, none⟩ (.slice none 0 0)).setCell ⟨R, 2, none⟩ (.slice none 0 0)).setCell ⟨R, 3, none⟩ (.int .i64 0)).setCell ⟨R, 4, none⟩ (.bool false)).alloc (.cells #[.int .i64 d, .slice AT nT cT, .slice AV nV cV, .int .i64 tg, .bool gn] 27)) b s' bad' ∧ w.grownBy ((((((w1.setCell ⟨R, 0, none⟩ (.int .i64 0)).setCell ⟨R, 1, none⟩ (.slice none 0 0)).setCell ⟨R, 2, none⟩ (.slice none 0 0)).setCell ⟨R, 3, none⟩ (.int .i64 0)).setCell ⟨R, 4, none⟩ (.bool false)).alloc (.cells #[.int .i64 d, .slice AT nT cT, .slice AV nV cV, .int .i64 tg, .bool gn] 27)) (some b)) := Lib.hid ⟨F0.1.later (pl1 _ _), F0.2.1.alloc _, only_new F0.2.2.1 _⟩
    clear F0
    go_wp2
    generalize ((((((w1.setCell ⟨R, 0, none⟩ (.int .i64 0)).setCell ⟨R, 1, none⟩ (.slice none 0 0)).setCell ⟨R, 2, none⟩ (.slice none 0 0)).setCell ⟨R, 3, none⟩ (.int .i64 0)).setCell ⟨R, 4, none⟩ (.bool false)).alloc (.cells #[.int .i64 d, .slice AT nT cT, .slice AV nV cV, .int .i64 tg, .bool gn] 27)) = WZ at HF ⊢
    have z0 := HF.out.1.at_ 0 rfl
    have z1 := HF.out.1.at_ 1 rfl
    have z2 := HF.out.1.at_ 2 rfl
    have z3 := HF.out.1.at_ 3 rfl
    have z4 := HF.out.1.at_ 4 rfl
    obtain ⟨n1, n2, n3⟩ := rd_none HN.out
    exact bodyPost_ret (v := .tuple #[chV ch0 (.slice none 0 0) (.slice none 0 0), .bool false]) (by simp [results, Try.results13, go_sem, z0, z1, z2, z3, z4, chV, ch0]) rfl ⟨⟨_, _, _, _, by rw [n1, n2], by rw [n1]; exact prd_nil _, by rw [n1]; exact Vrd.nil_ _, HF.out.2.1, (fun e => by rw [n2] at e; cases e), NewS.nil_ _, NewS.nil_ _⟩, HF.out.2.2⟩
  | true =>
    go_wp2_with fail
    obtain ⟨C, hC⟩ : ∃ C, C = w1.heap.size := ⟨_, rfl⟩
    rw [← hC]
    have RC : Hid (R ≠ C) := Lib.hid (by have := B0.out.lt; omega)
    have PL := pl1 w1 (.cells #[.int .i64 d, .slice AT nT cT, .slice AV nV cV, .int .i64 tg, .bool gn] 27)
    have C0 : Hid (Bx (w1.alloc (.cells #[.int .i64 d, .slice AT nT cT, .slice AV nV cV, .int .i64 tg, .bool gn] 27)) C #[.int .i64 d, .slice AT nT cT, .slice AV nV cV, .int .i64 tg, .bool gn]) := Lib.hid (by
      subst hC
      exact heap_alloc_new w1 _)
    have B0 := Lib.hid (B0.out.later PL)
    have B2 := Lib.hid (B2.out.later PL)
    have B3 := Lib.hid (only_below B3.out PL)
    have HPT := Lib.hid (HPT.out.later PL)
    have HIV := Lib.hid (HIV.out.later PL)
    clear PL e0 e1 e2 e3 e4 k0 k1 k2 k3 k4 hRl hC
    generalize (w1.alloc (.cells #[.int .i64 d, .slice AT nT cT, .slice AV nV cV, .int .i64 tg, .bool gn] 27)) = w2 at C0 B0 B2 B3 HPT HIV ⊢
    have e0 := B0.out.at_ 0 rfl
    have e1 := B0.out.at_ 1 rfl
    have e2 := B0.out.at_ 2 rfl
    have e3 := B0.out.at_ 3 rfl
    have e4 := B0.out.at_ 4 rfl
    have k0 := B0.out.free 0
    have k1 := B0.out.free 1
    have k2 := B0.out.free 2
    have k3 := B0.out.free 3
    have k4 := B0.out.free 4
    have c0 := C0.out.at_ 0 rfl
    have c1 := C0.out.at_ 1 rfl
    have c2 := C0.out.at_ 2 rfl
    have c3 := C0.out.at_ 3 rfl
    have c4 := C0.out.at_ 4 rfl
    refine (rbad_any _ b s' bad' B2.out).mono ?_
    rintro e w2 ⟨rfl, rfl⟩
    cases bad' with
    | true =>
      have HN : Hid (rdC s = none) := Lib.hid (by unfold rdC; rw [HRAW.out]; rfl)
      have F0 := bx_fill2 B0.out RB.out w HRw.out B2.out B3.out (.int .i64 0) (.slice none 0 0) (.slice none 0 0) (.int .i64 0) (.bool false)
      have HF := Lib.hid (show _ ∧ _ ∧ _ from ⟨F0.1, F0.2.1, F0.2.2.1⟩)
      clear F0
      go_wp2
      generalize (((((w2.setCell ⟨R, 0, none⟩ (.int .i64 0)).setCell ⟨R, 1, none⟩ (.slice none 0 0)).setCell ⟨R, 2, none⟩ (.slice none 0 0)).setCell ⟨R, 3, none⟩ (.int .i64 0)).setCell ⟨R, 4, none⟩ (.bool false)) = WZ at HF ⊢
      have z0 := HF.out.1.at_ 0 rfl
      have z1 := HF.out.1.at_ 1 rfl
      have z2 := HF.out.1.at_ 2 rfl
      have z3 := HF.out.1.at_ 3 rfl
      have z4 := HF.out.1.at_ 4 rfl
      obtain ⟨n1, n2, n3⟩ := rd_none HN.out
      exact bodyPost_ret (v := .tuple #[chV ch0 (.slice none 0 0) (.slice none 0 0), .bool false]) (by simp [results, Try.results13, go_sem, z0, z1, z2, z3, z4, chV, ch0]) rfl ⟨⟨_, _, _, _, by rw [n1, n2], by rw [n1]; exact prd_nil _, by rw [n1]; exact Vrd.nil_ _, HF.out.2.1, (fun e => by rw [n2] at e; cases e), NewS.nil_ _, NewS.nil_ _⟩, HF.out.2.2⟩
    | false =>
      have hr : rawC s = some (c, s') := by rw [HRAW.out]; rfl
      have hlen : nT ≤ 1000000000 := by have := (raw_here hr).2.1; have := HNT.out; omega
      have HR := Lib.hid hr
      clear hr HRAW
      go_wp2_with fail
      refine (RR.out _ HPT.out HIV.out hlen).mono ?_
      rintro e w3 ⟨rfl, hb⟩
      obtain ⟨rc, hrc⟩ : ∃ x, x = rightC c := ⟨_, rfl⟩
      rw [← hrc]
      have HRC := Lib.hid hrc
      have C0 := Lib.hid (C0.out.later hb)
      have B0 := Lib.hid (B0.out.later hb)
      have B2 := Lib.hid (B2.out.later hb)
      have B3 := Lib.hid (only_below B3.out hb)
      have HPT := Lib.hid (HPT.out.later hb)
      have HIV := Lib.hid (HIV.out.later hb)
      clear hb e0 e1 e2 e3 e4 k0 k1 k2 k3 k4 c0 c1 c2 c3 c4 hrc RR
      have e0 := B0.out.at_ 0 rfl
      have e1 := B0.out.at_ 1 rfl
      have e2 := B0.out.at_ 2 rfl
      have e3 := B0.out.at_ 3 rfl
      have e4 := B0.out.at_ 4 rfl
      have k0 := B0.out.free 0
      have k1 := B0.out.free 1
      have k2 := B0.out.free 2
      have k3 := B0.out.free 3
      have k4 := B0.out.free 4
      have c0 := C0.out.at_ 0 rfl
      have c1 := C0.out.at_ 1 rfl
      have c2 := C0.out.at_ 2 rfl
      have c3 := C0.out.at_ 3 rfl
      have c4 := C0.out.at_ 4 rfl
      by_cases hz : rc = 0
      · have hz2 : (rc != 0) = false := by subst hz; rfl
        have HY : Hid (rdC s = some (c, s')) := Lib.hid (by
          unfold rdC
          rw [HR.out]
          simp only [Option.bind_some]
          rw [if_pos (by rw [← HRC.out]; exact hz)])
        have F0 := bx_fill2 B0.out RB.out w HRw.out B2.out B3.out (.int .i64 d) (.slice AT nT cT) (.slice AV nV cV) (.int .i64 tg) (.bool gn)
        have HF := Lib.hid F0
        have hRC := RC.out
        clear F0
        go_wp2
        have HS : Hid (w3.heap.size ≤ (((((w3.setCell ⟨R, 0, none⟩ (.int .i64 d)).setCell ⟨R, 1, none⟩ (.slice AT nT cT)).setCell ⟨R, 2, none⟩ (.slice AV nV cV)).setCell ⟨R, 3, none⟩ (.int .i64 tg)).setCell ⟨R, 4, none⟩ (.bool gn)).heap.size) := Lib.hid (by simp)
        generalize (((((w3.setCell ⟨R, 0, none⟩ (.int .i64 d)).setCell ⟨R, 1, none⟩ (.slice AT nT cT)).setCell ⟨R, 2, none⟩ (.slice AV nV cV)).setCell ⟨R, 3, none⟩ (.int .i64 tg)).setCell ⟨R, 4, none⟩ (.bool gn)) = WZ at HF HS ⊢
        have z0 := HF.out.1.at_ 0 rfl
        have z1 := HF.out.1.at_ 1 rfl
        have z2 := HF.out.1.at_ 2 rfl
        have z3 := HF.out.1.at_ 3 rfl
        have z4 := HF.out.1.at_ 4 rfl
        obtain ⟨n1, n2, n3⟩ := rd_some HY.out
        have HP : Pairs WZ AT nT c.ts := ⟨HPT.out.1, fun k hk => by
          obtain ⟨g, o, e, hg, q0, q1⟩ := HPT.out.2 k hk
          have hne : g ≠ R := FAR.out.1 _ e
          have hk' := HF.out.2.2.2 g hne
          exact ⟨g, o, e, Nat.lt_of_lt_of_le hg HS.out, (World.cell?_of_block (a := ⟨g, _, none⟩) hk').trans q0, (World.cell?_of_block (a := ⟨g, _, none⟩) hk').trans q1⟩⟩
        have HQ : Ivs WZ AV nV c.v := ⟨HIV.out.1, fun k hk => by
          obtain ⟨g, o, e, hg, q0⟩ := HIV.out.2 k hk
          have hne : g ≠ R := FAR.out.2 _ e
          have hk' := HF.out.2.2.2 g hne
          exact ⟨g, o, e, Nat.lt_of_lt_of_le hg HS.out, (World.cell?_of_block (a := ⟨g, _, none⟩) hk').trans q0⟩⟩
        have e1 : chV c (.slice AT nT cT) (.slice AV nV cV) = .agg #[.int .i64 d, .slice AT nT cT, .slice AV nV cV, .int .i64 tg, .bool gn] := by
          unfold chV
          rw [← HD.out.1, ← HD.out.2.1, ← HD.out.2.2]
        refine bodyPost_ret (v := .tuple #[.agg #[.int .i64 d, .slice AT nT cT, .slice AV nV cV, .int .i64 tg, .bool gn], .bool true]) (by simp [results, Try.results13, go_sem, z0, z1, z2, z3, z4]) rfl ⟨⟨.slice AT nT cT, .slice AV nV cV, s', false, by rw [n1, n2, e1], ?_, ?_, HF.out.2.1, (fun _ => n3.symm), NEW.out.1, NEW.out.2⟩, HF.out.2.2.1⟩
        · rw [n1]
          exact ⟨AT, cT, by rw [HNT.out], by rw [← HNT.out]; exact HAT.out.1, HAT.out.2, by rw [← HNT.out]; exact HP⟩
        · rw [n1]
          exact ⟨AV, cV, by rw [HNV.out], by rw [← HNV.out]; exact HQ⟩
      · have hz2 : (rc != 0) = true := by simpa using hz
        have HN : Hid (rdC s = none) := Lib.hid (by
          unfold rdC
          rw [HR.out]
          simp only [Option.bind_some]
          rw [if_neg (by rw [← HRC.out]; exact hz)])
        have F0 := bx_fill2 B0.out RB.out w HRw.out B2.out B3.out (.int .i64 0) (.slice none 0 0) (.slice none 0 0) (.int .i64 0) (.bool false)
        have HF := Lib.hid (show _ ∧ _ ∧ _ from ⟨F0.1, F0.2.1, F0.2.2.1⟩)
        clear F0
        go_wp2
        generalize (((((w3.setCell ⟨R, 0, none⟩ (.int .i64 0)).setCell ⟨R, 1, none⟩ (.slice none 0 0)).setCell ⟨R, 2, none⟩ (.slice none 0 0)).setCell ⟨R, 3, none⟩ (.int .i64 0)).setCell ⟨R, 4, none⟩ (.bool false)) = WZ at HF ⊢
        have z0 := HF.out.1.at_ 0 rfl
        have z1 := HF.out.1.at_ 1 rfl
        have z2 := HF.out.1.at_ 2 rfl
        have z3 := HF.out.1.at_ 3 rfl
        have z4 := HF.out.1.at_ 4 rfl
        obtain ⟨n1, n2, n3⟩ := rd_none HN.out
        exact bodyPost_ret (v := .tuple #[chV ch0 (.slice none 0 0) (.slice none 0 0), .bool false]) (by simp [results, Try.results13, go_sem, z0, z1, z2, z3, z4, chV, ch0]) rfl ⟨⟨_, _, _, _, by rw [n1, n2], by rw [n1]; exact prd_nil _, by rw [n1]; exact Vrd.nil_ _, HF.out.2.1, (fun e => by rw [n2] at e; cases e), NewS.nil_ _, NewS.nil_ _⟩, HF.out.2.2⟩
theorem below_rd {w w1 w2 : World} {b : Nat} (h : Below w.heap.size w w1) (hb : w.heap.size ≤ b) (hg : w1.grownBy w2 (some b)) : Below w.heap.size w w2 := h.grown hg h.size (fun j hj => by
  have e : b = j := Option.some.inj hj
  omega)
theorem pa_no {s : List UInt8} (h : paK s = false) : paV s = ch0 ∧ paC s = 2 := by unfold paV paC; rw [h]; exact ⟨rfl, rfl⟩
theorem pa_yes {s : List UInt8} (h : paK s = true) : paV s = rdV s ∧ paC s = 0 := by unfold paV paC; rw [h]; exact ⟨rfl, rfl⟩
/-- a store into a block that is new -/
theorem below_fill {n R : Nat} {w w1 : World} (h : Below n w w1) (hR : n ≤ R) (a0 a1 a2 a3 a4 : Value) : Below n w (((((w1.setCell ⟨R, 0, none⟩ a0).setCell ⟨R, 1, none⟩ a1).setCell ⟨R, 2, none⟩ a2).setCell ⟨R, 3, none⟩ a3).setCell ⟨R, 4, none⟩ a4) :=
  ((((h.setCell (by exact hR) _).setCell (by exact hR) _).setCell (by exact hR) _).setCell (by exact hR) _).setCell (by exact hR) _
set_option maxHeartbeats 8000000 in
set_option maxRecDepth 100000 in
theorem parse_any' (w : World) (s : List UInt8) (hl : s.length ≤ 100000000) :
    Calls Try.prog 10 #[.string (ofBytes s)] w fun e w' => (∃ T V, e = .returned (.tuple #[chV (paV s) T V, .int .i64 (paC s)]) ∧ Prd w' T (paV s).ts ∧ Vrd w' V (paV s).v ∧ NewS w.heap.size T ∧ NewS w.heap.size V) ∧ Below w.heap.size w w' := by
  have RE := Lib.hid (fun W b hW => read_any' W b s hl hW)
  go_enter Try.func10, Try.ntmps10
  go_wp2_with fail
  obtain ⟨R, hR⟩ : ∃ R, R = w.heap.size := ⟨_, rfl⟩
  rw [← hR]
  have HRw : Hid (w.heap.size ≤ R) := Lib.hid (by omega)
  have A0 : Hid (Bx (w.alloc (.cells #[.int .i64 0, .slice none 0 0, .slice none 0 0, .int .i64 0, .bool false] 27)) R #[.int .i64 0, .slice none 0 0, .slice none 0 0, .int .i64 0, .bool false]) := Lib.hid (by
    subst hR
    exact heap_alloc_new w _)
  have A3 := Lib.hid (pl1 w (.cells #[.int .i64 0, .slice none 0 0, .slice none 0 0, .int .i64 0, .bool false] 27))
  clear hR
  generalize (w.alloc (.cells #[.int .i64 0, .slice none 0 0, .slice none 0 0, .int .i64 0, .bool false] 27)) = wA at A0 A3 ⊢
  refine (rnew_any _ s hl).mono ?_
  rintro e w0 ⟨b, rfl, hbn, rd, hb⟩
  have RB : Hid (R ≠ b) := Lib.hid (by have := A0.out.lt; omega)
  have HBw : Hid (w.heap.size ≤ b) := Lib.hid (Nat.le_trans A3.out.size hbn)
  have A0 := Lib.hid (A0.out.later hb)
  have A2 := Lib.hid rd
  have A3 := Lib.hid (A3.out.trans (hb.mono A3.out.size))
  clear rd hb hbn
  go_wp2_with fail
  refine (RE.out _ _ A2.out).mono ?_
  rintro e w1 ⟨⟨T, V, s', bad', rfl, hT, hV, rd, hs', hNT, hNV⟩, gr⟩
  have HR0 : Hid (R < w0.heap.size) := Lib.hid A0.out.lt
  have HAw : Hid (w.heap.size ≤ w0.heap.size) := Lib.hid A3.out.size
  have B0 := Lib.hid (A0.out.grown gr RB.out)
  have B2 := Lib.hid rd
  have B3 := Lib.hid (below_rd A3.out HBw.out gr)
  have HS' := Lib.hid hs'
  obtain ⟨c, hc⟩ : ∃ c, c = rdV s := ⟨_, rfl⟩
  obtain ⟨ok, hok⟩ : ∃ c, c = rdK s := ⟨_, rfl⟩
  rw [← hc] at hT hV ⊢
  rw [← hok] at HS' ⊢
  have HCV := Lib.hid hc
  have HOK := Lib.hid hok
  obtain ⟨AT, cT, eT, hcT, hAT, hPT⟩ := hT
  obtain ⟨AV, cV, eV, hIV⟩ := hV
  obtain ⟨nT, hnT⟩ : ∃ n, n = c.ts.length := ⟨_, rfl⟩
  obtain ⟨nV, hnV⟩ : ∃ n, n = c.v.length := ⟨_, rfl⟩
  rw [← hnT] at eT hPT hcT
  rw [← hnV] at eV hIV
  subst eT
  subst eV
  have FAR : Hid ((∀ ad, AT = some ad → ad.block ≠ R) ∧ ∀ ad, AV = some ad → ad.block ≠ R) := Lib.hid ⟨fun ad e => by
      have h1 := hNT _ _ _ rfl ad e
      have h2 := HR0.out
      omega, fun ad e => by
      have h1 := hNV _ _ _ rfl ad e
      have h2 := HR0.out
      omega⟩
  have HPT := Lib.hid hPT
  have HIV := Lib.hid hIV
  have HAT := Lib.hid (show nT ≤ cT ∧ (AT = none → cT = 0) from ⟨hcT, hAT⟩)
  have HNT := Lib.hid hnT
  have HNV := Lib.hid hnV
  have NEW : Hid (NewS w.heap.size (.slice AT nT cT) ∧ NewS w.heap.size (.slice AV nV cV)) := Lib.hid ⟨fun A n cp e ad e2 => Nat.le_trans HAw.out (hNT A n cp e ad e2), fun A n cp e ad e2 => Nat.le_trans HAw.out (hNV A n cp e ad e2)⟩
  clear hNT hNV HR0 rd gr A0 A2 A3 RE hPT hIV hnT hnV hcT hAT hc hok hs'
  unfold chV
  obtain ⟨d, hd⟩ : ∃ d, d = c.doc := ⟨_, rfl⟩
  obtain ⟨tg, htg⟩ : ∃ d, d = c.tags := ⟨_, rfl⟩
  obtain ⟨gn, hgn⟩ : ∃ d, d = c.gone := ⟨_, rfl⟩
  rw [← hd, ← htg, ← hgn]
  have HD := Lib.hid (show d = c.doc ∧ tg = c.tags ∧ gn = c.gone from ⟨hd, htg, hgn⟩)
  clear hd htg hgn
  have e0 := B0.out.at_ 0 rfl
  have e1 := B0.out.at_ 1 rfl
  have e2 := B0.out.at_ 2 rfl
  have e3 := B0.out.at_ 3 rfl
  have e4 := B0.out.at_ 4 rfl
  have k0 := B0.out.free 0
  have k1 := B0.out.free 1
  have k2 := B0.out.free 2
  have k3 := B0.out.free 3
  have k4 := B0.out.free 4
  have hRl := B0.out.lt
  cases ok with
  | false =>
    have HN : Hid (paK s = false) := Lib.hid (by unfold paK; rw [← HOK.out]; rfl)
    have F0 := B0.out.fill (.int .i64 0) (.slice none 0 0) (.slice none 0 0) (.int .i64 0) (.bool false)
    have HF : Hid (Bx ((((((w1.setCell ⟨R, 0, none⟩ (.int .i64 0)).setCell ⟨R, 1, none⟩ (.slice none 0 0)).setCell ⟨R, 2, none⟩ (.slice none 0 0)).setCell ⟨R, 3, none⟩ (.int .i64 0)).setCell ⟨R, 4, none⟩ (.bool false)).alloc (.cells #[.int .i64 d, .slice AT nT cT, .slice AV nV cV, .int .i64 tg, .bool gn] 27)) R #[.int .i64 0, .slice none 0 0, .slice none 0 0, .int .i64 0, .bool false] ∧ Below w.heap.size w ((((((w1.setCell ⟨R, 0, none⟩ (.int .i64 0)).setCell ⟨R, 1, none⟩ (.slice none 0 0)).setCell ⟨R, 2, none⟩ (.slice none 0 0)).setCell ⟨R, 3, none⟩ (.int .i64 0)).setCell ⟨R, 4, none⟩ (.bool false)).alloc (.cells #[.int .i64 d, .slice AT nT cT, .slice AV nV cV, .int .i64 tg, .bool gn] 27))) := Lib.hid ⟨F0.later (pl1 _ _), by
      have h1 := below_fill B3.out HRw.out (.int .i64 0) (.slice none 0 0) (.slice none 0 0) (.int .i64 0) (.bool false)
      exact h1.trans ((pl1 _ _).mono h1.size)⟩
    clear F0
    go_wp2
    generalize ((((((w1.setCell ⟨R, 0, none⟩ (.int .i64 0)).setCell ⟨R, 1, none⟩ (.slice none 0 0)).setCell ⟨R, 2, none⟩ (.slice none 0 0)).setCell ⟨R, 3, none⟩ (.int .i64 0)).setCell ⟨R, 4, none⟩ (.bool false)).alloc (.cells #[.int .i64 d, .slice AT nT cT, .slice AV nV cV, .int .i64 tg, .bool gn] 27)) = WZ at HF ⊢
    have z0 := HF.out.1.at_ 0 rfl
    have z1 := HF.out.1.at_ 1 rfl
    have z2 := HF.out.1.at_ 2 rfl
    have z3 := HF.out.1.at_ 3 rfl
    have z4 := HF.out.1.at_ 4 rfl
    obtain ⟨n1, n2⟩ := pa_no HN.out
    exact bodyPost_ret (v := .tuple #[chV ch0 (.slice none 0 0) (.slice none 0 0), .int .i64 2]) (by simp [results, Try.results10, go_sem, z0, z1, z2, z3, z4, chV, ch0]) rfl ⟨⟨_, _, by rw [n1, n2], by rw [n1]; exact prd_nil _, by rw [n1]; exact Vrd.nil_ _, NewS.nil_ _, NewS.nil_ _⟩, HF.out.2⟩
  | true =>
    go_wp2_with fail
    obtain ⟨C, hC⟩ : ∃ C, C = w1.heap.size := ⟨_, rfl⟩
    rw [← hC]
    have RC : Hid (R ≠ C) := Lib.hid (by have := B0.out.lt; omega)
    have PL := pl1 w1 (.cells #[.int .i64 d, .slice AT nT cT, .slice AV nV cV, .int .i64 tg, .bool gn] 27)
    have C0 : Hid (Bx (w1.alloc (.cells #[.int .i64 d, .slice AT nT cT, .slice AV nV cV, .int .i64 tg, .bool gn] 27)) C #[.int .i64 d, .slice AT nT cT, .slice AV nV cV, .int .i64 tg, .bool gn]) := Lib.hid (by
      subst hC
      exact heap_alloc_new w1 _)
    have B0 := Lib.hid (B0.out.later PL)
    have B2 := Lib.hid (B2.out.later PL)
    have B3 := Lib.hid (B3.out.trans (PL.mono B3.out.size))
    have HPT := Lib.hid (HPT.out.later PL)
    have HIV := Lib.hid (HIV.out.later PL)
    clear PL e0 e1 e2 e3 e4 k0 k1 k2 k3 k4 hRl hC
    generalize (w1.alloc (.cells #[.int .i64 d, .slice AT nT cT, .slice AV nV cV, .int .i64 tg, .bool gn] 27)) = w2 at C0 B0 B2 B3 HPT HIV ⊢
    have e0 := B0.out.at_ 0 rfl
    have e1 := B0.out.at_ 1 rfl
    have e2 := B0.out.at_ 2 rfl
    have e3 := B0.out.at_ 3 rfl
    have e4 := B0.out.at_ 4 rfl
    have k0 := B0.out.free 0
    have k1 := B0.out.free 1
    have k2 := B0.out.free 2
    have k3 := B0.out.free 3
    have k4 := B0.out.free 4
    have c0 := C0.out.at_ 0 rfl
    have c1 := C0.out.at_ 1 rfl
    have c2 := C0.out.at_ 2 rfl
    have c3 := C0.out.at_ 3 rfl
    have c4 := C0.out.at_ 4 rfl
    refine (rleft_any _ b s' bad' B2.out).mono ?_
    rintro e w2 ⟨rfl, rfl⟩
    obtain ⟨m, hm⟩ : ∃ m, m = s'.length := ⟨_, rfl⟩
    rw [← hm]
    have HM : Hid (paK s = decide (m = 0)) := Lib.hid (by
      unfold paK
      rw [← HOK.out, ← HS'.out trivial, hm, Bool.true_and]
      exact decide_eq_decide.2 List.length_eq_zero_iff.symm)
    clear hm
    by_cases hz : m = 0
    · have hd2 : decide ((0 : Int) < (m : Int)) = false := decide_eq_false (by omega)
      have HY : Hid (paK s = true) := Lib.hid (by rw [HM.out, decide_eq_true hz])
      have F0 := B0.out.fill (.int .i64 d) (.slice AT nT cT) (.slice AV nV cV) (.int .i64 tg) (.bool gn)
      have HF : Hid (Bx (((((w2.setCell ⟨R, 0, none⟩ (.int .i64 d)).setCell ⟨R, 1, none⟩ (.slice AT nT cT)).setCell ⟨R, 2, none⟩ (.slice AV nV cV)).setCell ⟨R, 3, none⟩ (.int .i64 tg)).setCell ⟨R, 4, none⟩ (.bool gn)) R #[.int .i64 d, .slice AT nT cT, .slice AV nV cV, .int .i64 tg, .bool gn] ∧ Below w.heap.size w (((((w2.setCell ⟨R, 0, none⟩ (.int .i64 d)).setCell ⟨R, 1, none⟩ (.slice AT nT cT)).setCell ⟨R, 2, none⟩ (.slice AV nV cV)).setCell ⟨R, 3, none⟩ (.int .i64 tg)).setCell ⟨R, 4, none⟩ (.bool gn))) := Lib.hid ⟨F0, below_fill B3.out HRw.out (.int .i64 d) (.slice AT nT cT) (.slice AV nV cV) (.int .i64 tg) (.bool gn)⟩
      have HK : Hid (∀ g, g ≠ R → (((((w2.setCell ⟨R, 0, none⟩ (.int .i64 d)).setCell ⟨R, 1, none⟩ (.slice AT nT cT)).setCell ⟨R, 2, none⟩ (.slice AV nV cV)).setCell ⟨R, 3, none⟩ (.int .i64 tg)).setCell ⟨R, 4, none⟩ (.bool gn)).heap[g]? = w2.heap[g]?) := Lib.hid (fun g hg => by
        have q : ∀ (W : World) (i : Nat) (u : Value), (W.setCell ⟨R, i, none⟩ u).heap[g]? = W.heap[g]? := fun W i u => Below.heap_setCell W _ u g (fun e => hg e)
        rw [q, q, q, q, q])
      have hRC := RC.out
      clear F0
      go_wp2
      have HS : Hid (w2.heap.size ≤ (((((w2.setCell ⟨R, 0, none⟩ (.int .i64 d)).setCell ⟨R, 1, none⟩ (.slice AT nT cT)).setCell ⟨R, 2, none⟩ (.slice AV nV cV)).setCell ⟨R, 3, none⟩ (.int .i64 tg)).setCell ⟨R, 4, none⟩ (.bool gn)).heap.size) := Lib.hid (by simp)
      generalize (((((w2.setCell ⟨R, 0, none⟩ (.int .i64 d)).setCell ⟨R, 1, none⟩ (.slice AT nT cT)).setCell ⟨R, 2, none⟩ (.slice AV nV cV)).setCell ⟨R, 3, none⟩ (.int .i64 tg)).setCell ⟨R, 4, none⟩ (.bool gn)) = WZ at HF HS HK ⊢
      have z0 := HF.out.1.at_ 0 rfl
      have z1 := HF.out.1.at_ 1 rfl
      have z2 := HF.out.1.at_ 2 rfl
      have z3 := HF.out.1.at_ 3 rfl
      have z4 := HF.out.1.at_ 4 rfl
      obtain ⟨n1, n2⟩ := pa_yes HY.out
      have HP : Pairs WZ AT nT c.ts := ⟨HPT.out.1, fun k hk => by
        obtain ⟨g, o, e, hg, q0, q1⟩ := HPT.out.2 k hk
        have hk' := HK.out g (FAR.out.1 _ e)
        exact ⟨g, o, e, Nat.lt_of_lt_of_le hg HS.out, (World.cell?_of_block (a := ⟨g, _, none⟩) hk').trans q0, (World.cell?_of_block (a := ⟨g, _, none⟩) hk').trans q1⟩⟩
      have HQ : Ivs WZ AV nV c.v := ⟨HIV.out.1, fun k hk => by
        obtain ⟨g, o, e, hg, q0⟩ := HIV.out.2 k hk
        have hk' := HK.out g (FAR.out.2 _ e)
        exact ⟨g, o, e, Nat.lt_of_lt_of_le hg HS.out, (World.cell?_of_block (a := ⟨g, _, none⟩) hk').trans q0⟩⟩
      have e1 : chV c (.slice AT nT cT) (.slice AV nV cV) = .agg #[.int .i64 d, .slice AT nT cT, .slice AV nV cV, .int .i64 tg, .bool gn] := by
        unfold chV
        rw [← HD.out.1, ← HD.out.2.1, ← HD.out.2.2]
      refine bodyPost_ret (v := .tuple #[.agg #[.int .i64 d, .slice AT nT cT, .slice AV nV cV, .int .i64 tg, .bool gn], .int .i64 0]) (by simp [results, Try.results10, go_sem, z0, z1, z2, z3, z4]) rfl ⟨⟨.slice AT nT cT, .slice AV nV cV, by rw [n1, n2, ← HCV.out, e1], ?_, ?_, NEW.out.1, NEW.out.2⟩, HF.out.2⟩
      · rw [n1, ← HCV.out]
        exact ⟨AT, cT, by rw [HNT.out], by rw [← HNT.out]; exact HAT.out.1, HAT.out.2, by rw [← HNT.out]; exact HP⟩
      · rw [n1, ← HCV.out]
        exact ⟨AV, cV, by rw [HNV.out], by rw [← HNV.out]; exact HQ⟩
    · have hd2 : decide ((0 : Int) < (m : Int)) = true := decide_eq_true (by omega)
      have HN : Hid (paK s = false) := Lib.hid (by rw [HM.out, decide_eq_false hz])
      have F0 := B0.out.fill (.int .i64 0) (.slice none 0 0) (.slice none 0 0) (.int .i64 0) (.bool false)
      have HF : Hid (Bx (((((w2.setCell ⟨R, 0, none⟩ (.int .i64 0)).setCell ⟨R, 1, none⟩ (.slice none 0 0)).setCell ⟨R, 2, none⟩ (.slice none 0 0)).setCell ⟨R, 3, none⟩ (.int .i64 0)).setCell ⟨R, 4, none⟩ (.bool false)) R #[.int .i64 0, .slice none 0 0, .slice none 0 0, .int .i64 0, .bool false] ∧ Below w.heap.size w (((((w2.setCell ⟨R, 0, none⟩ (.int .i64 0)).setCell ⟨R, 1, none⟩ (.slice none 0 0)).setCell ⟨R, 2, none⟩ (.slice none 0 0)).setCell ⟨R, 3, none⟩ (.int .i64 0)).setCell ⟨R, 4, none⟩ (.bool false))) := Lib.hid ⟨F0, below_fill B3.out HRw.out (.int .i64 0) (.slice none 0 0) (.slice none 0 0) (.int .i64 0) (.bool false)⟩
      clear F0
      go_wp2
      generalize (((((w2.setCell ⟨R, 0, none⟩ (.int .i64 0)).setCell ⟨R, 1, none⟩ (.slice none 0 0)).setCell ⟨R, 2, none⟩ (.slice none 0 0)).setCell ⟨R, 3, none⟩ (.int .i64 0)).setCell ⟨R, 4, none⟩ (.bool false)) = WZ at HF ⊢
      have z0 := HF.out.1.at_ 0 rfl
      have z1 := HF.out.1.at_ 1 rfl
      have z2 := HF.out.1.at_ 2 rfl
      have z3 := HF.out.1.at_ 3 rfl
      have z4 := HF.out.1.at_ 4 rfl
      obtain ⟨n1, n2⟩ := pa_no HN.out
      exact bodyPost_ret (v := .tuple #[chV ch0 (.slice none 0 0) (.slice none 0 0), .int .i64 2]) (by simp [results, Try.results10, go_sem, z0, z1, z2, z3, z4, chV, ch0]) rfl ⟨⟨_, _, by rw [n1, n2], by rw [n1]; exact prd_nil _, by rw [n1]; exact Vrd.nil_ _, NewS.nil_ _, NewS.nil_ _⟩, HF.out.2⟩
end Go.Proofs.Ytdjbdhfellofoaa.Do
