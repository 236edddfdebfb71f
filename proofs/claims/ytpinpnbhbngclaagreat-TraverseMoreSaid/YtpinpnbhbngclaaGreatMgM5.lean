/- Own texts, merged (5 of 8). -/
import Derived.Deep.RegionWith
import Derived.Laws.EntriesVeiled
import Derived.Shelf.SlGeneric
import Derived.Shelf.SlLaysF0
import Derived.Test.YtpinpnbhbngclaaGreatRows
import Derived.Shelf.SlSortCmp.NoneTotal
import Derived.Test.YtpinpnbhbngclaaGreatMgM4

/- The second way: by maxima. -/
namespace Go.Proofs.YtpinpnbhbngclaaGreat
open Go.RowKit

/-- what stands behind 'complete' in a way that goes on behind document m -/
theorem cp_done {w1 W0 W w' : World} {s g n tb sc k : Nat} {mayv : Value} {ps : List Prt} {off : List (Int × Int)} {c0 q gt : Nat} {m : Int} {may : Int → Bool} (h : CpEnd w1 W0 s g n n mayv tb sc k ps off (c0 + off.length) m q gt W w') (hk : 0 < k) (hd : Done k (docsQ ps) may (scoreQ ps) m off) (hr : Rising (docsQ ps)) (hm : m ∈ docsQ ps) (hpos : ∀ d ∈ docsQ ps, 1 ≤ scoreQ ps d) (hmay : may m = true) (hlo : ∀ j, j < q → (togL ps).getD j 0 ≤ worstQ k off) (hop : ∀ p ∈ off, 0 ≤ p.2) :
    ∃ off', SS w1 W0 w' s g n n mayv tb sc k ps off' (c0 + off'.length) ∧ Done k (docsQ ps) may (scoreQ ps) (m + 1) off' ∧ (∀ j, j < q → (togL ps).getD j 0 ≤ worstQ k off') ∧ ∀ p ∈ off', 0 ≤ p.2 := by
  obtain ⟨_, _, _, _, _, h6⟩ := h
  rcases h6 with ⟨hs, hss⟩ | hss
  · exact ⟨off, hss, hd.pass hr hk (by omega) hpos (fun d _ h1 h2 _ => by
      obtain rfl : d = m := by omega
      exact hs), hlo, hop⟩
  · have h1 := hpos m hm
    refine ⟨off ++ [(m, scoreQ ps m)], ?_, hd.keep hr hm (Int.le_refl _) (fun d _ h1 h2 => by omega) hmay, fun j hj => ?_, fun p hp => ?_⟩
    · rw [List.length_append, List.length_cons, List.length_nil, ← Nat.add_assoc]
      exact hss
    · exact Int.le_trans (hlo j hj) (worst_mono (x := (m, scoreQ ps m)) (by show 0 ≤ scoreQ ps m; omega) hop)
    · rcases List.mem_append.1 hp with e | e
      · exact hop p e
      · simp at e; subst e; show 0 ≤ scoreQ ps m; omega

set_option maxHeartbeats 4000000 in
set_option maxRecDepth 100000 in
theorem smaxima_any {w1 W0 W : World} {s g n : Nat} {mayv : Value} {tb sc k : Nat} {ps : List Prt} {c0 : Nat} {may : Int → Bool} (h : SS w1 W0 W s g n n mayv tb sc k ps [] c0) (hn : n ≤ 64) (hk : 0 < k) (hc0 : c0 ≤ 500000) (hdl : (docsQ ps).length ≤ 100000) (hA : ∀ x ∈ ps, AtD x (atM W x.c) 0) (hm : MayC W0 sc mayv may) :
    Calls Tryz.prog 44 #[.pointer (some ⟨s, 0, none⟩)] W fun e w' => e = .returned (.tuple #[]) ∧ WayEnd w1 W0 s g n n mayv tb sc k ps may c0 w' := by
  obtain ⟨F, B, rfl, eg, hmay⟩ := hm
  have HM := Lib.hid hmay
  have HA := Lib.hid hA
  have H := Lib.hid h
  have HR := Lib.hid (docsQ_rising ps)
  have hvl : ∀ D, (vl (docsQ ps) may (scoreQ ps) D).length ≤ 100000 := fun D => by
    unfold vl
    rw [List.length_map]
    exact Nat.le_trans (List.length_filter_le _ _) hdl
  have HV := Lib.hid hvl
  have k0 := cell_of_cells (i := 0) h.obj rfl
  have HSO := Lib.hid (psort_any 66 mostP w1 W g n n ps (enters_of Tryz.func66 (by kernel_rfl) rfl) hn h.row h.pts h.nod (fun W2 hW2 x hx y hy => cmpmost_any w1 W2 x y _ _ (hW2 x hx) (hW2 y hy)))
  clear hmay hA hvl hdl h
  go_enter Tryz.func44, Tryz.ntmps44
  go_wp2_with fail
  refine HSO.out.mono ?_
  rintro e w2 ⟨rfl, ps', hp, hrow2, hps2, hat2, _, hT2⟩
  have H2 := Lib.hid (H.out.sorted hp hrow2 hps2 hT2)
  have HAT2 : Hid (∀ x ∈ ps', AtD x (atM w2 x.c) 0) := Lib.hid (fun x hx => by rw [hat2 x (hp.mem_iff.1 hx)]; exact HA.out x (hp.mem_iff.1 hx))
  have HP := Lib.hid hp
  have HDQ := Lib.hid (docsQ_perm hp)
  have HSQ := Lib.hid (fun d => scoreQ_perm hp d)
  clear hp hrow2 hps2 hat2 hT2 k0
  go_wp2_with fail
  refine (stogether_any H2.out hn).mono ?_
  rintro e w3 ⟨⟨gt, rfl, hgt1, hgt2, hIt⟩, hb3⟩
  have H3 := Lib.hid (H2.out.below hb3)
  have HAT3 : Hid (∀ x ∈ ps', AtD x (atM w3 x.c) 0) := Lib.hid (fun x hx => by rw [H2.out.pts.at_below hb3 hx]; exact HAT2.out x hx)
  have hgs : ∀ x ∈ ps', x.c ≠ gt := fun x hx => by have := (H2.out.pts x hx).lt; omega
  have hgt3 : tb < gt ∧ s < gt := by
    have h1 := (Array.getElem?_eq_some_iff.1 H2.out.obj).1
    have h2 := H2.out.o4
    omega
  have HGS := Lib.hid hgs
  have HIT := Lib.hid hIt
  clear hgs hIt hb3 hgt1
  go_wp2_with fail
  go_loopw [] (fun wr => ∃ (D : Int) (off : List (Int × Int)) (q0 : Nat), Done k (docsQ ps') may (scoreQ ps') D off ∧ SS w1 W0 wr s g n n (.func (.func F) #[] B) tb sc k ps' off (c0 + off.length) ∧ (∀ x ∈ ps', NotBy x (atM wr x.c) D) ∧ (∀ j, j < q0 → (togL ps').getD j 0 ≤ worstQ k off) ∧ (∀ j (h : j < ps'.length), q0 ≤ j → AtD ps'[j] (atM wr ps'[j].c) D) ∧ IAt wr gt (togL ps') ∧ gt < wr.heap.size ∧ 0 ≤ D ∧ q0 ≤ n ∧ D ≤ 2147483648 ∧ (∀ p ∈ off, 0 ≤ p.2)) (fun wr => remQ wr ps')
  case atStart =>
    exact ⟨0, [], 0, Done.start (fun d hd => by
      obtain ⟨x, hx, p, hp, e⟩ := (mem_docsQ ps' d).1 hd
      have := PostM.rgt_all (H3.out.good x hx).right p hp
      omega), H3.out, fun x hx => ⟨(HAT3.out x hx).1, (HAT3.out x hx).2.1⟩, fun j hj => by omega, fun j hj _ => HAT3.out _ (List.getElem_mem hj), HIT.out, hgt2, by omega, by omega, by omega, fun p hp => by simp at hp⟩
  case round =>
    obtain ⟨D, off, q0, hdone, hss, hnb, htog, hat, hit, hgw, hD0, hq0, hD1, hop⟩ := hrel
    have HOP := Lib.hid hop
    clear hop
    have hlen : ps'.length = n := hss.row.len
    have hso := ssought_any hss gt n (togL ps') hn (by unfold togL; simp [hlen]) hit hgw
    have HS := Lib.hid hso
    have HDO := Lib.hid hdone
    have HSS := Lib.hid hss
    have HNB := Lib.hid hnb
    have HTO := Lib.hid htog
    have HAT := Lib.hid hat
    have HI := Lib.hid hit
    have HLE := Lib.hid hlen
    have k0 := cell_of_cells (i := 0) hss.obj rfl
    clear hso hdone hss hnb htog hat hit hlen
    go_wp2_with fail
    refine HS.out.mono ?_
    rintro e4 w4 ⟨⟨q, rfl, hqn, hlow, hhigh⟩, hb4⟩
    have H4 := Lib.hid (HSS.out.below hb4)
    have H4b := Lib.hid hb4
    have hq0q : q0 ≤ q := by
      by_cases c : q0 ≤ q
      · exact c
      · have h1 := hhigh (by omega)
        have h2 := HTO.out q (by omega)
        omega
    have HLO := Lib.hid hlow
    clear hlow hhigh hb4 k0 HS
    have k0 := cell_of_cells (i := 0) H4.out.obj rfl
    have HAT4 : Hid (∀ x ∈ ps'.drop q, AtD x (atM w4 x.c) D) := Lib.hid (fun x hx => by
      obtain ⟨j, hj, rfl⟩ := List.mem_iff_getElem.1 hx
      rw [List.getElem_drop, HSS.out.pts.at_below H4b.out (List.getElem_mem _)]
      exact HAT.out (q + j) _ (by omega))
    have HNB4 : Hid (∀ x ∈ ps', NotBy x (atM w4 x.c) D) := Lib.hid (fun x hx => by rw [HSS.out.pts.at_below H4b.out hx]; exact HNB.out x hx)
    have HLOW : Hid (∀ d ∈ docsQ ps', d ∉ docsQ (ps'.drop q) → scoreQ ps' d ≤ worstQ k off) := Lib.hid (fun d hd hn => sought_low HSS.out.good (by rw [HLE.out]; omega) HLO.out hd hn)
    have HPOS : Hid (∀ d ∈ docsQ ps', 1 ≤ scoreQ ps' d) := Lib.hid (fun d hd => score_pos HSS.out.good hd)
    have HRI : Hid (Rising (docsQ ps')) := Lib.hid (docsQ_rising ps')
    have HEND : Hid (∀ wx : World, SS w1 W0 wx s g n n (.func (.func F) #[] B) tb sc k ps' off (c0 + off.length) → (∀ d ∈ docsQ ps', D ≤ d → d < 2147483648 → scoreQ ps' d ≤ worstQ k off) → WayEnd w1 W0 s g n n (.func (.func F) #[] B) tb sc k ps may c0 wx) := Lib.hid (fun wx hx hall => by
      have hd := HDO.out.pass HRI.out hk hD1 HPOS.out (fun d h1 h2 h3 _ => hall d h1 h2 h3)
      have e1 : scoreQ ps' = scoreQ ps := funext HSQ.out
      refine ⟨ps', off, HP.out, hx, ?_, ?_⟩
      · rw [hd.best, HDQ.out, e1]
      · have := hd.len
        rw [HDQ.out, e1] at this
        exact this)
    by_cases hc : q < n
    · have HFI := Lib.hid (pfirst_any w1 w4 (some ⟨g, q, none⟩) (n - q) (n - q) (ps'.drop q) (by omega) (H4.out.row.ptr.drop q) (fun x hx => H4.out.pts x (List.mem_of_mem_drop hx)))
      go_wp2_with fail
      refine HFI.out.mono ?_
      rintro e5 w5 ⟨he, hb5⟩
      obtain ⟨m, hm⟩ : ∃ m, m = minD (docsAt w4 (ps'.drop q)) := ⟨_, rfl⟩
      rw [← hm] at he
      subst he
      have H5 := Lib.hid (H4.out.below hb5)
      have H5b := Lib.hid hb5
      have hat : docsAt w5 (ps'.drop q) = docsAt w4 (ps'.drop q) := List.map_congr_left (fun x hx => by rw [H4.out.pts.at_below hb5 (List.mem_of_mem_drop hx)])
      have HAT5 : Hid (∀ x ∈ ps'.drop q, AtD x (atM w5 x.c) D) := Lib.hid (fun x hx => by rw [H4.out.pts.at_below hb5 (List.mem_of_mem_drop hx)]; exact HAT4.out x hx)
      have HNB5 : Hid (∀ x ∈ ps', NotBy x (atM w5 x.c) D) := Lib.hid (fun x hx => by rw [H4.out.pts.at_below hb5 hx]; exact HNB4.out x hx)
      rw [← hat] at hm
      clear hat k0 HFI
      by_cases hlt : m < 2147483648
      · have hdm : (m == (2147483648 : Int)) = false := by rw [beq_eq_false_iff_ne]; omega
        obtain ⟨hmd, hDm⟩ := min_is (W := w5) HAT5.out (by rw [← hm]; exact hlt)
        have hsu := sum_is (W := w5) (m := m) (fun x hx => HSS.out.good x (List.mem_of_mem_drop hx)) HAT5.out (by rw [hm]; exact hDm) (by rw [hm]; exact Int.le_refl _)
        rw [← hm] at hmd hDm
        have HMQ : Hid (m ∈ docsQ ps') := Lib.hid (by
          obtain ⟨x, hx, p, hp, e⟩ := (mem_docsQ _ _).1 hmd
          exact (mem_docsQ _ _).2 ⟨x, List.mem_of_mem_drop hx, p, hp, e⟩)
        have HDM := Lib.hid (HDO.out.pass HRI.out hk hDm HPOS.out (fun d h1 h2 h3 _ => HLOW.out d h1 (fun hn => by
          have := none_ahead (W := w5) (fun x hx => HSS.out.good x (List.mem_of_mem_drop hx)) HAT5.out hn h2
          omega)))
        have HSU := Lib.hid hsu
        have hcall := HM.out w5 H5.out.kept m
        obtain ⟨mb, hmb⟩ : ∃ mb, mb = may m := ⟨_, rfl⟩
        rw [← hmb] at hcall
        have HC := Lib.hid hcall
        have HMB := Lib.hid hmb
        have HPS : Hid (∀ x ∈ ps'.drop q, m ≤ docAt x.l (atM w5 x.c)) := Lib.hid (fun x hx => by rw [hm]; exact (minD_spec _).2.1 _ (docsAt_mem w5 _ hx))
        have HME : Hid (∃ x ∈ ps'.drop q, docAt x.l (atM w5 x.c) = m) := Lib.hid (by
          rcases (minD_spec (docsAt w5 (ps'.drop q))).2.2 with e | e
          · omega
          · obtain ⟨x, hx, e2⟩ := List.mem_map.1 e
            exact ⟨x, hx, by rw [hm]; exact e2⟩)
        clear hsu hmd hcall hmb hm
        have k0 := cell_of_cells (i := 0) H5.out.obj rfl
        have k1 := cell_of_cells (i := 1) H5.out.obj rfl
        go_wp2_with fail
        refine HC.out.mono ?_
        rintro e6 w6 ⟨rfl, hb6⟩
        have H6 := Lib.hid (H5.out.below hb6)
        have H6b := Lib.hid hb6
        have hgt5 : gt < w5.heap.size := Nat.lt_of_lt_of_le (Nat.lt_of_lt_of_le hgw H4b.out.size) H5b.out.size
        have hgt6 : gt < w6.heap.size := Nat.lt_of_lt_of_le hgt5 hb6.size
        have HI6 : Hid (IAt w6 gt (togL ps')) := Lib.hid ((((HI.out.later H4b.out hgw).later H5b.out (Nat.lt_of_lt_of_le hgw H4b.out.size))).later hb6 hgt5)
        clear hb6 k0 k1 HC
        cases mb with
        | true =>
          have kz := cell_of_cells (i := 0) H6.out.obj rfl
          have hat6 : ∀ x ∈ ps', atM w6 x.c = atM w5 x.c := fun x hx => H5.out.pts.at_below H6b.out hx
          have hcs6 : consAt w6 (ps'.drop q) m = consAt w5 (ps'.drop q) m := List.map_congr_left (fun x hx => by rw [hat6 x (List.mem_of_mem_drop hx)])
          have hol : off.length ≤ 100000 := Nat.le_trans HDO.out.len (by rw [HDQ.out, show scoreQ ps' = scoreQ ps from funext HSQ.out]; exact HV.out D)
          have HSM : Hid (∀ W, Below w6.heap.size w6 W → Calls Tryz.prog 63 #[.slice (some ⟨g, q, none⟩) (n - q) (n - q), .int .i64 m] W fun e w' => e = .returned (.int .i64 (backS ps' m q)) ∧ Below W.heap.size W w') := Lib.hid (fun W hW => by
            have h := psum_any w1 W (some ⟨g, q, none⟩) (n - q) (n - q) (ps'.drop q) m (by omega) ((H6.out.below hW).row.ptr.drop q) (fun x hx => (H6.out.below hW).pts x (List.mem_of_mem_drop hx)) (fun x hx => HSS.out.good x (List.mem_of_mem_drop hx))
            have e : consAt W (ps'.drop q) m = consAt w6 (ps'.drop q) m := List.map_congr_left (fun x hx => by rw [H6.out.pts.at_below hW (List.mem_of_mem_drop hx)])
            rw [e, hcs6, HSU.out] at h
            exact h)
          have HCPL : Hid (∀ W, Below w6.heap.size w6 W → Calls Tryz.prog 70 #[.pointer (some ⟨s, 0, none⟩), .int .i64 m, .int .i64 (backS ps' m q), .slice (some ⟨gt, 0, none⟩) q n] W fun e w' => e = .returned (.tuple #[]) ∧ CpEnd w1 W0 s g n n (.func (.func F) #[] B) tb sc k ps' off (c0 + off.length) m q gt W w') := Lib.hid (fun W hW =>
            scomplete_any (H6.out.below hW) hn (by omega) (by omega) gt q n m hqn (HI6.out.later hW hgt6) (Nat.lt_of_lt_of_le hgt6 hW.size) HGS.out hgt3.2 (fun x hx => by
              rw [H6.out.pts.at_below hW hx, hat6 x hx]
              exact ⟨(HNB5.out x hx).1, fun j hj => by have := (HNB5.out x hx).2 j hj; omega⟩))
          have HAT6 := Lib.hid hat6
          obtain ⟨bk, hbk⟩ : ∃ bk, bk = backS ps' m q := ⟨_, rfl⟩
          rw [← hbk] at HSM HCPL
          clear hat6 hcs6 hol hbk
          go_wp2_with fail
          go_region_with (first
            | ((with_reducible refine (HSM.out _ (by first | exact Below.refl _ _ | exact (Below.refl _ _).drew)).mono ?_); rintro e w7 ⟨rfl, hb7⟩; have HB7 : Hid (Below w6.heap.size w6 w7) := Lib.hid (by first | exact hb7 | exact (Below.refl _ _).drew.trans hb7); clear hb7)
            | ((with_reducible refine (HCPL.out _ (by first | exact HB7.out | exact HB7.out.drew)).mono ?_); rintro e w8 ⟨rfl, hcp⟩; have HCE := Lib.hid hcp; clear hcp))
          all_goals
            have hce : CpEnd w1 W0 s g n n (.func (.func F) #[] B) tb sc k ps' off (c0 + off.length) m q gt w7 w8 := HCE.out
            have hat7 : ∀ x ∈ ps', atM w7 x.c = atM w5 x.c := fun x hx => (H6.out.pts.at_below HB7.out hx).trans (HAT6.out x hx)
            obtain ⟨off', hss8, hdone8, hlo8, hop8⟩ := cp_done hce hk HDM.out HRI.out HMQ.out HPOS.out HMB.out.symm HLO.out HOP.out
            obtain ⟨hI8, hsz8, hnb8, hmn8, hat8, _⟩ := hce
            have hgt8 : gt < w8.heap.size := Nat.lt_of_lt_of_le (Nat.lt_of_lt_of_le hgt6 HB7.out.size) hsz8
            have hdr8 : ∀ x ∈ ps'.drop q, atM w8 x.c = atM w5 x.c := fun x hx => by
              obtain ⟨j, hj, rfl⟩ := List.mem_iff_getElem.1 hx
              rw [List.getElem_drop]
              rw [List.length_drop] at hj
              exact (hat8 (q + j) (by omega) (by omega)).trans (hat7 _ (List.getElem_mem _))
            have HPA := Lib.hid (ppass_any w1 w8 (some ⟨g, q, none⟩) (n - q) (n - q) (ps'.drop q) m (by omega) (hss8.row.ptr.drop q) (fun x hx => hss8.pts x (List.mem_of_mem_drop hx)) (fun x hx => hss8.good x (List.mem_of_mem_drop hx)) (by rw [List.map_drop]; exact List.Nodup.sublist (List.drop_sublist _ _) hss8.nod) (fun ad e hc => by
              injection e with e
              subst e
              obtain ⟨x, hx, e⟩ := hc
              have := hss8.o3 x (List.mem_of_mem_drop hx)
              have e' : g = x.c := e
              omega))
            have H8 := Lib.hid hss8
            have HD8 := Lib.hid hdone8
            have HL8 := Lib.hid hlo8
            have HO8 := Lib.hid hop8
            have HI8 := Lib.hid hI8
            have HN8 := Lib.hid hnb8
            have HM8 := Lib.hid hmn8
            have HR8 := Lib.hid hdr8
            have HA7 := Lib.hid hat7
            clear hss8 hdone8 hlo8 hop8 hI8 hnb8 hmn8 hdr8 hat7 hat8 kz HCE
            go_wp2_with fail
            refine HPA.out.mono ?_
            rintro e9 w9 ⟨rfl, hps9, hat9, hT9⟩
            have H9 := Lib.hid (H8.out.moved (fun x hx => List.mem_of_mem_drop hx) hT9 hps9)
            have hpa := passed_all (W := w8) (W' := w9) (q := q) (D := D) (m := m) H8.out.pts H8.out.nod H8.out.good HN8.out (fun x hx => by rw [HR8.out x hx]; exact ⟨HAT5.out x hx, HPS.out x hx⟩) hDm hat9 hT9
            have hpo := passed_one (W := w8) (W' := w9) (q := q) (m := m) hlt hat9 (by
              obtain ⟨x, hx, e⟩ := HME.out
              exact ⟨x, hx, by rw [HR8.out x hx]; exact e⟩)
            have hwr : ∀ x ∈ ps', atM wr x.c ≤ atM w8 x.c := fun x hx => by
              have h1 := HM8.out x hx
              rw [HA7.out x hx, H4.out.pts.at_below H5b.out hx, HSS.out.pts.at_below H4b.out hx] at h1
              exact h1
            have hre : remQ w9 ps' < remQ wr ps' := by
              refine remQ_lt (fun x hx => Nat.le_trans (hwr x hx) (hpa.2.2 x hx)) ?_
              obtain ⟨x, hx, h1, h2⟩ := hpo
              exact ⟨x, hx, Nat.lt_of_le_of_lt (hwr x hx) h1, Nat.lt_of_le_of_lt (hwr x hx) h2⟩
            have HPA2 := Lib.hid hpa
            have HRE := Lib.hid hre
            have HI9 : Hid (IAt w9 gt (togL ps')) := Lib.hid (HI8.out.turned hT9 hgt8 (by
              rintro ⟨y, hy, e⟩
              exact HGS.out y (List.mem_of_mem_drop hy) e.symm))
            have hgt9 : gt < w9.heap.size := Nat.lt_of_lt_of_le hgt8 hT9.size
            clear hps9 hat9 hT9 hpa hpo hre hwr HPA
            go_wp2
            go_roundw
            case rel => exact ⟨m + 1, off', q, HD8.out, H9.out, HPA2.out.1, HL8.out, HPA2.out.2.1, HI9.out, hgt9, by omega, by omega, by omega, HO8.out⟩
            case measure => exact HRE.out
        | false =>
          have kz := cell_of_cells (i := 0) H6.out.obj rfl
          have HPA := Lib.hid (ppass_any w1 w6 (some ⟨g, q, none⟩) (n - q) (n - q) (ps'.drop q) m (by omega) (H6.out.row.ptr.drop q) (fun x hx => H6.out.pts x (List.mem_of_mem_drop hx)) (fun x hx => HSS.out.good x (List.mem_of_mem_drop hx)) (by rw [List.map_drop]; exact List.Nodup.sublist (List.drop_sublist _ _) HSS.out.nod) (fun ad e hc => by
            injection e with e
            subst e
            obtain ⟨x, hx, e⟩ := hc
            have := H6.out.o3 x (List.mem_of_mem_drop hx)
            have e' : g = x.c := e
            omega))
          go_wp2_with fail
          refine HPA.out.mono ?_
          rintro e7 w7 ⟨rfl, hps7, hat7, hT7⟩
          have H7 := Lib.hid (H6.out.moved (fun x hx => List.mem_of_mem_drop hx) hT7 hps7)
          have hat6 : ∀ x ∈ ps', atM w6 x.c = atM w5 x.c := fun x hx => H5.out.pts.at_below H6b.out hx
          have hpa := passed_all (W := w6) (W' := w7) (q := q) (D := D) (m := m) H6.out.pts HSS.out.nod HSS.out.good (fun x hx => by rw [hat6 x hx]; exact ⟨(HNB5.out x hx).1, fun k hk => by have := (HNB5.out x hx).2 k hk; omega⟩) (fun x hx => by rw [hat6 x (List.mem_of_mem_drop hx)]; exact ⟨HAT5.out x hx, HPS.out x hx⟩) hDm hat7 hT7
          have hpo := passed_one (W := w6) (W' := w7) (q := q) (m := m) hlt hat7 (by
            obtain ⟨x, hx, e⟩ := HME.out
            exact ⟨x, hx, by rw [hat6 x (List.mem_of_mem_drop hx)]; exact e⟩)
          have hre : remQ w7 ps' < remQ wr ps' := by
            refine remQ_lt (fun x hx => ?_) ?_
            · have := hpa.2.2 x hx
              rw [hat6 x hx, H4.out.pts.at_below H5b.out hx, HSS.out.pts.at_below H4b.out hx] at this
              exact this
            · obtain ⟨x, hx, h1, h2⟩ := hpo
              rw [hat6 x hx, H4.out.pts.at_below H5b.out hx, HSS.out.pts.at_below H4b.out hx] at h1 h2
              exact ⟨x, hx, h1, h2⟩
          have HPA2 := Lib.hid hpa
          have HRE := Lib.hid hre
          have HD2 := Lib.hid (HDM.out.pass (E := m + 1) HRI.out hk (by omega) HPOS.out (fun d h1 h2 h3 h4 => by
            obtain rfl : d = m := by omega
            rw [← HMB.out] at h4
            exact absurd h4 (by simp)))
          have HI7 : Hid (IAt w7 gt (togL ps')) := Lib.hid (HI6.out.turned hT7 hgt6 (by
            rintro ⟨y, hy, e⟩
            exact HGS.out y (List.mem_of_mem_drop hy) e.symm))
          have hgt7 : gt < w7.heap.size := Nat.lt_of_lt_of_le hgt6 hT7.size
          clear hps7 hat7 hT7 hat6 hpa hpo hre HPA kz
          go_wp2
          go_roundw
          case rel => exact ⟨m + 1, off, q, HD2.out, H7.out, HPA2.out.1, HLO.out, HPA2.out.2.1, HI7.out, hgt7, by omega, by omega, by omega, HOP.out⟩
          case measure => exact HRE.out
      · have hdm : (m == (2147483648 : Int)) = true := by rw [beq_iff_eq]; have := (minD_spec (docsAt w5 (ps'.drop q))).1; omega
        have HE := Lib.hid (HEND.out w5 H5.out (fun d hd h1 h2 => HLOW.out d hd (fun hn => by
          have := none_ahead (W := w5) (fun x hx => HSS.out.good x (List.mem_of_mem_drop hx)) HAT5.out hn h1
          omega)))
        clear hm
        go_wp2_with fail
        refine bodyPost_ret (results_none rfl _ _ _) rfl ?_
        exact ⟨rfl, HE.out⟩
    · obtain rfl : q = n := by omega
      have hdr : ps'.drop q = [] := List.drop_eq_nil_of_le (by rw [HLE.out]; exact Nat.le_refl _)
      have HDR := Lib.hid hdr
      clear hdr
      have HFI := Lib.hid (pfirst_any w1 w4 (some ⟨g, 0, none⟩) 0 0 [] (by omega) ⟨rfl, fun k hk => absurd hk (Nat.not_lt_zero _)⟩ (fun x hx => by simp at hx))
      go_wp2_with fail
      refine HFI.out.mono ?_
      rintro e5 w5 ⟨he, hb5⟩
      have e0 : minD (docsAt w4 []) = 2147483648 := rfl
      rw [e0] at he
      subst he
      have H5 := Lib.hid (H4.out.below hb5)
      have HE := Lib.hid (HEND.out w5 H5.out (fun d hd _ _ => HLOW.out d hd (fun hn => by rw [HDR.out] at hn; obtain ⟨x, hx, _⟩ := (mem_docsQ _ _).1 hn; simp at hx)))
      clear hb5 k0 HFI e0
      go_wp2_with fail
      refine bodyPost_ret (results_none rfl _ _ _) rfl ?_
      exact ⟨rfl, HE.out⟩
end Go.Proofs.YtpinpnbhbngclaaGreat

/- The parts put in order of their documents, and the pivot. -/
namespace Go.Proofs.YtpinpnbhbngclaaGreat
open Go.RowKit

/-- the document at which part j stands -/
def dq (W : World) (ps : List Prt) (j : Nat) : Int := (docsAt W ps).getD j 2147483648
theorem dq_get {W : World} {ps : List Prt} {j : Nat} (h : j < ps.length) : dq W ps j = docAt ps[j].l (atM W ps[j].c) := by
  unfold dq docsAt
  rw [List.getD_eq_getElem?_getD, List.getElem?_map, List.getElem?_eq_getElem h]
  rfl
theorem dq_same {W W' : World} {ps : List Prt} (h : ∀ x ∈ ps, atM W' x.c = atM W x.c) (j : Nat) : dq W' ps j = dq W ps j := by
  unfold dq docsAt
  rw [List.map_congr_left (fun x hx => by rw [h x hx])]
/-- the parts in order; r of them reach the pivot, or there is none -/
structure Rch (W : World) (k : Nat) (ps : List Prt) (off : List (Int × Int)) (r : Nat) : Prop where
  ord : ∀ i j, i ≤ j → j < ps.length → dq W ps i ≤ dq W ps j
  le : r ≤ ps.length
  ex : ∃ q, q ≤ ps.length ∧ (∀ j, j < q → (togL ps).getD j 0 ≤ worstQ k off) ∧ ((r = 0 ∧ (q < ps.length → dq W ps q = 2147483648)) ∨ (q < r ∧ dq W ps q = dq W ps (r - 1) ∧ dq W ps q < 2147483648 ∧ ∀ j, j < ps.length → r ≤ j → dq W ps q < dq W ps j))
theorem Rch.below {w1 W W' : World} {k : Nat} {ps : List Prt} {off : List (Int × Int)} {r : Nat} (h : Rch W k ps off r) (hp : PS w1 W ps) (hb : Below W.heap.size W W') : Rch W' k ps off r := by
  have e : ∀ j, dq W' ps j = dq W ps j := dq_same (fun x hx => hp.at_below hb hx)
  refine ⟨fun i j => by rw [e, e]; exact h.ord i j, h.le, ?_⟩
  obtain ⟨q, h1, h2, h3⟩ := h.ex
  refine ⟨q, h1, h2, ?_⟩
  rcases h3 with ⟨a, b⟩ | ⟨a, b, c, d⟩
  · exact .inl ⟨a, fun hq => by rw [e]; exact b hq⟩
  · exact .inr ⟨a, by rw [e, e]; exact b, by rw [e]; exact c, fun j hj hr => by rw [e, e]; exact d j hj hr⟩
set_option maxHeartbeats 1000000 in
set_option maxRecDepth 100000 in
theorem spivot_any {w1 W0 W : World} {s g n tb sc k : Nat} {mayv : Value} {ps : List Prt} {off : List (Int × Int)} {cnt : Nat} (h : SS w1 W0 W s g n n mayv tb sc k ps off cnt) (p : Nat) (hp : p < n) (hn : n ≤ 64) :
    Calls Tryz.prog 47 #[.pointer (some ⟨s, 0, none⟩), .int .i64 ((p + 1 : Nat) : Int)] W fun e w' => e = .returned (.int .i64 (dq W ps p)) ∧ Below W.heap.size W w' := by
  have hlen := h.row.len
  have hpl : p < ps.length := by omega
  obtain ⟨b, o, hAe, hbl, hc⟩ := h.row.ptr.2 p hpl
  injection hAe with hAe
  injection hAe with e1 e2 _
  subst e1
  subst e2
  rw [Nat.zero_add] at hc
  have hd := pdoc_any w1 W ps[p] _ (h.pts ps[p] (List.getElem_mem hpl))
  rw [← dq_get hpl] at hd
  obtain ⟨pk, hpk⟩ : ∃ pk, pk = ps[p].p := ⟨_, rfl⟩
  rw [← hpk] at hc hd
  obtain ⟨d, hdd⟩ : ∃ d, d = dq W ps p := ⟨_, rfl⟩
  rw [← hdd] at hd ⊢
  have k0 := cell_of_cells (i := 0) h.obj rfl
  have HD := Lib.hid hd
  have hpn : (p : Int) < (n : Int) := by omega
  clear h hd hpk hdd hlen hpl hbl
  go_enter Tryz.func47, Tryz.ntmps47
  go_wp2_with fail
  refine HD.out.mono ?_
  rintro e w2 ⟨rfl, hb⟩
  go_wp2
  go_ret
  exact ⟨rfl, hb⟩
set_option maxHeartbeats 4000000 in
set_option maxRecDepth 100000 in
theorem sreaching_any {w1 W0 W : World} {s g n tb sc k : Nat} {mayv : Value} {ps : List Prt} {off : List (Int × Int)} {cnt : Nat} (h : SS w1 W0 W s g n n mayv tb sc k ps off cnt) (hn : n ≤ 64) :
    Calls Tryz.prog 71 #[.pointer (some ⟨s, 0, none⟩)] W fun e w' => (∃ r : Nat, e = .returned (.int .i64 r) ∧ ∃ ps' : List Prt, ps'.Perm ps ∧ SS w1 W0 w' s g n n mayv tb sc k ps' off cnt ∧ (∀ x ∈ ps', atM w' x.c = atM W x.c) ∧ Rch w' k ps' off r) := by
  have H := Lib.hid h
  have k0 := cell_of_cells (i := 0) h.obj rfl
  have HSO := Lib.hid (psort_any 86 (fun x => docAt x.l (atM W x.c)) w1 W g n n ps (enters_of Tryz.func86 (by kernel_rfl) rfl) hn h.row h.pts h.nod (fun W2 hW2 x hx y hy => cmpdoc_any w1 W2 x y _ _ (hW2 x hx) (hW2 y hy)))
  clear h
  go_enter Tryz.func71, Tryz.ntmps71
  go_wp2_with fail
  refine HSO.out.mono ?_
  rintro e w2 ⟨rfl, ps', hp, hrow2, hps2, hat2, hord, hT2⟩
  have H2 := Lib.hid (H.out.sorted hp hrow2 hps2 hT2)
  have HP := Lib.hid hp
  have HAT := Lib.hid (fun x (hx : x ∈ ps') => hat2 x (hp.mem_iff.1 hx))
  have hlen : ps'.length = n := hrow2.len
  have HORD : Hid (∀ i j, i ≤ j → j < ps'.length → dq w2 ps' i ≤ dq w2 ps' j) := Lib.hid (fun i j hij hj => by
    rw [dq_get (show i < ps'.length by omega), dq_get hj, hat2 _ (hp.mem_iff.1 (List.getElem_mem _)), hat2 _ (hp.mem_iff.1 (List.getElem_mem _))]
    exact hord i j _ hj hij)
  have HLEN := Lib.hid hlen
  clear hp hrow2 hps2 hat2 hord hT2 hlen k0 HSO
  go_wp2_with fail
  refine (stogether_any H2.out hn).mono ?_
  rintro e w3 ⟨⟨gt, rfl, hgt1, hgt2, hIt⟩, hb3⟩
  have H3 := Lib.hid (H2.out.below hb3)
  have HB3 := Lib.hid hb3
  have hso := ssought_any H3.out gt n (togL ps') hn (by unfold togL; simp [HLEN.out]) hIt hgt2
  have HS := Lib.hid hso
  clear hIt hgt1 hgt2 hb3 hso
  go_wp2_with fail
  refine HS.out.mono ?_
  rintro e w4 ⟨⟨q, rfl, hqn, hlow, hhigh⟩, hb4⟩
  have H4 := Lib.hid (H3.out.below hb4)
  have HB4 := Lib.hid (HB3.out.trans (hb4.mono HB3.out.size))
  have HLO := Lib.hid hlow
  have HDQ : Hid (∀ w' , Below w4.heap.size w4 w' → ∀ j, dq w' ps' j = dq w2 ps' j) := Lib.hid (fun w' hw j => dq_same (fun x hx => (H4.out.pts.at_below hw hx).trans (H2.out.pts.at_below HB4.out hx)) j)
  have HATF : Hid (∀ w', Below w4.heap.size w4 w' → ∀ x ∈ ps', atM w' x.c = atM W x.c) := Lib.hid (fun w' hw x hx => ((H4.out.pts.at_below hw hx).trans (H2.out.pts.at_below HB4.out hx)).trans (HAT.out x hx))
  clear hb4 hlow hhigh HS
  have k0 := cell_of_cells (i := 0) H4.out.obj rfl
  by_cases hqe : q = n
  · have e1 : ((q : Int) == (n : Int)) = true := by simp [hqe]
    have e2 : decide (q = n) = true := decide_eq_true hqe
    have hq2 : n ≤ q := by omega
    clear hqe
    have HF : Hid (Rch w4 k ps' off 0) := Lib.hid ⟨fun i j hij hj => by rw [HDQ.out w4 (Below.refl _ _), HDQ.out w4 (Below.refl _ _)]; exact HORD.out i j hij hj, Nat.zero_le _, q, by rw [HLEN.out]; exact hqn, HLO.out, .inl ⟨rfl, fun h => by rw [HLEN.out] at h; omega⟩⟩
    go_wp2
    go_ret
    exact ⟨0, rfl, ps', HP.out, H4.out, HATF.out w4 (Below.refl _ _), HF.out⟩
  · have e1 : ((q : Int) == (n : Int)) = false := by simp; omega
    have e2 : decide (q = n) = false := decide_eq_false hqe
    have hql : q < ps'.length := by rw [HLEN.out]; omega
    have hqi : (q : Int) < (n : Int) := by omega
    obtain ⟨b, o, hAe, hbl, hc⟩ := H4.out.row.ptr.2 q hql
    injection hAe with hAe
    injection hAe with f1 f2 _
    subst f1
    subst f2
    rw [Nat.zero_add] at hc
    have hdoc := fun W' (hW : Below w4.heap.size w4 W') => pdoc_any w1 W' ps'[q] _ ((H4.out.below hW).pts ps'[q] (List.getElem_mem hql))
    have hdoc2 : ∀ W', Below w4.heap.size w4 W' → docAt ps'[q].l (atM W' ps'[q].c) = dq w2 ps' q := fun W' hW => by rw [← HDQ.out W' hW q, dq_get hql]
    obtain ⟨pk, hpk⟩ : ∃ pk, pk = ps'[q].p := ⟨_, rfl⟩
    obtain ⟨dd, hdd⟩ : ∃ d, d = dq w2 ps' q := ⟨_, rfl⟩
    rw [← hpk] at hc hdoc
    rw [← hdd] at hdoc2
    have HD : Hid (∀ W', Below w4.heap.size w4 W' → Calls Tryz.prog 72 #[.pointer (some ⟨pk, 0, none⟩)] W' fun e w' => e = .returned (.int .i64 dd) ∧ Below W'.heap.size W' w') := Lib.hid (fun W' hW => by have := hdoc W' hW; rw [hdoc2 W' hW] at this; exact this)
    have HDD := Lib.hid hdd
    have hddb : 0 ≤ dd ∧ dd ≤ 2147483648 := by rw [hdd, dq_get hql]; exact docAt_le _ (H4.out.good _ (List.getElem_mem hql)).right _
    have hbl2 := hbl
    clear hdoc hdoc2 hpk hdd hqe hbl
    go_wp2_with fail
    refine (HD.out w4 (Below.refl _ _)).mono ?_
    rintro e w5 ⟨rfl, hb5⟩
    have HB5 := Lib.hid hb5
    have H5 := Lib.hid (H4.out.below hb5)
    have hc5 := (hb5.cell (p := ⟨g, q, none⟩) hbl2).trans hc
    clear hb5 k0 hc
    have k0 := cell_of_cells (i := 0) H5.out.obj rfl
    by_cases hbe : dd = 2147483648
    · have g1 : (dd == 2147483648) = true := by simpa using hbe
      have g2 : decide (dd = 2147483648) = true := decide_eq_true hbe
      have HF : Hid (Rch w5 k ps' off 0) := Lib.hid ⟨fun i j hij hj => by rw [HDQ.out w5 HB5.out, HDQ.out w5 HB5.out]; exact HORD.out i j hij hj, Nat.zero_le _, q, by omega, HLO.out, .inl ⟨rfl, fun _ => by rw [HDQ.out w5 HB5.out, ← HDD.out, hbe]⟩⟩
      clear hbe
      go_wp2
      go_ret
      exact ⟨0, rfl, ps', HP.out, H5.out, HATF.out w5 HB5.out, HF.out⟩
    · have g1 : (dd == 2147483648) = false := by simpa using hbe
      have g2 : decide (dd = 2147483648) = false := decide_eq_false hbe
      have hlt : dd < 2147483648 := by omega
      clear hbe
      go_wp2_with fail
      refine (HD.out w5 HB5.out).mono ?_
      rintro e w6 ⟨rfl, hb6⟩
      have HB6 := Lib.hid (HB5.out.trans (hb6.mono HB5.out.size))
      clear hb6 k0 hc5
      go_wp2_with fail
      go_loopw [3] (fun x wr => ∃ i : Nat, x = .int .i64 i ∧ q ≤ i ∧ i ≤ n ∧ (∀ t, q ≤ t → t < i → dq w2 ps' t = dd) ∧ Below w4.heap.size w4 wr) (fun x _ => n - (intOf x).toNat)
      case atStart => exact ⟨q, rfl, Nat.le_refl _, hqn, fun t h1 h2 => by omega, HB6.out⟩
      case round =>
        obtain ⟨i, rfl, hqi2, hin, hall, hbw⟩ := hrel
        have HALL := Lib.hid hall
        have HBW := Lib.hid hbw
        have HW := Lib.hid (H4.out.below hbw)
        have HFIN : Hid (q < i → (∀ j, j < ps'.length → i ≤ j → dd < dq w2 ps' j) → ∀ w', Below w4.heap.size w4 w' → Rch w' k ps' off i) := Lib.hid (fun h1 h2 w' hw => by
          have e : ∀ j, dq w' ps' j = dq w2 ps' j := HDQ.out w' hw
          refine ⟨fun i j hij hj => by rw [e, e]; exact HORD.out i j hij hj, by rw [HLEN.out]; exact hin, q, by omega, HLO.out, .inr ⟨h1, ?_, ?_, ?_⟩⟩
          · rw [e, e, ← HDD.out, HALL.out (i - 1) (by omega) (by omega)]
          · rw [e, ← HDD.out]; exact hlt
          · intro j hj hij
            rw [e, e, ← HDD.out]
            exact h2 j hj hij)
        have k1 := cell_of_cells (i := 0) HW.out.obj rfl
        clear hall hbw
        by_cases hlti : i < n
        · have d1 : decide ((i : Int) < (n : Int)) = true := decide_eq_true (by omega)
          have d2 : decide (i < n) = true := decide_eq_true hlti
          have hin2 : (i : Int) < (n : Int) := by omega
          have hil : i < ps'.length := by rw [HLEN.out]; exact hlti
          obtain ⟨b, o, hAe, hbl, hc⟩ := HW.out.row.ptr.2 i hil
          injection hAe with hAe
          injection hAe with f1 f2 _
          subst f1
          subst f2
          rw [Nat.zero_add] at hc
          have hdoc := pdoc_any w1 wr ps'[i] _ (HW.out.pts ps'[i] (List.getElem_mem hil))
          rw [← dq_get hil, HDQ.out wr HBW.out i] at hdoc
          obtain ⟨pi, hpi⟩ : ∃ pk, pk = ps'[i].p := ⟨_, rfl⟩
          obtain ⟨di, hdi⟩ : ∃ d, d = dq w2 ps' i := ⟨_, rfl⟩
          rw [← hpi] at hc hdoc
          rw [← hdi] at hdoc
          have HDO := Lib.hid hdoc
          have HDI := Lib.hid hdi
          clear hdoc hpi hdi hbl
          go_wp2_with fail
          refine HDO.out.mono ?_
          rintro e w7 ⟨rfl, hb7⟩
          have HB7 := Lib.hid (HBW.out.trans (hb7.mono HBW.out.size))
          clear hb7
          by_cases hde : di = dd
          · have e3 : (di == dd) = true := by simpa using hde
            have e4 : decide (di = dd) = true := decide_eq_true hde
            have HN : Hid (∀ t, q ≤ t → t < i + 1 → dq w2 ps' t = dd) := Lib.hid (fun t h1 h2 => by
              by_cases c : t = i
              · subst c; rw [← HDI.out]; exact hde
              · exact HALL.out t h1 (by omega))
            clear hde
            go_wp2
            go_roundw
            case rel => exact ⟨i + 1, by go_num, by omega, by omega, HN.out, HB7.out⟩
            case measure => simp [intOf]; omega
          · have e3 : (di == dd) = false := by simpa using hde
            have e4 : decide (di = dd) = false := decide_eq_false hde
            have HR := Lib.hid (HFIN.out (by
              rcases Nat.lt_or_ge q i with c | c
              · exact c
              · exfalso
                have : i = q := by omega
                subst this
                exact hde (by rw [HDI.out, ← HDD.out])) (fun j hj hij => by
              have h1 := HORD.out i j hij hj
              have h2 := HORD.out q i hqi2 hil
              rw [← HDI.out] at h1 h2
              rw [← HDD.out] at h2
              omega) w7 HB7.out)
            clear hde
            go_wp2
            go_ret
            exact ⟨i, rfl, ps', HP.out, H4.out.below HB7.out, HATF.out w7 HB7.out, HR.out⟩
        · have hien : n = i := by omega
          subst hien
          have d1 : decide ((n : Int) < (n : Int)) = false := decide_eq_false (by omega)
          have d2 : decide (n < n) = false := decide_eq_false (by omega)
          have HR := Lib.hid (HFIN.out (by omega) (fun j hj hij => by rw [HLEN.out] at hj; omega) wr HBW.out)
          go_wp2
          go_ret
          exact ⟨n, rfl, ps', HP.out, HW.out, HATF.out wr HBW.out, HR.out⟩
end Go.Proofs.YtpinpnbhbngclaaGreat

/- No post of a block weighs more than its greatest weight, in plain words. -/
namespace Go.Proofs.YtpinpnbhbngclaaGreat
open Go.RowKit

theorem blk_bounds {l : List (Int × Int)} (hr : PostM.rightL l = true) (i : Nat) (hi : i < l.length) (j : Nat) (hj : Fst (lastG (PostM.blks l)) (PostM.cnt l.length) (l[i].1) j) :
    j < PostM.cnt l.length ∧ l[i].2 ≤ ((PostM.blks l).getD j (0, 0)).1 ∧ ((PostM.blks l).getD j (0, 0)).1 ≤ PostM.mx l ∧ l[i].1 ≤ ((PostM.blks l).getD j (0, 0)).2 := by
  obtain ⟨h1, h2⟩ := post_le_last hr i hi
  rw [atP_get hi] at h2
  have hji : j = i / 4 := by
    rcases Nat.lt_trichotomy j (i / 4) with e | e | e
    · have h3 := hj.2.2 (by omega)
      obtain ⟨hx, h4⟩ := lastG_is l j (by omega)
      have h5 : 4 * j + 4 ≤ l.length := by omega
      have h6 := PostM.rgt_rise hr (min (4 * j + 4) l.length - 1) i hx hi (by omega)
      omega
    · exact e
    · have h3 := hj.2.1 (i / 4) e
      omega
  subst hji
  have hb : (PostM.blks l).getD (i / 4) (0, 0) = PostM.blk (PostM.piece l (i / 4)) := by
    unfold PostM.blks
    rw [List.getD_eq_getElem?_getD, List.getElem?_map, List.getElem?_range h1]
    rfl
  have hm : l[i] ∈ PostM.piece l (i / 4) := by
    unfold PostM.piece
    refine List.mem_iff_getElem.2 ⟨i - 4 * (i / 4), ?_, ?_⟩
    · rw [List.length_take, List.length_drop]; omega
    · rw [List.getElem_take, List.getElem_drop]
      congr 1
      omega
  refine ⟨h1, ?_, ?_, h2⟩
  · rw [hb]; exact PostM.mx_le _ _ hm
  · rw [hb]; exact PostM.mx_sub _ _ (fun p hp => List.mem_of_mem_drop (List.mem_of_mem_take hp))

end Go.Proofs.YtpinpnbhbngclaaGreat

/- Behind the blocks. -/
namespace Go.Proofs.YtpinpnbhbngclaaGreat
open Go.RowKit

/-- what a part's block bounds -/
structure BkOf (x : Prt) (doc V L : Int) : Prop where
  v0 : 0 ≤ V
  v1 : V ≤ 65535
  l0 : L = -1 ∨ (doc ≤ L ∧ 0 ≤ L)
  l1 : L ≤ 2147483647
  con : ∀ d, doc ≤ d → (0 ≤ L → d ≤ L) → con x d ≤ x.wt * V
theorem blk_con {x : Prt} (hg : GoodP x) {doc : Int} {i : Nat} (hF : Fst (lastG (PostM.blks x.l)) (PostM.cnt x.l.length) doc i) :
    BkOf x doc (if i < PostM.cnt x.l.length then ((PostM.blks x.l).getD i (0, 0)).1 else 0) (if i < PostM.cnt x.l.length then ((PostM.blks x.l).getD i (0, 0)).2 else -1) := by
  by_cases hi : i < PostM.cnt x.l.length
  · rw [if_pos hi, if_pos hi]
    have hL := hF.2.2 hi
    obtain ⟨hx, h4⟩ := lastG_is x.l i hi
    have hlt : min (4 * i + 4) x.l.length - 1 < x.l.length := by omega
    have hp := PostM.rgt_all hg.right _ (List.getElem_mem hlt)
    have hbe : (PostM.blks x.l).getD i (0, 0) = PostM.blk (PostM.piece x.l i) := by
      unfold PostM.blks
      rw [List.getD_eq_getElem?_getD, List.getElem?_map, List.getElem?_range hi]
      rfl
    have hV0 : 0 ≤ ((PostM.blks x.l).getD i (0, 0)).1 := by rw [hbe]; exact PostM.mx_pos _
    have hV1 : ((PostM.blks x.l).getD i (0, 0)).1 ≤ 65535 := by
      rw [hbe]
      exact mx_bound _ (fun p hp => (PostM.rgt_all hg.right p (List.mem_of_mem_drop (List.mem_of_mem_take hp))).2.2.2) 0 (by omega)
    have hLe : ((PostM.blks x.l).getD i (0, 0)).2 = lastG (PostM.blks x.l) i := rfl
    refine ⟨hV0, hV1, .inr ⟨by rw [hLe]; exact hL, by rw [hLe]; omega⟩, ?_, fun d hd hdL => ?_⟩
    · rw [hLe, h4]; omega
    · have hdl := hdL (by rw [hLe]; omega)
      obtain ⟨a, ha⟩ := exists_at x d
      have hc : con x d = conAt x a d := con_split hg (fun k hk _ => ha.2.1 k hk) ha.2.2
      rw [hc]
      unfold conAt
      split
      · rename_i h
        obtain ⟨h1, h2⟩ := h
        rw [atP_get h1] at h2 ⊢
        have hb := blk_bounds hg.right a h1 i ⟨hF.1, fun k hk => by have := hF.2.1 k hk; omega, fun _ => by rw [h2, ← hLe]; exact hdl⟩
        exact Int.mul_le_mul_of_nonneg_left hb.2.1 (by have := hg.w1; omega)
      · exact Int.mul_nonneg (by have := hg.w1; omega) hV0
  · rw [if_neg hi, if_neg hi]
    refine ⟨by omega, by omega, .inl rfl, by omega, fun d hd _ => ?_⟩
    rw [Int.mul_zero]
    obtain ⟨a, ha⟩ := exists_at x d
    have hc : con x d = conAt x a d := con_split hg (fun k hk _ => ha.2.1 k hk) ha.2.2
    rw [hc]
    unfold conAt
    split
    · rename_i h
      obtain ⟨h1, h2⟩ := h
      rw [atP_get h1] at h2
      exfalso
      obtain ⟨g1, g2⟩ := post_le_last hg.right a h1
      rw [atP_get h1] at g2
      have := hF.2.1 (a / 4) (by have := hF.1; omega)
      have e : ((PostM.blks x.l).getD (a / 4) (0, 0)).2 = lastG (PostM.blks x.l) (a / 4) := rfl
      omega
    · exact Int.le_refl _
/-- a part that stands behind d has nothing of it -/
theorem con_ahead {x : Prt} (hg : GoodP x) {a : Nat} {D d : Int} (hN : NotBy x a D) (hD : D ≤ d) (hd : d < docAt x.l a) : con x d = 0 := by
  rw [con_split hg (fun k hk _ => by have := hN.2 k hk; omega) (fun ha => by unfold docAt at hd; rw [if_pos ha] at hd; omega)]
  unfold conAt
  rw [if_neg]
  rintro ⟨h1, h2⟩
  unfold docAt at hd
  rw [if_pos h1] at hd
  omega
theorem back_zero {ps : List Prt} {W : World} {D d : Int} {r : Nat} (hg : ∀ x ∈ ps, GoodP x) (hN : ∀ x ∈ ps, NotBy x (atM W x.c) D) (hD : D ≤ d) (hd : ∀ x ∈ ps.drop r, d < docAt x.l (atM W x.c)) : backS ps d r = 0 := by
  unfold backS
  have : ∀ l : List Prt, (∀ x ∈ l, con x d = 0) → sumL (l.map fun x => con x d) = 0 := by
    intro l
    induction l with
    | nil => intro _; rfl
    | cons a t ih => intro h; rw [List.map_cons, sumL_cons, h a (by simp), ih (fun x hx => h x (by simp [hx]))]; rfl
  exact this _ (fun x hx => con_ahead (hg x (List.mem_of_mem_drop hx)) (hN x (List.mem_of_mem_drop hx)) hD (hd x hx))
/-- what is told of the parts that reach the pivot: the pivot, or a document up to which none comes above the worst -/
def NextOk (W : World) (k : Nat) (ps : List Prt) (off : List (Int × Int)) (r : Nat) (piv nx : Int) : Prop := nx = piv ∨ (piv < nx ∧ nx ≤ 2147483648 ∧ (∀ j, j < ps.length → r ≤ j → nx ≤ dq W ps j) ∧ ∀ d, piv ≤ d → d < nx → scoreQ ps d ≤ worstQ k off)
set_option maxHeartbeats 4000000 in
set_option maxRecDepth 100000 in
theorem sbehind_any {w1 W0 W : World} {s g n tb sc k : Nat} {mayv : Value} {ps : List Prt} {off : List (Int × Int)} {cnt : Nat} (h : SS w1 W0 W s g n n mayv tb sc k ps off cnt) (hn : n ≤ 64) (D : Int) (hN : ∀ x ∈ ps, NotBy x (atM W x.c) D) (r p : Nat) (hrp : r = p + 1) (hp : p < n) (hD : D ≤ dq W ps p) (hp0 : 0 ≤ dq W ps p) (hlt : dq W ps p < 2147483648) (hr : ∀ j, j < ps.length → r ≤ j → dq W ps p < dq W ps j) :
    Calls Tryz.prog 49 #[.pointer (some ⟨s, 0, none⟩), .int .i64 (r : Int)] W fun e w' => (∃ nx : Int, e = .returned (.int .i64 nx) ∧ NextOk W k ps off r (dq W ps p) nx) ∧ Below W.heap.size W w' := by
  have H := Lib.hid h
  have HPV := Lib.hid (spivot_any h p hp hn)
  rw [← hrp] at HPV
  have hr0 : 0 < r := by omega
  have hrn : r ≤ n := by omega
  have HRP := Lib.hid hrp
  have HN := Lib.hid hN
  have HLEN := Lib.hid h.row.len
  obtain ⟨pv, hpv⟩ : ∃ d, d = dq W ps p := ⟨_, rfl⟩
  rw [← hpv] at HPV hD hp0 hlt hr ⊢
  have HR := Lib.hid hr
  have k0 := cell_of_cells (i := 0) h.obj rfl
  clear h hN hr hpv hrp hp
  go_enter Tryz.func49, Tryz.ntmps49
  go_wp2_with fail
  refine HPV.out.mono ?_
  rintro e w2 ⟨rfl, hb2⟩
  have HB2 := Lib.hid hb2
  have H2 := Lib.hid (H.out.below hb2)
  clear hb2 k0
  have k0 := cell_of_cells (i := 0) H2.out.obj rfl
  have hpn : (r : Int) ≤ (n : Int) := by omega
  have hpn0 : (0 : Int) ≤ (r : Int) := by omega
  go_wp2_with fail
  go_loopw [6, 7, 22] (fun x y z wr => ∃ (i : Nat) (M E : Int), x = .int .i64 M ∧ y = .int .i64 E ∧ z = .int .i64 i ∧ i ≤ r ∧ 0 ≤ M ∧ M ≤ (i : Int) * 4294836225 ∧ pv ≤ E ∧ E ≤ 2147483648 ∧ (∀ d, pv ≤ d → d ≤ E → sumL ((ps.take i).map fun x => con x d) ≤ M) ∧ Below W.heap.size W wr) (fun _ _ z _ => r - (intOf z).toNat)
  case atStart => exact ⟨0, 0, 2147483648, rfl, rfl, rfl, by omega, by omega, by omega, by omega, by omega, fun d _ _ => Int.le_refl _, HB2.out⟩
  case round =>
    obtain ⟨i, M, E, rfl, rfl, rfl, hi, hM0, hM1, hE0, hE1, hsum, hbw⟩ := hrel
    have HSU := Lib.hid hsum
    have HBW := Lib.hid hbw
    have HW := Lib.hid (H.out.below hbw)
    clear hsum k0
    by_cases hlti : i < r
    · have hmi : (i : Int) < (r : Int) := by omega
      have hil : i < ps.length := by rw [HLEN.out]; omega
      obtain ⟨b, o, hAe, hbl, hc⟩ := HW.out.row.ptr.2 i hil
      injection hAe with hAe
      injection hAe with f1 f2 _
      subst f1
      subst f2
      rw [Nat.zero_add] at hc
      have hpt := HW.out.pts ps[i] (List.getElem_mem hil)
      have hgg := HW.out.good ps[i] (List.getElem_mem hil)
      have hob := hpt.obj
      have c0 := cell_of_cells (i := 0) hob rfl
      have c1 := cell_of_cells (i := 1) hob rfl
      simp only [List.getElem_toArray, List.getElem_cons_succ, List.getElem_cons_zero] at c0 c1
      have hbk := block_any ps[i].c ps[i].l _ pv w1 wr hpt.cur (by have := hgg.len; omega) (lastG_mono hgg.right)
      have hstep : ∀ d, sumL ((ps.take (i + 1)).map fun x => con x d) = sumL ((ps.take i).map fun x => con x d) + con ps[i] d := fun d => by
        rw [List.take_succ_eq_append_getElem hil, List.map_append]
        exact sumL_snoc _ _
      have hblk := fun j hF => blk_con hgg (doc := pv) (i := j) hF
      obtain ⟨x, hx⟩ : ∃ x, x = ps[i] := ⟨_, rfl⟩
      rw [← hx] at hc hob c0 c1 hbk hstep hblk hgg
      have hw1 := hgg.w1
      have hw2 := hgg.w2
      obtain ⟨xp, xc, xl, wt⟩ := x
      simp only at hc hob c0 c1 hbk hw1 hw2
      have HBK := Lib.hid hbk
      have HST := Lib.hid hstep
      have HBL := Lib.hid hblk
      have HOB := Lib.hid hob
      clear hpt hgg hbk hstep hblk hx hob hbl
      go_wp2_with fail
      refine HBK.out.mono ?_
      rintro e w3 ⟨⟨j, hF, rfl⟩, hb3⟩
      have hbo := HBL.out j hF
      obtain ⟨V, hV⟩ : ∃ V, V = (if j < PostM.cnt xl.length then ((PostM.blks xl).getD j (0, 0)).1 else 0) := ⟨_, rfl⟩
      obtain ⟨L, hL⟩ : ∃ L, L = (if j < PostM.cnt xl.length then ((PostM.blks xl).getD j (0, 0)).2 else -1) := ⟨_, rfl⟩
      rw [← hV, ← hL] at hbo ⊢
      have HB3 := Lib.hid (HBW.out.trans (hb3.mono HBW.out.size))
      have hob3 := blk_stay hb3 HOB.out
      have c2 := cell_of_cells (i := 1) hob3 rfl
      simp only [List.getElem_toArray, List.getElem_cons_succ, List.getElem_cons_zero] at c2
      have hv0 := hbo.v0
      have hv1 := hbo.v1
      have hl0 := hbo.l0
      have hl1 := hbo.l1
      have HCO := Lib.hid hbo.con
      have hml := mul_le hw1 hw2 hv0 hv1
      obtain ⟨q, hq⟩ : ∃ q, q = wt * V := ⟨_, rfl⟩
      rw [← hq] at hml
      have hq2 : wt * V = q := hq.symm
      obtain ⟨hq0, hq1⟩ := hml
      obtain ⟨M2, hM2⟩ : ∃ M2, M2 = M + q := ⟨_, rfl⟩
      have hM3 : M + q = M2 := hM2.symm
      have hM4 : 0 ≤ M2 ∧ M2 ≤ (i : Int) * 4294836225 + 4294836225 := by omega
      obtain ⟨hM5, hM6⟩ := hM4
      have hM7 : M2 ≤ 281474976710656 := by omega
      clear hV hL hF hbo hb3 hob3 hM2 c0 c1 hbw
      by_cases hL0 : 0 ≤ L
      · have dL : decide (0 ≤ L) = true := decide_eq_true hL0
        obtain ⟨E2, hE2⟩ : ∃ E2, E2 = min E L := ⟨_, rfl⟩
        have hE3 : min E L = E2 := hE2.symm
        have HSN : Hid (∀ d, pv ≤ d → d ≤ E2 → sumL ((ps.take (i + 1)).map fun x => con x d) ≤ M2) := Lib.hid (fun d h1 h2 => by
          rw [HST.out d]
          have g1 := HSU.out d h1 (by omega)
          have g2 := HCO.out d h1 (fun _ => by omega)
          have g3 : con { p := xp, c := xc, l := xl, wt := wt } d ≤ q := by rw [← hq2]; exact g2
          omega)
        have hE4 : pv ≤ E2 ∧ E2 ≤ 2147483648 := by omega
        obtain ⟨hE5, hE6⟩ := hE4
        by_cases hmn : E ≤ L
        · have n1 : ¬ L < E := by omega
          have n2 : E2 = E := by omega
          rw [n2] at HSN
          clear hE2 hl0 hq n2 hE3
          have n3 : min E L = E := by omega
          go_wp2
          go_roundw
          case rel => exact ⟨i + 1, M2, E, rfl, rfl, by go_num, by omega, hM5, by omega, by omega, by omega, HSN.out, HB3.out⟩
          case measure => simp [intOf]; omega
        · have n1 : L < E := by omega
          have n2 : E2 = L := by omega
          rw [n2] at HSN hE5 hE6
          clear hE2 hl0 hq n2 hE3
          have n3 : min E L = L := by omega
          go_wp2
          go_roundw
          case rel => exact ⟨i + 1, M2, L, rfl, rfl, by go_num, by omega, hM5, by omega, hE5, hE6, HSN.out, HB3.out⟩
          case measure => simp [intOf]; omega
      · have dL : decide (0 ≤ L) = false := decide_eq_false hL0
        have HSN : Hid (∀ d, pv ≤ d → d ≤ E → sumL ((ps.take (i + 1)).map fun x => con x d) ≤ M2) := Lib.hid (fun d h1 h2 => by
          rw [HST.out d]
          have g1 := HSU.out d h1 h2
          have g2 := HCO.out d h1 (fun h => absurd h hL0)
          have g3 : con { p := xp, c := xc, l := xl, wt := wt } d ≤ q := by rw [← hq2]; exact g2
          omega)
        clear hl0 hq
        go_wp2
        go_roundw
        case rel => exact ⟨i + 1, M2, E, rfl, rfl, by go_num, by omega, hM5, by omega, hE0, hE1, HSN.out, HB3.out⟩
        case measure => simp [intOf]; omega
    · have hmi : ¬ (i : Int) < (r : Int) := by omega
      have hip : r = i := by omega
      subst hip
      have hwo := sworstQ_any HW.out
      obtain ⟨v, hv⟩ : ∃ v, v = worstQ k off := ⟨_, rfl⟩
      rw [← hv] at hwo
      have HWO := Lib.hid hwo
      have HV := Lib.hid hv
      clear hwo hv hbw
      go_wp2_with fail
      refine HWO.out.mono ?_
      rintro e w3 ⟨rfl, hb3⟩
      have HB3 := Lib.hid (HBW.out.trans (hb3.mono HBW.out.size))
      have H3 := Lib.hid (HW.out.below hb3)
      clear hb3
      by_cases hmo : v < M
      · have d1 : decide (v < M) = true := decide_eq_true hmo
        go_wp2
        go_ret
        exact ⟨⟨pv, rfl, .inl rfl⟩, HB3.out⟩
      · have d1 : decide (v < M) = false := decide_eq_false hmo
        have k1 := cell_of_cells (i := 0) H3.out.obj rfl
        have hat3 : ∀ x ∈ ps, atM w3 x.c = atM W x.c := fun x hx => H.out.pts.at_below HB3.out hx
        have hsp := minD_spec (docsAt w3 (ps.drop r))
        have hfp : pv < minD (docsAt w3 (ps.drop r)) := by
          rcases hsp.2.2 with c | c
          · omega
          · obtain ⟨x, hx, e⟩ := List.mem_map.1 c
            obtain ⟨j, hj, rfl⟩ := List.mem_iff_getElem.1 hx
            rw [List.length_drop] at hj
            have := HR.out (r + j) (by omega) (by omega)
            rw [dq_get (by omega), ← hat3 _ (List.getElem_mem _)] at this
            rw [← e, List.getElem_drop]
            exact this
        have HNX : Hid (∀ d, pv ≤ d → d ≤ E → d < minD (docsAt w3 (ps.drop r)) → scoreQ ps d ≤ v) := Lib.hid (fun d h1 h2 h3 => by
          rw [score_parts ps d r, back_zero (W := w3) (D := D) H3.out.good (fun x hx => by rw [hat3 x hx]; exact HN.out x hx) (by omega) (fun x hx => by
            have := hsp.2.1 _ (docsAt_mem w3 _ hx)
            omega)]
          have := HSU.out d h1 h2
          omega)
        obtain ⟨f, hf⟩ : ∃ f, f = minD (docsAt w3 (ps.drop r)) := ⟨_, rfl⟩
        rw [← hf] at hfp HNX hsp
        have hf1 := hsp.1
        have hfr : ∀ j, j < ps.length → r ≤ j → f ≤ dq W ps j := fun j hj hrj => by
          rw [dq_get hj, ← hat3 _ (List.getElem_mem hj)]
          exact hsp.2.1 _ (docsAt_mem w3 _ (List.mem_iff_getElem.2 ⟨j - r, by rw [List.length_drop]; omega, by rw [List.getElem_drop]; congr 1; omega⟩))
        have hE9 : E + 1 ≤ 2147483649 := by omega
        have HOK : Hid (∀ nx, nx = min (E + 1) f → NextOk W k ps off r pv nx) := Lib.hid (fun nx hnx => .inr ⟨by omega, by omega, fun j hj hrj => by have := hfr j hj hrj; omega, fun d h1 h2 => by rw [← HV.out]; exact HNX.out d h1 (by omega) (by omega)⟩)
        have HATT := Lib.hid hat3
        have HFF := Lib.hid hf
        clear hat3 hsp hf hfr
        by_cases hrl : r < n
        · have hfi := pfirst_any w1 w3 (some ⟨g, r, none⟩) (n - r) (n - r) (ps.drop r) (by omega) (H3.out.row.ptr.drop r) (fun x hx => H3.out.pts x (List.mem_of_mem_drop hx))
          rw [← HFF.out] at hfi
          have HFI := Lib.hid hfi
          clear hfi
          go_wp2_with fail
          refine HFI.out.mono ?_
          rintro e w4 ⟨rfl, hb4⟩
          have HB4 := Lib.hid (HB3.out.trans (hb4.mono HB3.out.size))
          clear hb4
          by_cases hmn : E + 1 ≤ f
          · have n1 : ¬ f < E + 1 := by omega
            have n3 : min (E + 1) f = E + 1 := by omega
            have HO := Lib.hid (HOK.out (E + 1) n3.symm)
            go_wp2
            go_ret
            exact ⟨⟨E + 1, rfl, HO.out⟩, HB4.out⟩
          · have n1 : f < E + 1 := by omega
            have n3 : min (E + 1) f = f := by omega
            have HO := Lib.hid (HOK.out f n3.symm)
            go_wp2
            go_ret
            exact ⟨⟨f, rfl, HO.out⟩, HB4.out⟩
        · have hrn2 : n = r := by omega
          have hdr : ps.drop r = [] := List.drop_eq_nil_of_le (by rw [HLEN.out]; omega)
          have hfi := pfirst_any w1 w3 (some ⟨g, 0, none⟩) 0 0 [] (by omega) ⟨rfl, fun k hk => absurd hk (Nat.not_lt_zero _)⟩ (fun x hx => by simp at hx)
          rw [← hdr, ← HFF.out] at hfi
          have HFI := Lib.hid hfi
          clear hfi hdr
          subst hrn2
          go_wp2_with fail
          refine HFI.out.mono ?_
          rintro e w4 ⟨rfl, hb4⟩
          have HB4 := Lib.hid (HB3.out.trans (hb4.mono HB3.out.size))
          clear hb4
          by_cases hmn : E + 1 ≤ f
          · have n1 : ¬ f < E + 1 := by omega
            have n3 : min (E + 1) f = E + 1 := by omega
            have HO := Lib.hid (HOK.out (E + 1) n3.symm)
            go_wp2
            go_ret
            exact ⟨⟨E + 1, rfl, HO.out⟩, HB4.out⟩
          · have n1 : f < E + 1 := by omega
            have n3 : min (E + 1) f = f := by omega
            have HO := Lib.hid (HOK.out f n3.symm)
            go_wp2
            go_ret
            exact ⟨⟨f, rfl, HO.out⟩, HB4.out⟩
end Go.Proofs.YtpinpnbhbngclaaGreat

/- The third and the fourth way: from pivot to pivot. -/
namespace Go.Proofs.YtpinpnbhbngclaaGreat
open Go.RowKit

theorem remQ_perm {W : World} {ps ps' : List Prt} (h : ps'.Perm ps) : remQ W ps' = remQ W ps := by
  induction h with
  | nil => rfl
  | cons x _ ih => unfold remQ; rw [ih]
  | swap x y l => unfold remQ; unfold remQ; omega
  | trans _ _ h1 h2 => exact h1.trans h2
theorem PtrAt.take {W : World} {A : Option Addr} {n : Nat} {ps : List Prt} (h : PtrAt W A n ps) {r : Nat} (hr : r ≤ n) : PtrAt W A r (ps.take r) :=
  ⟨by rw [List.length_take, h.1]; omega, fun k hk => by
    have hk' : k < ps.length := by rw [List.length_take] at hk; omega
    obtain ⟨b, o, e, hl, hc⟩ := h.2 k hk'
    exact ⟨b, o, e, hl, by rw [List.getElem_take]; exact hc⟩⟩
theorem AtD.up {x : Prt} {a : Nat} {D E : Int} (h : AtD x a D) (hDE : D ≤ E) (hE : E ≤ docAt x.l a) : AtD x a E :=
  ⟨h.1, fun k hk => by have := h.2.1 k hk; omega, fun ha => by unfold docAt at hE; rw [if_pos ha] at hE; exact hE⟩
theorem AtD.sought {x : Prt} {a a' : Nat} {D E : Int} (h : AtD x a D) (hDE : D ≤ E) (hs : Sk x.l a E a') : AtD x a' E :=
  ⟨hs.2.1, fun k hk => by
    by_cases c : k < a
    · have := h.2.1 k c; omega
    · exact hs.2.2.1 k (by omega) hk, hs.2.2.2⟩
theorem AtD.ge {x : Prt} {a : Nat} {D : Int} (h : AtD x a D) (hD : D ≤ 2147483648) : D ≤ docAt x.l a := by
  unfold docAt
  split
  · rename_i ha; exact h.2.2 ha
  · exact hD
/-- parts behind the first r stand still -/
theorem drop_still {w1 W W' : World} {ps : List Prt} {r : Nat} (hps : PS w1 W ps) (hnod : (ps.map (·.c)).Nodup) (hT : Turned (curs (ps.take r)) W W') : ∀ j (h : j < ps.length), r ≤ j → atM W' ps[j].c = atM W ps[j].c := fun j h hr => by
  refine atM_same (hT.block _ (hps _ (List.getElem_mem h)).lt ?_)
  rintro ⟨y, hy, e⟩
  obtain ⟨i, hi, rfl⟩ := List.mem_iff_getElem.1 hy
  rw [List.length_take] at hi
  rw [List.getElem_take] at e
  have := nodup_at hnod h (show i < ps.length by omega) e
  omega
/-- ahead of the pivot none comes above the worst one -/
theorem Rch.low {W : World} {k r : Nat} {ps : List Prt} {off : List (Int × Int)} (h : Rch W k ps off r) (hg : ∀ x ∈ ps, GoodP x) {D : Int} (hA : ∀ x ∈ ps, AtD x (atM W x.c) D) {d piv : Int} (hd : d ∈ docsQ ps) (hD : D ≤ d) (hp : d < piv) (hpv : ∀ q, q ≤ ps.length → (∀ j, j < q → (togL ps).getD j 0 ≤ worstQ k off) → ((r = 0 ∧ (q < ps.length → dq W ps q = 2147483648)) ∨ (q < r ∧ dq W ps q = dq W ps (r - 1) ∧ dq W ps q < 2147483648 ∧ ∀ j, j < ps.length → r ≤ j → dq W ps q < dq W ps j)) → q < ps.length → piv ≤ dq W ps q) : scoreQ ps d ≤ worstQ k off := by
  obtain ⟨q, h1, h2, h3⟩ := h.ex
  have h4 := hpv q h1 h2 h3
  refine sought_low hg h1 h2 hd (fun hc => ?_)
  obtain ⟨x, hx, p, hp2, e⟩ := (mem_docsQ _ _).1 hc
  obtain ⟨j, hj, rfl⟩ := List.mem_iff_getElem.1 hx
  rw [List.length_drop] at hj
  have hl : q + j < ps.length := by omega
  rw [List.getElem_drop] at hp2
  have h5 := (hA _ (List.getElem_mem hl)).doc (hg _ (List.getElem_mem hl)) hp2 (by omega)
  have h6 := h.ord q (q + j) (by omega) hl
  rw [dq_get hl] at h6
  have h7 := h4 (by omega)
  omega
/-- the pivot's score is what the parts that reach it tell -/
theorem score_reach {W : World} {ps : List Prt} {r : Nat} {D piv : Int} (hg : ∀ x ∈ ps, GoodP x) (hA : ∀ x ∈ ps, AtD x (atM W x.c) D) (hD : D ≤ piv) (hr : ∀ x ∈ ps.take r, docAt x.l (atM W x.c) = piv) (hb : ∀ x ∈ ps.drop r, piv < docAt x.l (atM W x.c)) : sumL (consAt W (ps.take r) piv) = scoreQ ps piv := by
  rw [score_parts ps piv r, back_zero (W := W) (D := D) hg (fun x hx => ⟨(hA x hx).1, (hA x hx).2.1⟩) hD hb, Int.add_zero]
  unfold consAt
  congr 1
  exact List.map_congr_left (fun x hx => (hA x (List.mem_of_mem_take hx)).con (hg x (List.mem_of_mem_take hx)) hD (by rw [hr x hx]; exact Int.le_refl _))
/-- what a way from pivot to pivot holds between two rounds -/
structure Pvt (w1 W0 wr : World) (s g n : Nat) (mayv : Value) (tb sc k : Nat) (ps : List Prt) (may : Int → Bool) (c0 : Nat) (ps' : List Prt) (off : List (Int × Int)) (r : Nat) (D : Int) : Prop where
  perm : ps'.Perm ps
  ss : SS w1 W0 wr s g n n mayv tb sc k ps' off (c0 + off.length)
  at_ : ∀ x ∈ ps', AtD x (atM wr x.c) D
  dn : Done k (docsQ ps') may (scoreQ ps') D off
  rch : Rch wr k ps' off r
  d0 : 0 ≤ D
  d1 : D ≤ 2147483648
  pos : ∀ p ∈ off, 0 ≤ p.2
/-- .. ahead of the parts' being put in order -/
structure Pv0 (w1 W0 wr : World) (s g n : Nat) (mayv : Value) (tb sc k : Nat) (ps : List Prt) (may : Int → Bool) (c0 : Nat) (ps' : List Prt) (off : List (Int × Int)) (D : Int) : Prop where
  perm : ps'.Perm ps
  ss : SS w1 W0 wr s g n n mayv tb sc k ps' off (c0 + off.length)
  at_ : ∀ x ∈ ps', AtD x (atM wr x.c) D
  dn : Done k (docsQ ps') may (scoreQ ps') D off
  d0 : 0 ≤ D
  d1 : D ≤ 2147483648
  pos : ∀ p ∈ off, 0 ≤ p.2
theorem preach_any {w1 W0 W : World} {s g n tb sc k : Nat} {mayv : Value} {ps : List Prt} {may : Int → Bool} {c0 : Nat} {ps0 : List Prt} {off : List (Int × Int)} {D : Int} (h : Pv0 w1 W0 W s g n mayv tb sc k ps may c0 ps0 off D) (hn : n ≤ 64) :
    Calls Tryz.prog 71 #[.pointer (some ⟨s, 0, none⟩)] W fun e w' => ∃ r : Nat, e = .returned (.int .i64 r) ∧ ∃ ps', Pvt w1 W0 w' s g n mayv tb sc k ps may c0 ps' off r D ∧ remQ w' ps = remQ W ps := by
  refine (sreaching_any h.ss hn).mono ?_
  rintro e w' ⟨r, rfl, ps', hp, hss, hat, hr⟩
  refine ⟨r, rfl, ps', ⟨hp.trans h.perm, hss, fun x hx => by rw [hat x hx]; exact h.at_ x (hp.mem_iff.1 hx), ?_, hr, h.d0, h.d1, h.pos⟩, ?_⟩
  · rw [docsQ_perm hp, show scoreQ ps' = scoreQ ps0 from funext (fun d => scoreQ_perm hp d)]
    exact h.dn
  · have e : ∀ l : List Prt, (∀ x ∈ l, atM w' x.c = atM W x.c) → remQ w' l = remQ W l := by
      intro l
      induction l with
      | nil => intro _; rfl
      | cons a t ih => intro hl; unfold remQ; rw [hl a (by simp), ih (fun x hx => hl x (by simp [hx]))]
    exact e ps (fun x hx => hat x ((hp.trans h.perm).mem_iff.2 hx))
/-- the end: no pivot -/
theorem Pvt.end_ {w1 W0 W : World} {s g n tb sc k : Nat} {mayv : Value} {ps : List Prt} {may : Int → Bool} {c0 : Nat} {ps' : List Prt} {off : List (Int × Int)} {D : Int} (h : Pvt w1 W0 W s g n mayv tb sc k ps may c0 ps' off 0 D) (hk : 0 < k) : WayEnd w1 W0 s g n n mayv tb sc k ps may c0 W := by
  have hg := h.ss.good
  have e1 : scoreQ ps' = scoreQ ps := funext (fun d => scoreQ_perm h.perm d)
  have hd := h.dn.pass (docsQ_rising ps') hk h.d1 (fun d hd => score_pos hg hd) (fun d hd h1 h2 _ => h.rch.low hg h.at_ hd h1 (piv := 2147483648) h2 (fun q _ _ h3 hq => by
    rcases h3 with ⟨_, h4⟩ | ⟨h4, _⟩
    · rw [h4 hq]; exact Int.le_refl _
    · omega))
  refine ⟨ps', off, h.perm, h.ss, ?_, ?_⟩
  · rw [hd.best, docsQ_perm h.perm, e1]
  · have := hd.len
    rw [docsQ_perm h.perm, e1] at this
    exact this
/-- up to the pivot all is done -/
theorem Pvt.up_ {w1 W0 W : World} {s g n tb sc k : Nat} {mayv : Value} {ps : List Prt} {may : Int → Bool} {c0 : Nat} {ps' : List Prt} {off : List (Int × Int)} {D : Int} {r : Nat} (h : Pvt w1 W0 W s g n mayv tb sc k ps may c0 ps' off r D) (hk : 0 < k) (hr : 0 < r) :
    r ≤ ps'.length ∧ D ≤ dq W ps' (r - 1) ∧ 0 ≤ dq W ps' (r - 1) ∧ dq W ps' (r - 1) < 2147483648 ∧ (∀ j, j < ps'.length → r ≤ j → dq W ps' (r - 1) < dq W ps' j) ∧ (∀ j, j < r → dq W ps' j ≤ dq W ps' (r - 1)) ∧ dq W ps' (r - 1) ∈ docsQ ps' ∧ Done k (docsQ ps') may (scoreQ ps') (dq W ps' (r - 1)) off := by
  have hg := h.ss.good
  have hle := h.rch.le
  have hl1 : r - 1 < ps'.length := by omega
  obtain ⟨q, q1, q2, q3⟩ := h.rch.ex
  rcases q3 with ⟨h4, _⟩ | ⟨q4, q5, q6, q7⟩
  · omega
  · have hDp : D ≤ dq W ps' (r - 1) := by rw [dq_get hl1]; exact (h.at_ _ (List.getElem_mem hl1)).ge h.d1
    refine ⟨hle, hDp, by have := h.d0; omega, by omega, fun j hj hrj => by have := q7 j hj hrj; omega, fun j hj => h.rch.ord j (r - 1) (by omega) hl1, ?_, ?_⟩
    · have hlt : dq W ps' (r - 1) < 2147483648 := by omega
      rw [dq_get hl1] at hlt ⊢
      have ha : atM W ps'[r - 1].c < ps'[r - 1].l.length := by
        rcases Nat.lt_or_ge (atM W ps'[r - 1].c) ps'[r - 1].l.length with c | c
        · exact c
        · unfold docAt at hlt; rw [if_neg (by omega)] at hlt; omega
      unfold docAt
      rw [if_pos ha]
      exact (mem_docsQ _ _).2 ⟨_, List.getElem_mem hl1, _, List.getElem_mem ha, by rw [atP_get ha]⟩
    · exact h.dn.pass (docsQ_rising ps') hk hDp (fun d hd => score_pos hg hd) (fun d hd h1 h2 _ => h.rch.low hg h.at_ hd h1 h2 (fun q' a b c e => by
        rcases c with ⟨c, _⟩ | ⟨_, c, _⟩
        · omega
        · rw [c]; exact Int.le_refl _))
/-- sought on -/
theorem Pvt.seek_ {w1 W0 W W' : World} {s g n tb sc k : Nat} {mayv : Value} {ps : List Prt} {may : Int → Bool} {c0 : Nat} {ps' : List Prt} {off : List (Int × Int)} {D nx : Int} {r : Nat} (h : Pvt w1 W0 W s g n mayv tb sc k ps may c0 ps' off r D) (hD : D ≤ nx) (hn1 : nx ≤ 2147483648) (hdn : Done k (docsQ ps') may (scoreQ ps') nx off) (hrest : ∀ j, j < ps'.length → r ≤ j → nx ≤ dq W ps' j) (hps : PS w1 W' (ps'.take r)) (hsk : ∀ x ∈ ps'.take r, Sk x.l (atM W x.c) nx (atM W' x.c)) (hT : Turned (curs (ps'.take r)) W W') (hone : ∃ j, j < r ∧ j < ps'.length ∧ dq W ps' j < nx) : Pv0 w1 W0 W' s g n mayv tb sc k ps may c0 ps' off nx ∧ remQ W' ps < remQ W ps := by
  have hst := drop_still h.ss.pts h.ss.nod hT
  have hall : ∀ x ∈ ps', AtD x (atM W' x.c) nx ∧ atM W x.c ≤ atM W' x.c := fun x hx => by
    obtain ⟨j, hj, rfl⟩ := List.mem_iff_getElem.1 hx
    by_cases c : j < r
    · have hm : ps'[j] ∈ ps'.take r := List.mem_iff_getElem.2 ⟨j, by rw [List.length_take]; omega, List.getElem_take⟩
      exact ⟨(h.at_ _ hx).sought hD (hsk _ hm), (hsk _ hm).1⟩
    · rw [hst j hj (by omega)]
      exact ⟨(h.at_ _ hx).up hD (by rw [← dq_get hj]; exact hrest j hj (by omega)), Nat.le_refl _⟩
  refine ⟨⟨h.perm, h.ss.moved (fun x hx => List.mem_of_mem_take hx) hT hps, fun x hx => (hall x hx).1, hdn, by have := h.d0; omega, hn1, h.pos⟩, ?_⟩
  rw [← remQ_perm h.perm, ← remQ_perm h.perm]
  refine remQ_lt (fun x hx => (hall x hx).2) ?_
  obtain ⟨j, hj, hjl, hlt⟩ := hone
  refine ⟨ps'[j], List.getElem_mem hjl, ?_⟩
  rw [dq_get hjl] at hlt
  have ha : atM W ps'[j].c < ps'[j].l.length := by
    rcases Nat.lt_or_ge (atM W ps'[j].c) ps'[j].l.length with c | c
    · exact c
    · unfold docAt at hlt; rw [if_neg (by omega)] at hlt; omega
  refine ⟨?_, ha⟩
  unfold docAt at hlt
  rw [if_pos ha] at hlt
  have hA := (hall ps'[j] (List.getElem_mem hjl))
  rcases Nat.lt_or_ge (atM W ps'[j].c) (atM W' ps'[j].c) with c | c
  · exact c
  · exfalso
    have e : atM W' ps'[j].c = atM W ps'[j].c := by omega
    have := hA.1.2.2 (by rw [e]; exact ha)
    rw [e] at this
    omega
end Go.Proofs.YtpinpnbhbngclaaGreat

/- The third and the fourth way, walked. -/
namespace Go.Proofs.YtpinpnbhbngclaaGreat
open Go.RowKit

theorem remQ_same {W W' : World} : ∀ {l : List Prt}, (∀ x ∈ l, atM W' x.c = atM W x.c) → remQ W' l = remQ W l
  | [], _ => rfl
  | a :: t, hl => by unfold remQ; rw [hl a (by simp), remQ_same (fun x hx => hl x (by simp [hx]))]
section
variable {w1 W0 W W' : World} {s g n tb sc k : Nat} {mayv : Value} {ps : List Prt} {may : Int → Bool} {c0 : Nat} {ps' : List Prt} {off : List (Int × Int)} {D : Int} {r : Nat}
theorem Pvt.below (h : Pvt w1 W0 W s g n mayv tb sc k ps may c0 ps' off r D) (hb : Below W.heap.size W W') : Pvt w1 W0 W' s g n mayv tb sc k ps may c0 ps' off r D :=
  ⟨h.perm, h.ss.below hb, fun x hx => by rw [h.ss.pts.at_below hb hx]; exact h.at_ x hx, h.dn, h.rch.below h.ss.pts hb, h.d0, h.d1, h.pos⟩
theorem Pvt.rem (h : Pvt w1 W0 W s g n mayv tb sc k ps may c0 ps' off r D) (hb : Below W.heap.size W W') : remQ W' ps = remQ W ps := remQ_same (fun _ hx => h.ss.pts.at_below hb (h.perm.mem_iff.2 hx))
theorem Pvt.dq (h : Pvt w1 W0 W s g n mayv tb sc k ps may c0 ps' off r D) (hb : Below W.heap.size W W') (j : Nat) : dq W' ps' j = dq W ps' j := dq_same (fun _ hx => h.ss.pts.at_below hb hx) j
/-- passed on -/
theorem Pvt.pass_ {W5 W6 : World} {off5 : List (Int × Int)} (h : Pvt w1 W0 W s g n mayv tb sc k ps may c0 ps' off r D) (hr0 : 0 < r) (hD : D ≤ Go.Proofs.YtpinpnbhbngclaaGreat.dq W ps' (r - 1)) (hlt : Go.Proofs.YtpinpnbhbngclaaGreat.dq W ps' (r - 1) < 2147483648) (heq : ∀ j, j < r → Go.Proofs.YtpinpnbhbngclaaGreat.dq W ps' j = Go.Proofs.YtpinpnbhbngclaaGreat.dq W ps' (r - 1)) (hgt : ∀ j, j < ps'.length → r ≤ j → Go.Proofs.YtpinpnbhbngclaaGreat.dq W ps' (r - 1) < Go.Proofs.YtpinpnbhbngclaaGreat.dq W ps' j)
    (hss5 : SS w1 W0 W5 s g n n mayv tb sc k ps' off5 (c0 + off5.length)) (hat5 : ∀ x ∈ ps', atM W5 x.c = atM W x.c) (hdn : Done k (docsQ ps') may (scoreQ ps') (Go.Proofs.YtpinpnbhbngclaaGreat.dq W ps' (r - 1) + 1) off5) (hpos : ∀ p ∈ off5, 0 ≤ p.2) (hps : PS w1 W6 (ps'.take r)) (hpa : ∀ x ∈ ps'.take r, atM W6 x.c = passed x (atM W5 x.c) (Go.Proofs.YtpinpnbhbngclaaGreat.dq W ps' (r - 1))) (hT : Turned (curs (ps'.take r)) W5 W6) :
    Pv0 w1 W0 W6 s g n mayv tb sc k ps may c0 ps' off5 (Go.Proofs.YtpinpnbhbngclaaGreat.dq W ps' (r - 1) + 1) ∧ remQ W6 ps < remQ W ps := by
  obtain ⟨pv, hpv⟩ : ∃ d, d = Go.Proofs.YtpinpnbhbngclaaGreat.dq W ps' (r - 1) := ⟨_, rfl⟩
  rw [← hpv] at hD hlt heq hgt hdn hpa ⊢
  have hst := drop_still hss5.pts hss5.nod hT
  have hrl := h.rch.le
  have hall : ∀ x ∈ ps', AtD x (atM W6 x.c) (pv + 1) ∧ atM W x.c ≤ atM W6 x.c := fun x hx => by
    obtain ⟨j, hj, rfl⟩ := List.mem_iff_getElem.1 hx
    have hA := h.at_ _ hx
    by_cases c : j < r
    · have hm : ps'[j] ∈ ps'.take r := List.mem_iff_getElem.2 ⟨j, by rw [List.length_take]; omega, List.getElem_take⟩
      rw [hpa _ hm, hat5 _ hx]
      have hd := heq j c
      rw [dq_get hj] at hd
      exact ⟨hA.passed (h.ss.good _ hx) hD (by omega), (passed_ge hA.1).1⟩
    · rw [hst j hj (by omega), hat5 _ hx]
      have hd := hgt j hj (by omega)
      rw [dq_get hj] at hd
      exact ⟨hA.up (by omega) (by omega), Nat.le_refl _⟩
  refine ⟨⟨h.perm, hss5.moved (fun x hx => List.mem_of_mem_take hx) hT hps, fun x hx => (hall x hx).1, hdn, by have := h.d0; omega, by omega, hpos⟩, ?_⟩
  rw [← remQ_perm h.perm, ← remQ_perm h.perm]
  refine remQ_lt (fun x hx => (hall x hx).2) ?_
  have hl0 : 0 < ps'.length := by omega
  have hm : ps'[0] ∈ ps'.take r := List.mem_iff_getElem.2 ⟨0, by rw [List.length_take]; omega, List.getElem_take⟩
  have hd := heq 0 hr0
  rw [dq_get hl0] at hd
  have ha : atM W ps'[0].c < ps'[0].l.length := by
    rcases Nat.lt_or_ge (atM W ps'[0].c) ps'[0].l.length with c | c
    · exact c
    · unfold docAt at hd; rw [if_neg (by omega)] at hd; omega
  refine ⟨ps'[0], List.getElem_mem hl0, ?_, ha⟩
  rw [hpa _ hm, hat5 _ (List.getElem_mem hl0), passed_moves ha hd]
  omega
end
/-- what tells of the parts that reach a pivot -/
def FromIs (w1 W0 : World) (s g n : Nat) (mayv : Value) (tb sc k : Nat) (ps : List Prt) (may : Int → Bool) (c0 : Nat) (K : Nat) : Prop :=
  ∀ W ps' off r D, Pvt w1 W0 W s g n mayv tb sc k ps may c0 ps' off r D → 0 < r → Calls Tryz.prog K #[.pointer (some ⟨s, 0, none⟩), .int .i64 (r : Int)] W fun e w' => (∃ nx : Int, e = .returned (.int .i64 nx) ∧ NextOk W k ps' off r (dq W ps' (r - 1)) nx) ∧ Below W.heap.size W w'
theorem from_pivot {w1 W0 : World} {s g n tb sc k : Nat} {mayv : Value} {ps : List Prt} {may : Int → Bool} {c0 : Nat} (hn : n ≤ 64) : FromIs w1 W0 s g n mayv tb sc k ps may c0 47 := by
  intro W ps' off r D h hr
  have hl := h.ss.row.len
  have hle := h.rch.le
  obtain ⟨p, rfl⟩ : ∃ p, r = p + 1 := ⟨r - 1, by omega⟩
  exact (spivot_any h.ss p (by omega) hn).mono (fun e w' ⟨he, hb⟩ => ⟨⟨_, he, .inl rfl⟩, hb⟩)
theorem from_blocks {w1 W0 : World} {s g n tb sc k : Nat} {mayv : Value} {ps : List Prt} {may : Int → Bool} {c0 : Nat} (hn : n ≤ 64) (hk : 0 < k) : FromIs w1 W0 s g n mayv tb sc k ps may c0 49 := by
  intro W ps' off r D h hr
  have hl := h.ss.row.len
  obtain ⟨hle, h1, h2, h3, h4, _⟩ := h.up_ hk hr
  obtain ⟨p, rfl⟩ : ∃ p, r = p + 1 := ⟨r - 1, by omega⟩
  exact sbehind_any h.ss hn D (fun x hx => ⟨(h.at_ x hx).1, (h.at_ x hx).2.1⟩) (p + 1) p rfl (by omega) h1 h2 h3 h4

set_option maxHeartbeats 4000000 in
set_option maxRecDepth 100000 in
theorem spivots_any {w1 W0 W : World} {s g n : Nat} {mayv : Value} {tb sc k : Nat} {ps : List Prt} {c0 : Nat} {may : Int → Bool} (K : Nat) (eK : ∀ args w, (callFunc K args).run Tryz.prog w = .ok (.enter K args) w) (h : SS w1 W0 W s g n n mayv tb sc k ps [] c0) (hn : n ≤ 64) (hk : 0 < k) (hc0 : c0 ≤ 500000) (hdl : (docsQ ps).length ≤ 100000) (hA : ∀ x ∈ ps, AtD x (atM W x.c) 0) (hm : MayC W0 sc mayv may) (hK : FromIs w1 W0 s g n mayv tb sc k ps may c0 K) :
    Calls Tryz.prog 46 #[.pointer (some ⟨s, 0, none⟩), .func (.func K) #[.pointer (some ⟨s, 0, none⟩)] #[]] W fun e w' => e = .returned (.tuple #[]) ∧ WayEnd w1 W0 s g n n mayv tb sc k ps may c0 w' := by
  obtain ⟨F, B, rfl, eg, hmay⟩ := hm
  have HM := Lib.hid hmay
  have HK := Lib.hid hK
  have hvl : ∀ D, (vl (docsQ ps) may (scoreQ ps) D).length ≤ 100000 := fun D => by
    unfold vl
    rw [List.length_map]
    exact Nat.le_trans (List.length_filter_le _ _) hdl
  have HV := Lib.hid hvl
  have H0 : Hid (Pv0 w1 W0 W s g n (.func (.func F) #[] B) tb sc k ps may c0 ps [] 0) := Lib.hid ⟨List.Perm.refl _, h, hA, Done.start (fun d hd => by
    obtain ⟨x, hx, p, hp, e⟩ := (mem_docsQ ps d).1 hd
    have := PostM.rgt_all (h.good x hx).right p hp
    omega), by omega, by omega, fun p hp => by simp at hp⟩
  clear h hmay hK hvl hdl hA
  go_enter Tryz.func46, Tryz.ntmps46
  go_wp2_with fail
  refine (preach_any H0.out hn).mono ?_
  rintro e w2 ⟨r0, rfl, ps0, hpv0, _⟩
  have HP0 := Lib.hid hpv0
  clear hpv0
  go_wp2_with fail
  go_loopw [4] (fun x wr => ∃ (r : Nat) (ps' : List Prt) (off : List (Int × Int)) (D : Int), x = .int .i64 r ∧ Pvt w1 W0 wr s g n (.func (.func F) #[] B) tb sc k ps may c0 ps' off r D) (fun _ wr => remQ wr ps)
  case atStart => exact ⟨r0, ps0, [], 0, rfl, HP0.out⟩
  case round =>
    obtain ⟨r, ps', off, D, rfl, hpv⟩ := hrel
    have HPV := Lib.hid hpv
    by_cases hr0 : 0 < r
    · have d0 : decide ((0 : Int) < (r : Int)) = true := decide_eq_true (by omega)
      have d0' : decide (0 < r) = true := decide_eq_true hr0
      obtain ⟨hle, hDp, hp0, hplt, hgt, hled, hmem, hdn⟩ := hpv.up_ hk hr0
      have hlen : ps'.length = n := hpv.ss.row.len
      have hrn : (r : Int) ≤ (n : Int) := by omega
      have hsp := spivot_any hpv.ss (r - 1) (by omega) hn
      rw [show r - 1 + 1 = r by omega] at hsp
      have k0 := cell_of_cells (i := 0) hpv.ss.obj rfl
      obtain ⟨pv, hpvv⟩ : ∃ d, d = dq wr ps' (r - 1) := ⟨_, rfl⟩
      rw [← hpvv] at hsp hDp hp0 hplt hgt hled hmem hdn
      have HSP := Lib.hid hsp
      have HPE := Lib.hid hpvv
      have HGT := Lib.hid hgt
      have HLD := Lib.hid hled
      have HME := Lib.hid hmem
      have HDN := Lib.hid hdn
      have HLEN := Lib.hid hlen
      clear hpv hsp hpvv hgt hled hmem hdn hlen
      go_wp2_with fail
      refine HSP.out.mono ?_
      rintro e w3 ⟨rfl, hb3⟩
      have HB3 := Lib.hid hb3
      have HKC := HK.out w3 ps' off r D (HPV.out.below hb3) hr0
      rw [HPV.out.dq hb3, ← HPE.out] at HKC
      have HKC2 := Lib.hid HKC
      clear HKC hb3 k0
      go_wp2_with fail
      refine HKC2.out.mono ?_
      rintro e w4 ⟨⟨nx, rfl, hnx⟩, hb4⟩
      have HB4 := Lib.hid (HB3.out.trans (hb4.mono HB3.out.size))
      have HNX : Hid (NextOk wr k ps' off r pv nx) := Lib.hid (by
        rcases hnx with e | ⟨a, b, c, d⟩
        · exact .inl e
        · exact .inr ⟨a, b, fun j hj hrj => by have := c j hj hrj; rw [HPV.out.dq HB3.out] at this; exact this, d⟩)
      have HV4 := Lib.hid (HPV.out.below HB4.out)
      have HR4 := Lib.hid (HPV.out.rem HB4.out)
      have HQ4 := Lib.hid (HPV.out.dq HB4.out)
      clear hnx hb4 HKC2
      by_cases c1 : pv < nx
      · have d1 : decide (pv < nx) = true := decide_eq_true c1
        have hnx2 : nx ≤ 2147483648 ∧ (∀ j, j < ps'.length → r ≤ j → nx ≤ dq wr ps' j) ∧ ∀ d, pv ≤ d → d < nx → scoreQ ps' d ≤ worstQ k off := by
          rcases HNX.out with e | ⟨_, b, c, d⟩
          · omega
          · exact ⟨b, c, d⟩
        obtain ⟨hnx31, hnxr, hnxs⟩ := hnx2
        have HRX : Hid (∀ j, j < ps'.length → r ≤ j → nx ≤ dq w4 ps' j) := Lib.hid (fun j hj hrj => by rw [HQ4.out]; exact hnxr j hj hrj)
        have HDX : Hid (Done k (docsQ ps') may (scoreQ ps') nx off) := Lib.hid (HDN.out.pass (docsQ_rising ps') hk (by omega) (fun d hd => score_pos HPV.out.ss.good hd) (fun d _ h1 h2 _ => hnxs d h1 h2))
        have HONE : Hid (∃ j, j < r ∧ j < ps'.length ∧ dq w4 ps' j < nx) := Lib.hid ⟨r - 1, by omega, by omega, by rw [HQ4.out, ← HPE.out]; exact c1⟩
        clear hnxr hnxs

        have HSK := Lib.hid (pseek_any w1 w4 (some ⟨g, 0, none⟩) r n (ps'.take r) nx (by omega) (HV4.out.ss.row.ptr.take (by omega)) (fun x hx => HV4.out.ss.pts x (List.mem_of_mem_take hx)) (fun x hx => HV4.out.ss.good x (List.mem_of_mem_take hx)) (by rw [List.map_take]; exact List.Nodup.sublist (List.take_sublist _ _) HV4.out.ss.nod) (fun ad e hc => by
            injection e with e
            subst e
            obtain ⟨x, hx, e⟩ := hc
            have := HV4.out.ss.o3 x (List.mem_of_mem_take hx)
            have e' : g = x.c := e
            omega))
        go_wp2_with fail
        refine HSK.out.mono ?_
        rintro e w6 ⟨rfl, hps6, hsk6, hT6⟩
        obtain ⟨hpv6, hrem6⟩ := HV4.out.seek_ (nx := nx) (by omega) hnx31 HDX.out HRX.out hps6 hsk6 hT6 HONE.out
        have H6 := Lib.hid hpv6
        have HM6 : Hid (remQ w6 ps < remQ wr ps) := Lib.hid (by rw [← HR4.out]; exact hrem6)
        clear hps6 hsk6 hT6 hpv6 hrem6 HSK
        go_wp2_with fail
        refine (preach_any H6.out hn).mono ?_
        rintro e w7 ⟨r7, rfl, ps7, hpv7, hrem7⟩
        have H7 := Lib.hid hpv7
        have HM7 : Hid (remQ w7 ps < remQ wr ps) := Lib.hid (by rw [hrem7]; exact HM6.out)
        clear hpv7 hrem7
        go_wp2
        go_roundw
        case rel => exact ⟨r7, ps7, off, nx, rfl, H7.out⟩
        case measure => exact HM7.out
      · have d1 : decide (pv < nx) = false := decide_eq_false c1
        have hnxe : nx = pv := by
          rcases HNX.out with e | ⟨a, _⟩
          · exact e
          · exact absurd a c1
        have hl0 : 0 < ps'.length := by rw [HLEN.out]; omega
        obtain ⟨b, o, hAe, hbl, hc⟩ := HV4.out.ss.row.ptr.2 0 hl0
        injection hAe with hAe
        injection hAe with f1 f2 _
        subst f1
        subst f2
        rw [Nat.zero_add] at hc
        have hd0 := pdoc_any w1 w4 ps'[0] _ (HV4.out.ss.pts ps'[0] (List.getElem_mem hl0))
        rw [← dq_get hl0, HQ4.out] at hd0
        obtain ⟨p0, hp0e⟩ : ∃ q, q = ps'[0].p := ⟨_, rfl⟩
        obtain ⟨d0v, hd0v⟩ : ∃ d, d = dq wr ps' 0 := ⟨_, rfl⟩
        rw [← hp0e] at hc hd0
        rw [← hd0v] at hd0
        have HD0 := Lib.hid hd0
        have HDV := Lib.hid hd0v
        have hrz : (0 : Int) < (r : Int) := by omega
        have HNE := Lib.hid hnxe
        clear hd0 hp0e hd0v hbl hnxe
        go_wp2_with fail
        refine HD0.out.mono ?_
        rintro e w5 ⟨rfl, hb5⟩
        have HB5 := Lib.hid (HB4.out.trans (hb5.mono HB4.out.size))
        have HV5 := Lib.hid (HPV.out.below HB5.out)
        have HR5 := Lib.hid (HPV.out.rem HB5.out)
        have HQ5 := Lib.hid (HPV.out.dq HB5.out)
        clear hb5 hc HV4 HR4 HQ4 HB4
        by_cases c2 : d0v < pv
        · have d2 : decide (d0v < pv) = true := decide_eq_true c2
          have hnx31 : nx ≤ 2147483648 := by rw [HNE.out]; omega
          have hnxD : D ≤ nx := by rw [HNE.out]; exact hDp
          have HRX : Hid (∀ j, j < ps'.length → r ≤ j → nx ≤ dq w5 ps' j) := Lib.hid (fun j hj hrj => by rw [HQ5.out, HNE.out]; have := HGT.out j hj hrj; omega)
          have HDX : Hid (Done k (docsQ ps') may (scoreQ ps') nx off) := Lib.hid (by rw [HNE.out]; exact HDN.out)
          have HONE : Hid (∃ j, j < r ∧ j < ps'.length ∧ dq w5 ps' j < nx) := Lib.hid ⟨0, hr0, hl0, by rw [HQ5.out, ← HDV.out, HNE.out]; exact c2⟩
          have HSK := Lib.hid (pseek_any w1 w5 (some ⟨g, 0, none⟩) r n (ps'.take r) nx (by omega) (HV5.out.ss.row.ptr.take (by omega)) (fun x hx => HV5.out.ss.pts x (List.mem_of_mem_take hx)) (fun x hx => HV5.out.ss.good x (List.mem_of_mem_take hx)) (by rw [List.map_take]; exact List.Nodup.sublist (List.take_sublist _ _) HV5.out.ss.nod) (fun ad e hc => by
              injection e with e
              subst e
              obtain ⟨x, hx, e⟩ := hc
              have := HV5.out.ss.o3 x (List.mem_of_mem_take hx)
              have e' : g = x.c := e
              omega))
          go_wp2_with fail
          refine HSK.out.mono ?_
          rintro e w6 ⟨rfl, hps6, hsk6, hT6⟩
          obtain ⟨hpv6, hrem6⟩ := HV5.out.seek_ (nx := nx) (by omega) hnx31 HDX.out HRX.out hps6 hsk6 hT6 HONE.out
          have H6 := Lib.hid hpv6
          have HM6 : Hid (remQ w6 ps < remQ wr ps) := Lib.hid (by rw [← HR5.out]; exact hrem6)
          clear hps6 hsk6 hT6 hpv6 hrem6 HSK
          go_wp2_with fail
          refine (preach_any H6.out hn).mono ?_
          rintro e w7 ⟨r7, rfl, ps7, hpv7, hrem7⟩
          have H7 := Lib.hid hpv7
          have HM7 : Hid (remQ w7 ps < remQ wr ps) := Lib.hid (by rw [hrem7]; exact HM6.out)
          clear hpv7 hrem7
          go_wp2
          go_roundw
          case rel => exact ⟨r7, ps7, off, nx, rfl, H7.out⟩
          case measure => exact HM7.out
        · have d2 : decide (d0v < pv) = false := decide_eq_false c2
          have HEQ : Hid (∀ j, j < r → dq w5 ps' j = dq w5 ps' (r - 1)) := Lib.hid (fun j hj => by
            rw [HQ5.out, HQ5.out, ← HPE.out]
            have h1 := HPV.out.rch.ord 0 j (by omega) (by omega)
            have h2 := HLD.out j hj
            rw [← HDV.out] at h1
            omega)
          have HGT5 : Hid (∀ j, j < ps'.length → r ≤ j → dq w5 ps' (r - 1) < dq w5 ps' j) := Lib.hid (fun j hj hrj => by rw [HQ5.out, HQ5.out, ← HPE.out]; exact HGT.out j hj hrj)
          have k1 := cell_of_cells (i := 1) HV5.out.ss.obj rfl
          have hcall := HM.out w5 HV5.out.ss.kept pv
          obtain ⟨mb, hmb⟩ : ∃ mb, mb = may pv := ⟨_, rfl⟩
          rw [← hmb] at hcall
          have HC := Lib.hid hcall
          have HMB := Lib.hid hmb
          clear hcall hmb c2
          go_wp2_with fail
          refine HC.out.mono ?_
          rintro e w6 ⟨rfl, hb6⟩
          have HV6 := Lib.hid (HV5.out.below hb6)
          have HR6 : Hid (remQ w6 ps = remQ wr ps) := Lib.hid ((HV5.out.rem hb6).trans HR5.out)
          have HQ6 : Hid (∀ j, dq w6 ps' j = dq w5 ps' j) := Lib.hid (HV5.out.dq hb6)
          clear hb6 k1 HC
          cases mb with
          | true =>
            have hsm := psum_any w1 w6 (some ⟨g, 0, none⟩) r n (ps'.take r) pv (by omega) (HV6.out.ss.row.ptr.take (by omega)) (fun x hx => HV6.out.ss.pts x (List.mem_of_mem_take hx)) (fun x hx => HV6.out.ss.good x (List.mem_of_mem_take hx))
            have hsq : sumL (consAt w6 (ps'.take r) pv) = scoreQ ps' pv := score_reach (D := D) HV6.out.ss.good HV6.out.at_ hDp (fun x hx => by
              obtain ⟨j, hj, rfl⟩ := List.mem_iff_getElem.1 hx
              rw [List.length_take] at hj
              rw [List.getElem_take, ← dq_get (by omega), HQ6.out, HEQ.out j (by omega), HQ5.out, ← HPE.out]) (fun x hx => by
              obtain ⟨j, hj, rfl⟩ := List.mem_iff_getElem.1 hx
              rw [List.length_drop] at hj
              rw [List.getElem_drop, ← dq_get (by omega), HQ6.out, HQ5.out]
              exact HGT.out _ (by omega) (by omega))
            rw [hsq] at hsm
            obtain ⟨sq, hsqe⟩ : ∃ q, q = scoreQ ps' pv := ⟨_, rfl⟩
            rw [← hsqe] at hsm
            have HSM := Lib.hid hsm
            have HSQ := Lib.hid hsqe
            have hol : off.length ≤ 100000 := by
              have h1 := HPV.out.dn.len
              rw [docsQ_perm HPV.out.perm, show scoreQ ps' = scoreQ ps from funext (fun d => scoreQ_perm HPV.out.perm d)] at h1
              exact Nat.le_trans h1 (HV.out D)
            clear hsm hsq hsqe
            go_wp2_with fail
            refine HSM.out.mono ?_
            rintro e w7 ⟨rfl, hb7⟩
            have HV7 := Lib.hid (HV6.out.below hb7)
            have HA7 := Lib.hid (fun x (hx : x ∈ ps') => HV6.out.ss.pts.at_below hb7 hx)
            have HKP := Lib.hid (skeep_any pv sq HV7.out.ss (by omega) (by omega))
            clear hb7 hol
            go_wp2_with fail
            refine HKP.out.mono ?_
            rintro e w8 ⟨rfl, hss8, hT8⟩
            have H8 : Hid (SS w1 W0 w8 s g n n (.func (.func F) #[] B) tb sc k ps' (off ++ [(pv, sq)]) (c0 + (off ++ [(pv, sq)]).length)) := Lib.hid (by
              rw [List.length_append, List.length_cons, List.length_nil, ← Nat.add_assoc]
              exact hss8)
            have HA8 : Hid (∀ x ∈ ps', atM w8 x.c = atM w6 x.c) := Lib.hid (fun x hx => (HV7.out.ss.at_turned hT8 hx).trans (HA7.out x hx))
            have HDK : Hid (Done k (docsQ ps') may (scoreQ ps') (dq w6 ps' (r - 1) + 1) (off ++ [(pv, sq)])) := Lib.hid (by
              rw [HQ6.out, HQ5.out, ← HPE.out, HSQ.out]
              exact HDN.out.keep (docsQ_rising ps') HME.out (Int.le_refl _) (fun d _ h1 h2 => by omega) HMB.out.symm)
            have HPO : Hid (∀ p ∈ off ++ [(pv, sq)], 0 ≤ p.2) := Lib.hid (fun p hp => by
              rcases List.mem_append.1 hp with e | e
              · exact HPV.out.pos p e
              · simp at e
                subst e
                have := score_pos HPV.out.ss.good HME.out
                show 0 ≤ sq
                rw [HSQ.out]
                omega)
            clear hss8 hT8 HKP HSM
            have HPA := Lib.hid (ppass_any w1 w8 (some ⟨g, 0, none⟩) r n (ps'.take r) pv (by omega) ((H8.out).row.ptr.take (by omega)) (fun x hx => (H8.out).pts x (List.mem_of_mem_take hx)) (fun x hx => (H8.out).good x (List.mem_of_mem_take hx)) (by rw [List.map_take]; exact List.Nodup.sublist (List.take_sublist _ _) (H8.out).nod) (fun ad e hc => by
                injection e with e
                subst e
                obtain ⟨x, hx, e⟩ := hc
                have := (H8.out).o3 x (List.mem_of_mem_take hx)
                have e' : g = x.c := e
                omega))
            go_wp2_with fail
            refine HPA.out.mono ?_
            rintro e w9 ⟨rfl, hps9, hat9, hT9⟩
            have hpe6 : dq w6 ps' (r - 1) = pv := by rw [HQ6.out, HQ5.out, ← HPE.out]
            obtain ⟨hpv9, hrem9⟩ := HV6.out.pass_ (off5 := off ++ [(pv, sq)]) hr0 (by rw [hpe6]; exact hDp) (by rw [hpe6]; exact hplt) (fun j hj => by rw [HQ6.out, HQ6.out]; exact HEQ.out j hj) (fun j hj hrj => by rw [HQ6.out, HQ6.out]; exact HGT5.out j hj hrj) (H8.out) HA8.out HDK.out HPO.out hps9 (fun x hx => by rw [hpe6]; exact hat9 x hx) hT9
            rw [hpe6] at hpv9
            have H9 := Lib.hid hpv9
            have HM9 : Hid (remQ w9 ps < remQ wr ps) := Lib.hid (by rw [← HR6.out]; exact hrem9)
            clear hps9 hat9 hT9 hpv9 hrem9 HPA hpe6
            go_wp2_with fail
            refine (preach_any H9.out hn).mono ?_
            rintro e w10 ⟨r10, rfl, ps10, hpv10, hrem10⟩
            have H10 := Lib.hid hpv10
            have HM10 : Hid (remQ w10 ps < remQ wr ps) := Lib.hid (by rw [hrem10]; exact HM9.out)
            clear hpv10 hrem10
            go_wp2
            go_roundw
            case rel => exact ⟨r10, ps10, off ++ [(pv, sq)], pv + 1, rfl, H10.out⟩
            case measure => exact HM10.out
          | false =>
            have HDK : Hid (Done k (docsQ ps') may (scoreQ ps') (dq w6 ps' (r - 1) + 1) off) := Lib.hid (by
              rw [HQ6.out, HQ5.out, ← HPE.out]
              exact HDN.out.pass (docsQ_rising ps') hk (by omega) (fun d hd => score_pos HPV.out.ss.good hd) (fun d _ h1 h2 h3 => by
                have : d = pv := by omega
                rw [this, ← HMB.out] at h3
                cases h3))
            have HPA := Lib.hid (ppass_any w1 w6 (some ⟨g, 0, none⟩) r n (ps'.take r) pv (by omega) ((HV6.out.ss).row.ptr.take (by omega)) (fun x hx => (HV6.out.ss).pts x (List.mem_of_mem_take hx)) (fun x hx => (HV6.out.ss).good x (List.mem_of_mem_take hx)) (by rw [List.map_take]; exact List.Nodup.sublist (List.take_sublist _ _) (HV6.out.ss).nod) (fun ad e hc => by
                injection e with e
                subst e
                obtain ⟨x, hx, e⟩ := hc
                have := (HV6.out.ss).o3 x (List.mem_of_mem_take hx)
                have e' : g = x.c := e
                omega))
            go_wp2_with fail
            refine HPA.out.mono ?_
            rintro e w9 ⟨rfl, hps9, hat9, hT9⟩
            have hpe6 : dq w6 ps' (r - 1) = pv := by rw [HQ6.out, HQ5.out, ← HPE.out]
            obtain ⟨hpv9, hrem9⟩ := HV6.out.pass_ (off5 := off) hr0 (by rw [hpe6]; exact hDp) (by rw [hpe6]; exact hplt) (fun j hj => by rw [HQ6.out, HQ6.out]; exact HEQ.out j hj) (fun j hj hrj => by rw [HQ6.out, HQ6.out]; exact HGT5.out j hj hrj) (HV6.out.ss) (fun _ _ => rfl) HDK.out HPV.out.pos hps9 (fun x hx => by rw [hpe6]; exact hat9 x hx) hT9
            rw [hpe6] at hpv9
            have H9 := Lib.hid hpv9
            have HM9 : Hid (remQ w9 ps < remQ wr ps) := Lib.hid (by rw [← HR6.out]; exact hrem9)
            clear hps9 hat9 hT9 hpv9 hrem9 HPA hpe6
            go_wp2_with fail
            refine (preach_any H9.out hn).mono ?_
            rintro e w10 ⟨r10, rfl, ps10, hpv10, hrem10⟩
            have H10 := Lib.hid hpv10
            have HM10 : Hid (remQ w10 ps < remQ wr ps) := Lib.hid (by rw [hrem10]; exact HM9.out)
            clear hpv10 hrem10
            go_wp2
            go_roundw
            case rel => exact ⟨r10, ps10, off, pv + 1, rfl, H10.out⟩
            case measure => exact HM10.out
    · have d0 : decide ((0 : Int) < (r : Int)) = false := decide_eq_false (by omega)
      have d0' : decide (0 < r) = false := decide_eq_false hr0
      have hr00 : r = 0 := by omega
      have HE : Hid (WayEnd w1 W0 s g n n (.func (.func F) #[] B) tb sc k ps may c0 wr) := Lib.hid (by
        subst hr00
        exact hpv.end_ hk)
      clear hpv hr00
      go_wp2
      go_end0
      exact ⟨rfl, HE.out⟩
end Go.Proofs.YtpinpnbhbngclaaGreat

/- A query's parts, begun. -/
namespace Go.Proofs.YtpinpnbhbngclaaGreat
open Go.RowKit

/-- a query in memory: of each part the list's object, its posts, its weight -/
def QAt (w : World) (A : Option Addr) (n : Nat) (qs : List (Nat × List (Int × Int) × Int)) : Prop :=
  qs.length = n ∧ ∀ k (h : k < qs.length), ∃ b o, A = some ⟨b, o, none⟩ ∧ b < w.heap.size ∧ w.cell? ⟨b, o + k * 2, none⟩ = some (.pointer (some ⟨qs[k].1, 0, none⟩)) ∧ w.cell? ⟨b, o + k * 2 + 1, none⟩ = some (.int .i64 qs[k].2.2) ∧ PL w qs[k].1 qs[k].2.1
theorem QAt.later {w w' : World} {A : Option Addr} {n : Nat} {qs : List (Nat × List (Int × Int) × Int)} (h : QAt w A n qs) (hb : Below w.heap.size w w') : QAt w' A n qs :=
  ⟨h.1, fun k hk => by
    obtain ⟨b, o, e, hl, h0, h1, h2⟩ := h.2 k hk
    exact ⟨b, o, e, Nat.lt_of_lt_of_le hl hb.size, (hb.cell (p := ⟨b, o + k * 2, none⟩) hl).trans h0, (hb.cell (p := ⟨b, o + k * 2 + 1, none⟩) hl).trans h1, h2.below hb⟩⟩
structure GoodQ (x : Nat × List (Int × Int) × Int) : Prop where
  right : PostM.rightL x.2.1 = true
  len : x.2.1.length ≤ 400
  w1 : 1 ≤ x.2.2
  w2 : x.2.2 ≤ 65535
/-- the row of parts, so far -/
def rowC (n : Nat) (ps : List Prt) : Array Value := ((List.range n).map fun j => Value.pointer ((ps[j]?).map fun x => (⟨x.p, 0, none⟩ : Addr))).toArray
theorem rowC_size (n : Nat) (ps : List Prt) : (rowC n ps).size = n := by simp [rowC]
theorem rowC_get {n : Nat} {ps : List Prt} {j : Nat} (h : j < n) : (rowC n ps)[j]? = some (Value.pointer ((ps[j]?).map fun x => (⟨x.p, 0, none⟩ : Addr))) := by simp [rowC, h]
theorem rowC_set {n : Nat} {ps : List Prt} {x : Prt} (h : ps.length < n) : (rowC n ps).setIfInBounds ps.length (.pointer (some ⟨x.p, 0, none⟩)) = rowC n (ps ++ [x]) := by
  apply Array.ext_getElem?
  intro j
  rw [Array.getElem?_setIfInBounds]
  by_cases hj : j < n
  · rw [rowC_get hj, rowC_size]
    by_cases e : ps.length = j
    · subst e
      rw [if_pos rfl, if_pos hj, rowC_get hj, List.getElem?_append_right (Nat.le_refl _), Nat.sub_self]
      rfl
    · rw [if_neg e, rowC_get hj]
      by_cases c : j < ps.length
      · rw [List.getElem?_append_left c]
      · rw [List.getElem?_eq_none (by omega), List.getElem?_eq_none (by simp; omega)]
  · rw [Array.getElem?_eq_none (show (rowC n (ps ++ [x])).size ≤ j by rw [rowC_size]; omega)]
    split
    · rename_i e
      rw [if_neg (by rw [rowC_size]; omega)]
    · exact Array.getElem?_eq_none (by rw [rowC_size]; omega)
theorem parts_info : (Tryz.prog.info? 84).map (fun i => (i.zero, i.size, i.bytes)) = some (some (.pointer none), 1, 8) := by kernel_rfl
theorem made_parts (L : Nat) (hL : L ≤ 1000000000) (w : World) : (Instr.makeSlice 77 (.int .i64 (L : Int)) (.int .i64 (L : Int))).run Tryz.prog w = .ok (.slice (some ⟨w.heap.size, 0, none⟩) L L) (w.alloc (.cells (rowC L []) 84)) := by
  obtain ⟨i0, hi, hz0, hz1, hz2⟩ := info_parts parts_info
  have h := run_make (P := Tryz.prog) w 77 84 i0 (.pointer none) Tryz.underlying77 hi hz0 .i64 .i64 (L : Int) (L : Int) (by omega) (by omega) (by rw [hz2]; omega) (by omega)
  rw [hz1, Int.toNat_natCast, Nat.mul_one] at h
  rw [h]
  have e : madeCells (Value.pointer none).cells L = rowC L [] := by
    apply Array.ext_getElem?
    intro j
    unfold madeCells rowC
    by_cases hj : j < L
    · simp [Value.cells, hj, Nat.mod_one]
    · simp [Value.cells, hj]
  rw [e]
/-- the parts that have been begun -/
structure Beg (w1 wr : World) (g n : Nat) (qs : List (Nat × List (Int × Int) × Int)) (ps : List Prt) : Prop where
  len : ps.length ≤ n
  row : wr.heap[g]? = some (.cells (rowC n ps) 84 (0, 0))
  pts : ∀ x ∈ ps, PT w1 wr x 0
  far : ∀ x ∈ ps, g < x.c ∧ g < x.p ∧ x.c < wr.heap.size ∧ x.p < wr.heap.size
  nod : (ps.map (·.c)).Pairwise (· < ·)
  is_ : ∀ j (h : j < ps.length) (h2 : j < qs.length), ps[j].l = qs[j].2.1 ∧ ps[j].wt = qs[j].2.2
  new : w1.heap.size ≤ g
  low : Below w1.heap.size w1 wr
theorem Beg.next {w1 wr w' : World} {g n : Nat} {qs : List (Nat × List (Int × Int) × Int)} {ps : List Prt} {x : Prt} (h : Beg w1 wr g n qs ps) (hl : ps.length < n) (hb : Turned (fun b => b = g) wr w') (hrow : w'.heap[g]? = some (.cells ((rowC n ps).setIfInBounds ps.length (.pointer (some ⟨x.p, 0, none⟩))) 84 (0, 0))) (hx : PT w1 w' x 0) (hc : wr.heap.size ≤ x.c) (hp : wr.heap.size ≤ x.p) (hc2 : x.c < w'.heap.size) (hp2 : x.p < w'.heap.size) (hq : ∀ h2 : ps.length < qs.length, x.l = qs[ps.length].2.1 ∧ x.wt = qs[ps.length].2.2) : Beg w1 w' g n qs (ps ++ [x]) := by
  have hgl := (Array.getElem?_eq_some_iff.1 h.row).1
  have hs := hb.size
  refine ⟨by simp; omega, by rw [hrow, rowC_set hl], fun y hy => ?_, fun y hy => ?_, ?_, fun j hj h2 => ?_, h.new, hb.below h.low (fun k hk => by have := h.new; omega)⟩
  · rcases List.mem_append.1 hy with e | e
    · obtain ⟨f1, f2, f3, f4⟩ := h.far y e
      exact (h.pts y e).turned_row hb h.new (by omega) (by omega)
    · simp at e; subst e; exact hx
  · rcases List.mem_append.1 hy with e | e
    · have := h.far y e; omega
    · simp at e; subst e; omega
  · rw [List.map_append]
    refine List.pairwise_append.2 ⟨h.nod, by simp, fun a ha b hb' => ?_⟩
    obtain ⟨y, hy, rfl⟩ := List.mem_map.1 ha
    have := h.far y hy
    simp at hb'
    subst hb'
    omega
  · by_cases c : j < ps.length
    · rw [List.getElem_append_left c]; exact h.is_ j c h2
    · have e : j = ps.length := by simp at hj; omega
      subst e
      simpa using hq h2
set_option maxHeartbeats 8000000 in
set_option maxRecDepth 100000 in
theorem partsof_any {A : Option Addr} {n cp : Nat} {qs : List (Nat × List (Int × Int) × Int)} (w1 w : World) (h : QAt w1 A n qs) (hb : Below w1.heap.size w1 w) (hg : ∀ x ∈ qs, GoodQ x) (hn : n ≤ 64) :
    Calls Tryz.prog 34 #[.slice A n cp] w fun e w' => ∃ g ps, e = .returned (.slice (some ⟨g, 0, none⟩) n n) ∧ w.heap.size ≤ g ∧ ps.length = n ∧ Beg w1 w' g n qs ps ∧ Below w.heap.size w w' := by
  have HMK := Lib.hid (made_parts n (by omega) w)
  have hmk := fun W => made_parts n (by omega) W
  have H := Lib.hid h
  have HG := Lib.hid hg
  have HLEN := Lib.hid h.1
  have HBW := Lib.hid hb
  clear h hg hb HMK
  go_enter Tryz.func34, Tryz.ntmps34
  go_wp2
  have H0 : Hid (Beg w1 (w.alloc (.cells (rowC n []) 84)) w.heap.size n qs []) := Lib.hid ⟨Nat.zero_le _, heap_alloc_new w _, fun x hx => by simp at hx, fun x hx => by simp at hx, List.Pairwise.nil, fun j hj => by simp at hj, HBW.out.size, HBW.out.trans ((pl1 _ _).mono HBW.out.size)⟩
  have HB0 := Lib.hid (pl1 w (.cells (rowC n []) 84))
  generalize w.alloc (.cells (rowC n []) 84) = U at H0 HB0 ⊢
  obtain ⟨g, hg⟩ : ∃ g, g = w.heap.size := ⟨_, rfl⟩
  rw [← hg] at H0 ⊢
  have HGE := Lib.hid hg
  clear hg hmk
  go_loopw [11] (fun x wr => ∃ (i : Nat) (ps : List Prt), x = .int .i64 i ∧ i ≤ n ∧ ps.length = i ∧ Beg w1 wr g n qs ps ∧ Below w.heap.size w wr) (fun x _ => n - (intOf x).toNat)
  case atStart => exact ⟨0, [], rfl, by omega, rfl, H0.out, HB0.out⟩
  case round =>
    obtain ⟨i, ps, rfl, hin, hpl, hbeg, hbw⟩ := hrel
    have HBG := Lib.hid hbeg
    have HBWR := Lib.hid hbw
    have HPL := Lib.hid hpl
    by_cases hlt : i < n
    · have hmi : (i : Int) < (n : Int) := by omega
      have hil : i < qs.length := by rw [HLEN.out]; exact hlt
      obtain ⟨b, o, rfl, hbl, hc0, hc1, hPL⟩ := (H.out.later hbeg.low).2 i hil
      have hgq := HG.out _ (List.getElem_mem hil)
      have hPL0 : PL w1 qs[i].1 qs[i].2.1 := by
        obtain ⟨_, _, _, _, _, _, hp⟩ := H.out.2 i hil
        exact hp
      obtain ⟨⟨lb, l, wt⟩, hq⟩ : ∃ q, q = qs[i] := ⟨_, rfl⟩
      rw [← hq] at hc0 hc1 hPL hPL0 hgq
      simp only at hc0 hc1 hPL hPL0
      have hw1 := hgq.w1
      have hw2 := hgq.w2
      simp only at hw1 hw2
      have hmx : 0 ≤ PostM.mx l ∧ PostM.mx l ≤ 65535 := ⟨PostM.mx_pos l, mx_bound l (fun p hp => (PostM.rgt_all hgq.right p hp).2.2.2) 0 (by omega)⟩
      have hml := mul_le hw1 hw2 hmx.1 hmx.2
      obtain ⟨m, hm⟩ : ∃ m, m = PostM.mx l := ⟨_, rfl⟩
      obtain ⟨q, hqe⟩ : ∃ q, q = wt * PostM.mx l := ⟨_, rfl⟩
      rw [← hqe] at hml
      have hq2 : wt * m = q := by rw [hm, hqe]
      obtain ⟨hq0, hq1⟩ := hml
      have HQ2 := Lib.hid hq2
      have HCUR := Lib.hid (fun W (hW : Turned (fun b => b = g) wr W) => cursor_any lb l w1 W hPL0 (hW.below hbeg.low (fun k hk => by have := hbeg.new; omega)))
      have HMAX := Lib.hid (fun W (hW : Turned (fun b => b = g) wr W) => pmax_any lb l W (hPL0.below (hW.below hbeg.low (fun k hk => by have := hbeg.new; omega))))
      rw [← hm] at HMAX
      have HQ := Lib.hid hq
      have HM := Lib.hid hm
      have HQE := Lib.hid hqe
      have hrowg := (Array.getElem?_eq_some_iff.1 hbeg.row).1
      have cg := cell_of_cells (i := i) hbeg.row (rowC_get hlt)
      have fg := frozen_of_cells (i := i) hbeg.row
      clear hbeg hbw hPL hPL0 hgq hq hm hqe hmx
      go_wp2_with fail
      obtain ⟨U, hU⟩ : ∃ U, U = wr.alloc (.cells #[.pointer (some ⟨lb, 0, none⟩), .int .i64 wt] 57) := ⟨_, rfl⟩
      rw [← hU]
      have hbu := heap_alloc_new wr (.cells #[.pointer (some ⟨lb, 0, none⟩), .int .i64 wt] 57)
      rw [← hU] at hbu
      have hwu : Below wr.heap.size wr U := by rw [hU]; exact pl1 _ _
      have u0 := cell_of_cells (i := 0) hbu rfl
      have u1 := cell_of_cells (i := 1) hbu rfl
      simp only [List.getElem_toArray, List.getElem_cons_zero, List.getElem_cons_succ] at u0 u1
      have cgu := (hwu.cell (p := ⟨g, i, none⟩) hrowg).trans cg
      have fgu := (hwu.frozen (p := ⟨g, i, none⟩) hrowg).trans fg
      obtain ⟨zv, hzv⟩ : ∃ zv, zv = Value.pointer ((ps[i]?).map fun x => (⟨x.p, 0, none⟩ : Addr)) := ⟨_, rfl⟩
      rw [← hzv] at cgu
      have HBU := Lib.hid hbu
      have HWU := Lib.hid hwu
      obtain ⟨T5, hT5⟩ : ∃ t, t = wr.heap.size := ⟨_, rfl⟩
      rw [← hT5] at u0 u1 HBU ⊢
      have hT5U := World.block_lt_of_cell? U _ u0
      have hgU := World.block_lt_of_cell? U _ cgu
      have hgT : g < T5 := by rw [hT5]; exact hrowg
      have HT5 := Lib.hid hT5
      simp only at hT5U hgU
      have HMX2 := Lib.hid (fun W (hW : Turned (fun b => b = g) U W) => HMAX.out W ((Turned.of_below HWU.out).trans hW))
      have HCU2 := Lib.hid (fun W (hW : Turned (fun b => b = g) U W) => HCUR.out W ((Turned.of_below HWU.out).trans hW))
      have HPK : Hid (∀ W, Turned (fun b => b = g) U W → W.cell? ⟨T5, 0, none⟩ = some (.pointer (some ⟨lb, 0, none⟩)) ∧ W.cell? ⟨T5, 1, none⟩ = some (.int .i64 wt) ∧ Turned (fun b => b = g) U W) := Lib.hid (fun W hW => ⟨(hW.cell (p := ⟨T5, 0, none⟩) hT5U (by simp only; omega)).trans u0, (hW.cell (p := ⟨T5, 1, none⟩) hT5U (by simp only; omega)).trans u1, hW⟩)
      have HPT : Hid (∀ W, (W.cell? ⟨T5, 0, none⟩ = some (.pointer (some ⟨lb, 0, none⟩)) ∧ W.cell? ⟨T5, 1, none⟩ = some (.int .i64 wt) ∧ Turned (fun b => b = g) U W) → Turned (fun b => b = g) U W) := Lib.hid (fun W h => h.2.2)
      have HALC : Hid (∀ W o, (W.cell? ⟨T5, 0, none⟩ = some (.pointer (some ⟨lb, 0, none⟩)) ∧ W.cell? ⟨T5, 1, none⟩ = some (.int .i64 wt) ∧ Turned (fun b => b = g) U W) → Turned (fun b => b = g) U (W.alloc o)) := Lib.hid (fun W o h => h.2.2.alloc o)
      have HSTO : Hid (∀ W v o, Below U.heap.size U W → Turned (fun b => b = g) U ((W.setCell ⟨g, i, none⟩ v).alloc o)) := Lib.hid (fun W v o h => ((Turned.of_below h).set_ (S := fun b => b = g) (b := g) rfl i v).alloc o)
      have HU0 : Hid (∀ W, Below U.heap.size U W → W.cell? ⟨g, i, none⟩ = some zv ∧ W.frozen? ⟨g, i, none⟩ = false) := Lib.hid (fun W hW => ⟨(hW.cell (p := ⟨g, i, none⟩) hgU).trans cgu, (hW.frozen (p := ⟨g, i, none⟩) hgU).trans fgu⟩)
      have hwq : IntKind.i64.wrap q = q := by rw [IntKind.wrap_i64]; omega
      clear hU hbu hwu cg fg hzv hc0 hc1 hT5
      go_region_held3 (fun W => W.cell? ⟨T5, 0, none⟩ = some (.pointer (some ⟨lb, 0, none⟩)) ∧ W.cell? ⟨T5, 1, none⟩ = some (.int .i64 wt) ∧ Turned (fun b => b = g) U W)
        ((refine HPK.out _ ?_; first | (exact (Turned.refl _ _).drew) | (exact HPT.out _ (by assumption)) | (with_reducible exact Turned.of_below HB6.out) | (with_reducible exact HALC.out _ _ (by assumption)) | (with_reducible exact HSTO.out _ _ _ HB6.out)))
        ((first
        | ((with_reducible refine (HCU2.out _ (by first | exact (Turned.refl _ _).drew | exact HPT.out _ (by assumption))).mono ?_); rintro e w6 ⟨cb, rfl, hcn, hpc, hb6⟩; have hb6' : Below U.heap.size U w6 := (by first | exact hb6 | exact (Below.refl _ _).drew.trans hb6); obtain ⟨z2, z3⟩ := HU0.out w6 hb6'; have z4 := World.block_lt_of_cell? w6 _ z2; simp only at z4; have HB6 := Lib.hid hb6'; have HPC := Lib.hid hpc; have HCN := Lib.hid hcn; clear hb6 hb6' hpc hcn)
        | ((with_reducible refine (HMX2.out _ (by first | exact (Turned.refl _ _).drew | exact HPT.out _ (by assumption))).mono ?_); rintro e w7 ⟨rfl, rfl⟩)))
      have hcn9 : U.heap.size ≤ cb := HCN.out
      have hcb6 : cb < w6.heap.size := by
        obtain ⟨_, _, _, _, k0, _⟩ := HPC.out.cells
        exact World.block_lt_of_cell? w6 _ k0
      have hw6 := HWU.out.trans (HB6.out.mono HWU.out.size)
      have hrow6 := blk_stay hw6 HBG.out.row
      have hs6 : ∀ v, (w6.setCell ⟨g, i, none⟩ v).heap.size = w6.heap.size := fun v => by simp [World.setCell]
      obtain ⟨V, hV⟩ : ∃ V, V = w6.setCell ⟨g, i, none⟩ (.pointer (some ⟨w6.heap.size, 0, none⟩)) := ⟨_, rfl⟩
      have hVT : Turned (fun b => b = g) w6 V := by rw [hV]; exact (Turned.refl _ _).set_ (S := fun b => b = g) (b := g) rfl i _
      have hVr : V.heap[g]? = some (.cells ((rowC n ps).setIfInBounds i (.pointer (some ⟨w6.heap.size, 0, none⟩))) 84 (0, 0)) := by rw [hV]; exact heap_setCell_row hrow6 i _
      have hVs : V.heap.size = w6.heap.size := by rw [hV]; exact hs6 _
      rw [← hV] at *
      obtain ⟨O, hO⟩ : ∃ O : Obj, O = .cells #[.pointer (some ⟨cb, 0, none⟩), .int .i64 wt, .int .i64 q] 101 := ⟨_, rfl⟩
      have hx : PT w1 (V.alloc O) ⟨w6.heap.size, cb, l, wt⟩ 0 := by
        refine ⟨(HPC.out.turned hVT HBG.out.new (by omega)).below (pl1 _ _), ?_⟩
        simp only
        rw [← HM.out, HQ2.out, ← hVs, heap_alloc_new, hO]
      have hTV : Turned (fun b => b = g) wr (V.alloc O) := ((Turned.of_below hw6).trans hVT).alloc O
      have hp9 : w6.heap.size < (V.alloc O).heap.size := (Array.getElem?_eq_some_iff.1 hx.obj).1
      have hwr6 := hw6.size
      have HNEW := Lib.hid (HBG.out.next (x := ⟨w6.heap.size, cb, l, wt⟩) (by rw [HPL.out]; exact hlt) hTV (by rw [HPL.out]; exact blk_stay (pl1 _ _) hVr) hx (by have := HWU.out.size; simp only; omega) (by simp only; omega) (by simp only; omega) (by simp only; omega) (fun h2 => by
        have e : qs[ps.length] = (lb, l, wt) := by
          rw [HQ.out]
          exact getElem_congr rfl HPL.out h2
        rw [e]
        exact ⟨rfl, rfl⟩))
      have HBB := Lib.hid (hTV.below HBWR.out (fun k hk => by have := HGE.out; omega))
      have hpl2 : (ps ++ [(⟨w6.heap.size, cb, l, wt⟩ : Prt)]).length = i + 1 := by rw [List.length_append, HPL.out]; rfl
      have hend : V.alloc O = V.alloc (.cells #[.pointer (some ⟨cb, 0, none⟩), .int .i64 wt, .int .i64 q] 101) := by rw [hO]
      rw [← hend]
      clear hTV hx hVT hVr hrow6 hw6 hend hO hV
      generalize V.alloc O = Z at HNEW HBB hp9 ⊢
      go_wp2
      go_roundw
      case rel => exact ⟨i + 1, _, by go_num, by omega, hpl2, HNEW.out, HBB.out⟩
      case measure => simp [intOf]; omega
    · have hmi : ¬ (i : Int) < (n : Int) := by omega
      have hin2 : n = i := by omega
      subst hin2
      go_wp2
      go_ret
      exact ⟨g, rfl, Nat.le_of_eq HGE.out.symm, ps, HPL.out, HBG.out, HBWR.out⟩
end Go.Proofs.YtpinpnbhbngclaaGreat

/- Is a query right. -/
namespace Go.Proofs.YtpinpnbhbngclaaGreat
open Go.RowKit

/-- a query in memory, right or not: of each part the list's object (none: nil) and its weight -/
def QN (w : World) (A : Option Addr) (n : Nat) (rs : List (Option Nat × Int)) : Prop :=
  rs.length = n ∧ ∀ k (h : k < rs.length), ∃ b o, A = some ⟨b, o, none⟩ ∧ b < w.heap.size ∧ w.cell? ⟨b, o + k * 2, none⟩ = some (.pointer (rs[k].1.map fun p => ⟨p, 0, none⟩)) ∧ w.cell? ⟨b, o + k * 2 + 1, none⟩ = some (.int .i64 rs[k].2)
theorem QN.later {w w' : World} {A : Option Addr} {n : Nat} {rs : List (Option Nat × Int)} (h : QN w A n rs) (hb : Below w.heap.size w w') : QN w' A n rs :=
  ⟨h.1, fun k hk => by
    obtain ⟨b, o, e, hl, h0, h1⟩ := h.2 k hk
    exact ⟨b, o, e, Nat.lt_of_lt_of_le hl hb.size, (hb.cell (p := ⟨b, o + k * 2, none⟩) hl).trans h0, (hb.cell (p := ⟨b, o + k * 2 + 1, none⟩) hl).trans h1⟩⟩
theorem QAt.qn {w : World} {A : Option Addr} {n : Nat} {qs : List (Nat × List (Int × Int) × Int)} (h : QAt w A n qs) : QN w A n (qs.map fun x => (some x.1, x.2.2)) :=
  ⟨by rw [List.length_map]; exact h.1, fun k hk => by
    rw [List.length_map] at hk
    obtain ⟨b, o, e, hl, h0, h1, _⟩ := h.2 k hk
    exact ⟨b, o, e, hl, by rw [h0]; simp, by rw [h1]; simp⟩⟩
/-- are the parts right -/
def partsB : List (Option Nat × Int) → Bool
  | [] => true
  | x :: xs => x.1.isSome && decide (1 ≤ x.2) && decide (x.2 ≤ 65535) && partsB xs
theorem partsB_next {l : List (Option Nat × Int)} {k : Nat} (h : k < l.length) : partsB (l.drop k) = (l[k].1.isSome && decide (1 ≤ l[k].2) && decide (l[k].2 ≤ 65535) && partsB (l.drop (k + 1))) := by
  rw [List.drop_eq_getElem_cons h]
  rfl
def trightB (n : Nat) (k : Int) (rs : List (Option Nat × Int)) : Bool := decide (n ≤ 64) && decide (1 ≤ k) && decide (k ≤ 1000) && partsB rs
set_option maxHeartbeats 2000000 in
set_option maxRecDepth 100000 in
theorem tright_any (A : Option Addr) (n cp : Nat) (k : Int) (rs : List (Option Nat × Int)) (w : World) (h : QN w A n rs) (hk1 : -9223372036854775808 ≤ k) (hk2 : k ≤ 9223372036854775807) (hn : n ≤ 1000000) :
    Calls Tryz.prog 13 #[.slice A n cp, .int .i64 k] w fun e w' => e = .returned (.bool (trightB n k rs)) ∧ Below w.heap.size w w' := by
  have H := Lib.hid h
  have HL := Lib.hid h.1
  clear h
  go_enter Tryz.func13, Tryz.ntmps13
  by_cases a1 : 64 < n
  · have e1 : decide ((64 : Int) < (n : Int)) = true := decide_eq_true (by omega)
    have HF : Hid (trightB n k rs = false) := Lib.hid (by unfold trightB; rw [decide_eq_false (show ¬ n ≤ 64 by omega)]; rfl)
    go_wp2
    go_ret
    exact ⟨by rw [HF.out]; rfl, Below.refl _ _⟩
  have e1 : decide ((64 : Int) < (n : Int)) = false := decide_eq_false (by omega)
  by_cases a2 : k < 1
  · have e2 : decide (k < (1 : Int)) = true := decide_eq_true a2
    have HF : Hid (trightB n k rs = false) := Lib.hid (by unfold trightB; rw [decide_eq_false (show ¬ 1 ≤ k by omega)]; simp)
    go_wp2
    go_ret
    exact ⟨by rw [HF.out]; rfl, Below.refl _ _⟩
  have e2 : decide (k < (1 : Int)) = false := decide_eq_false a2
  by_cases a3 : 1000 < k
  · have e3 : decide ((1000 : Int) < k) = true := decide_eq_true a3
    have HF : Hid (trightB n k rs = false) := Lib.hid (by unfold trightB; rw [decide_eq_false (show ¬ k ≤ 1000 by omega)]; simp)
    go_wp2
    go_ret
    exact ⟨by rw [HF.out]; rfl, Below.refl _ _⟩
  have e3 : decide ((1000 : Int) < k) = false := decide_eq_false a3
  have HT : Hid (trightB n k rs = partsB rs) := Lib.hid (by unfold trightB; rw [decide_eq_true (show n ≤ 64 by omega), decide_eq_true (show 1 ≤ k by omega), decide_eq_true (show k ≤ 1000 by omega)]; rfl)
  go_wp2
  go_loopw [20] (fun x wr => ∃ (i : Nat), x = .int .i64 i ∧ i ≤ n ∧ partsB rs = partsB (rs.drop i) ∧ Below w.heap.size w wr) (fun x _ => n - (intOf x).toNat)
  case atStart => exact ⟨0, rfl, by omega, rfl, Below.refl _ _⟩
  case round =>
    obtain ⟨i, rfl, hin, hpb, hb⟩ := hrel
    by_cases hlt : i < n
    · have hmi : (i : Int) < (n : Int) := by omega
      have hil : i < rs.length := by rw [HL.out]; exact hlt
      obtain ⟨b, o, rfl, hbl, hc0, hc1⟩ := (H.out.later hb).2 i hil
      rw [partsB_next hil] at hpb
      obtain ⟨⟨p, wt⟩, hx⟩ : ∃ x, x = rs[i] := ⟨_, rfl⟩
      rw [← hx] at hc0 hc1 hpb
      simp only at hc0 hc1 hpb
      have HPB := Lib.hid hpb
      have HB := Lib.hid hb
      clear hx hpb hb
      cases p with
      | none =>
        simp only [Option.map_none] at hc0
        have HF : Hid (partsB rs = false) := Lib.hid (by rw [HPB.out]; rfl)
        go_wp2
        go_ret
        exact ⟨by rw [HT.out, HF.out]; rfl, HB.out.trans ((pl1 _ _).mono HB.out.size)⟩
      | some p =>
        simp only [Option.map_some] at hc0
        by_cases h1 : wt < 1
        · have d1 : decide (wt < (1 : Int)) = true := decide_eq_true h1
          have HF : Hid (partsB rs = false) := Lib.hid (by rw [HPB.out, decide_eq_false (show ¬ 1 ≤ wt by omega)]; simp)
          go_wp2
          go_ret
          exact ⟨by rw [HT.out, HF.out]; rfl, HB.out.trans ((pl1 _ _).mono HB.out.size)⟩
        · have d1 : decide (wt < (1 : Int)) = false := decide_eq_false h1
          by_cases h2 : 65535 < wt
          · have d2 : decide ((65535 : Int) < wt) = true := decide_eq_true h2
            have HF : Hid (partsB rs = false) := Lib.hid (by rw [HPB.out, decide_eq_false (show ¬ wt ≤ 65535 by omega)]; simp)
            go_wp2
            go_ret
            exact ⟨by rw [HT.out, HF.out]; rfl, HB.out.trans ((pl1 _ _).mono HB.out.size)⟩
          · have d2 : decide ((65535 : Int) < wt) = false := decide_eq_false h2
            have HF : Hid (partsB rs = partsB (rs.drop (i + 1))) := Lib.hid (by rw [HPB.out, decide_eq_true (show 1 ≤ wt by omega), decide_eq_true (show wt ≤ 65535 by omega)]; rfl)
            go_wp2
            go_roundw
            case rel => exact ⟨i + 1, by go_num, by omega, HF.out, HB.out.trans ((pl1 _ _).mono HB.out.size)⟩
            case measure => simp [intOf]; omega
    · have hmi : ¬ (i : Int) < (n : Int) := by omega
      obtain rfl : i = n := by omega
      have HF : Hid (partsB rs = true) := Lib.hid (by rw [hpb, List.drop_of_length_le (by rw [HL.out]; exact Nat.le_refl _)]; rfl)
      clear hpb
      go_wp2
      go_ret
      exact ⟨by rw [HT.out, HF.out]; rfl, hb⟩
end Go.Proofs.YtpinpnbhbngclaaGreat

/- A search, begun. -/
namespace Go.Proofs.YtpinpnbhbngclaaGreat
open Go.RowKit

theorem not_nil6 (w : World) (f : Fn) (a c : Array Value) : (binOp .eql 37 (.func f a c) .nilFunc).run Tryz.prog w = .ok (.bool false) w := run_eql_func_nil w _ f a c Tryz.underlying37
theorem Beg.good {w1 wr : World} {g n : Nat} {qs : List (Nat × List (Int × Int) × Int)} {ps : List Prt} (h : Beg w1 wr g n qs ps) (hl : ps.length = qs.length) (hg : ∀ x ∈ qs, GoodQ x) : ∀ x ∈ ps, GoodP x := by
  intro x hx
  obtain ⟨j, hj, rfl⟩ := List.mem_iff_getElem.1 hx
  have h2 : j < qs.length := by omega
  obtain ⟨e1, e2⟩ := h.is_ j hj h2
  have q := hg _ (List.getElem_mem h2)
  exact ⟨by rw [e1]; exact q.right, by rw [e1]; exact q.len, by rw [e2]; exact q.w1, by rw [e2]; exact q.w2⟩
theorem Beg.row2 {w1 wr : World} {g n : Nat} {qs : List (Nat × List (Int × Int) × Int)} {ps : List Prt} (h : Beg w1 wr g n qs ps) (hl : ps.length = n) : PRow2 w1 wr g n ps :=
  ⟨hl, ⟨(Array.getElem?_eq_some_iff.1 h.row).1, fun t ht => by
    have htp : t < ps.length := by omega
    refine ⟨?_, frozen_of_cells (i := t) h.row⟩
    rw [cell_of_cells (i := t) h.row (rowC_get ht)]
    simp [List.getElem?_eq_getElem htp]⟩, h.new, fun x hx => by have := h.far x hx; omega⟩
theorem atD_zero {x : Prt} (h : GoodP x) : AtD x 0 0 := ⟨Nat.zero_le _, fun k hk => by omega, fun h0 => (h.at_ h0).1⟩
set_option maxHeartbeats 4000000 in
set_option maxRecDepth 100000 in
theorem newsearch6_any {A : Option Addr} {n cp k sc c0 : Nat} {f : Fn} {a c : Array Value} {qs : List (Nat × List (Int × Int) × Int)} (w1 w : World) (h : QAt w1 A n qs) (hb : Below w1.heap.size w1 w) (hg : ∀ x ∈ qs, GoodQ x) (hn : n ≤ 64) (hk : k ≤ 1000) (hc : w.heap[sc]? = some (.cells #[.int .i64 (c0 : Int)] 49 (0, 0))) (hsc : w1.heap.size ≤ sc) :
    Calls Tryz.prog 30 #[.slice A n cp, .int .i64 k, .func f a c, .pointer (some ⟨sc, 0, none⟩)] w fun e w' => ∃ s g tb ps, e = .returned (.pointer (some ⟨s, 0, none⟩)) ∧ SS w1 w w' s g n n (.func f a c) tb sc k ps [] c0 ∧ (∀ x ∈ ps, AtD x (atM w' x.c) 0) ∧ ps.map (fun x => (x.l, x.wt)) = qs.map (fun x => x.2) ∧ Below w.heap.size w w' := by
  have hlen := h.1
  have hscw := (Array.getElem?_eq_some_iff.1 hc).1
  have HP := Lib.hid (fun W (hW : Below w1.heap.size w1 W) => partsof_any (cp := cp) w1 W h hW hg hn)
  have hnw := fun W => new_any k W (by omega)
  rw [Int.toNat_natCast] at hnw
  have HN := Lib.hid hnw
  have HNIL := Lib.hid (fun W => not_nil6 W f a c)
  have hnil := fun W => not_nil6 W f a c
  have HB := Lib.hid hb
  have HC := Lib.hid hc
  have HG := Lib.hid hg
  clear h hb hg hnw hc
  go_enter Tryz.func30, Tryz.ntmps30
  go_wp2_with fail
  refine (HP.out w HB.out).mono ?_
  rintro e w2 ⟨g, ps, rfl, hgw, hpl, hbeg, hb2⟩
  have HBEG := Lib.hid hbeg
  have HB2 := Lib.hid hb2
  clear hbeg hb2
  go_wp2_with fail
  refine (HN.out w2).mono ?_
  rintro e w3 ⟨rfl, htop, hb3⟩
  have HTOP := Lib.hid htop
  have HB3 := Lib.hid hb3
  have htl := htop.lt
  clear htop hb3
  go_wp2
  go_ret
  have hbx := HB3.out.trans ((pl1 w3 (.cells #[.slice (some ⟨g, 0, none⟩) n n, .func f a c, .pointer (some ⟨w2.heap.size, 0, none⟩), .pointer (some ⟨sc, 0, none⟩)] 80)).mono HB3.out.size)
  have hby := HB2.out.trans (hbx.mono HB2.out.size)
  have hgl := (Array.getElem?_eq_some_iff.1 HBEG.out.row).1
  have hr := HBEG.out.row2 hpl
  have hgood := HBEG.out.good (by rw [hpl, hlen]) HG.out
  refine ⟨_, g, _, ps, rfl, ⟨heap_alloc_new w3 _, ⟨hr.len, hr.row.below hbx, hr.new, hr.far⟩, fun x hx => ((HBEG.out.pts x hx).below hbx).canon, hgood, HBEG.out.nod.imp (fun h => Nat.ne_of_lt h), ⟨_, [], HTOP.out.later (pl1 _ _), TopM.bnd_nil k⟩, blk_stay hby HC.out, hsc, by omega, fun x hx => by have := HBEG.out.far x hx; omega, htl, hgl, hgw, HB.out.trans (hby.mono HB.out.size), Turned.of_below hby⟩, fun x hx => ?_, ?_, hby⟩
  · rw [((HBEG.out.pts x hx).below hbx).at_is]
    exact atD_zero (hgood x hx)
  · apply List.ext_getElem (by simp [hpl, hlen])
    intro j h1 h2
    simp only [List.getElem_map]
    rw [List.length_map] at h1 h2
    obtain ⟨e1, e2⟩ := HBEG.out.is_ j h1 h2
    rw [e1, e2]
end Go.Proofs.YtpinpnbhbngclaaGreat

/- The four ways, by number. -/
namespace Go.Proofs.YtpinpnbhbngclaaGreat
open Go.RowKit

/-- the four ways, as they are answered -/
def wayV (s b : Nat) : Value := .agg #[.func (.func 43) #[.pointer (some ⟨s, 0, none⟩)] #[], .func (.func 44) #[.pointer (some ⟨s, 0, none⟩)] #[], .func (.func 45) #[] #[.pointer (some ⟨b, 0, none⟩)], .func (.func 48) #[] #[.pointer (some ⟨b, 0, none⟩)]]
set_option maxHeartbeats 2000000 in
set_option maxRecDepth 100000 in
theorem ways_any (s : Nat) (w : World) :
    Calls Tryz.prog 31 #[.pointer (some ⟨s, 0, none⟩)] w fun e w' => ∃ b, e = .returned (wayV s b) ∧ w'.cell? ⟨b, 0, none⟩ = some (.pointer (some ⟨s, 0, none⟩)) ∧ Below w.heap.size w w' := by
  go_enter Tryz.func31, Tryz.ntmps31
  go_wp2
  refine bodyPost_ret (v := wayV s w.heap.size) ?_ rfl ⟨_, rfl, ?_, (pl1 _ _).trans ((pl1 _ _).mono (pl1 _ _).size)⟩
  · have h0 := heap_alloc_new (w.alloc (.cells #[.pointer (some ⟨s, 0, none⟩)] 71)) (.cells #[.func (.func 43) #[.pointer (some ⟨s, 0, none⟩)] #[], .func (.func 44) #[.pointer (some ⟨s, 0, none⟩)] #[], .func (.func 45) #[] #[.pointer (some ⟨w.heap.size, 0, none⟩)], .func (.func 48) #[] #[.pointer (some ⟨w.heap.size, 0, none⟩)]] 74)
    simp [results, Tryz.results31, go_sem, wayV]
  · have h0 := cell_of_cells (i := 0) (blk_stay (pl1 _ (.cells #[.func (.func 43) #[.pointer (some ⟨s, 0, none⟩)] #[], .func (.func 44) #[.pointer (some ⟨s, 0, none⟩)] #[], .func (.func 45) #[] #[.pointer (some ⟨w.heap.size, 0, none⟩)], .func (.func 48) #[] #[.pointer (some ⟨w.heap.size, 0, none⟩)]] 74)) (heap_alloc_new w (.cells #[.pointer (some ⟨s, 0, none⟩)] 71))) rfl
    exact h0
set_option maxHeartbeats 2000000 in
set_option maxRecDepth 100000 in
theorem way3_any {w1 W0 W : World} {s g n b : Nat} {mayv : Value} {tb sc k : Nat} {ps : List Prt} {c0 : Nat} {may : Int → Bool} (h : SS w1 W0 W s g n n mayv tb sc k ps [] c0) (hn : n ≤ 64) (hk : 0 < k) (hc0 : c0 ≤ 500000) (hdl : (docsQ ps).length ≤ 100000) (hA : ∀ x ∈ ps, AtD x (atM W x.c) 0) (hm : MayC W0 sc mayv may) (hb : W.cell? ⟨b, 0, none⟩ = some (.pointer (some ⟨s, 0, none⟩))) :
    Calls Tryz.prog 45 #[.pointer (some ⟨b, 0, none⟩)] W fun e w' => e = .returned (.tuple #[]) ∧ WayEnd w1 W0 s g n n mayv tb sc k ps may c0 w' := by
  have HS := Lib.hid (spivots_any 47 (fun _ _ => by go_simp) h hn hk hc0 hdl hA hm (from_pivot hn))
  clear h hA hm
  go_enter Tryz.func45, Tryz.ntmps45
  go_wp2_with fail
  refine HS.out.mono ?_
  rintro e w' ⟨rfl, he⟩
  go_wp2
  go_end0
  exact ⟨rfl, he⟩
set_option maxHeartbeats 2000000 in
set_option maxRecDepth 100000 in
theorem way4_any {w1 W0 W : World} {s g n b : Nat} {mayv : Value} {tb sc k : Nat} {ps : List Prt} {c0 : Nat} {may : Int → Bool} (h : SS w1 W0 W s g n n mayv tb sc k ps [] c0) (hn : n ≤ 64) (hk : 0 < k) (hc0 : c0 ≤ 500000) (hdl : (docsQ ps).length ≤ 100000) (hA : ∀ x ∈ ps, AtD x (atM W x.c) 0) (hm : MayC W0 sc mayv may) (hb : W.cell? ⟨b, 0, none⟩ = some (.pointer (some ⟨s, 0, none⟩))) :
    Calls Tryz.prog 48 #[.pointer (some ⟨b, 0, none⟩)] W fun e w' => e = .returned (.tuple #[]) ∧ WayEnd w1 W0 s g n n mayv tb sc k ps may c0 w' := by
  have HS := Lib.hid (spivots_any 49 (fun _ _ => by go_simp) h hn hk hc0 hdl hA hm (from_blocks hn hk))
  clear h hA hm
  go_enter Tryz.func48, Tryz.ntmps48
  go_wp2_with fail
  refine HS.out.mono ?_
  rintro e w' ⟨rfl, he⟩
  go_wp2
  go_end0
  exact ⟨rfl, he⟩
end Go.Proofs.YtpinpnbhbngclaaGreat

/- slices.SortFunc at documents with scores, laid at this program: the table of numbers, and each body held against the library's. -/
namespace Go.Proofs.YtpinpnbhbngclaaGreat
open Go.Shelf
def sortL_ren : Go.Shelf.Ren := ⟨fun | 6 => 51 | 15 => 77 | 14 => 76 | 28 => 96 | 29 => 97 | 20 => 88 | 21 => 89 | 22 => 90 | 23 => 91 | 24 => 92 | 25 => 93 | 26 => 94 | 27 => 95 | 46 => 105 | 47 => 106 | 48 => 107 | 49 => 108 | 50 => 109 | 57 => 112 | n => n, fun | 22 => 30 | 24 => 54 | 25 => 95 | 3 => 3 | 39 => 123 | 0 => 0 | 53 => 143 | 55 => 145 | 4 => 4 | 46 => 136 | 45 => 135 | 50 => 140 | 5 => 5 | 9 => 9 | 66 => 150 | 70 => 154 | 76 => 156 | 77 => 119 | n => n, fun | n => n⟩
theorem sortL : Go.Proofs.SlLaysF0.n6 Tryz.prog sortL_ren := {
  mixed := by kernel_rfl
  f6 := ⟨Tryz.f51.name, by decide, Tryz.func51.trans (congrArg some (by kernel_rfl))⟩
  f14 := ⟨Tryz.f76.name, by decide, Tryz.func76.trans (congrArg some (by kernel_rfl))⟩
  f15 := Tryz.func77.trans (congrArg some (by kernel_rfl))
  f20 := ⟨Tryz.f88.name, by decide, Tryz.func88.trans (congrArg some (by kernel_rfl))⟩
  f21 := ⟨Tryz.f89.name, by decide, Tryz.func89.trans (congrArg some (by kernel_rfl))⟩
  f22 := ⟨Tryz.f90.name, by decide, Tryz.func90.trans (congrArg some (by kernel_rfl))⟩
  f23 := ⟨Tryz.f91.name, by decide, Tryz.func91.trans (congrArg some (by kernel_rfl))⟩
  f24 := ⟨Tryz.f92.name, by decide, Tryz.func92.trans (congrArg some (by kernel_rfl))⟩
  f25 := ⟨Tryz.f93.name, by decide, Tryz.func93.trans (congrArg some (by kernel_rfl))⟩
  f26 := ⟨Tryz.f94.name, by decide, Tryz.func94.trans (congrArg some (by kernel_rfl))⟩
  f27 := ⟨Tryz.f95.name, by decide, Tryz.func95.trans (congrArg some (by kernel_rfl))⟩
  f28 := Tryz.func96.trans (congrArg some (by kernel_rfl))
  f29 := Tryz.func97.trans (congrArg some (by kernel_rfl))
  f46 := ⟨Tryz.f105.name, by decide, Tryz.func105.trans (congrArg some (by kernel_rfl))⟩
  f47 := Tryz.func106.trans (congrArg some (by kernel_rfl))
  f48 := Tryz.func107.trans (congrArg some (by kernel_rfl))
  f49 := ⟨Tryz.f108.name, by decide, Tryz.func108.trans (congrArg some (by kernel_rfl))⟩
  f50 := ⟨Tryz.f109.name, by decide, Tryz.func109.trans (congrArg some (by kernel_rfl))⟩
  f57 := ⟨Tryz.f112.name, by decide, Tryz.func112.trans (congrArg some (by kernel_rfl))⟩
  t0 := Tryz.underlying0
  a0 := Tryz.isAgg0
  z0 := Tryz.sizeOf0
  v0 := Tryz.zeroValue0
  t3 := Tryz.underlying3
  a3 := Tryz.isAgg3
  z3 := Tryz.sizeOf3
  v3 := Tryz.zeroValue3
  t4 := Tryz.underlying4
  a4 := Tryz.isAgg4
  z4 := Tryz.sizeOf4
  v4 := Tryz.zeroValue4
  t5 := Tryz.underlying5
  a5 := Tryz.isAgg5
  z5 := Tryz.sizeOf5
  v5 := Tryz.zeroValue5
  t9 := Tryz.underlying9
  a9 := Tryz.isAgg9
  z9 := Tryz.sizeOf9
  v9 := Tryz.zeroValue9
  t22 := Tryz.underlying30
  a22 := Tryz.isAgg30
  z22 := Tryz.sizeOf30
  v22 := Tryz.zeroValue30
  t25 := Tryz.underlying95
  a25 := Tryz.isAgg95
  z25 := Tryz.sizeOf95
  v25 := Tryz.zeroValue95
  t39 := Tryz.underlying123
  a39 := Tryz.isAgg123
  z39 := Tryz.sizeOf123
  v39 := Tryz.zeroValue123
  t45 := Tryz.underlying135
  a45 := Tryz.isAgg135
  z45 := Tryz.sizeOf135
  v45 := Tryz.zeroValue135
  t46 := Tryz.underlying136
  a46 := Tryz.isAgg136
  z46 := Tryz.sizeOf136
  v46 := Tryz.zeroValue136
  t50 := Tryz.underlying140
  a50 := Tryz.isAgg140
  z50 := Tryz.sizeOf140
  v50 := Tryz.zeroValue140
  t53 := Tryz.underlying143
  a53 := Tryz.isAgg143
  z53 := Tryz.sizeOf143
  v53 := Tryz.zeroValue143
  t55 := Tryz.underlying145
  a55 := Tryz.isAgg145
  z55 := Tryz.sizeOf145
  v55 := Tryz.zeroValue145
  t66 := Tryz.underlying150
  a66 := Tryz.isAgg150
  z66 := Tryz.sizeOf150
  v66 := Tryz.zeroValue150
  t70 := Tryz.underlying154
  a70 := Tryz.isAgg154
  z70 := Tryz.sizeOf154
  v70 := Tryz.zeroValue154
  t76 := Tryz.underlying156
  a76 := Tryz.isAgg156
  z76 := Tryz.sizeOf156
  v76 := Tryz.zeroValue156
  t77 := Tryz.underlying119
  a77 := Tryz.isAgg119
  z77 := Tryz.sizeOf119
  v77 := Tryz.zeroValue119 }
end Go.Proofs.YtpinpnbhbngclaaGreat

/- The list of a bound: a copy, put in order by a closure. -/
namespace Go.Proofs.YtpinpnbhbngclaaGreat
open Go.RowKit Go.Sort

theorem PairRow.prd {w : World} {base : Nat} {v : Value} {l : List (Int × Int)} (h : PairRow w base v l) : Prd w v l := by
  obtain ⟨A, cap, rfl, hc, hA⟩ := h.form
  obtain ⟨A', cap', e, hp⟩ := h.pairs
  injection e with e1 e2 e3
  subst e1
  exact ⟨A, cap, rfl, hc, hA, hp⟩

/-- the world has grown by draws and blocks alone -/
def Gr (w w' : World) : Prop := ∃ q os, w' = grow (w.drewN q) os
theorem keep2 {w : World} {o1 o2 : Obj} {b i : Nat} {u : Value} (hc : w.cell? ⟨b, i, none⟩ = some u) : ((w.alloc o1).alloc o2).cell? ⟨b, i, none⟩ = some u :=
  (((Below.refl w.heap.size w).alloc (Nat.le_refl _) o1).alloc (by simp) o2).cell (p := ⟨b, i, none⟩) (World.block_lt_of_cell? w _ hc) |>.trans hc
theorem Gr.refl (w : World) : Gr w w := ⟨0, #[], by simp [World.drewN_zero]⟩
theorem Gr.alloc {w w' : World} (h : Gr w w') (o : Obj) : Gr w (w'.alloc o) := by
  obtain ⟨q, os, rfl⟩ := h
  exact ⟨q, os ++ #[o], by rw [alloc_eq_grow, grow_grow]⟩
theorem Gr.drew {w w' : World} (h : Gr w w') : Gr w w'.drew := by
  obtain ⟨q, os, rfl⟩ := h
  exact ⟨q + 1, os, rfl⟩

/-- below 0, 0 or above 0 as the closure tells -/
def cmpP (a b : Int × Int) : Int := if TopM.bet a b = true then -1 else if TopM.bet b a = true then 1 else 0
theorem lt_cmpP (a b : Int × Int) : ltOf cmpP a b = TopM.bet a b := by
  unfold ltOf cmpP
  cases h1 : TopM.bet a b with
  | true => simp
  | false =>
    cases h2 : TopM.bet b a <;> simp
theorem swo_cmpP : SWO (ltOf cmpP) where
  irrefl x := by rw [lt_cmpP]; exact TopM.irr x
  trans x y z h1 h2 := by rw [lt_cmpP] at *; exact TopM.tr h1 h2
  ntrans x y z h1 h2 := by rw [lt_cmpP] at *; exact TopM.ntr h1 h2

set_option maxHeartbeats 4000000 in
set_option maxRecDepth 100000 in
theorem closure_any (a b : Int × Int) (x t : Nat) (w : World) (c0 : w.cell? ⟨x, 0, none⟩ = some (.pointer (some ⟨t, 0, none⟩))) (c1 : w.cell? ⟨t, 1, none⟩ = some (.func (.func 42) #[] #[])) :
    Calls Tryz.prog 52 #[sv a, sv b, .pointer (some ⟨x, 0, none⟩)] w fun e w' => e = .returned (.int .i64 (cmpP a b)) ∧ Gr w w' := by
  have hx := World.block_lt_of_cell? w _ c0
  have ht := World.block_lt_of_cell? w _ c1
  simp only at hx ht
  obtain ⟨a1, a2⟩ := a
  obtain ⟨b1, b2⟩ := b
  have h1 := fun W => better_any (a1, a2) (b1, b2) W
  have h2 := fun W => better_any (b1, b2) (a1, a2) W
  unfold sv at *
  have gW : Gr w ((w.alloc (.cells #[.int .i64 a1, .int .i64 a2] 54)).alloc (.cells #[.int .i64 b1, .int .i64 b2] 54)) := ((Gr.refl w).alloc _).alloc _
  have k0 : ((w.alloc (.cells #[.int .i64 a1, .int .i64 a2] 54)).alloc (.cells #[.int .i64 b1, .int .i64 b2] 54)).cell? ⟨x, 0, none⟩ = some (.pointer (some ⟨t, 0, none⟩)) := keep2 c0
  have k1 : ((w.alloc (.cells #[.int .i64 a1, .int .i64 a2] 54)).alloc (.cells #[.int .i64 b1, .int .i64 b2] 54)).cell? ⟨t, 1, none⟩ = some (.func (.func 42) #[] #[]) := keep2 c1
  have za0 : ((w.alloc (.cells #[.int .i64 a1, .int .i64 a2] 54)).alloc (.cells #[.int .i64 b1, .int .i64 b2] 54)).cell? ⟨w.heap.size, 0, none⟩ = some (.int .i64 a1) := by go_simp
  have za1 : ((w.alloc (.cells #[.int .i64 a1, .int .i64 a2] 54)).alloc (.cells #[.int .i64 b1, .int .i64 b2] 54)).cell? ⟨w.heap.size, 1, none⟩ = some (.int .i64 a2) := by go_simp
  have zb0 : ((w.alloc (.cells #[.int .i64 a1, .int .i64 a2] 54)).alloc (.cells #[.int .i64 b1, .int .i64 b2] 54)).cell? ⟨w.heap.size + 1, 0, none⟩ = some (.int .i64 b1) := by go_simp
  have zb1 : ((w.alloc (.cells #[.int .i64 a1, .int .i64 a2] 54)).alloc (.cells #[.int .i64 b1, .int .i64 b2] 54)).cell? ⟨w.heap.size + 1, 1, none⟩ = some (.int .i64 b2) := by go_simp
  cases hb1 : TopM.bet (a1, a2) (b1, b2) with
  | true =>
    have hc : cmpP (a1, a2) (b1, b2) = -1 := by unfold cmpP; rw [if_pos hb1]
    rw [hc]
    rw [hb1] at h1
    have H1 := Lib.hid h1
    clear h1 h2 hc hb1
    go_enter Tryz.func52, Tryz.ntmps52
    go_wp2
    generalize ((w.alloc (.cells #[.int .i64 a1, .int .i64 a2] 54)).alloc (.cells #[.int .i64 b1, .int .i64 b2] 54)) = W at gW k0 k1 za0 za1 zb0 zb1 ⊢
    go_still_tail 6, (by kernel_rfl)
    change wpList _ _ _ _ _ W.drew
    go_wp2_with fail
    refine (H1.out _).mono ?_
    rintro e w3 ⟨rfl, o1, o2, rfl⟩
    go_wp2
    go_ret
    exact ⟨rfl, (gW.drew.alloc _).alloc _⟩
  | false =>
    rw [hb1] at h1
    have H1 := Lib.hid h1
    cases hb2 : TopM.bet (b1, b2) (a1, a2) with
    | true =>
      have hc : cmpP (a1, a2) (b1, b2) = 1 := by unfold cmpP; rw [if_neg (by rw [hb1]; decide), if_pos hb2]
      rw [hc]
      rw [hb2] at h2
      have H2 := Lib.hid h2
      clear h1 h2 hc hb1 hb2
      go_enter Tryz.func52, Tryz.ntmps52
      go_wp2
      generalize ((w.alloc (.cells #[.int .i64 a1, .int .i64 a2] 54)).alloc (.cells #[.int .i64 b1, .int .i64 b2] 54)) = W at gW k0 k1 za0 za1 zb0 zb1 ⊢
      go_still_tail 6, (by kernel_rfl)
      change wpList _ _ _ _ _ W.drew
      go_wp2_with fail
      refine (H1.out _).mono ?_
      rintro e w3 ⟨rfl, o1, o2, rfl⟩
      have gV : Gr w ((W.drew.alloc o1).alloc o2) := (gW.drew.alloc o1).alloc o2
      have j0 : ((W.drew.alloc o1).alloc o2).cell? ⟨x, 0, none⟩ = some (.pointer (some ⟨t, 0, none⟩)) := keep2 (w := W.drew) k0
      have j1 : ((W.drew.alloc o1).alloc o2).cell? ⟨t, 1, none⟩ = some (.func (.func 42) #[] #[]) := keep2 (w := W.drew) k1
      have ya0 : ((W.drew.alloc o1).alloc o2).cell? ⟨w.heap.size, 0, none⟩ = some (.int .i64 a1) := keep2 (w := W.drew) za0
      have ya1 : ((W.drew.alloc o1).alloc o2).cell? ⟨w.heap.size, 1, none⟩ = some (.int .i64 a2) := keep2 (w := W.drew) za1
      have yb0 : ((W.drew.alloc o1).alloc o2).cell? ⟨w.heap.size + 1, 0, none⟩ = some (.int .i64 b1) := keep2 (w := W.drew) zb0
      have yb1 : ((W.drew.alloc o1).alloc o2).cell? ⟨w.heap.size + 1, 1, none⟩ = some (.int .i64 b2) := keep2 (w := W.drew) zb1
      clear gW k0 k1 za0 za1 zb0 zb1
      generalize (W.drew.alloc o1).alloc o2 = V at gV j0 j1 ya0 ya1 yb0 yb1 ⊢
      go_wp2
      go_still_tail 6, (by kernel_rfl)
      change wpList _ _ _ _ _ V.drew
      go_wp2_with fail
      refine (H2.out _).mono ?_
      rintro e w3 ⟨rfl, o3, o4, rfl⟩
      go_wp2
      go_ret
      exact ⟨rfl, (gV.drew.alloc _).alloc _⟩
    | false =>
      have hc : cmpP (a1, a2) (b1, b2) = 0 := by unfold cmpP; rw [if_neg (by rw [hb1]; decide), if_neg (by rw [hb2]; decide)]
      rw [hc]
      rw [hb2] at h2
      have H2 := Lib.hid h2
      clear h1 h2 hc hb1 hb2
      go_enter Tryz.func52, Tryz.ntmps52
      go_wp2
      generalize ((w.alloc (.cells #[.int .i64 a1, .int .i64 a2] 54)).alloc (.cells #[.int .i64 b1, .int .i64 b2] 54)) = W at gW k0 k1 za0 za1 zb0 zb1 ⊢
      go_still_tail 6, (by kernel_rfl)
      change wpList _ _ _ _ _ W.drew
      go_wp2_with fail
      refine (H1.out _).mono ?_
      rintro e w3 ⟨rfl, o1, o2, rfl⟩
      have gV : Gr w ((W.drew.alloc o1).alloc o2) := (gW.drew.alloc o1).alloc o2
      have j0 : ((W.drew.alloc o1).alloc o2).cell? ⟨x, 0, none⟩ = some (.pointer (some ⟨t, 0, none⟩)) := keep2 (w := W.drew) k0
      have j1 : ((W.drew.alloc o1).alloc o2).cell? ⟨t, 1, none⟩ = some (.func (.func 42) #[] #[]) := keep2 (w := W.drew) k1
      have ya0 : ((W.drew.alloc o1).alloc o2).cell? ⟨w.heap.size, 0, none⟩ = some (.int .i64 a1) := keep2 (w := W.drew) za0
      have ya1 : ((W.drew.alloc o1).alloc o2).cell? ⟨w.heap.size, 1, none⟩ = some (.int .i64 a2) := keep2 (w := W.drew) za1
      have yb0 : ((W.drew.alloc o1).alloc o2).cell? ⟨w.heap.size + 1, 0, none⟩ = some (.int .i64 b1) := keep2 (w := W.drew) zb0
      have yb1 : ((W.drew.alloc o1).alloc o2).cell? ⟨w.heap.size + 1, 1, none⟩ = some (.int .i64 b2) := keep2 (w := W.drew) zb1
      clear gW k0 k1 za0 za1 zb0 zb1
      generalize (W.drew.alloc o1).alloc o2 = V at gV j0 j1 ya0 ya1 yb0 yb1 ⊢
      go_wp2
      go_still_tail 6, (by kernel_rfl)
      change wpList _ _ _ _ _ V.drew
      go_wp2_with fail
      refine (H2.out _).mono ?_
      rintro e w3 ⟨rfl, o3, o4, rfl⟩
      go_wp2
      go_ret
      exact ⟨rfl, (gV.drew.alloc _).alloc _⟩
end Go.Proofs.YtpinpnbhbngclaaGreat
