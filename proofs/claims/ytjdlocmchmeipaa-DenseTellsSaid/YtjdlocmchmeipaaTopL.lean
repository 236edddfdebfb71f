
/- The document's best k: by rising places. -/
import Derived.Test.YtjdlocmchmeipaaTopK
import Derived.Deep.DeepCutAuto
import Derived.Deep.CutBlock
import Derived.IntWalk
namespace Go.Proofs.Ytjdlocmchmeipaa
open Go.RowKit

/-- from k on x is better than each -/
def Bk (x : Int × Int) (l : List (Int × Int)) (k : Nat) : Prop := k ≤ l.length ∧ ∀ j, k ≤ j → ∀ h : j < l.length, TopM.bet x l[j] = true
/-- k is x's place -/
def Pl (x : Int × Int) (l : List (Int × Int)) (k : Nat) : Prop := Bk x l k ∧ ∀ j, k = j + 1 → ∀ h : j < l.length, TopM.bet x l[j] = false
theorem keepB {w w' : World} {B b i : Nat} {u : Value} (hb : Below B w w') (hc : w.cell? ⟨b, i, none⟩ = some u) (h : b < B) : w'.cell? ⟨b, i, none⟩ = some u := (hb.cell (p := ⟨b, i, none⟩) h).trans hc

theorem PairRow.form2 {w : World} {base : Nat} {v : Value} {l : List (Int × Int)} (h : PairRow w base v l) : (v = .slice none 0 0 ∧ l = []) ∨ ∃ g cap, v = .slice (some ⟨g, 0, none⟩) l.length cap ∧ l.length ≤ cap ∧ base ≤ g ∧ g < w.heap.size := by
  rcases h.2 with ⟨rfl, hn⟩ | ⟨g, cap, cur, rfl, hbg, hgg, hnc, rest⟩
  · exact .inl ⟨rfl, List.eq_nil_of_length_eq_zero hn⟩
  · exact .inr ⟨g, cap, rfl, by omega, hbg, (Array.getElem?_eq_some_iff.1 hgg).1⟩
theorem bel_a {U w : World} (h : Below U.heap.size U w) (o : Obj) : Below U.heap.size U (w.alloc o) := h.alloc h.size o
theorem bel_ad {U w : World} (h : Below U.heap.size U w) (o : Obj) : Below U.heap.size U (w.alloc o).drew := (h.alloc h.size o).drew
theorem sb_of {U w : World} {b o : Nat} {x1 x2 : Int} (c0 : U.cell? ⟨b, o, none⟩ = some (.int .i64 x1)) (c1 : U.cell? ⟨b, o + 1, none⟩ = some (.int .i64 x2)) (hb : b < U.heap.size) (h : Below U.heap.size U w) :
    w.cell? ⟨b, o, none⟩ = some (.int .i64 x1) ∧ w.cell? ⟨b, o + 1, none⟩ = some (.int .i64 x2) ∧ Below U.heap.size U w := ⟨keepB h c0 hb, keepB h c1 hb, h⟩
theorem row_new {U w : World} (h : Below U.heap.size U w) : PairRow (w.alloc (.cells #[] 54)) U.heap.size (.slice (some ⟨w.heap.size, 0, none⟩) 0 0) [] :=
  ⟨rfl, .inr ⟨w.heap.size, 0, #[], rfl, h.size, heap_alloc_new w _, Nat.le_refl _, by simp [maxLen], rfl, rfl⟩⟩
theorem row_newd {U w : World} (h : Below U.heap.size U w) : PairRow (w.alloc (.cells #[] 54)).drew U.heap.size (.slice (some ⟨w.heap.size, 0, none⟩) 0 0) [] := row_new h
theorem row_newd2 {U w : World} (h : Below U.heap.size U w) (o : Obj) : PairRow ((w.alloc (.cells #[] 54)).alloc o).drew U.heap.size (.slice (some ⟨w.heap.size, 0, none⟩) 0 0) [] := (row_new h).later ((Below.refl _ _).alloc (Nat.le_refl _) _).drew
theorem PairRow.wider {w : World} {base B : Nat} {v : Value} {l : List (Int × Int)} (h : PairRow w B v l) (hB : base ≤ B) : PairRow w base v l := by
  refine ⟨h.1, ?_⟩
  rcases h.2 with hn | ⟨g, cap, cur, e, hbg, rest⟩
  · exact .inl hn
  · exact .inr ⟨g, cap, cur, e, Nat.le_trans hB hbg, rest⟩
theorem PairRow.alloc {w : World} {base : Nat} {v : Value} {l : List (Int × Int)} (h : PairRow w base v l) (o : Obj) : PairRow (w.alloc o) base v l := h.later ((Below.refl _ _).alloc (Nat.le_refl _) _)
theorem pairs_new (w : World) (x1 x2 : Int) : Pairs (w.alloc (.cells #[.int .i64 x1, .int .i64 x2] 54)) (some ⟨w.heap.size, 0, none⟩) 1 [(x1, x2)] := by
  refine ⟨rfl, fun k hk => ⟨w.heap.size, 0, rfl, by simp, ?_⟩⟩
  have e : k = 0 := by simpa using hk
  subst e
  exact ⟨by go_simp, by go_simp⟩
theorem pairs_kept {w w' : World} {g o n : Nat} {l : List (Int × Int)} (h : Pairs w (some ⟨g, o, none⟩) n l) (hk : w'.heap[g]? = w.heap[g]?) (hs : w.heap.size ≤ w'.heap.size) : Pairs w' (some ⟨g, o, none⟩) n l :=
  ⟨h.1, fun k hk' => by
    obtain ⟨b, o', e, hb, c0, c1⟩ := h.2 k hk'
    injection e with e
    injection e with e1 e2 e3
    subst e1; subst e2
    exact ⟨g, o, rfl, by omega, (World.cell?_of_block (a := ⟨g, _, none⟩) hk).trans c0, (World.cell?_of_block (a := ⟨g, _, none⟩) hk).trans c1⟩⟩
theorem row_newd1 {U w : World} (h : Below U.heap.size U w) (o : Obj) : PairRow ((w.alloc o).alloc (.cells #[] 54)).drew U.heap.size (.slice (some ⟨w.heap.size + 1, 0, none⟩) 0 0) [] := by
  have := row_newd (bel_a h o)
  simpa using this
theorem pairs_new0 (w : World) (o : Obj) (x1 x2 : Int) : Pairs ((w.alloc (.cells #[.int .i64 x1, .int .i64 x2] 54)).alloc o).drew (some ⟨w.heap.size, 0, none⟩) 1 [(x1, x2)] := (pairs_new w x1 x2).later ((Below.refl _ _).alloc (Nat.le_refl _) _).drew
theorem pairs_new1 (w : World) (o : Obj) (x1 x2 : Int) : Pairs ((w.alloc o).alloc (.cells #[.int .i64 x1, .int .i64 x2] 54)).drew (some ⟨w.heap.size + 1, 0, none⟩) 1 [(x1, x2)] := by
  have : Pairs ((w.alloc o).alloc (.cells #[.int .i64 x1, .int .i64 x2] 54)).drew (some ⟨(w.alloc o).heap.size, 0, none⟩) 1 [(x1, x2)] := pairs_new (w.alloc o) x1 x2
  simpa using this
/-- append of what is read onto a row that is newer than U, as a step -/
theorem step_pairsB {U w : World} {ops : Array Oper} {o : Oper} {a : Act} {K : Act → World → Prop} {Q : Exit → Act → World → Prop} {E : Prop} (hU : Below U.heap.size U w) (hgd : o.guard = none) (s x : Operand)
    (ho : o.op = .call { callee := .builtin .append, args := #[s, x], argTypes := #[31, 31] })
    (v0 : Value) (l0 : List (Int × Int)) (hs : a.eval s = v0) (hown : PairRow w U.heap.size v0 l0)
    (A : Option Addr) (n cp : Nat) (l : List (Int × Int)) (hx : a.eval x = .slice A n cp) (hS : Pairs w A n l) (hA : A = none → cp = 0) (hn : l0.length + n ≤ 1000000000)
    (h : ∀ v' w', PairRow w' U.heap.size v' (l0 ++ l) → Below U.heap.size U w' → w.heap.size ≤ w'.heap.size → (∀ g, g < w.heap.size → some g ≠ v0.ownBlock → w'.heap[g]? = w.heap[g]?) → K (a.put o.dst v') w') :
    if Region.wanted o (yielded ops a.tmps) = true then Oper.wp Try.prog o a w K Q else E :=
  step_pairs hgd s x ho U.heap.size v0 l0 hs hown hU.size A n cp l hx hS hA hn fun v' w' h1 h2 => h v' w' h1 (hU.grown h2 hU.size fun k hk => (World.ownsRow.lt hown k hk).1) h2.size h2.block
set_option maxHeartbeats 8000000 in
set_option maxRecDepth 100000 in
theorem refbest_any (k : Int) (v : Value) (l : List (Int × Int)) (w : World) (h : Prd w v l) (hl : l.length ≤ 1000000) :
    Calls Try.prog 22 #[.int .i64 k, v] w fun e w' => ∃ v', e = .returned v' ∧ Prd w' v' (TopM.best k.toNat l) ∧ Below w.heap.size w w' ∧ ∀ b, v'.ownBlock = some b → w.heap.size ≤ b := by
  obtain ⟨A, cp, rfl, hcp, hA, hP⟩ := h
  obtain ⟨n, hn⟩ : ∃ n, n = l.length := ⟨_, rfl⟩
  rw [← hn] at hcp hP hl ⊢
  have HN := Lib.hid hn
  have HP := Lib.hid hP
  clear hn hP hA
  go_enter Try.func22, Try.ntmps22
  go_wp2
  go_loopw [5, 6] (fun y x wr => ∃ i : Nat, x = .int .i64 i ∧ i ≤ n ∧ PairRow wr w.heap.size y (TopM.srt (l.take i)) ∧ Below w.heap.size w wr) (fun _ x _ => n - (intOf x).toNat)
  case atStart => exact ⟨0, by go_num, Nat.zero_le _, by rw [List.take_zero, TopM.srt_nil]; exact PairRow.nil_ _ _, Below.refl _ _⟩
  case round =>
    obtain ⟨i, rfl, hi, row, bw⟩ := hrel
    have hsz := bw.size
    by_cases hlt : i < n
    · have hd : decide ((i : Int) < (n : Int)) = true := decide_eq_true (by omega)
      have hd2 : decide (i < n) = true := decide_eq_true hlt
      have hil : i < l.length := by rw [← HN.out]; exact hlt
      obtain ⟨ab, ao, rfl, habl, k0, k1⟩ := HP.out.2 i hil
      have a0 := keepB bw k0 habl
      have a1 := keepB bw k1 habl
      have habr : ab < wr.heap.size := by omega
      obtain ⟨⟨x1, x2⟩, hx⟩ : ∃ p, p = l[i] := ⟨_, rfl⟩
      rw [← hx] at a0 a1
      have htk : Hid (TopM.srt (l.take (i + 1)) = TopM.srt ((x1, x2) :: TopM.srt (l.take i))) := Lib.hid (by
        rw [take_more l i hil, ← hx]
        exact TopM.srt_congr ((List.perm_append_singleton _ _).trans ((TopM.srt_perm (l.take i)).symm.cons _)))
      have hss := Lib.hid (TopM.srt_srt (l.take i))
      have hsl := TopM.srt_len (l.take i)
      rw [List.length_take] at hsl
      obtain ⟨ls, hls⟩ : ∃ ls, ls = TopM.srt (l.take i) := ⟨_, rfl⟩
      rw [← hls] at row htk hss hsl
      have hi0 : (0 : Int) ≤ (i : Int) := by omega
      have hin : (i : Int) < (n : Int) := by omega
      have hm : ls.length = i := by rw [hsl, ← HN.out]; omega
      clear hx hls k0 k1 hsl
      obtain ⟨Ao, co, hvo, hco, hAo⟩ := row.form
      rw [hm] at hvo hco
      have HVO := Lib.hid hvo
      have hbet := fun y W => refbetter_any (x1, x2) y W
      unfold sv at hbet
      have HB := Lib.hid hbet
      subst hvo
      clear hbet
      go_upto_block 2 with fail
      go_cut [7] (fun x wx => ∃ a : Nat, x = .int .i64 a ∧ Pl (x1, x2) ls a ∧ Below wr.heap.size wr wx)
      case first =>
        go_wp2_with fail
        go_loopw [7] (fun x wx => ∃ a : Nat, x = .int .i64 a ∧ Bk (x1, x2) ls a ∧ Below wr.heap.size wr wx) (fun x _ => (intOf x).toNat)
        case atStart => exact ⟨i, rfl, ⟨by omega, fun j h1 h2 => by omega⟩, Below.refl _ _⟩
        case round =>
          obtain ⟨a, rfl, hbk, bx⟩ := hrel
          have hBK := Lib.hid hbk
          have hal : a ≤ i := by have := hbk.1; omega
          clear hbk
          by_cases ha0 : a = 0
          · subst ha0
            have hd3 : decide ((0 : Int) < ((0 : Nat) : Int)) = false := by simp
            have hd4 : decide (0 < 0) = false := by simp
            have hpl : Hid (Pl (x1, x2) ls 0) := Lib.hid ⟨hBK.out, fun j hj => by omega⟩
            go_wp2
            go_quiet (fail)
            go_wp2
            go_meet
            exact ⟨0, by go_num, hpl.out, bdrewN bx _⟩
          · obtain ⟨b, hb⟩ : ∃ b, a = b + 1 := ⟨a - 1, by omega⟩
            have hbe : (a : Int) - 1 = (b : Int) := by omega
            have hd3 : decide ((0 : Int) < (a : Int)) = true := decide_eq_true (by omega)
            have hd4 : decide (0 < a) = true := decide_eq_true (by omega)
            have hbl : b < ls.length := by omega
            obtain ⟨g, co2, hv2, _, hg, _, _, hcs⟩ := row.cells (by omega)
            obtain ⟨c0, c1⟩ := hcs b hbl
            injection hv2 with e1 e2 e3
            subst e1
            obtain ⟨⟨y1, y2⟩, hy⟩ : ∃ y, y = ls[b] := ⟨_, rfl⟩
            rw [← hy] at c0 c1
            have d0 := keepB bx c0 hg
            have d1 := keepB bx c1 hg
            have f0 := keepB bx a0 habr
            have f1 := keepB bx a1 habr
            have hgx := Nat.lt_of_lt_of_le hg bx.size
            have hax := Nat.lt_of_lt_of_le habr bx.size
            have hb0 : (0 : Int) ≤ (b : Int) := by omega
            have hbi : (b : Int) < (i : Int) := by omega
            have hwr : IntKind.i64.wrap ((a : Int) - 1) = (b : Int) := (IntWalk.i64_in _ (by omega)).trans hbe
            have hbet := fun W => HB.out (y1, y2) W
            obtain ⟨r, hr⟩ : ∃ r, TopM.bet (x1, x2) (y1, y2) = r := ⟨_, rfl⟩
            rw [hr] at hbet
            have HBT := Lib.hid hbet
            have HR := Lib.hid hr
            have HY := Lib.hid hy
            have HBB := Lib.hid hb
            clear hbet hr hy c0 c1 hcs a0 a1 e2 e3 hb hbe
            have hbn := fun o1 o2 => ((bx.alloc bx.size o1).alloc (Nat.le_trans bx.size (by simp)) o2).drew
            cases r with
            | true =>
              have hnx : Hid (Bk (x1, x2) ls b) := Lib.hid ⟨by omega, fun j h1 h2 => by
                by_cases e : j = b
                · subst e
                  have := HR.out
                  rw [HY.out] at this
                  exact this
                · exact hBK.out.2 j (by have := HBB.out; omega) h2⟩
              have hme : b < a := by have := HBB.out; omega
              go_wp2
              go_region_held3 (fun w' => w'.cell? ⟨ab, ao + i * 2, none⟩ = some (.int .i64 x1) ∧ w'.cell? ⟨ab, ao + i * 2 + 1, none⟩ = some (.int .i64 x2) ∧ w'.cell? ⟨g, b * 2, none⟩ = some (.int .i64 y1) ∧ w'.cell? ⟨g, b * 2 + 1, none⟩ = some (.int .i64 y2))
                (first
                  | exact ⟨keep2c f0 hax, keep2c f1 hax, keep2c d0 hgx, keep2c d1 hgx⟩
                  | go_keep)
                ((first | ((with_reducible refine (HBT.out _).mono ?_); rintro e w5 ⟨rfl, o1, o2, rfl⟩)))
              have bz := hbn o1 o2
              generalize ((wr.alloc o1).alloc o2).drew = w5 at bz ⊢
              go_wp2
              exact ⟨⟨b, rfl, hnx.out, bz⟩, by simp [intOf]; omega⟩
            | false =>
              have hpl : Hid (Pl (x1, x2) ls a) := Lib.hid ⟨hBK.out, fun j h1 h2 => by
                have e : j = b := by have := HBB.out; omega
                subst e
                have := HR.out
                rw [HY.out] at this
                exact this⟩
              go_wp2
              go_region_held3 (fun w' => w'.cell? ⟨ab, ao + i * 2, none⟩ = some (.int .i64 x1) ∧ w'.cell? ⟨ab, ao + i * 2 + 1, none⟩ = some (.int .i64 x2) ∧ w'.cell? ⟨g, b * 2, none⟩ = some (.int .i64 y1) ∧ w'.cell? ⟨g, b * 2 + 1, none⟩ = some (.int .i64 y2))
                (first
                  | exact ⟨keep2c f0 hax, keep2c f1 hax, keep2c d0 hgx, keep2c d1 hgx⟩
                  | go_keep)
                ((first | ((with_reducible refine (HBT.out _).mono ?_); rintro e w5 ⟨rfl, o1, o2, rfl⟩)))
              have bz := hbn o1 o2
              generalize ((wr.alloc o1).alloc o2).drew = w5 at bz ⊢
              go_wp2
              go_meet
              exact ⟨a, rfl, hpl.out, bz⟩
      case rest =>
        obtain ⟨a, rfl, hpl, bx⟩ := hcut
        rename_i wc
        have hal : a ≤ i := by have := hpl.1.1; omega
        have HPL := Lib.hid hpl
        clear hpl
        have f0 := keepB bx a0 habr
        have f1 := keepB bx a1 habr
        have ha0 : (0 : Int) ≤ (a : Int) := by omega
        have hai : (a : Int) ≤ (i : Int) := by omega
        have hac : (a : Int) ≤ (co : Int) := by omega
        have hic : (i : Int) ≤ (co : Int) := by omega
        rcases row.form2 with ⟨hv2, hl0⟩ | ⟨g, co2, hv2, hco2, hbg, hg⟩
        · injection hv2 with e1 e2 e3
          subst e1; subst e2; subst e3
          obtain rfl : a = 0 := by omega
          rw [Nat.zero_mul, Nat.add_zero] at a0 a1
          have p35 : Hid (∀ W, Below wr.heap.size wr W → Pairs W none 0 (ls.take 0)) := Lib.hid (fun W _ => ⟨by rw [List.length_take]; omega, fun k hk => by rw [hl0] at hk; simp at hk⟩)
          have p45 : Hid (∀ W, Below wr.heap.size wr W → Pairs W none 0 (ls.drop 0)) := Lib.hid (fun W _ => ⟨by rw [List.length_drop]; omega, fun k hk => by rw [hl0] at hk; simp at hk⟩)
          clear hl0
          have L1 : Hid (([] : List (Int × Int)).length + 0 ≤ 1000000000) := Lib.hid (by simp <;> omega)
          have L2 : Hid (([] ++ ls.take 0 : List (Int × Int)).length + 1 ≤ 1000000000) := Lib.hid (by simp <;> omega)
          have L3 : Hid (([] ++ ls.take 0 ++ [(x1, x2)] : List (Int × Int)).length + (0 - 0) ≤ 1000000000) := Lib.hid (by simp <;> omega)
          have HA0 := Lib.hid a0
          have HA1 := Lib.hid a1
          have HM := Lib.hid hm
          clear a0 a1 hm
          go_wp2
          go_region_held3 (fun w' => w'.cell? ⟨ab, ao, none⟩ = some (.int .i64 x1) ∧ w'.cell? ⟨ab, ao + 1, none⟩ = some (.int .i64 x2) ∧ Below wr.heap.size wr w')
            ((go_split_ands; refine sb_of HA0.out HA1.out habr ?_; first | assumption | (exact bel_a (by assumption) _) | (exact bel_ad (by assumption) _) | (exact Below.drew (by assumption))))
            ((first
              | (refine step_pairsB (U := wr) (by first | exact bel_ad bx _ | exact bel_ad (bel_a bx _) _) (by rfl) (.tmp 32) (.tmp 35) (by rfl) (.slice (some ⟨_, 0, none⟩) 0 0) [] (by rfl) (by first | exact row_newd bx | exact row_newd1 bx _ | exact row_newd2 bx _) none 0 _ _ (by rfl) (p35.out _ (by first | exact bel_ad bx _ | exact bel_ad (bel_a bx _) _)) (fun _ => rfl) L1.out ?_; intro v1 W1 own1 bel1 sz1 kp1; first | (have hq := pairs_kept (pairs_new0 wc _ x1 x2) (kp1 _ (by simp <;> omega) (by simp [Value.ownBlock])) sz1) | (have hq := pairs_kept (pairs_new1 wc _ x1 x2) (kp1 _ (by simp <;> omega) (by simp [Value.ownBlock])) sz1) | skip)
              | (refine step_pairsB (U := wr) (by first | assumption | exact bel_a (by assumption) _) (by rfl) (.tmp 36) (.tmp 41) (by rfl) v1 ([] ++ ls.take 0) (by rfl) (by first | exact own1 | exact own1.alloc _) (some ⟨_, 0, none⟩) 1 1 [(x1, x2)] (by rfl) (by first | assumption | exact pairs_new _ _ _) (by intro e; cases e) L2.out ?_; intro v2 W2 own2 bel2 sz2 kp2)
              | (refine step_pairsB (U := wr) (by assumption) (by rfl) (.tmp 42) (.tmp 45) (by rfl) v2 ([] ++ ls.take 0 ++ [(x1, x2)]) (by rfl) own2 none 0 _ (ls.drop 0) (by rfl) (p45.out _ (by assumption)) (fun _ => rfl) L3.out ?_; intro v3 W3 own3 bel3 sz3 kp3)))
          all_goals
            have own4 : PairRow W3 w.heap.size v3 (TopM.srt (l.take (0 + 1))) := by
              rw [htk.out, ← TopM.ins_srt (x1, x2) 0 hss.out HPL.out.1.2 HPL.out.2 HPL.out.1.1]
              have e : [] ++ ls.take 0 ++ [(x1, x2)] ++ ls.drop 0 = ls.take 0 ++ (x1, x2) :: ls.drop 0 := by simp
              rw [← e]
              exact own3.wider hsz
            have bel4 := bw.trans (bel3.mono hsz)
            clear own3 bel3 sz3 kp3 own2 bel2 sz2 kp2 own1 bel1 sz1 kp1
            go_wp2
            exact ⟨⟨0 + 1, by go_num, by omega, own4, bel4⟩, by simp [intOf]; omega⟩
        · injection hv2 with e1 e2 e3
          subst e1; subst e3
          obtain ⟨A', c', e', hrp⟩ := row.pairs
          injection e' with e4 e5 e6
          subst e4
          rw [hm] at hrp
          by_cases hca : co = a
          · have p35 := Lib.hid (fun W (hW : Below wr.heap.size wr W) => Pairs.take (hrp.later hW) a hal)
            have p45 : Hid (∀ W, Below wr.heap.size wr W → Pairs W (some ⟨g, 0, none⟩) (i - a) (ls.drop a)) := Lib.hid (fun W _ => ⟨by rw [List.length_drop, hm], fun k hk => by rw [List.length_drop] at hk; omega⟩)
            clear hrp e2 e5 e6 hco2
            have L1 : Hid (([] : List (Int × Int)).length + a ≤ 1000000000) := Lib.hid (by simp; omega)
            have L2 : Hid (([] ++ ls.take a : List (Int × Int)).length + 1 ≤ 1000000000) := Lib.hid (by simp; omega)
            have L3 : Hid (([] ++ ls.take a ++ [(x1, x2)] : List (Int × Int)).length + (i - a) ≤ 1000000000) := Lib.hid (by simp; omega)
            have HA0 := Lib.hid a0
            have HA1 := Lib.hid a1
            have HM := Lib.hid hm
            clear a0 a1 hm
            go_wp2
            go_region_held3 (fun w' => w'.cell? ⟨ab, ao + i * 2, none⟩ = some (.int .i64 x1) ∧ w'.cell? ⟨ab, ao + i * 2 + 1, none⟩ = some (.int .i64 x2) ∧ Below wr.heap.size wr w')
              ((go_split_ands; refine sb_of HA0.out HA1.out habr ?_; first | assumption | (exact bel_a (by assumption) _) | (exact bel_ad (by assumption) _) | (exact Below.drew (by assumption))))
              ((first
                | (refine step_pairsB (U := wr) (by first | exact bel_ad bx _ | exact bel_ad (bel_a bx _) _) (by rfl) (.tmp 32) (.tmp 35) (by rfl) (.slice (some ⟨_, 0, none⟩) 0 0) [] (by rfl) (by first | exact row_newd bx | exact row_newd1 bx _ | exact row_newd2 bx _) (some ⟨g, 0, none⟩) a _ _ (by rfl) (p35.out _ (by first | exact bel_ad bx _ | exact bel_ad (bel_a bx _) _)) (by intro e; cases e) L1.out ?_; intro v1 W1 own1 bel1 sz1 kp1; first | (have hq := pairs_kept (pairs_new0 wc _ x1 x2) (kp1 _ (by simp <;> omega) (by simp [Value.ownBlock])) sz1) | (have hq := pairs_kept (pairs_new1 wc _ x1 x2) (kp1 _ (by simp <;> omega) (by simp [Value.ownBlock])) sz1) | skip)
                | (refine step_pairsB (U := wr) (by first | assumption | exact bel_a (by assumption) _) (by rfl) (.tmp 36) (.tmp 41) (by rfl) v1 ([] ++ ls.take a) (by rfl) (by first | exact own1 | exact own1.alloc _) (some ⟨_, 0, none⟩) 1 1 [(x1, x2)] (by rfl) (by first | assumption | exact pairs_new _ _ _) (by intro e; cases e) L2.out ?_; intro v2 W2 own2 bel2 sz2 kp2)
                | (refine step_pairsB (U := wr) (by assumption) (by rfl) (.tmp 42) (.tmp 45) (by rfl) v2 ([] ++ ls.take a ++ [(x1, x2)]) (by rfl) own2 (some ⟨g, 0, none⟩) (i - a) _ (ls.drop a) (by rfl) (p45.out _ (by assumption)) (by intro e; cases e) L3.out ?_; intro v3 W3 own3 bel3 sz3 kp3)))
            all_goals
              have own4 : PairRow W3 w.heap.size v3 (TopM.srt (l.take (i + 1))) := by
                rw [htk.out, ← TopM.ins_srt (x1, x2) a hss.out HPL.out.1.2 HPL.out.2 HPL.out.1.1]
                have e : [] ++ ls.take a ++ [(x1, x2)] ++ ls.drop a = ls.take a ++ (x1, x2) :: ls.drop a := by simp
                rw [← e]
                exact own3.wider hsz
              have bel4 := bw.trans (bel3.mono hsz)
              clear own3 bel3 sz3 kp3 own2 bel2 sz2 kp2 own1 bel1 sz1 kp1
              go_wp2
              exact ⟨⟨i + 1, by go_num, by omega, own4, bel4⟩, by simp [intOf]; omega⟩
          · have p35 := Lib.hid (fun W (hW : Below wr.heap.size wr W) => Pairs.take (hrp.later hW) a hal)
            have p45 : Hid (∀ W, Below wr.heap.size wr W → Pairs W (some ⟨g, a * 2, none⟩) (i - a) (ls.drop a)) := Lib.hid (fun W hW => by
              have := Pairs.drop (hrp.later hW) a
              rwa [Nat.zero_add] at this)
            clear hrp e2 e5 e6 hco2
            have L1 : Hid (([] : List (Int × Int)).length + a ≤ 1000000000) := Lib.hid (by simp; omega)
            have L2 : Hid (([] ++ ls.take a : List (Int × Int)).length + 1 ≤ 1000000000) := Lib.hid (by simp; omega)
            have L3 : Hid (([] ++ ls.take a ++ [(x1, x2)] : List (Int × Int)).length + (i - a) ≤ 1000000000) := Lib.hid (by simp; omega)
            have HA0 := Lib.hid a0
            have HA1 := Lib.hid a1
            have HM := Lib.hid hm
            clear a0 a1 hm
            go_wp2
            go_region_held3 (fun w' => w'.cell? ⟨ab, ao + i * 2, none⟩ = some (.int .i64 x1) ∧ w'.cell? ⟨ab, ao + i * 2 + 1, none⟩ = some (.int .i64 x2) ∧ Below wr.heap.size wr w')
              ((go_split_ands; refine sb_of HA0.out HA1.out habr ?_; first | assumption | (exact bel_a (by assumption) _) | (exact bel_ad (by assumption) _) | (exact Below.drew (by assumption))))
              ((first
                | (refine step_pairsB (U := wr) (by first | exact bel_ad bx _ | exact bel_ad (bel_a bx _) _) (by rfl) (.tmp 32) (.tmp 35) (by rfl) (.slice (some ⟨_, 0, none⟩) 0 0) [] (by rfl) (by first | exact row_newd bx | exact row_newd1 bx _ | exact row_newd2 bx _) (some ⟨g, 0, none⟩) a _ _ (by rfl) (p35.out _ (by first | exact bel_ad bx _ | exact bel_ad (bel_a bx _) _)) (by intro e; cases e) L1.out ?_; intro v1 W1 own1 bel1 sz1 kp1; first | (have hq := pairs_kept (pairs_new0 wc _ x1 x2) (kp1 _ (by simp <;> omega) (by simp [Value.ownBlock])) sz1) | (have hq := pairs_kept (pairs_new1 wc _ x1 x2) (kp1 _ (by simp <;> omega) (by simp [Value.ownBlock])) sz1) | skip)
                | (refine step_pairsB (U := wr) (by first | assumption | exact bel_a (by assumption) _) (by rfl) (.tmp 36) (.tmp 41) (by rfl) v1 ([] ++ ls.take a) (by rfl) (by first | exact own1 | exact own1.alloc _) (some ⟨_, 0, none⟩) 1 1 [(x1, x2)] (by rfl) (by first | assumption | exact pairs_new _ _ _) (by intro e; cases e) L2.out ?_; intro v2 W2 own2 bel2 sz2 kp2)
                | (refine step_pairsB (U := wr) (by assumption) (by rfl) (.tmp 42) (.tmp 45) (by rfl) v2 ([] ++ ls.take a ++ [(x1, x2)]) (by rfl) own2 (some ⟨g, a * 2, none⟩) (i - a) _ (ls.drop a) (by rfl) (p45.out _ (by assumption)) (by intro e; cases e) L3.out ?_; intro v3 W3 own3 bel3 sz3 kp3)))
            all_goals
              have own4 : PairRow W3 w.heap.size v3 (TopM.srt (l.take (i + 1))) := by
                rw [htk.out, ← TopM.ins_srt (x1, x2) a hss.out HPL.out.1.2 HPL.out.2 HPL.out.1.1]
                have e : [] ++ ls.take a ++ [(x1, x2)] ++ ls.drop a = ls.take a ++ (x1, x2) :: ls.drop a := by simp
                rw [← e]
                exact own3.wider hsz
              have bel4 := bw.trans (bel3.mono hsz)
              clear own3 bel3 sz3 kp3 own2 bel2 sz2 kp2 own1 bel1 sz1 kp1
              go_wp2
              exact ⟨⟨i + 1, by go_num, by omega, own4, bel4⟩, by simp [intOf]; omega⟩
    · have hin : i = n := by omega
      have hd : decide ((i : Int) < (n : Int)) = false := decide_eq_false (by omega)
      have hd2 : decide (i < n) = false := decide_eq_false (by omega)
      have htk : l.take i = l := List.take_of_length_le (by rw [← HN.out]; omega)
      rw [htk] at row
      obtain ⟨Ao, co, hvo, hco, hAo⟩ := row.form
      obtain ⟨A', c', e', hrp⟩ := row.pairs
      have hsl : (TopM.srt l).length = i := by rw [TopM.srt_len, ← HN.out, hin]
      rw [hsl] at hvo hco
      rw [hvo] at e'
      injection e' with e1 e2 e3
      subst e1
      have HP := Lib.hid hrp
      have HSL := Lib.hid hsl
      subst hvo
      have hpr : ∀ K : Nat, K ≤ i → Prd wr (.slice Ao K co) (TopM.best K l) := fun K hK => by
        have hb : (TopM.best K l).length = K := by unfold TopM.best; rw [List.length_take, HSL.out]; omega
        refine ⟨Ao, co, by rw [hb], by rw [hb]; omega, hAo, ?_⟩
        rw [hb]
        unfold TopM.best
        have := HP.out
        rw [HSL.out] at this
        exact this.take K hK
      have hall : ∀ K : Nat, i ≤ K → Prd wr (.slice Ao i co) (TopM.best K l) := fun K hK => by
        rw [TopM.best_all (by rw [← HN.out, ← hin]; exact hK)]
        have := row.prd
        exact this
      have hfr : ∀ (K : Nat) (b : Nat), (Value.slice Ao K co).ownBlock = some b → w.heap.size ≤ b := fun K b hb => (World.ownsRow.lt row b (by
        cases Ao with
        | none => exact hb
        | some a => exact hb)).1
      have HFR := Lib.hid hfr
      have HPR := Lib.hid hpr
      have HALL := Lib.hid hall
      clear hfr hpr hall hrp hsl row htk e2 e3 hin
      by_cases hk0 : k < 0
      · have hdk : decide (k < 0) = true := decide_eq_true hk0
        have hkt : Hid (k.toNat = 0) := Lib.hid (by omega)
        by_cases hi0 : 0 < i
        · have hd3 : decide ((0 : Int) < (i : Int)) = true := decide_eq_true (by omega)
          have hd4 : decide (0 < i) = true := decide_eq_true hi0
          go_wp2
          go_ret
          exact ⟨_, rfl, by rw [hkt.out]; exact HPR.out 0 (Nat.zero_le _), bw, HFR.out _⟩
        · have hd3 : decide ((0 : Int) < (i : Int)) = false := decide_eq_false (by omega)
          have hd4 : decide (0 < i) = false := decide_eq_false hi0
          go_wp2
          go_ret
          exact ⟨_, rfl, by rw [hkt.out]; exact HALL.out 0 (by omega), bw, HFR.out _⟩
      · obtain ⟨K, rfl⟩ : ∃ K : Nat, k = (K : Int) := ⟨k.toNat, by omega⟩
        have hdk : decide ((K : Int) < 0) = false := decide_eq_false hk0
        have hkt : Hid ((K : Int).toNat = K) := Lib.hid (Int.toNat_natCast K)
        by_cases hik : K < i
        · have hd3 : decide ((K : Int) < (i : Int)) = true := decide_eq_true (by omega)
          have hd4 : decide (K < i) = true := decide_eq_true hik
          have hK0 : (0 : Int) ≤ (K : Int) := by omega
          have hKc : (K : Int) ≤ (co : Int) := by omega
          go_wp2
          go_ret
          exact ⟨_, rfl, by first | exact HPR.out K (by omega) | (rw [hkt.out]; exact HPR.out K (by omega)), bw, HFR.out _⟩
        · have hd3 : decide ((K : Int) < (i : Int)) = false := decide_eq_false (by omega)
          have hd4 : decide (K < i) = false := decide_eq_false hik
          go_wp2
          go_ret
          exact ⟨_, rfl, by first | exact HALL.out K (by omega) | (rw [hkt.out]; exact HALL.out K (by omega)), bw, HFR.out _⟩
end Go.Proofs.Ytjdlocmchmeipaa
