
/- The program's reader: bits, and rows of them. -/
import Derived.Test.YtdjbdhfellofoaaPackL
namespace Go.Proofs.Ytdjbdhfellofoaa
open Go.RowKit

theorem and1u8 (u : Nat) (h : u < 256) : bits .and .u8 (u : Int) 1 = ((u % 2 : Nat) : Int) := by
  have := u8_and_nat u 1 h (by decide)
  rw [Nat.and_one_is_mod] at this
  exact this
theorem pow32 (k : Nat) (h : k ≤ 32) : 2 ^ k ≤ 4294967296 := by
  calc 2 ^ k ≤ 2 ^ 32 := Nat.pow_le_pow_right (by decide) h
    _ = 4294967296 := by decide
theorem or_i64 (v k bt : Nat) (hv : v < 2 ^ k) (hk : k ≤ 32) (hbt : bt ≤ 1) : bits .or .i64 (v : Int) ((bt * 2 ^ k : Nat) : Int) = ((v + bt * 2 ^ k : Nat) : Int) := by
  have h32 := pow32 k hk
  have hb : bt * 2 ^ k ≤ 4294967296 := by
    calc bt * 2 ^ k ≤ 1 * 2 ^ k := Nat.mul_le_mul_right _ hbt
      _ ≤ 4294967296 := by omega
  rw [i64_or_nat v _ (by omega) (by omega)]
  have := Nat.shiftLeft_add_eq_or_of_lt (i := k) (b := v) hv bt
  rw [Nat.shiftLeft_eq] at this
  rw [Nat.or_comm, ← this, Nat.add_comm]

set_option maxHeartbeats 1600000 in
set_option maxRecDepth 100000 in
theorem take_any (w : World) (Bs Ba n p : Nat) (s : List UInt8) (hn : n ≤ 32) (hp : p + n ≤ 8 * s.length) (hsl : s.length ≤ 100000000) (hsa : Bs ≠ Ba) (h1 : Bs < w.heap.size) (_h2 : Ba < w.heap.size)
    (cs : w.cell? ⟨Bs, 0, none⟩ = some (.string (ofBytes s))) (ca : w.cell? ⟨Ba, 0, none⟩ = some (.int .i64 (p : Int))) (fa : w.frozen? ⟨Ba, 0, none⟩ = false) :
    Calls Try.prog 78 #[.int .i64 (n : Int), .pointer (some ⟨Bs, 0, none⟩), .pointer (some ⟨Ba, 0, none⟩)] w fun e w' => e = .returned (.int .i64 (PackM.bv s p n : Nat)) ∧ w'.cell? ⟨Ba, 0, none⟩ = some (.int .i64 ((p + n : Nat) : Int)) ∧ w'.frozen? ⟨Ba, 0, none⟩ = false ∧ Turned (fun k => k = Ba) w w' := by
  have hs : (ofBytes s).size = s.length := size_ofBytes s
  obtain ⟨N, hN⟩ : ∃ N, N = s.length := ⟨_, rfl⟩
  rw [← hN] at hs hp hsl
  have HN := Lib.hid hN
  clear hN
  go_enter Try.func78, Try.ntmps78
  go_wp2
  go_loopw [5, 8] (fun v i wr => ∃ (k : Nat), k ≤ n ∧ i = .int .i64 k ∧ v = .int .i64 (PackM.bv s p k : Nat) ∧ wr.cell? ⟨Ba, 0, none⟩ = some (.int .i64 ((p + k : Nat) : Int)) ∧ wr.frozen? ⟨Ba, 0, none⟩ = false ∧ Turned (fun k => k = Ba) w wr) (fun _ i _ => n - (intOf i).toNat)
  case atStart => exact ⟨0, by omega, rfl, rfl, ca, fa, Turned.refl _ _⟩
  case round =>
    obtain ⟨k, hk, rfl, rfl, ka, kf, hT⟩ := hrel
    clear ca fa
    have ks := (hT.cell (p := ⟨Bs, 0, none⟩) h1 hsa).trans cs
    have hvl := PackM.bv_lt s k p
    have hbk := PackM.bv_back s k p
    obtain ⟨v, hv⟩ : ∃ v, v = PackM.bv s p k := ⟨_, rfl⟩
    rw [← hv] at hvl hbk ⊢
    by_cases hlt : k < n
    · have hd : decide ((k : Int) < (n : Int)) = true := decide_eq_true (by omega)
      obtain ⟨q, hq⟩ : ∃ q, q = p + k := ⟨_, rfl⟩
      rw [← hq] at ka hbk
      obtain ⟨e8, he8⟩ : ∃ e8, e8 = q / 8 := ⟨_, rfl⟩
      obtain ⟨m8, hm8⟩ : ∃ m8, m8 = q % 8 := ⟨_, rfl⟩
      have heN : e8 < N := by omega
      have hes : e8 < s.length := by rw [← HN.out]; exact heN
      have hez : e8 < (ofBytes s).size := by rw [hs]; exact heN
      have hq1 : (q : Int) / 8 = (e8 : Int) := by omega
      have hq2 : (q : Int) % 8 = (m8 : Int) := by omega
      have hm8l : m8 < 8 := by omega
      obtain ⟨c, hc⟩ : ∃ c : UInt8, c = s[e8] := ⟨_, rfl⟩
      obtain ⟨x, hx⟩ : ∃ x : Nat, x = c.toNat := ⟨_, rfl⟩
      have hx256 : x < 256 := by rw [hx]; exact c.toNat_lt
      have hbx : (ofBytes s)[e8].toNat = x := by rw [hx, hc]; rfl
      obtain ⟨y, hy⟩ : ∃ y, y = x / 2 ^ m8 := ⟨_, rfl⟩
      have hyI : (x : Int) / 2 ^ m8 = (y : Int) := by rw [hy]; simp
      have hy256 : y < 256 := by rw [hy]; exact Nat.lt_of_le_of_lt (Nat.div_le_self _ _) hx256
      have hand := and1u8 y hy256
      obtain ⟨bt, hbt⟩ : ∃ bt, bt = y % 2 := ⟨_, rfl⟩
      rw [← hbt] at hand
      have hbt1 : bt ≤ 1 := by omega
      have hbit : PackM.bitAt s q = bt := by
        unfold PackM.bitAt
        rw [hbt, hy, hx, hc, ← he8, ← hm8, List.getD_eq_getElem?_getD, List.getElem?_eq_getElem hes]
        rfl
      rw [hbit] at hbk
      have h32 := pow32 k (by omega)
      have hor := or_i64 v k bt hvl (by omega) hbt1
      obtain ⟨sh, hsh⟩ : ∃ sh, sh = bt * 2 ^ k := ⟨_, rfl⟩
      rw [← hsh] at hor hbk
      have hshI : (bt : Int) * 2 ^ k = (sh : Int) := by rw [hsh]; simp
      have hshl : sh ≤ 4294967296 := by
        rw [hsh]
        calc bt * 2 ^ k ≤ 1 * 2 ^ k := Nat.mul_le_mul_right _ hbt1
          _ ≤ 4294967296 := by omega
      have HBK := Lib.hid hbk
      have HQ := Lib.hid hq
      have hvl2 : v < 4294967296 := by omega
      have hqm : q ≤ 1000000000 := by omega
      clear hbk hq he8 hm8 hc hx hy hbt hbit hsh hv hvl h32
      go_wp2
      go_quiet (fail)
      go_wp2
      have ka' : (wr.drewN nq).cell? ⟨Ba, 0, none⟩ = some (.int .i64 (q : Int)) := ka
      have kf' : (wr.drewN nq).frozen? ⟨Ba, 0, none⟩ = false := kf
      refine ⟨⟨k + 1, by omega, by go_num, by rw [HBK.out]; go_num, ?_, by simp [kf'], (hT.trans (Turned.of_below (below_drewN nq))).set_ rfl _ _⟩, by simp [intOf]; omega⟩
      rw [World.cell?_setCell_same _ _ _ ka', HQ.out]
      go_num
    · have hd : decide ((k : Int) < (n : Int)) = false := decide_eq_false (by omega)
      have hkn : k = n := by omega
      subst hkn
      have HV := Lib.hid hv
      clear hv hbk
      go_wp2
      go_ret
      exact ⟨by rw [← HV.out]; rfl, ka, kf, hT⟩

set_option maxHeartbeats 400000 in
theorem fixstep_any (w : World) (B8 B4 Bs Ba n p : Nat) (s : List UInt8) (hn : n ≤ 32) (hp : p + n ≤ 8 * s.length) (hsl : s.length ≤ 100000000) (hsa : Bs ≠ Ba) (h1 : Bs < w.heap.size) (h2 : Ba < w.heap.size)
    (c8 : w.cell? ⟨B8, 0, none⟩ = some (.func (.func 78) #[] #[.pointer (some ⟨Bs, 0, none⟩), .pointer (some ⟨Ba, 0, none⟩)])) (c4 : w.cell? ⟨B4, 0, none⟩ = some (.int .i64 (n : Int)))
    (cs : w.cell? ⟨Bs, 0, none⟩ = some (.string (ofBytes s))) (ca : w.cell? ⟨Ba, 0, none⟩ = some (.int .i64 (p : Int))) (fa : w.frozen? ⟨Ba, 0, none⟩ = false) :
    Calls Try.prog 77 #[.pointer (some ⟨B8, 0, none⟩), .pointer (some ⟨B4, 0, none⟩)] w fun e w' => e = .returned (.int .i64 (PackM.bv s p n : Nat)) ∧ w'.cell? ⟨Ba, 0, none⟩ = some (.int .i64 ((p + n : Nat) : Int)) ∧ w'.frozen? ⟨Ba, 0, none⟩ = false ∧ Turned (fun k => k = Ba) w w' := by
  have ht := take_any w Bs Ba n p s hn hp hsl hsa h1 h2 cs ca fa
  clear ca cs
  go_enter Try.func77, Try.ntmps77
  go_wp2_with fail
  refine ht.mono ?_
  rintro e w1 ⟨rfl, k1, k2, k3⟩
  go_wp2
  go_ret
  exact ⟨rfl, k1, k2, k3⟩

theorem nums_succ (s : List UInt8) (w k : Nat) : PackM.nums s w (k + 1) = PackM.nums s w k ++ [PackM.bv s (k * w) w] := by simp [PackM.nums, List.range_succ]
theorem nums_length (s : List UInt8) (w k : Nat) : (PackM.nums s w k).length = k := by simp [PackM.nums]

set_option maxHeartbeats 1600000 in
set_option maxRecDepth 100000 in
theorem rowfix_any (w : World) (b B8 B4 Bs Ba n m : Nat) (s t : List UInt8) (hm : m ≤ 32) (hn : n ≤ 65536) (hp : n * m ≤ 8 * s.length) (hsl : s.length ≤ 100000000) (hsa : Bs ≠ Ba) (h8a : B8 ≠ Ba) (h4a : B4 ≠ Ba) (hba : b ≠ Ba) (h1 : Bs < w.heap.size) (h2 : Ba < w.heap.size) (h3 : B8 < w.heap.size) (h4 : B4 < w.heap.size)
    (h : RD w b t false)
    (c8 : w.cell? ⟨B8, 0, none⟩ = some (.func (.func 78) #[] #[.pointer (some ⟨Bs, 0, none⟩), .pointer (some ⟨Ba, 0, none⟩)])) (c4 : w.cell? ⟨B4, 0, none⟩ = some (.int .i64 (m : Int)))
    (cs : w.cell? ⟨Bs, 0, none⟩ = some (.string (ofBytes s))) (ca : w.cell? ⟨Ba, 0, none⟩ = some (.int .i64 0)) (fa : w.frozen? ⟨Ba, 0, none⟩ = false) :
    Calls Try.prog 73 #[.pointer (some ⟨b, 0, none⟩), .int .i64 (n : Int), .func (.func 77) #[] #[.pointer (some ⟨B8, 0, none⟩), .pointer (some ⟨B4, 0, none⟩)]] w fun e w' => (∃ g, e = .returned (.slice (some ⟨g, 0, none⟩) n n) ∧ w.heap.size ≤ g ∧ g < w'.heap.size ∧ IntsAt w' g (toI (PackM.nums s m n))) ∧ w'.cell? ⟨Ba, 0, none⟩ = some (.int .i64 ((n * m : Nat) : Int)) ∧ w'.frozen? ⟨Ba, 0, none⟩ = false ∧ Turned (fun k => k = Ba) w w' := by
  obtain ⟨M, hmk, hz⟩ := made_ints w n (by omega)
  have hbl := h.lt
  obtain ⟨g, hgE⟩ : ∃ g, g = w.heap.size := ⟨_, rfl⟩
  have hgb : b ≠ g := by omega
  have hga : g ≠ Ba := by omega
  have hgw : w.heap.size ≤ g := by omega
  rw [← hgE] at hz hmk
  have HZ := Lib.hid hz
  have hT0 : Turned (fun k => k = Ba) w (w.alloc (.cells M 3)) := (Turned.refl _ w).alloc _
  have hs0 : g < (w.alloc (.cells M 3)).heap.size := by rw [hgE]; simp
  have k60 : (w.alloc (.cells M 3)).cell? ⟨Ba, 0, none⟩ = some (.int .i64 0) := (World.cell?_alloc_lt _ _ ⟨Ba, 0, none⟩ h2).trans ca
  have f60 : (w.alloc (.cells M 3)).frozen? ⟨Ba, 0, none⟩ = false := (World.frozen?_of_block (w := w) (Below.heap_alloc w _ Ba h2)).trans fa
  clear hz ca fa hgE
  go_enter Try.func73, Try.ntmps73
  go_wp2
  clear hmk
  generalize w.alloc (.cells M 3) = w0 at HZ hT0 hs0 k60 f60 ⊢
  go_loopw [13] (fun i wr => ∃ (k : Nat), k ≤ n ∧ i = .int .i64 k ∧ IntsAt wr g (toI (PackM.nums s m k) ++ List.replicate (n - k) 0) ∧ g < wr.heap.size ∧ wr.cell? ⟨Ba, 0, none⟩ = some (.int .i64 ((k * m : Nat) : Int)) ∧ wr.frozen? ⟨Ba, 0, none⟩ = false ∧ Turned (fun k => k = Ba) w wr) (fun i _ => n - (intOf i).toNat)
  case atStart => exact ⟨0, by omega, rfl, HZ.out, hs0, by rw [Nat.zero_mul]; exact k60, f60, hT0⟩
  case round =>
    clear k60 f60 hT0
    obtain ⟨k, hk, rfl, hat, hgl, ka, kf, hT⟩ := hrel
    have HAT := Lib.hid hat
    clear hat
    by_cases hlt : k < n
    · have hd : decide ((k : Int) < (n : Int)) = true := decide_eq_true (by omega)
      have hkm : k * m + m ≤ 8 * s.length := by
        have : (k + 1) * m ≤ n * m := Nat.mul_le_mul_right _ hlt
        rw [Nat.succ_mul] at this; omega
      have hst := fixstep_any wr B8 B4 Bs Ba m (k * m) s hm hkm hsl hsa (Nat.lt_of_lt_of_le h1 hT.size) (Nat.lt_of_lt_of_le h2 hT.size) ((hT.cell (p := ⟨B8, 0, none⟩) h3 h8a).trans c8) ((hT.cell (p := ⟨B4, 0, none⟩) h4 h4a).trans c4) ((hT.cell (p := ⟨Bs, 0, none⟩) h1 hsa).trans cs) ka kf
      have hnk : n - k = (n - (k + 1)) + 1 := by omega
      go_wp2_with fail
      refine hst.mono ?_
      rintro e w1 ⟨rfl, ka1, kf1, hT1⟩
      clear hst ka kf
      have hg1 : g < w1.heap.size := Nat.lt_of_lt_of_le hgl hT1.size
      have hat1 := HAT.out.turned hT1 hgl hga
      rw [hnk] at hat1
      have hakl : (toI (PackM.nums s m k)).length = k := by rw [toI_length, nums_length]
      have hlen1 : k < (toI (PackM.nums s m k) ++ List.replicate (n - (k + 1) + 1) (0 : Int)).length := by rw [List.length_append, hakl, List.length_replicate]; omega
      obtain ⟨cg, fg⟩ := hat1 k hlen1
      obtain ⟨z, hzE⟩ : ∃ z, z = (toI (PackM.nums s m k) ++ List.replicate (n - (k + 1) + 1) (0 : Int))[k] := ⟨_, rfl⟩
      rw [← hzE] at cg
      obtain ⟨x, hxE⟩ : ∃ x, x = PackM.bv s (k * m) m := ⟨_, rfl⟩
      rw [← hxE]
      have hset := hat1.set_ k (x : Int)
      have hsf := set_fill (toI (PackM.nums s m k)) (n - (k + 1)) (x : Int)
      rw [hakl] at hsf
      rw [hsf, ← toI_snoc, hxE, ← nums_succ, ← hxE] at hset
      have hr2 : RD (w1.setCell ⟨g, k, none⟩ (.int .i64 (x : Int))) b t false := (h.kept ((hT.trans hT1).block b hbl hba)).kept (Below.heap_setCell w1 _ _ b hgb)
      have c1 := hr2.c1
      have HSET := Lib.hid hset
      clear hset hsf hzE hxE hakl hat1
      go_wp2
      go_roundw
      case rel =>
        refine ⟨k + 1, by omega, by go_num, HSET.out, by simpa [World.setCell] using hg1, ?_, by simp [kf1], (hT.trans hT1).from_new ((Turned.refl _ w1).set_ (.inr hgw) _ _)⟩
        rw [World.cell?_setCell_other _ _ _ _ (fun e => by injection e with e1; omega), Nat.succ_mul]; exact ka1
      case measure => simp [intOf]; omega
    · have hd : decide ((k : Int) < (n : Int)) = false := decide_eq_false (by omega)
      have hkn : k = n := by omega
      subst hkn
      have hI : IntsAt wr g (toI (PackM.nums s m k)) := by
        have := HAT.out
        rw [Nat.sub_self, List.replicate_zero, List.append_nil] at this
        exact this
      go_wp2
      go_ret
      exact ⟨⟨_, rfl, hgw, hgl, hI⟩, ka, kf, hT⟩
end Go.Proofs.Ytdjbdhfellofoaa
