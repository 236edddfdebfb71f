
/- Bytes laid behind bytes: the program's varint, and the document's word. -/
import Derived.Test.YtdjbdhfellofoaaBase
import Derived.Test.YtdjbdhfellofoaaPackBits
namespace Go.Proofs.Ytdjbdhfellofoaa
open Go.RowKit

def byteV (b : UInt8) : Value := .int .u8 (b.toNat : Int)
/-- the slice v is one's own row of bytes l, in a block from base on -/
def ByteRow (w : World) (base : Nat) (v : Value) (l : List UInt8) : Prop := w.ownsRow base 5 1 v l.length (l.map byteV)

theorem ByteRow.nil_ (w : World) (base : Nat) : ByteRow w base (.slice none 0 0) [] := World.ownsRow_nil _ _ _ _
theorem ByteRow.below {w w' : World} {base B : Nat} {v : Value} {l : List UInt8} (h : ByteRow w base v l) (hb : Below B w w') (hB : ∀ k, v.ownBlock = some k → k < B) : ByteRow w' base v l := by
  refine ⟨h.1, ?_⟩
  rcases h.2 with hn | ⟨g, cap, cur, rfl, hbg, hgg, rest⟩
  · exact .inl hn
  · exact .inr ⟨g, cap, cur, rfl, hbg, (hb.block g (hB g rfl)).trans hgg, rest⟩
theorem ByteRow.later {w w' : World} {base : Nat} {v : Value} {l : List UInt8} (h : ByteRow w base v l) (hb : Below w.heap.size w w') : ByteRow w' base v l :=
  h.below hb (fun k hk => (World.ownsRow.lt h k hk).2)

/-- append of one byte onto one's own row -/
theorem wpList_append_byte {w : World} {ops : Array Oper} {rest : List Oper} {o : Oper} {a : Act} {Q : Exit → Act → World → Prop} (hgd : o.guard = none) (s x : Operand)
    (ho : o.op = .call { callee := .builtin .append, args := #[s, x], argTypes := #[62, 62] })
    (base : Nat) (v : Value) (l : List UInt8) (hs : a.eval s = v) (hown : ByteRow w base v l)
    (g c : Nat) (b : UInt8) (hx : a.eval x = .slice (some ⟨g, 0, none⟩) 1 c) (hc : w.cell? ⟨g, 0, none⟩ = some (byteV b)) (hbase : base ≤ w.heap.size) (hn : l.length ≤ 1000000000)
    (h : ∀ v' w', ByteRow w' base v' (l ++ [b]) → Below base w w' → v' ≠ .slice none 0 0 → wpList Try.prog ops Q rest (a.put o.dst v') w') : wpList Try.prog ops Q (o :: rest) a w := by
  obtain ⟨i0, hi, hz0, hz1, hz2⟩ := info_parts byte_info
  refine wpList_append_own w hgd s x 62 ho base 5 i0 _ 1 1 Try.underlying62 hi hz0 hz1 hz2 rfl (by omega) _ _ _ hs hown ⟨g, 0, none⟩ 1 c [byteV b] hx rfl (fun j u hu => ?_) (fun u hu => ?_) (by simp [maxLen]; omega) (by omega) hbase ?_
  · match j, hu with
    | 0, hu => simp at hu; subst hu; rw [add_none]; exact hc
  · simp at hu; subst hu; rfl
  · intro v' w' hown' hg' hiff
    have hb : Below base w w' := (Below.refl _ _).grown hg' hbase (fun k hk => (World.ownsRow.lt hown k hk).1)
    refine h v' w' ?_ hb (fun e => by have := hiff.1 e; omega)
    unfold ByteRow
    rw [List.length_append, List.map_append]
    exact hown'

theorem and127 (u : Nat) (h : u < 18446744073709551616) : bits .and .u64 (u : Int) 127 = ((u % 128 : Nat) : Int) := by
  have := u64_and_nat u 127 h (by decide)
  have e : u &&& 127 = u % 128 := Nat.and_two_pow_sub_one_eq_mod u 7
  rw [e] at this
  exact this
theorem or128 (x : Nat) (h : x < 128) : bits .or .u64 (x : Int) 128 = ((x + 128 : Nat) : Int) := by
  have := u64_or_nat x 128 (by omega) (by decide)
  have e : x ||| 128 = x + 128 := by
    have := Nat.shiftLeft_add_eq_or_of_lt (i := 7) h 1
    rw [show 1 <<< 7 = 128 from rfl] at this
    rw [Nat.or_comm]
    omega
  rw [e] at this
  exact this

set_option maxHeartbeats 1600000 in
set_option maxRecDepth 100000 in
theorem appendVarint_any (base : Nat) (l : List UInt8) (v : Value) (u : Nat) (w : World) (hu : u < 18446744073709551616) (hl : l.length ≤ 100000000) (hbase : base ≤ w.heap.size) (hown : ByteRow w base v l) :
    Calls Try.prog 40 #[v, .int .u64 u] w fun e w' => ∃ v', e = .returned v' ∧ ByteRow w' base v' (l ++ PackM.vw u) ∧ Below base w w' ∧ v' ≠ .slice none 0 0 := by
  have h10 := PackM.vw_len10 u hu
  go_enter Try.func40, Try.ntmps40
  go_wp2
  go_loopw [0, 1] (fun x y wr => ∃ (l' : List UInt8) (k : Nat), y = .int .u64 k ∧ k < 18446744073709551616 ∧ l'.length + (PackM.vw k).length ≤ l.length + 10 ∧ l ++ PackM.vw u = l' ++ PackM.vw k ∧ ByteRow wr base x l' ∧ Below base w wr) (fun _ y _ => (intOf y).toNat)
  case atStart => exact ⟨l, u, rfl, hu, by omega, rfl, hown, Below.refl _ _⟩
  case round =>
    clear hown
    obtain ⟨l', k, rfl, hk, hlen, heq, hown, hb⟩ := hrel
    have HE := Lib.hid heq
    clear heq
    have hsz := hb.size
    by_cases hlt : k < 128
    · have hd : decide ((127 : Int) < (k : Int)) = false := decide_eq_false (by omega)
      have hvw := PackM.vw_lt hlt
      rw [hvw] at hlen
      simp only [List.length_singleton] at hlen
      have HV := Lib.hid hvw
      clear hvw
      obtain ⟨b, hbE⟩ : ∃ b : UInt8, b = UInt8.ofNat k := ⟨_, rfl⟩
      have hbk : (k : Int) = (b.toNat : Int) := by rw [hbE, PackM.toNat_of k (by omega)]
      have HB := Lib.hid hbE
      have HK := Lib.hid hbk
      clear hbE hbk
      go_wp2_with (at_builtin; refine wpList_append_byte rfl _ _ rfl base _ l' rfl (World.ownsRow.alloc hown _) wr.heap.size _ b rfl (by simp [byteV, HK.out]) (by simp; omega) (by omega) ?_; intro v' w1 hown' hb1 hne)
      go_ret
      refine ⟨_, rfl, ?_, (hb.alloc (by omega) _).trans hb1, hne⟩
      rw [HE.out, HV.out, ← HB.out]
      exact hown'
    · have hd : decide ((127 : Int) < (k : Int)) = true := decide_eq_true (by omega)
      have hvw := PackM.vw_ge hlt
      have hl1 : (PackM.vw k).length = (PackM.vw (k / 128)).length + 1 := by rw [hvw]; rfl
      have hp := PackM.vw_pos (k / 128)
      have ha := and127 k hk
      obtain ⟨x, hx⟩ : ∃ x, x = k % 128 := ⟨_, rfl⟩
      have hx1 : x < 128 := by omega
      rw [← hx] at ha hvw
      have ho := or128 x hx1
      obtain ⟨b, hbE⟩ : ∃ b : UInt8, b = UInt8.ofNat (x + 128) := ⟨_, rfl⟩
      have hbk : ((x + 128 : Nat) : Int) = (b.toNat : Int) := by rw [hbE, PackM.toNat_of _ (by omega)]
      rw [hbk] at ho
      rw [← hbE] at hvw
      have hb256 := b.toNat_lt
      have hlen2 : l'.length + 1 + (PackM.vw (k / 128)).length ≤ l.length + 10 := by omega
      have HV := Lib.hid hvw
      have HB := Lib.hid hbE
      have HK := Lib.hid hbk
      clear hbE hbk hvw hx hl1
      go_wp2_with (at_builtin; refine wpList_append_byte rfl _ _ rfl base _ l' rfl (World.ownsRow.alloc hown _) wr.heap.size _ b rfl (by simp [byteV]) (by simp; omega) (by omega) ?_; intro v' w1 hown' hb1 hne)
      go_wp2
      go_roundw
      case rel =>
        refine ⟨l' ++ [b], k / 128, by go_num, by omega, by simp; omega, ?_, hown', (hb.alloc (by omega) _).trans hb1⟩
        rw [HE.out, HV.out, List.append_assoc]
        rfl
      case measure => simp [intOf]; omega
end Go.Proofs.Ytdjbdhfellofoaa
