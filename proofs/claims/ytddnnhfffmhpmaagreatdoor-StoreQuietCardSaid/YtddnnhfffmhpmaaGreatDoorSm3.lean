/- Own texts, merged (3 of 42). -/
import Derived.Test.YtddnnhfffmhpmaaGreatDoorSm2
import Derived.Laws.IdiomStrings
import Derived.Laws.AppendOwnNone
import Derived.Lib.Strings
import Derived.Lib.BufferWrite
import Derived.Lib.UnsafeStr
import Derived.Lib.IndexBytes
import Derived.Laws.MakeOwn
import Derived.Test.YtddnnhfffmhpmaaGreatDoorSm1
import Derived.Laws.BytesArg
import Derived.Test.YtddnnhfffmhpmaaGreatDoorRows
import Derived.WalkKit
import Derived.WalkSpells
import Derived.WalkLawsBesides
import Derived.Defers
import Derived.RegionTactic
import Derived.RegionCalls
import Derived.ChangeAlike

/- What every layer's walks use: bytes as strings and as rows, what turns of the world, strings.Clone. -/
namespace Go.Proofs.YtddnnhfffmhpmaaGreatDoor
open Go.RowKit

def ofBytes (l : List UInt8) : ByteArray := ⟨l.toArray⟩
theorem ofBytes_list (l : List UInt8) : (ofBytes l).data.toList = l := by simp [ofBytes]
theorem ofBytes_app (t : ByteArray) (l : List UInt8) : t ++ ofBytes l = ofBytes (t.data.toList ++ l) := by
  apply ByteArray.ext
  simp [ofBytes]
theorem ret_str {a b : ByteArray} (h : a = b) : Ending.returned (.string a) = .returned (.string b) := by rw [h]
def BytesAt (w : World) (g : Nat) (l : List UInt8) : Prop := ∀ j (h : j < l.length), w.cell? ⟨g, j, none⟩ = some (.int .u8 (l[j].toNat : Int)) ∧ w.frozen? ⟨g, j, none⟩ = false
theorem BytesAt.set_ {w : World} {g : Nat} {l : List UInt8} (h : BytesAt w g l) (i : Nat) (x : UInt8) : BytesAt (w.setCell ⟨g, i, none⟩ (.int .u8 (x.toNat : Int))) g (l.set i x) := by
  intro j hj
  have hj' : j < l.length := by simpa using hj
  refine ⟨?_, by simp [(h j hj').2]⟩
  by_cases e : i = j
  · subst e
    rw [World.cell?_setCell_same w _ _ (h i hj').1]
    simp
  · rw [World.cell?_setCell_other w _ _ _ (fun h => e (by injection h)), (h j hj').1]
    simp [e]
theorem size_ofBytes (l : List UInt8) : (ofBytes l).size = l.length := by simp [ofBytes, ByteArray.size]
theorem conv_string (W : World) (g C : Nat) (l : List UInt8) (h : BytesAt W g l) : (convert 70 9 (.slice (some ⟨g, 0, none⟩) l.length C)).run Tryz.prog W = .ok (.string (ofBytes l)) W :=
  run_convert_bytes_back W 70 9 5 ⟨g, 0, none⟩ C l Tryz.underlying70 Tryz.underlying5 Tryz.underlying9 (fun j hj => by
    have hadd : (⟨g, 0, none⟩ : Addr).add j = ⟨g, j, none⟩ := by unfold Addr.add; split <;> simp_all
    rw [hadd]
    exact (h j hj).1)
theorem append_ofBytes (x : List UInt8) (t : ByteArray) : ofBytes x ++ t = ofBytes (x ++ t.data.toList) := by
  apply ByteArray.ext
  simp [ofBytes]
theorem byte_info : (Tryz.prog.info? 5).map (fun i => (i.zero, i.size, i.bytes)) = some (some (.int .u8 0), 1, 1) := by kernel_rfl
set_option maxHeartbeats 4000000 in
set_option maxRecDepth 100000 in
theorem slClone_any (s : ByteArray) (w : World) (hlim : s.size ≤ 100000000) :
    Calls Tryz.prog 172 #[.string s] w fun e w' => e = .returned (.string s) ∧ Below w.heap.size w w' := by
  by_cases h0 : s.size = 0
  · have hs : s = ⟨#[]⟩ := by
      apply ByteArray.ext
      exact Array.eq_empty_of_size_eq_zero h0
    subst hs
    go_enter Tryz.func172, Tryz.ntmps172
    go_wp2
    go_ret
    exact ⟨rfl, Below.refl _ _⟩
  · obtain ⟨i0, hi, hz0, hz1, hz2⟩ := info_parts byte_info
    have hinfo : (Tryz.prog.info? 5).map (·.size) = some 1 := by rw [hi]; simp [hz1]
    have hco : Tryz.prog.cellsOf 5 = 1 := by simp [Program.cellsOf, hi, hz1]
    obtain ⟨M, hM⟩ : ∃ M, M = madeCells (Value.int .u8 0).cells (((s.size : Nat) : Int).toNat * i0.size) := ⟨_, rfl⟩
    have hMs : M.size = s.size := by rw [hM, size_madeCells, hz1]; simp
    have hmk : ∀ W : World, (Instr.makeSlice 70 (.int .i64 (s.size : Int)) (.int .i64 (s.size : Int))).run Tryz.prog W = .ok (.slice (some ⟨W.heap.size, 0, none⟩) s.size s.size) (W.alloc (.cells M 5)) := fun W => by
      have h := run_make (P := Tryz.prog) W 70 5 i0 (.int .u8 0) Tryz.underlying70 hi hz0 .i64 .i64 (s.size : Int) (s.size : Int) (by omega) (by omega) (by rw [hz2]; omega) (by omega)
      rw [← hM] at h
      simpa using h
    clear hM
    have hcp := Lib.run_copy_row_string (P := Tryz.prog) (w.alloc (.cells M 5)) 70 9 3 5 w.heap.size 0 s.size s.size s M 5 Tryz.underlying70 hinfo (heap_alloc_new w _) (Nat.le_refl _) (by omega)
    obtain ⟨Y, hY⟩ : ∃ Y, Y = (M.toList.take 0 ++ Lib.byteCells s.data.toList ++ M.toList.drop (0 + s.size)).toArray := ⟨_, rfl⟩
    rw [← hY] at hcp
    have hYl : Y.toList = Lib.byteCells s.data.toList := by
      rw [hY, List.toList_toArray, List.take_zero, List.nil_append, List.drop_of_length_le (by rw [Array.length_toList]; omega), List.append_nil]
    have hYs : Y.size = s.size := by rw [← Array.length_toList, hYl, Lib.byteCells_length, ← Lib.size_eq]
    have hgY : ((w.alloc (.cells M 5)).setRow w.heap.size Y).heap[w.heap.size]? = some (.cells Y 5 (0, 0)) := setRow_heap _ _ M _ 5 (0, 0) (heap_alloc_new w _)
    have hne : s.data.toList ≠ [] := fun e => h0 (by rw [Lib.size_eq, e]; rfl)
    have hUS := Lib.run_unsafeString_row (P := Tryz.prog) ((w.alloc (.cells M 5)).setRow w.heap.size Y) 211 3 9 5 Tryz.underlying211 hco w.heap.size Y.size (by unfold World.shape?; rw [hgY]) s.data.toList hne (by rw [← Lib.size_eq]; omega) (by rw [← Lib.size_eq]; omega)
      (fun j x hx => Lib.cells_of_row hgY Y.size j _ (by rw [List.take_of_length_le (by rw [Array.length_toList]; exact Nat.le_refl _), hYl]; simp [Lib.byteCells, hx]))
    rw [← Lib.size_eq] at hUS
    clear hY
    go_enter Tryz.func172, Tryz.ntmps172
    go_wp2
    go_ret
    have hb1 : Below w.heap.size w (w.alloc (.cells M 5)) := (Below.refl _ w).alloc (Nat.le_refl _) _
    have hb2 : Below w.heap.size (w.alloc (.cells M 5)) ((w.alloc (.cells M 5)).setRow w.heap.size Y) := ⟨rfl, rfl, rfl, by simp, fun k hk => setRow_other _ _ _ _ (by omega)⟩
    exact ⟨rfl, Lib.below_freeze (hb1.trans hb2) (p := ⟨w.heap.size, 0, none⟩) (Nat.le_refl _) _⟩
theorem clone_any (s : ByteArray) (w : World) (hlim : s.size ≤ 100000000) :
    Calls Tryz.prog 127 #[.string s] w fun e w' => e = .returned (.string s) ∧ Below w.heap.size w w' := by
  go_enter Tryz.func127, Tryz.ntmps127
  go_wp2_with (go_at_call 172; refine (slClone_any _ _ hlim).mono ?_; rintro e w' ⟨rfl, hb⟩)
  go_ret
  exact ⟨rfl, hb⟩
end Go.Proofs.YtddnnhfffmhpmaaGreatDoor

/- Bytes laid behind bytes: the program's varint, and the document's word. -/
namespace Go.Proofs.YtddnnhfffmhpmaaGreatDoor
open Go.RowKit

def byteV (b : UInt8) : Value := .int .u8 (b.toNat : Int)
/-- the slice v is one's own row of bytes l, in a block from base on -/
def ByteRow (w : World) (base : Nat) (v : Value) (l : List UInt8) : Prop := w.ownsRow base 5 1 v l.length (l.map byteV)

theorem ByteRow.nil_ (w : World) (base : Nat) : ByteRow w base (.slice none 0 0) [] := World.ownsRow_nil _ _ _ _
/-- append of one byte onto one's own row -/
theorem wpList_append_byte {w : World} {ops : Array Oper} {rest : List Oper} {o : Oper} {a : Act} {Q : Exit → Act → World → Prop} (hgd : o.guard = none) (s x : Operand)
    (ho : o.op = .call { callee := .builtin .append, args := #[s, x], argTypes := #[70, 70] })
    (base : Nat) (v : Value) (l : List UInt8) (hs : a.eval s = v) (hown : ByteRow w base v l)
    (g c : Nat) (b : UInt8) (hx : a.eval x = .slice (some ⟨g, 0, none⟩) 1 c) (hc : w.cell? ⟨g, 0, none⟩ = some (byteV b)) (hbase : base ≤ w.heap.size) (hn : l.length ≤ 1000000000)
    (h : ∀ v' w', ByteRow w' base v' (l ++ [b]) → Below base w w' → v' ≠ .slice none 0 0 → wpList Tryz.prog ops Q rest (a.put o.dst v') w') : wpList Tryz.prog ops Q (o :: rest) a w := by
  obtain ⟨i0, hi, hz0, hz1, hz2⟩ := info_parts byte_info
  refine wpList_append_own w hgd s x 70 ho base 5 i0 _ 1 1 Tryz.underlying70 hi hz0 hz1 hz2 rfl (by omega) _ _ _ hs hown ⟨g, 0, none⟩ 1 c [byteV b] hx rfl (fun j u hu => ?_) (fun u hu => ?_) (by simp [maxLen]; omega) (by omega) hbase ?_
  · match j, hu with
    | 0, hu => simp at hu; subst hu; rw [add_none]; exact hc
  · simp at hu; subst hu; rfl
  · intro v' w' hown' hg' hiff
    have hb : Below base w w' := (Below.refl _ _).grown hg' hbase (fun k hk => (World.ownsRow.lt hown k hk).1)
    refine h v' w' ?_ hb (fun e => by have := hiff.1 e; omega)
    unfold ByteRow
    rw [List.length_append, List.map_append]
    exact hown'

theorem and127 (u : Nat) (h : u < 18446744073709551616) : bits .and .u64 (u : Int) 127 = ((u % 128 : Nat) : Int) := by
  have := u64_and_nat u 127 h (by decide)
  have e : u &&& 127 = u % 128 := Nat.and_two_pow_sub_one_eq_mod u 7
  rw [e] at this
  exact this
theorem or128 (x : Nat) (h : x < 128) : bits .or .u64 (x : Int) 128 = ((x + 128 : Nat) : Int) := by
  have := u64_or_nat x 128 (by omega) (by decide)
  have e : x ||| 128 = x + 128 := by
    have := Nat.shiftLeft_add_eq_or_of_lt (i := 7) h 1
    rw [show 1 <<< 7 = 128 from rfl] at this
    rw [Nat.or_comm]
    omega
  rw [e] at this
  exact this

set_option maxHeartbeats 1600000 in
set_option maxRecDepth 100000 in
theorem appendVarint_any (base : Nat) (l : List UInt8) (v : Value) (u : Nat) (w : World) (hu : u < 18446744073709551616) (hl : l.length ≤ 100000000) (hbase : base ≤ w.heap.size) (hown : ByteRow w base v l) :
    Calls Tryz.prog 110 #[v, .int .u64 u] w fun e w' => ∃ v', e = .returned v' ∧ ByteRow w' base v' (l ++ PackM.vw u) ∧ Below base w w' ∧ v' ≠ .slice none 0 0 := by
  have h10 := PackM.vw_len10 u hu
  go_enter Tryz.func110, Tryz.ntmps110
  go_wp2
  go_loopw [0, 1] (fun x y wr => ∃ (l' : List UInt8) (k : Nat), y = .int .u64 k ∧ k < 18446744073709551616 ∧ l'.length + (PackM.vw k).length ≤ l.length + 10 ∧ l ++ PackM.vw u = l' ++ PackM.vw k ∧ ByteRow wr base x l' ∧ Below base w wr) (fun _ y _ => (intOf y).toNat)
  case atStart => exact ⟨l, u, rfl, hu, by omega, rfl, hown, Below.refl _ _⟩
  case round =>
    clear hown
    obtain ⟨l', k, rfl, hk, hlen, heq, hown, hb⟩ := hrel
    have HE := Lib.hid heq
    clear heq
    have hsz := hb.size
    by_cases hlt : k < 128
    · have hd : decide ((127 : Int) < (k : Int)) = false := decide_eq_false (by omega)
      have hvw := PackM.vw_lt hlt
      rw [hvw] at hlen
      simp only [List.length_singleton] at hlen
      have HV := Lib.hid hvw
      clear hvw
      obtain ⟨b, hbE⟩ : ∃ b : UInt8, b = UInt8.ofNat k := ⟨_, rfl⟩
      have hbk : (k : Int) = (b.toNat : Int) := by rw [hbE, PackM.toNat_of k (by omega)]
      have HB := Lib.hid hbE
      have HK := Lib.hid hbk
      clear hbE hbk
      go_wp2_with (at_builtin; refine wpList_append_byte rfl _ _ rfl base _ l' rfl (World.ownsRow.alloc hown _) wr.heap.size _ b rfl (by simp [byteV, HK.out]) (by simp; omega) (by omega) ?_; intro v' w1 hown' hb1 hne)
      go_ret
      refine ⟨_, rfl, ?_, (hb.alloc (by omega) _).trans hb1, hne⟩
      rw [HE.out, HV.out, ← HB.out]
      exact hown'
    · have hd : decide ((127 : Int) < (k : Int)) = true := decide_eq_true (by omega)
      have hvw := PackM.vw_ge hlt
      have hl1 : (PackM.vw k).length = (PackM.vw (k / 128)).length + 1 := by rw [hvw]; rfl
      have hp := PackM.vw_pos (k / 128)
      have ha := and127 k hk
      obtain ⟨x, hx⟩ : ∃ x, x = k % 128 := ⟨_, rfl⟩
      have hx1 : x < 128 := by omega
      rw [← hx] at ha hvw
      have ho := or128 x hx1
      obtain ⟨b, hbE⟩ : ∃ b : UInt8, b = UInt8.ofNat (x + 128) := ⟨_, rfl⟩
      have hbk : ((x + 128 : Nat) : Int) = (b.toNat : Int) := by rw [hbE, PackM.toNat_of _ (by omega)]
      rw [hbk] at ho
      rw [← hbE] at hvw
      have hb256 := b.toNat_lt
      have hlen2 : l'.length + 1 + (PackM.vw (k / 128)).length ≤ l.length + 10 := by omega
      have HV := Lib.hid hvw
      have HB := Lib.hid hbE
      have HK := Lib.hid hbk
      clear hbE hbk hvw hx hl1
      go_wp2_with (at_builtin; refine wpList_append_byte rfl _ _ rfl base _ l' rfl (World.ownsRow.alloc hown _) wr.heap.size _ b rfl (by simp [byteV]) (by simp; omega) (by omega) ?_; intro v' w1 hown' hb1 hne)
      go_wp2
      go_roundw
      case rel =>
        refine ⟨l' ++ [b], k / 128, by go_num, by omega, by simp; omega, ?_, hown', (hb.alloc (by omega) _).trans hb1⟩
        rw [HE.out, HV.out, List.append_assoc]
        rfl
      case measure => simp [intOf]; omega
end Go.Proofs.YtddnnhfffmhpmaaGreatDoor

/- Varint and Zigzag, written: the program's and the document's. -/
namespace Go.Proofs.YtddnnhfffmhpmaaGreatDoor
open Go.RowKit

/-- a row of bytes as a string -/
theorem ByteRow.conv {W : World} {base : Nat} {v : Value} {l : List UInt8} (h : ByteRow W base v l) : (convert 70 9 v).run Tryz.prog W = .ok (.string (ofBytes l)) W := by
  rcases h.2 with ⟨rfl, hn⟩ | ⟨g, cap, cur, rfl, hbg, hgg, rest⟩
  · have hl0 : l = [] := List.eq_nil_of_length_eq_zero hn
    subst hl0
    exact run_convert_bytes_nil W 70 5 Tryz.underlying70 Tryz.underlying5 0 0 9 Tryz.underlying9
  · refine run_convert_bytes_back W 70 9 5 ⟨g, 0, none⟩ cap l Tryz.underlying70 Tryz.underlying5 Tryz.underlying9 (fun j hj => ?_)
    exact World.ownsRow.cells h (g := g) rfl j _ (by simp [hj, byteV])

/-- the bytes of Varint(v), the number of its error -/
def varB (v : Int) : List UInt8 := if v < 0 then [] else PackM.vw v.toNat
def varC (v : Int) : Int := if v < 0 then 1 else 0
theorem varB_len (v : Int) (h2 : v ≤ 9223372036854775807) : (varB v).length ≤ 10 := by
  unfold varB
  split
  · simp
  · exact PackM.vw_len10 _ (by omega)

set_option maxHeartbeats 1600000 in
set_option maxRecDepth 100000 in
theorem varint_any (v : Int) (w : World) (h1 : -9223372036854775808 ≤ v) (h2 : v ≤ 9223372036854775807) :
    Calls Tryz.prog 77 #[.int .i64 v] w fun e w' => e = .returned (.tuple #[.string (ofBytes (varB v)), .int .i64 (varC v)]) ∧ Below w.heap.size w w' := by
  unfold varB varC
  by_cases hv : v < 0
  · rw [if_pos hv, if_pos hv]
    have hd : decide (v < 0) = true := decide_eq_true hv
    go_enter Tryz.func77, Tryz.ntmps77
    go_wp2
    go_ret2
    exact ⟨rfl, Below.refl _ _⟩
  · rw [if_neg hv, if_neg hv]
    have hd : decide (v < 0) = false := decide_eq_false hv
    obtain ⟨n, rfl⟩ := Int.eq_ofNat_of_zero_le (Int.not_lt.1 hv)
    have hn : n < 18446744073709551616 := by omega
    rw [Int.toNat_natCast]
    go_enter Tryz.func77, Tryz.ntmps77
    go_wp2_with fail
    refine (appendVarint_any w.heap.size [] _ n _ hn (by simp) (Nat.le_refl _) (ByteRow.nil_ _ _)).mono ?_
    rintro e w1 ⟨v1, rfl, hown, hb, hne⟩
    have hcv := hown.conv
    rw [List.nil_append] at hcv
    clear hown
    go_wp2
    go_ret2
    exact ⟨rfl, hb⟩

end Go.Proofs.YtddnnhfffmhpmaaGreatDoor

/- Zigzag, written: the program's and the document's. -/
namespace Go.Proofs.YtddnnhfffmhpmaaGreatDoor
open Go.RowKit

end Go.Proofs.YtddnnhfffmhpmaaGreatDoor

/- Contracts of crc's small functions. -/
namespace Go.Proofs.YtddnnhfffmhpmaaGreatDoor
open Go.RowKit

theorem bit_u32 (c : Nat) (h : c < 4294967296) : bits .and .u32 (c : Int) 1 = ((c % 2 : Nat) : Int) := by
  have := u32_and_nat c 1 h (by decide)
  rw [Nat.and_one_is_mod] at this
  exact this

theorem mv_odd (c : Nat) (h : c < 4294967296) (ho : c % 2 = 1) : bits .xor .u32 ((c : Int) / 2) 3988292384 = ((CrcM.mv c : Nat) : Int) := by
  have e : ((c : Int) / 2) = ((c / 2 : Nat) : Int) := by omega
  have := u32_xor_nat (c / 2) 3988292384 (by omega) (by decide)
  rw [e]
  unfold CrcM.mv
  rw [if_pos ho]
  exact this
theorem mv_even (c : Nat) (ho : ¬ c % 2 = 1) : ((c : Int) / 2) = ((CrcM.mv c : Nat) : Int) := by
  unfold CrcM.mv
  rw [if_neg ho]
  omega


set_option maxHeartbeats 400000 in
theorem moveBit_any (c : Nat) (w : World) (h : c < 4294967296) :
    Calls Tryz.prog 244 #[.int .u32 c] w fun e w' => e = .returned (.int .u32 (CrcM.mv c)) ∧ w = w' := by
  have hb := bit_u32 c h
  by_cases ho : c % 2 = 1
  · rw [ho] at hb
    go_enter Tryz.func244, Tryz.ntmps244
    go_wp2
    go_ret
    exact ⟨ret_int (mv_odd c h ho), rfl⟩
  · have h0 : c % 2 = 0 := by omega
    rw [h0] at hb
    have h1 : c % 2 ≠ 1 := by omega
    clear h0
    go_enter Tryz.func244, Tryz.ntmps244
    go_wp2
    go_ret
    exact ⟨ret_int (mv_even c ho), rfl⟩

/-- the meter's table, in front of it the first k are made -/
def tabK (k : Nat) : Array Value := ((List.range 16).map fun i => Value.int .u32 (if i < k then (CrcM.mvn 4 i : Nat) else (0 : Nat) : Nat)).toArray
theorem tabK_size (k : Nat) : (tabK k).size = 16 := by simp [tabK]
theorem tabK_at (k i : Nat) (h : i < 16) : (tabK k)[i]? = some (.int .u32 (if i < k then (CrcM.mvn 4 i : Nat) else (0 : Nat) : Nat)) := by
  simp [tabK, h]
theorem tabK_set (k : Nat) : (tabK k).setIfInBounds k (.int .u32 (CrcM.mvn 4 k : Nat)) = tabK (k + 1) := by
  apply Array.ext
  · simp [tabK]
  · intro i h1 h2
    rw [tabK_size] at h2
    simp only [tabK, List.setIfInBounds_toArray, List.getElem_toArray, List.getElem_set, List.getElem_map, List.getElem_range]
    by_cases e : k = i
    · subst e; simp
    · rw [if_neg e]
      by_cases l : i < k
      · have : i < k + 1 := by omega
        simp [l, this]
      · have : ¬ i < k + 1 := by omega
        simp [l, this]

/-- the cells of a meter: done d, lock st, the table's first k made, sum s, count n -/
def gcells (d st k s n : Nat) : Array Value := #[.int .u32 d, .int .i32 st, .int .u32 0] ++ tabK k ++ #[.int .u32 s, .int .i64 n]
def mcells (d s n : Nat) : Array Value := gcells d 0 (16 * d) s n

set_option maxHeartbeats 400000 in
theorem new_any (w : World) :
    Calls Tryz.prog 198 #[] w fun e w' => e = .returned (.pointer (some ⟨w.heap.size, 0, none⟩)) ∧ w' = w.alloc (.cells (mcells 0 0 0) 252) := by
  go_enter Tryz.func198, Tryz.ntmps198
  go_wp2
  go_ret
  exact ⟨rfl, rfl⟩

set_option maxHeartbeats 400000 in
theorem msum_any (b : Nat) (s : Nat) (w : World) (h : w.cell? ⟨b, 19, none⟩ = some (.int .u32 s)) :
    Calls Tryz.prog 200 #[.pointer (some ⟨b, 0, none⟩)] w fun e w' => e = .returned (.int .u32 s) ∧ w = w' := by
  go_enter Tryz.func200, Tryz.ntmps200
  go_wp2
  go_ret
  exact ⟨rfl, rfl⟩

theorem add_run {P : Program} {w : World} (n m : Nat) (hn : n ≤ 1000000000) (hm : m ≤ 1000000000) : (Op.intArith .add .i64 (n : Int) (m : Int)).run P w = .ok (.int .i64 ((n + m : Nat) : Int)) w := by
  have h : IntKind.i64.wrap ((n : Int) + (m : Int)) = ((n + m : Nat) : Int) := by rw [IntWalk.i64_in _ (by omega)]; omega
  simp [go_sem, h]

set_option maxHeartbeats 400000 in
theorem iadd_any (b : Nat) (n m : Nat) (w : World) (hn : n ≤ 1000000000) (hm : m ≤ 1000000000) (h : w.cell? ⟨b, 20, none⟩ = some (.int .i64 n)) (hz : w.frozen? ⟨b, 20, none⟩ = false) :
    Calls Tryz.prog 169 #[.pointer (some ⟨b, 20, none⟩), .int .i64 m] w fun e w' => e = .returned (.int .i64 ((n + m : Nat) : Int)) ∧ w' = w.setCell ⟨b, 20, none⟩ (.int .i64 ((n + m : Nat) : Int)) := by
  have hadd := run_call_add (P := Tryz.prog) Tryz.func193 (by kernel_rfl) (by kernel_rfl) (by kernel_rfl) .i64 (by kernel_rfl) (y := m) (s := ((n + m : Nat) : Int)) h hz (add_run n m hn hm)
  go_enter Tryz.func169, Tryz.ntmps169
  go_wp2
  go_ret
  exact ⟨rfl, rfl⟩
end Go.Proofs.YtddnnhfffmhpmaaGreatDoor

/- makeTable's contract. -/
namespace Go.Proofs.YtddnnhfffmhpmaaGreatDoor
open Go.RowKit

def wtab (w : World) (k : Nat) : World := (w.alloc (.cells (tabK 0) 250)).alloc (.cells (tabK k) 250)
theorem wtab_heap (w : World) (k : Nat) : (wtab w k).heap[w.heap.size + 1]? = some (.cells (tabK k) 250 (0, 0)) := by
  have := heap_alloc_new (w.alloc (.cells (tabK 0) 250)) (.cells (tabK k) 250)
  simpa [wtab] using this
theorem wtab_cell (w : World) (k i : Nat) (h : i < 16) : (wtab w k).cell? ⟨w.heap.size + 1, i, none⟩ = some (.int .u32 (if i < k then (CrcM.mvn 4 i : Nat) else (0 : Nat) : Nat)) := by
  rw [cell_of_row _ _ _ _ _ _ (wtab_heap w k), tabK_at k i h]
theorem wtab_frozen (w : World) (k i : Nat) : (wtab w k).frozen? ⟨w.heap.size + 1, i, none⟩ = false := by
  simp [World.frozen?, wtab_heap w k]
theorem wtab_set (w : World) (k : Nat) : (wtab w k).setCell ⟨w.heap.size + 1, k, none⟩ (.int .u32 (CrcM.mvn 4 k : Nat)) = wtab w (k + 1) := by
  unfold wtab
  rw [World.setCell_alloc_at _ _ _ _ _ (by simp), tabK_set]

def wtab2 (w : World) : World := (w.alloc (.cells (tabK 16) 250)).alloc (.cells (tabK 16) 250)
theorem wtab2_heap (w : World) : (wtab2 w).heap[w.heap.size]? = some (.cells (tabK 16) 250 (0, 0)) := by
  unfold wtab2
  rw [Below.heap_alloc _ _ _ (by simp)]
  exact heap_alloc_new w _
theorem wtab0_heap (w : World) (k : Nat) : (wtab w k).heap[w.heap.size]? = some (.cells (tabK 0) 250 (0, 0)) := by
  unfold wtab
  rw [Below.heap_alloc _ _ _ (by simp)]
  exact heap_alloc_new w _
theorem tabK_one (k : Nat) : ∀ v ∈ (tabK k).toList, v.oneCell' = true := by
  intro v hv
  simp only [tabK, List.mem_map] at hv
  obtain ⟨i, _, rfl⟩ := hv
  rfl
theorem setRow_wtab (w : World) : (wtab w 16).setRow w.heap.size (tabK 16) = wtab2 w := by
  unfold wtab wtab2 World.setRow World.alloc
  congr 1
  apply Array.ext
  · simp
  · intro i h1 h2
    simp only [Array.getElem_modify, Array.getElem_push]
    by_cases e : w.heap.size = i
    · subst e; simp
    · simp only [e, if_false]
      by_cases l : i < w.heap.size
      · have : i < w.heap.size + 1 := by omega
        simp [l, this]
      · have : ¬ i < w.heap.size + 1 := by omega
        simp [this]
theorem asAddr_run (P : Program) (w : World) (a : Addr) : (asAddr (.pointer (some a))).run P w = .ok a w := rfl
theorem wtab_store (w : World) : (storeCells ⟨w.heap.size, 0, none⟩ (tabK 16).toList).run Tryz.prog (wtab w 16) = .ok () (wtab2 w) := by
  have := run_storeCells_from (P := Tryz.prog) w.heap.size 250 (tabK 16).toList 0 (tabK 0) (wtab w 16) (wtab0_heap w 16) (by simp [tabK_size]) (tabK_one 16)
  rw [this]
  simp [setRow_wtab]
theorem wtab2_load (w : World) (hi : (Tryz.prog.info? 250).map (·.size) = some (tabK 16).size) : (loadVar 250 ⟨w.heap.size, 0, none⟩).run Tryz.prog (wtab2 w) = .ok (.agg (tabK 16)) (wtab2 w) :=
  run_loadVar_row (wtab2 w) w.heap.size 250 250 (tabK 16) (0, 0) _ (wtab2_heap w) Tryz.underlying250 rfl hi

set_option maxRecDepth 100000 in
set_option maxHeartbeats 1000000 in
theorem makeTable_any (w : World) :
    Calls Tryz.prog 223 #[] w fun e w' => e = .returned (.agg (tabK 16)) ∧ w' = wtab2 w := by
  go_enter Tryz.func223, Tryz.ntmps223
  go_wp2
  go_loopw [4] (fun i wr => ∃ k : Nat, k ≤ 16 ∧ i = .int .i64 k ∧ wr = wtab w k) (fun i _ => 16 - (intOf i).toNat)
  case atStart => exact ⟨0, by omega, rfl, rfl⟩
  case round =>
    obtain ⟨k, hk, rfl, rfl⟩ := hrel
    by_cases hlt : k < 16
    · have hcell := wtab_cell w k k hlt
      have hfr := wtab_frozen w k k
      have hd : decide ((k : Int) < 16) = true := decide_eq_true (by omega)
      go_wp2
      go_loopw [3, 9] (fun c j wr => ∃ m : Nat, m ≤ 4 ∧ j = .int .i64 m ∧ c = .int .u32 (CrcM.mvn m k : Nat) ∧ wr = wtab w k) (fun _ j _ => 4 - (intOf j).toNat)
      case atStart => exact ⟨0, by omega, rfl, rfl, rfl⟩
      case round =>
        obtain ⟨m, hm, rfl, rfl, rfl⟩ := hrel
        have hc := CrcM.mvn_lt m (c := k) (by omega)
        by_cases hm4 : m < 4
        · go_wp2_with (go_at_call 244; refine (moveBit_any _ _ hc).mono ?_; rintro e w' ⟨rfl, rfl⟩)
          go_roundw
          case rel => exact ⟨m + 1, by omega, by go_num, rfl, trivial⟩
          case measure => simp [intOf]; omega
        · have h4 : m = 4 := by omega
          subst h4
          go_wp2
          rw [wtab_set]
          go_roundw
          case rel => exact ⟨k + 1, by omega, by go_num, rfl⟩
          case measure => simp [intOf]; omega
    · have h16 : k = 16 := by omega
      subst h16
      have hrow := wtab_heap w 16
      have hsz := tabK_size 16
      have hst := wtab_store w
      have hinfo : (Tryz.prog.info? 250).map (·.size) = some (tabK 16).size := by rw [tabK_size]; kernel_rfl
      go_wp2_with (refine wpList_load_row rfl 250 _ rfl _ rfl 250 (tabK 16) (0, 0) _ hrow Tryz.underlying250 rfl hinfo ?_)
      exact bodyPost_ret (v := .agg (tabK 16)) (by simp [results, Tryz.results223, asAddr_run, wtab2_load w hinfo]) rfl ⟨rfl, rfl⟩
end Go.Proofs.YtddnnhfffmhpmaaGreatDoor

/- What a sync.Once does the first time, and later: the lock, the two calls that are put off, Do. -/
namespace Go.Proofs.YtddnnhfffmhpmaaGreatDoor
open Go.RowKit

set_option maxRecDepth 100000 in
theorem disable (w : World) : (callFunc 266 #[]).run Tryz.prog w = .ok (.value (.tuple #[])) w := run_call_mark0 Tryz.func266 (by kernel_rfl) (by kernel_rfl) (by kernel_rfl) .disable (by kernel_rfl) w
set_option maxRecDepth 100000 in
theorem enable (w : World) : (callFunc 268 #[]).run Tryz.prog w = .ok (.value (.tuple #[])) w := run_call_mark0 Tryz.func268 (by kernel_rfl) (by kernel_rfl) (by kernel_rfl) .enable (by kernel_rfl) w
set_option maxRecDepth 100000 in
theorem acquire (a : Addr) (w : World) : (callFunc 269 #[.pointer (some a)]).run Tryz.prog w = .ok (.value (.tuple #[])) w := run_call_marked Tryz.func269 (by kernel_rfl) (by kernel_rfl) (by kernel_rfl) .acquire (by kernel_rfl) a w
set_option maxRecDepth 100000 in
theorem releaseMerge (a : Addr) (w : World) : (callFunc 271 #[.pointer (some a)]).run Tryz.prog w = .ok (.value (.tuple #[])) w := run_call_marked Tryz.func271 (by kernel_rfl) (by kernel_rfl) (by kernel_rfl) .releaseMerge (by kernel_rfl) a w

set_option maxRecDepth 100000 in
theorem store_deferred (a : Addr) (x : Value) (u : FrameMode) (w : World) (hc : w.cell? a = some x) (hz : w.frozen? a = false) :
    CallsD Tryz.prog 255 #[.pointer (some a), .bool true] u w fun e u' w' => u' = u ∧ (e = .returned (.tuple #[]) ∧ w' = w.drew.setCell a (.int .u32 1)) := by
  have hc' : w.drew.cell? a = some x := by go_simp
  have hz' : w.drew.frozen? a = false := by go_simp
  have hst := run_call_store (P := Tryz.prog) Tryz.func263 (by kernel_rfl) (by kernel_rfl) (by kernel_rfl) (by kernel_rfl) (k := .u32) (y := 1) hc' hz'
  go_enter_d Tryz.func255, Tryz.ntmps255
  go_wp2
  go_region_calls
  all_goals (go_end0; exact ⟨rfl, rfl⟩)

set_option maxRecDepth 100000 in
theorem unlock_deferred (a : Addr) (u : FrameMode) (w : World) (hc : w.cell? a = some (.int .i32 1)) (hz : w.frozen? a = false) :
    CallsD Tryz.prog 254 #[.pointer (some a)] u w fun e u' w' => u' = u ∧ (e = .returned (.tuple #[]) ∧ w' = w.setCell a (.int .i32 0)) := by
  have hd := disable
  have he := enable
  have hr := releaseMerge
  have hadd := run_call_add (P := Tryz.prog) Tryz.func272 (by kernel_rfl) (by kernel_rfl) (by kernel_rfl) .i32 (by kernel_rfl) (y := -1) (s := 0) hc hz (by simp [go_sem]; rfl)
  have hcv := run_convert_to_unsafe (P := Tryz.prog) (src := 286) (dst := 235) Tryz.underlying286 Tryz.underlying235 (by kernel_rfl) hc
  go_enter_d Tryz.func254, Tryz.ntmps254
  go_wp2
  go_end0
  go_wp2
  go_end0
  exact ⟨rfl, rfl⟩

set_option maxRecDepth 100000 in
theorem lock_free (a : Addr) (w : World) (hc : w.cell? a = some (.int .i32 0)) (hz : w.frozen? a = false) :
    Calls Tryz.prog 253 #[.pointer (some a)] w fun e w' => e = .returned (.tuple #[]) ∧ w' = w.setCell a (.int .i32 1) := by
  have hd := disable
  have he := enable
  have ha := acquire
  have hcas := run_call_cas_hit (P := Tryz.prog) Tryz.func267 (by kernel_rfl) (by kernel_rfl) (by kernel_rfl) .i32 (by kernel_rfl) (y := 1) hc hz
  have hc' : (w.setCell a (.int .i32 1)).cell? a = some (.int .i32 1) := World.cell?_setCell_same w a _ hc
  have hcv := run_convert_to_unsafe (P := Tryz.prog) (src := 286) (dst := 235) Tryz.underlying286 Tryz.underlying235 (by kernel_rfl) hc'
  go_enter Tryz.func253, Tryz.ntmps253
  go_wp2
  first | go_end0 | (simp only [Exit.inBlock, Exit.then]; refine bodyPost_ret (results_none rfl _ _ _) rfl ?_) | refine bodyPost_ret (results_none rfl _ _ _) rfl ?_
  go_wp2
  go_end0
  exact ⟨rfl, rfl⟩

set_option maxRecDepth 100000 in
/-- Do, done already -/
theorem do_done (a : Addr) (fv : Value) (w : World) (h0 : w.cell? a = some (.int .u32 1)) :
    Calls Tryz.prog 221 #[.pointer (some a), fv] w fun e w' => e = .returned (.tuple #[]) ∧ w = w' := by
  have hl := run_call_load (P := Tryz.prog) Tryz.func252 (by kernel_rfl) (by kernel_rfl) (by kernel_rfl) .u32 (by kernel_rfl) h0
  have hnot : ∀ (x : Bool) (w : World), (Op.unary .not (.bool x)).run Tryz.prog w = .ok (.bool (!x)) w := fun _ _ => rfl
  go_enter Tryz.func221, Tryz.ntmps221
  go_wp2
  go_end0
  exact ⟨rfl, rfl⟩
end Go.Proofs.YtddnnhfffmhpmaaGreatDoor
