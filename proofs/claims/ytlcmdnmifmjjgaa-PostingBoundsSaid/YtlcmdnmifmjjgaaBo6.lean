/- Own texts, merged (6 of 9). -/
import Derived.Deep.RegionWith
import Derived.Lib.IndexBytes
import Derived.LaidEqlPtr
import Derived.Lib.Builder
import Derived.Laws.AppendOwnNone
import Derived.Test.YtlcmdnmifmjjgaaBo5

/- Open, and the document's. -/
namespace Go.Proofs.Ytlcmdnmifmjjgaa
open Go.RowKit

set_option maxHeartbeats 1000000 in
set_option maxRecDepth 100000 in
theorem open_short (s : ByteArray) (w : World) (h : s.size < 4) :
    Calls Try.prog 35 #[.string s] w fun e w' => e = .returned (.tuple #[.string ⟨#[]⟩, .int .i64 2]) ∧ w = w' := by
  go_enter Try.func35, Try.ntmps35
  go_wp2
  go_ret2
  exact ⟨rfl, rfl⟩

theorem tail_eq (s : ByteArray) (n : Nat) (h : s.size = n + 4) : ((s.extract n s.size).toList == (ofBytes (CrcM.le4 (CrcM.sum (List.take n s.data.toList)))).toList) = decide (s.data.toList = CrcM.sealed (s.data.toList.take n)) := by
  rw [Bool.eq_iff_iff, beq_iff_eq, decide_eq_true_iff]
  have e1 : (s.extract n s.size).toList = s.data.toList.drop n := by
    rw [ByteArray.toList_eq, Lib.extract_to_end]
  have e2 : (ofBytes (CrcM.le4 (CrcM.sum (List.take n s.data.toList)))).toList = CrcM.le4 (CrcM.sum (List.take n s.data.toList)) := by
    rw [ByteArray.toList_eq, ofBytes_list]
  rw [e1, e2]
  constructor
  · intro h1
    unfold CrcM.sealed
    rw [← h1, List.take_append_drop]
  · intro h1
    unfold CrcM.sealed at h1
    have hl : (s.data.toList.take n).length = n := by simp; omega
    have := congrArg (List.drop n) h1
    rw [List.drop_append_of_le_length (by omega)] at this
    rw [this, List.drop_of_length_le (by omega)]
    rfl

set_option maxHeartbeats 1000000 in
set_option maxRecDepth 100000 in
theorem open_bad (s : ByteArray) (n : Nat) (w : World) (h : s.size = n + 4) (hl : s.size ≤ 100000000) (hne : s.data.toList ≠ CrcM.sealed (s.data.toList.take n)) :
    Calls Try.prog 35 #[.string s] w fun e w' => e = .returned (.tuple #[.string ⟨#[]⟩, .int .i64 8]) ∧ Below w.heap.size w w' := by
  have hb := tail_eq s n h
  rw [decide_eq_false hne] at hb
  have hsub : (s.size : Int) - 4 = (n : Int) := by omega
  have hn1 : n + 4 ≤ s.size := by omega
  have hn2 : (s.extract 0 n).size ≤ 100000000 := by simp [ByteArray.size_extract]; omega
  have hnn : (n : Int) ≤ (s.size : Int) := by omega
  have hn0 : decide ((n : Int) < 0) = false := decide_eq_false (by omega)
  clear hne h
  go_enter Try.func35, Try.ntmps35
  go_wp2
  go_region_with (go_at_call 45; refine (seal_any _ _ hn2).mono ?_; rintro e w' ⟨rfl, hbw⟩)
  all_goals go_wp2
  all_goals go_ret2
  all_goals exact ⟨rfl, (Below.refl _ w).drew.trans hbw⟩

theorem extract_self (s : ByteArray) (n : Nat) : s.extract 0 n = ofBytes (s.data.toList.take n) := by
  apply ByteArray.ext
  apply Array.ext'
  simp [ofBytes, ByteArray.data_extract]

set_option maxHeartbeats 1000000 in
set_option maxRecDepth 100000 in
theorem open_good (s : ByteArray) (n : Nat) (w : World) (h : s.size = n + 4) (hl : s.size ≤ 100000000) (hne : s.data.toList = CrcM.sealed (s.data.toList.take n)) :
    Calls Try.prog 35 #[.string s] w fun e w' => e = .returned (.tuple #[.string (ofBytes (s.data.toList.take n)), .int .i64 0]) ∧ Below w.heap.size w w' := by
  have hb := tail_eq s n h
  rw [decide_eq_true hne] at hb
  have hsub : (s.size : Int) - 4 = (n : Int) := by omega
  have hn1 : n + 4 ≤ s.size := by omega
  have hn2 : (s.extract 0 n).size ≤ 100000000 := by simp [ByteArray.size_extract]; omega
  have hnn : (n : Int) ≤ (s.size : Int) := by omega
  have hn0 : decide ((n : Int) < 0) = false := decide_eq_false (by omega)
  rw [← extract_self]
  clear hne h
  go_enter Try.func35, Try.ntmps35
  go_wp2
  go_region_with (go_at_call 45; refine (seal_any _ _ hn2).mono ?_; rintro e w' ⟨rfl, hbw⟩)
  all_goals go_wp2_with (go_at_call 48; refine (clone_any _ _ hn2).mono ?_; rintro e w2 ⟨rfl, hbw2⟩)
  all_goals go_ret2
  all_goals exact ⟨rfl, (Below.refl _ w).drew.trans (hbw.trans (hbw2.mono hbw.size))⟩

theorem refopen_short (s : ByteArray) (w : World) (h : s.size < 4) :
    Calls Try.prog 38 #[.string s] w fun e w' => e = .returned (.tuple #[.string ⟨#[]⟩, .int .i64 2]) ∧ w = w' := by
  go_enter Try.func38, Try.ntmps38
  go_wp2
  go_ret2
  exact ⟨rfl, rfl⟩

theorem whole_eq (s : ByteArray) (n : Nat) : ((ofBytes (CrcM.sealed (List.take n s.data.toList))).toList == s.toList) = decide (s.data.toList = CrcM.sealed (s.data.toList.take n)) := by
  rw [Bool.eq_iff_iff, beq_iff_eq, decide_eq_true_iff, ByteArray.toList_eq, ByteArray.toList_eq, ofBytes_list]
  exact eq_comm

set_option maxHeartbeats 1000000 in
set_option maxRecDepth 100000 in
theorem refopen_bad (s : ByteArray) (n : Nat) (w : World) (h : s.size = n + 4) (hl : s.size ≤ 100000000) (hne : s.data.toList ≠ CrcM.sealed (s.data.toList.take n)) :
    Calls Try.prog 38 #[.string s] w fun e w' => e = .returned (.tuple #[.string ⟨#[]⟩, .int .i64 8]) ∧ Below w.heap.size w w' := by
  have hb := whole_eq s n
  rw [decide_eq_false hne] at hb
  have hsub : (s.size : Int) - 4 = (n : Int) := by omega
  have hn1 : n + 4 ≤ s.size := by omega
  have hn2 : (s.extract 0 n).size ≤ 100000000 := by simp [ByteArray.size_extract]; omega
  have hnn : (n : Int) ≤ (s.size : Int) := by omega
  have hn0 : decide ((n : Int) < 0) = false := decide_eq_false (by omega)
  clear hne h
  go_enter Try.func38, Try.ntmps38
  go_wp2_with (go_at_call 34; refine (refseal_any _ _ hn2).mono ?_; rintro e w' ⟨rfl, hbw⟩)
  go_ret2
  exact ⟨rfl, hbw⟩

set_option maxHeartbeats 1000000 in
set_option maxRecDepth 100000 in
theorem refopen_good (s : ByteArray) (n : Nat) (w : World) (h : s.size = n + 4) (hl : s.size ≤ 100000000) (hne : s.data.toList = CrcM.sealed (s.data.toList.take n)) :
    Calls Try.prog 38 #[.string s] w fun e w' => e = .returned (.tuple #[.string (ofBytes (s.data.toList.take n)), .int .i64 0]) ∧ Below w.heap.size w w' := by
  have hb := whole_eq s n
  rw [decide_eq_true hne] at hb
  have hsub : (s.size : Int) - 4 = (n : Int) := by omega
  have hn1 : n + 4 ≤ s.size := by omega
  have hn2 : (s.extract 0 n).size ≤ 100000000 := by simp [ByteArray.size_extract]; omega
  have hnn : (n : Int) ≤ (s.size : Int) := by omega
  have hn0 : decide ((n : Int) < 0) = false := decide_eq_false (by omega)
  rw [← extract_self]
  clear hne h
  go_enter Try.func38, Try.ntmps38
  go_wp2_with (go_at_call 34; refine (refseal_any _ _ hn2).mono ?_; rintro e w' ⟨rfl, hbw⟩)
  go_ret2
  exact ⟨rfl, hbw⟩
end Go.Proofs.Ytlcmdnmifmjjgaa

/- awake answers true. -/
namespace Go.Proofs.Ytlcmdnmifmjjgaa
open Go.RowKit

theorem add_five (w : World) (b : Nat) (hm : GMtr w b 0 0 (16 * 0) 0 0) :
    Calls Try.prog 69 #[.pointer (some ⟨b, 0, none⟩), .string ⟨#[49, 50, 51, 52, 53]⟩] w fun e w' => e = .returned (.pointer (some ⟨b, 0, none⟩)) ∧ GMtr w' b 1 0 16 3421846044 5 ∧ w.grownBy w' (some b) := by
  refine (add_any b 0 0 0 (.inl rfl) ⟨#[49, 50, 51, 52, 53]⟩ w (by omega) (by omega) (by decide) hm).mono fun e w' ⟨h1, h2, h3⟩ => ⟨h1, ?_, h3⟩
  have e1 : 4294967295 - CrcM.run (4294967295 - 0) [49, 50, 51, 52, 53] = 3421846044 := by decide +kernel
  have e2 : (⟨#[49, 50, 51, 52, 53]⟩ : ByteArray).data.toList = [49, 50, 51, 52, 53] := rfl
  have e3 : 0 + (⟨#[49, 50, 51, 52, 53]⟩ : ByteArray).size = 5 := rfl
  rw [e2, e1, e3] at h2
  exact h2
theorem add_four (w : World) (b : Nat) (hm : GMtr w b 1 0 16 3421846044 5) :
    Calls Try.prog 69 #[.pointer (some ⟨b, 0, none⟩), .string ⟨#[54, 55, 56, 57]⟩] w fun e w' => e = .returned (.pointer (some ⟨b, 0, none⟩)) ∧ GMtr w' b 1 0 16 3421780262 9 ∧ w.grownBy w' (some b) := by
  refine (add_any b 1 3421846044 5 (.inr rfl) ⟨#[54, 55, 56, 57]⟩ w (by omega) (by omega) (by decide) hm).mono fun e w' ⟨h1, h2, h3⟩ => ⟨h1, ?_, h3⟩
  have e1 : 4294967295 - CrcM.run (4294967295 - 3421846044) [54, 55, 56, 57] = 3421780262 := by decide +kernel
  have e2 : (⟨#[54, 55, 56, 57]⟩ : ByteArray).data.toList = [54, 55, 56, 57] := rfl
  have e3 : 5 + (⟨#[54, 55, 56, 57]⟩ : ByteArray).size = 9 := rfl
  rw [e2, e1, e3] at h2
  exact h2
theorem seal_ab (w : World) : Calls Try.prog 31 #[.string ⟨#[97, 98]⟩] w fun e w' => e = .returned (.string (ofBytes (CrcM.sealed [97, 98]))) ∧ Below w.heap.size w w' :=
  Seal_any ⟨#[97, 98]⟩ w (by decide)
theorem open_ab (w : World) : Calls Try.prog 35 #[.string (ofBytes (CrcM.sealed [97, 98]))] w fun e w' => e = .returned (.tuple #[.string ⟨#[97, 98]⟩, .int .i64 0]) ∧ Below w.heap.size w w' := by
  refine (open_good (ofBytes (CrcM.sealed [97, 98])) 2 w rfl (by decide +kernel) (by rw [ofBytes_list]; rfl)).mono fun e w' ⟨h1, h2⟩ => ⟨?_, h2⟩
  rw [h1, ofBytes_list]
  rfl
theorem open_abc (w : World) : Calls Try.prog 35 #[.string ⟨#[97, 98, 99]⟩] w fun e w' => e = .returned (.tuple #[.string ⟨#[]⟩, .int .i64 2]) ∧ w = w' :=
  open_short ⟨#[97, 98, 99]⟩ w (by decide)
theorem open_abcd (w : World) : Calls Try.prog 35 #[.string ⟨#[97, 98, 99, 100]⟩] w fun e w' => e = .returned (.tuple #[.string ⟨#[]⟩, .int .i64 8]) ∧ Below w.heap.size w w' :=
  open_bad ⟨#[97, 98, 99, 100]⟩ 0 w rfl (by decide) (by
    have : ¬ ([97, 98, 99, 100] : List UInt8) = CrcM.sealed [] := by decide +kernel
    exact this)
theorem sum_parts (w : World) (g : Nat) (h : w.heap[g]? = some (.cells #[.string ⟨#[49, 50, 51, 52]⟩, .string ⟨#[53, 54, 55, 56, 57]⟩] 9 (0, 0))) :
    Calls Try.prog 58 #[.slice (some ⟨g, 0, none⟩) 2 2] w fun e w' => e = .returned (.int .u32 3421780262) ∧ Below w.heap.size w w' := by
  have hg : g < w.heap.size := (Array.getElem?_eq_some_iff.1 h).1
  refine (sum_any (some ⟨g, 0, none⟩) 2 2 [⟨#[49, 50, 51, 52]⟩, ⟨#[53, 54, 55, 56, 57]⟩] w (by omega) (by decide) ⟨rfl, fun k hk => ⟨g, 0, rfl, hg, ?_⟩⟩).mono fun e w' ⟨h1, h2⟩ => ⟨?_, h2⟩
  · rw [cell_of_row _ _ _ _ _ _ h]
    match k, hk with
    | 0, _ => rfl
    | 1, _ => rfl
  · have e1 : CrcM.sum [49, 50, 51, 52, 53, 54, 55, 56, 57] = 3421780262 := by decide +kernel
    have e2 : cat [⟨#[49, 50, 51, 52]⟩, ⟨#[53, 54, 55, 56, 57]⟩] = [49, 50, 51, 52, 53, 54, 55, 56, 57] := rfl
    rw [h1, e2, e1]
    rfl
theorem seal_none (w : World) : Calls Try.prog 31 #[.string ⟨#[]⟩] w fun e w' => e = .returned (.string ⟨#[0, 0, 0, 0]⟩) ∧ Below w.heap.size w w' := by
  refine (Seal_any ⟨#[]⟩ w (by decide)).mono fun e w' ⟨h1, h2⟩ => ⟨?_, h2⟩
  have e1 : CrcM.sealed [] = [0, 0, 0, 0] := by decide +kernel
  have e2 : (⟨#[]⟩ : ByteArray).data.toList = [] := rfl
  rw [h1, e2, e1]
  rfl

theorem meter_info : ∃ j, Try.prog.info? 134 = some j := by
  have h : (Try.prog.info? 134).isSome = true := by kernel_rfl
  exact Option.isSome_iff_exists.1 h

end Go.Proofs.Ytlcmdnmifmjjgaa

/- 'append([]string{}, l...)': the new slice reads as l does; nothing that was there has turned. -/
namespace Go.Proofs.Ytlcmdnmifmjjgaa
open Go.RowKit

theorem str_info : (Try.prog.info? 9).map (fun i => (i.zero, i.size, i.bytes)) = some (some (.string ⟨#[]⟩), 1, 16) := by kernel_rfl

set_option maxRecDepth 100000 in
theorem wpList_append_strs {w : World} {ops : Array Oper} {rest : List Oper} {o : Oper} {a : Act} {Q : Exit → Act → World → Prop} (hgd : o.guard = none) (s x : Operand)
    (ho : o.op = .call { callee := .builtin .append, args := #[s, x], argTypes := #[111, 111] })
    (g base : Nat) (hs : a.eval s = .slice (some ⟨g, 0, none⟩) 0 0) (hg : w.heap[g]? = some (.cells #[] 9 (0, 0))) (hbase : base ≤ g)
    (A : Option Addr) (n cp : Nat) (l : List ByteArray) (hx : a.eval x = .slice A n cp) (hS : Strs w A n l) (hA : A = none → cp = 0) (hn : n ≤ 1000000)
    (h : ∀ A' c' w', Strs w' A' n l → Below base w w' → wpList Try.prog ops Q rest (a.put o.dst (.slice A' n c')) w') : wpList Try.prog ops Q (o :: rest) a w := by
  obtain ⟨i0, hi, hz0, hz1, hz2⟩ := info_parts str_info
  have hgl : g < w.heap.size := (Array.getElem?_eq_some_iff.1 hg).1
  have hown : w.ownsRow base 9 1 (.slice (some ⟨g, 0, none⟩) 0 0) 0 [] := ⟨rfl, .inr ⟨g, 0, #[], rfl, hbase, hg, Nat.le_refl _, by simp [maxLen], rfl, rfl⟩⟩
  rcases A with _ | ad
  · have hn0 : n = 0 := by
      rcases Nat.eq_zero_or_pos n with e | e
      · exact e
      · obtain ⟨b, o, e', _⟩ := hS.2 0 (by rw [hS.1]; exact e)
        cases e'
    subst hn0
    have hcp := hA rfl
    subst hcp
    have hl0 : l = [] := List.eq_nil_of_length_eq_zero hS.1
    subst hl0
    exact wpList_append_own_none hgd s x 111 ho base 9 i0 1 Try.underlying111 hi _ 0 [] hs hown hx (h _ _ w ⟨rfl, fun k hk => by simp at hk⟩ (Below.refl _ _))
  · refine wpList_append_own w hgd s x 111 ho base 9 i0 _ 1 16 Try.underlying111 hi hz0 hz1 hz2 rfl (by omega) _ 0 [] hs hown ad n cp (l.map Value.string) hx (by simp [hS.1]) (fun j u hu => ?_) (fun u hu => ?_) (by simp [maxLen]; omega) (by omega) (by omega) ?_
    · have hj : j < l.length := by
        have := (List.getElem?_eq_some_iff.1 hu).1
        simpa using this
      obtain ⟨b, o, e, _, hc⟩ := hS.2 j hj
      injection e with e
      subst e
      rw [add_none, hc]
      simpa [hj] using hu
    · simp only [List.mem_map] at hu
      obtain ⟨t, _, rfl⟩ := hu
      rfl
    · intro v' w' hown' hg' _
      have hb : Below base w w' := (Below.refl _ _).grown hg' (by omega) (fun k hk => by simp [Value.ownBlock] at hk; omega)
      rw [Nat.zero_add, List.nil_append] at hown'
      rcases hown'.2 with ⟨rfl, rfl⟩ | ⟨g', cap, cur, rfl, _, hh, _⟩
      · have hl0 : l = [] := List.eq_nil_of_length_eq_zero hS.1
        subst hl0
        exact h none 0 w' ⟨rfl, fun k hk => by simp at hk⟩ hb
      · refine h (some ⟨g', 0, none⟩) cap w' ⟨hS.1, fun k hk => ⟨g', 0, rfl, (Array.getElem?_eq_some_iff.1 hh).1, ?_⟩⟩ hb
        have := hown'.cells (g := g') rfl k (.string l[k]) (by simp [hk])
        rw [add_none] at this
        exact this
end Go.Proofs.Ytlcmdnmifmjjgaa

/- CrcTells answers true: the walk. -/
namespace Go.Proofs.Ytlcmdnmifmjjgaa
open Go.RowKit

theorem size_ofBytes' (l : List UInt8) : (ofBytes l).size = l.length := by simp [ofBytes, ByteArray.size]

/-- what Open and the document's Open both answer -/
def openV (x : List UInt8) : ByteArray := if x.length < 4 then ⟨#[]⟩ else if x = CrcM.sealed (x.take (x.length - 4)) then ofBytes (x.take (x.length - 4)) else ⟨#[]⟩
def openC (x : List UInt8) : Int := if x.length < 4 then 2 else if x = CrcM.sealed (x.take (x.length - 4)) then 0 else 8

theorem open_all (x : List UInt8) (w : World) (h : x.length ≤ 100000) :
    Calls Try.prog 35 #[.string (ofBytes x)] w fun e w' => e = .returned (.tuple #[.string (openV x), .int .i64 (openC x)]) ∧ Below w.heap.size w w' := by
  have hs := size_ofBytes' x
  unfold openV openC
  by_cases h4 : x.length < 4
  · rw [if_pos h4, if_pos h4]
    exact (open_short _ w (by omega)).mono fun e w' ⟨he, hw⟩ => ⟨he, by subst hw; exact Below.refl _ _⟩
  · rw [if_neg h4, if_neg h4]
    by_cases hb : x = CrcM.sealed (x.take (x.length - 4))
    · rw [if_pos hb, if_pos hb]
      have := open_good (ofBytes x) (x.length - 4) w (by omega) (by omega) (by rw [ofBytes_list]; exact hb)
      rw [ofBytes_list] at this
      exact this
    · rw [if_neg hb, if_neg hb]
      exact open_bad (ofBytes x) (x.length - 4) w (by omega) (by omega) (by rw [ofBytes_list]; exact hb)

theorem refopen_all (x : List UInt8) (w : World) (h : x.length ≤ 100000) :
    Calls Try.prog 38 #[.string (ofBytes x)] w fun e w' => e = .returned (.tuple #[.string (openV x), .int .i64 (openC x)]) ∧ Below w.heap.size w w' := by
  have hs := size_ofBytes' x
  unfold openV openC
  by_cases h4 : x.length < 4
  · rw [if_pos h4, if_pos h4]
    exact (refopen_short _ w (by omega)).mono fun e w' ⟨he, hw⟩ => ⟨he, by subst hw; exact Below.refl _ _⟩
  · rw [if_neg h4, if_neg h4]
    by_cases hb : x = CrcM.sealed (x.take (x.length - 4))
    · rw [if_pos hb, if_pos hb]
      have := refopen_good (ofBytes x) (x.length - 4) w (by omega) (by omega) (by rw [ofBytes_list]; exact hb)
      rw [ofBytes_list] at this
      exact this
    · rw [if_neg hb, if_neg hb]
      exact refopen_bad (ofBytes x) (x.length - 4) w (by omega) (by omega) (by rw [ofBytes_list]; exact hb)

theorem Strs.keep {w w' : World} {A : Option Addr} {n : Nat} {l : List ByteArray} (h : Strs w A n l) {B : Nat} (hB : ∀ b o, A = some ⟨b, o, none⟩ → b < B) (hb : Below B w w') : Strs w' A n l :=
  ⟨h.1, fun k hk => by
    obtain ⟨b, o, e, hlt, hc⟩ := h.2 k hk
    exact ⟨b, o, e, Nat.lt_of_lt_of_le hlt hb.size, (hb.cell (p := ⟨b, o + k, none⟩) (hB b o e)).trans hc⟩⟩

theorem refsum_all (x : List UInt8) (w : World) (h : x.length ≤ 100000) :
    Calls Try.prog 47 #[.string (ofBytes x)] w fun e w' => e = .returned (.int .u32 (CrcM.sum x : Nat)) ∧ w = w' := by
  have := refsum_any (ofBytes x) w (by rw [size_ofBytes']; omega)
  rw [ofBytes_list] at this
  exact this
theorem seal_all (x : List UInt8) (w : World) (h : x.length ≤ 100000) :
    Calls Try.prog 31 #[.string (ofBytes x)] w fun e w' => e = .returned (.string (ofBytes (CrcM.sealed x))) ∧ Below w.heap.size w w' := by
  have := Seal_any (ofBytes x) w (by rw [size_ofBytes']; omega)
  rw [ofBytes_list] at this
  exact this
theorem refseal_all (x : List UInt8) (w : World) (h : x.length ≤ 100000) :
    Calls Try.prog 34 #[.string (ofBytes x)] w fun e w' => e = .returned (.string (ofBytes (CrcM.sealed x))) ∧ Below w.heap.size w w' := by
  have := refseal_any (ofBytes x) w (by rw [size_ofBytes']; omega)
  rw [ofBytes_list] at this
  exact this
theorem add_more (g d : Nat) (x : List UInt8) (t : ByteArray) (y : List UInt8) (hy : y = x ++ t.data.toList) (hd : d = 0 ∨ d = 1) (w : World) (hx : x.length ≤ 100000) (ht : t.size ≤ 100000) (hm : GMtr w g d 0 (16 * d) (CrcM.sum x) x.length) :
    Calls Try.prog 69 #[.pointer (some ⟨g, 0, none⟩), .string t] w fun e w' => e = .returned (.pointer (some ⟨g, 0, none⟩)) ∧ GMtr w' g 1 0 (16 * 1) (CrcM.sum y) y.length ∧ w.grownBy w' (some g) := by
  refine (add_any g d _ _ hd t w (CrcM.sum_lt x) (by omega) (by omega) hm).mono fun e w' ⟨h1, h2, h3⟩ => ⟨h1, ?_, h3⟩
  rw [hy, ← sum_more, List.length_append]
  exact h2
theorem cat_none (l : List ByteArray) : cat (l.take 0) = [] := by simp [cat]

end Go.Proofs.Ytlcmdnmifmjjgaa

/- Posts: Parse, over a contract of its reading. -/
namespace Go.Proofs.Ytlcmdnmifmjjgaa
open Go.RowKit

/-- what Parse answers: the posts, or none; the error's number -/
def parA (x : List UInt8) : Option (List (Int × Int)) × Int :=
  if openC x = 0 then match PostM.rdP (openV x).data.toList with
    | none => (none, 2)
    | some l => if PostM.rightL l = true then (some l, 0) else (none, 2)
  else (none, openC x)
theorem parA_seal {x : List UInt8} (h : ¬ openC x = 0) : parA x = (none, openC x) := by unfold parA; rw [if_neg h]
theorem parA_form {x : List UInt8} (h : openC x = 0) (h2 : PostM.rdP (openV x).data.toList = none) : parA x = (none, 2) := by unfold parA; rw [if_pos h, h2]
theorem parA_wrong {x : List UInt8} {l : List (Int × Int)} (h : openC x = 0) (h2 : PostM.rdP (openV x).data.toList = some l) (h3 : PostM.rightL l = false) : parA x = (none, 2) := by unfold parA; rw [if_pos h, h2]; simp [h3]
theorem parA_good {x : List UInt8} {l : List (Int × Int)} (h : openC x = 0) (h2 : PostM.rdP (openV x).data.toList = some l) (h3 : PostM.rightL l = true) : parA x = (some l, 0) := by unfold parA; rw [if_pos h, h2]; simp [h3]
def PaEnd (w : World) (x : List UInt8) (e : Ending) (w' : World) : Prop := match (parA x).1 with
  | none => e = .returned (.tuple #[.pointer none, .int .i64 (parA x).2])
  | some l => ∃ b, e = .returned (.tuple #[.pointer (some ⟨b, 0, none⟩), .int .i64 (parA x).2]) ∧ w.heap.size ≤ b ∧ PL w' b l
theorem PaEnd.none_ {w w' : World} {x : List UInt8} {e : Ending} {c : Int} (h : parA x = (none, c)) (he : e = .returned (.tuple #[.pointer none, .int .i64 c])) : PaEnd w x e w' := by unfold PaEnd; rw [h]; exact he
theorem PaEnd.some_ {w w' : World} {x : List UInt8} {e : Ending} {l : List (Int × Int)} {b : Nat} (h : parA x = (some l, 0)) (he : e = .returned (.tuple #[.pointer (some ⟨b, 0, none⟩), .int .i64 0])) (hb : w.heap.size ≤ b) (hp : PL w' b l) : PaEnd w x e w' := by unfold PaEnd; rw [h]; exact ⟨b, he, hb, hp⟩
/-- what read answers, of bytes t -/
def RdEnd (t : List UInt8) (e : Ending) (w' : World) : Prop := ∃ v ok l, e = .returned (.tuple #[v, .bool ok]) ∧ Prd w' v l ∧ l.length ≤ 1000000 ∧ ((ok = true ∧ PostM.rdP t = some l) ∨ (ok = false ∧ PostM.rdP t = none))

set_option maxHeartbeats 4000000 in
set_option maxRecDepth 100000 in
theorem parse_walk (x : List UInt8) (w : World) (hx : x.length ≤ 60000)
    (hRD : ∀ W b, w.heap.size ≤ b → RD W b (openV x).data.toList false → Calls Try.prog 36 #[.pointer (some ⟨b, 0, none⟩)] W fun e W' => RdEnd (openV x).data.toList e W' ∧ Turned (fun k => k = b) W W') :
    Calls Try.prog 17 #[.string (ofBytes x)] w fun e w' => PaEnd w x e w' ∧ Below w.heap.size w w' := by
  have HRD := Lib.hid hRD
  have hO := open_all x w (by omega)
  have hvl : (openV x).data.toList.length ≤ x.length := by
    have hz : (ofBytes (x.take (x.length - 4))).data.toList.length ≤ x.length := by rw [ofBytes_list, List.length_take]; omega
    unfold openV
    split
    · simp
    · split
      · exact hz
      · simp
  obtain ⟨s, hs⟩ : ∃ s, s = (openV x).data.toList := ⟨_, rfl⟩
  have hov : openV x = ofBytes s := by rw [hs, ofBytes_self]
  obtain ⟨c, hc⟩ : ∃ c, c = openC x := ⟨_, rfl⟩
  rw [hov, ← hc] at hO
  rw [← hs] at hvl
  have HO := Lib.hid hO
  have HS := Lib.hid hs
  have HC := Lib.hid hc
  have HN := Lib.hid (rnew_any · s (by omega))
  clear hO hRD hs hov hc
  by_cases hc0 : c = 0
  · subst hc0
    go_enter Try.func17, Try.ntmps17
    go_wp2_with fail
    refine HO.out.mono ?_
    rintro e w1 ⟨rfl, hb1⟩
    have HB1 := Lib.hid hb1
    clear hb1
    go_wp2_with fail
    refine (HN.out w1).mono ?_
    rintro e w2 ⟨b, rfl, hbb, hrd, hb2⟩
    have hb12 := HB1.out.trans (hb2.mono HB1.out.size)
    have hwb : w.heap.size ≤ b := Nat.le_trans HB1.out.size hbb
    have hR := HRD.out w2 b hwb (by rw [← HS.out]; exact hrd)
    rw [← HS.out] at hR
    have HR := Lib.hid hR
    have HB2 := Lib.hid hb12
    clear hb2 hb12 hR hrd
    go_wp2_with fail
    refine HR.out.mono ?_
    rintro e w3 ⟨⟨v, ok, l, rfl, hP, hl, hcase⟩, hT⟩
    have hb3 : Below w.heap.size w w3 := hT.below HB2.out (fun k e => by rw [e]; exact hwb)
    have HB3 := Lib.hid hb3
    have HP := Lib.hid hP
    clear hb3 hT
    rcases hcase with ⟨rfl, hrdp⟩ | ⟨rfl, hrdp⟩
    · have HRP := Lib.hid hrdp
      have hri := pright_any v l w3 hP hl
      obtain ⟨r, hr⟩ : ∃ r, r = PostM.rightL l := ⟨_, rfl⟩
      rw [← hr] at hri
      have HRI := Lib.hid hri
      have HRR := Lib.hid hr
      clear hrdp hri hr hP
      go_wp2_with fail
      refine HRI.out.mono ?_
      rintro e w4 ⟨rfl, hb4⟩
      have HB4 := Lib.hid (HB3.out.trans (hb4.mono HB3.out.size))
      have HP4 := Lib.hid (HP.out.later hb4)
      clear hb4
      cases r with
      | false =>
        go_wp2
        go_ret2
        exact ⟨PaEnd.none_ (parA_wrong HC.out.symm (by rw [← HS.out]; exact HRP.out) HRR.out.symm) rfl, HB4.out⟩
      | true =>
        go_wp2_with fail
        refine (listof_any v l w4 HP4.out hl).mono ?_
        rintro e w5 ⟨b5, rfl, hb5, hpl, hbl⟩
        have HB5 := Lib.hid hbl
        have HPL := Lib.hid hpl
        clear hbl hpl
        go_wp2
        go_ret2
        exact ⟨PaEnd.some_ (parA_good HC.out.symm (by rw [← HS.out]; exact HRP.out) HRR.out.symm) rfl (Nat.le_trans HB4.out.size hb5) HPL.out, HB4.out.trans (HB5.out.mono HB4.out.size)⟩
    · have HRP := Lib.hid hrdp
      clear hrdp hP
      go_wp2
      go_ret2
      exact ⟨PaEnd.none_ (parA_form HC.out.symm (by rw [← HS.out]; exact HRP.out)) rfl, HB3.out⟩
  · have hd : (c != 0) = true := by simpa using hc0
    have HNZ := Lib.hid hc0
    clear hc0
    go_enter Try.func17, Try.ntmps17
    go_wp2_with fail
    refine HO.out.mono ?_
    rintro e w1 ⟨rfl, hb1⟩
    have HB1 := Lib.hid hb1
    clear hb1
    go_wp2
    go_ret2
    exact ⟨PaEnd.none_ (by rw [HC.out]; exact parA_seal (by rw [← HC.out]; exact HNZ.out)) rfl, HB1.out⟩
end Go.Proofs.Ytlcmdnmifmjjgaa

/- The document's reader: fail, Bytes, take, TakeVarint, TakeZigzag. -/
namespace Go.Proofs.Ytlcmdnmifmjjgaa
open Go.RowKit

def mR (s : List UInt8) (bad : Bool) : Value := .agg #[.string (ofBytes s), .bool bad]

set_option maxHeartbeats 400000 in
theorem mfail_any (w : World) : Calls Try.prog 54 #[] w fun e w' => e = .returned (mR [] true) ∧ Below w.heap.size w w' := by
  go_enter Try.func54, Try.ntmps54
  go_wp2
  exact bodyPost_ret (v := mR [] true) (by simp [results, Try.results54, go_sem, mR, ofBytes]) rfl ⟨rfl, (Below.refl _ _).alloc (Nat.le_refl _) _⟩

theorem set2_0 {w1 : World} {R : Nat} {v0 v1 : Value} (h0 : w1.cell? ⟨R, 0, none⟩ = some v0) (x y : Value) (_h1 : w1.cell? ⟨R, 1, none⟩ = some v1) : ((w1.setCell ⟨R, 0, none⟩ x).setCell ⟨R, 1, none⟩ y).cell? ⟨R, 0, none⟩ = some x := by
  rw [World.cell?_setCell_other _ _ _ _ (fun e => by injection e with e1 e2; omega), World.cell?_setCell_same _ _ _ h0]
theorem set2_1 {w1 : World} {R : Nat} {v1 : Value} (h1 : w1.cell? ⟨R, 1, none⟩ = some v1) (x y : Value) : ((w1.setCell ⟨R, 0, none⟩ x).setCell ⟨R, 1, none⟩ y).cell? ⟨R, 1, none⟩ = some y := by
  have : (w1.setCell ⟨R, 0, none⟩ x).cell? ⟨R, 1, none⟩ = some v1 := by rw [World.cell?_setCell_other _ _ _ _ (fun e => by injection e with e1 e2; omega), h1]
  rw [World.cell?_setCell_same _ _ _ this]

theorem below_set2 {n R : Nat} {w w1 : World} (h : Below n w w1) (hR : n ≤ R) (x y : Value) : Below n w ((w1.setCell ⟨R, 0, none⟩ x).setCell ⟨R, 1, none⟩ y) := (h.setCell (by exact hR) _).setCell (by exact hR) _

theorem pow9 (k : Nat) (h : k ≤ 9) : 128 ^ k ≤ 9223372036854775808 := by
  calc 128 ^ k ≤ 128 ^ 9 := Nat.pow_le_pow_right (by decide) h
    _ = 9223372036854775808 := by decide

set_option maxHeartbeats 1600000 in
set_option maxRecDepth 100000 in
theorem mtake_any (w : World) (s : List UInt8) (bad : Bool) (hl : s.length ≤ 100000000) (hbad : bad = true → s = []) :
    Calls Try.prog 67 #[mR s bad] w fun e w' => e = .returned (.tuple #[mR (nS PackM.MAXU s) (nB PackM.MAXU s bad), .int .u64 (nV PackM.MAXU s : Nat)]) ∧ Below w.heap.size w w' := by
  have fails : PackM.num PackM.MAXU 0 0 s = none → nS PackM.MAXU s = [] ∧ nB PackM.MAXU s bad = true ∧ nV PackM.MAXU s = 0 := fun h => by
    unfold nS nB nV; rw [h]; exact ⟨rfl, rfl, rfl⟩
  have HFAIL := Lib.hid fails
  clear fails
  obtain ⟨wA, hwA⟩ : ∃ wA, wA = (w.alloc (.cells #[.string (ofBytes s), .bool bad] 75)).alloc (.cells #[.string ⟨#[]⟩, .bool false] 75) := ⟨_, rfl⟩
  obtain ⟨A, hA⟩ : ∃ A, A = w.heap.size := ⟨_, rfl⟩
  obtain ⟨R, hR⟩ : ∃ R, R = w.heap.size + 1 := ⟨_, rfl⟩
  have a0 : wA.cell? ⟨A, 0, none⟩ = some (.string (ofBytes s)) := by rw [hwA, hA]; go_simp
  have r0 : wA.cell? ⟨R, 0, none⟩ = some (.string ⟨#[]⟩) := by rw [hwA, hR]; go_simp
  have r1 : wA.cell? ⟨R, 1, none⟩ = some (.bool false) := by rw [hwA, hR]; go_simp
  have f0 : wA.frozen? ⟨R, 0, none⟩ = false := by rw [hwA, hR]; go_simp
  have f1 : wA.frozen? ⟨R, 1, none⟩ = false := by rw [hwA, hR]; go_simp
  have hAs : R < wA.heap.size := by rw [hwA, hR]; simp
  have hRw : w.heap.size ≤ R := by omega
  have hBA : Below w.heap.size w wA := by rw [hwA]; exact ((Below.refl _ _).alloc (Nat.le_refl _) _).alloc (by simp) _
  cases bad with
  | true =>
    have hs0 := hbad rfl
    subst hs0
    have HX := Lib.hid (HFAIL.out rfl)
    unfold mR
    go_enter Try.func67, Try.ntmps67
    go_wp2_with fail
    rw [← hwA, ← hR, ← hA]
    clear hwA hR hA
    refine (mfail_any _).mono ?_
    rintro e w1 ⟨rfl, hb⟩
    have r0' := (hb.cell (p := ⟨R, 0, none⟩) hAs).trans r0
    have r1' := (hb.cell (p := ⟨R, 1, none⟩) hAs).trans r1
    have f0' := (hb.frozen (p := ⟨R, 0, none⟩) hAs).trans f0
    have f1' := (hb.frozen (p := ⟨R, 1, none⟩) hAs).trans f1
    unfold mR
    go_wp2
    have g0 := set2_0 r0' (.string (ofBytes [])) (.bool true) r1'
    have g1 := set2_1 r1' (.string (ofBytes [])) (.bool true)
    have gB := below_set2 (hBA.trans (hb.mono (by omega))) hRw (.string (ofBytes [])) (.bool true)
    generalize (w1.setCell ⟨R, 0, none⟩ (.string (ofBytes []))).setCell ⟨R, 1, none⟩ (.bool true) = w2 at g0 g1 gB ⊢
    rw [HX.out.1, HX.out.2.1, HX.out.2.2]
    exact bodyPost_ret (v := .tuple #[.agg #[.string (ofBytes []), .bool true], .int .u64 0]) (by simp [results, Try.results67, go_sem, g0, g1]) rfl ⟨rfl, gB⟩
  | false =>
    have hs : (ofBytes s).size = s.length := size_ofBytes s
    obtain ⟨N, hN⟩ : ∃ N, N = s.length := ⟨_, rfl⟩
    rw [← hN] at hs hl
    have HN := Lib.hid hN
    clear hN
    unfold mR
    go_enter Try.func67, Try.ntmps67
    go_wp2
    rw [← hwA, ← hR, ← hA]
    clear hwA hR hA
    go_loop [4, 5, 6] (fun x y i => ∃ (k v U : Nat), k ≤ N ∧ k ≤ 10 ∧ i = .int .i64 k ∧ x = .int .u64 v ∧ y = .int .u64 U ∧ (k ≤ 9 → U = 128 ^ k) ∧ (k ≤ 9 → v < 128 ^ k) ∧ PackM.num PackM.MAXU 0 0 s = PackM.num PackM.MAXU k v (s.drop k)) (fun _ _ i => N - (intOf i).toNat)
    case atStart => exact ⟨0, 0, 1, by omega, by omega, rfl, rfl, rfl, fun _ => rfl, fun _ => by decide, by rw [List.drop_zero]⟩
    case round =>
      obtain ⟨k, v, U, hk, hk10, rfl, rfl, rfl, hU, hv, heq⟩ := hrel
      have HE := Lib.hid heq
      have HU := Lib.hid hU
      have HVL := Lib.hid hv
      clear heq hU hv
      have hM : PackM.MAXU = 18446744073709551615 := rfl
      have HM := Lib.hid hM
      clear hM
      by_cases hlt : k < N
      · have hd : decide ((k : Int) < (N : Int)) = true := decide_eq_true (by omega)
        by_cases hlt2 : k < 10
        · have hd2 : decide ((k : Int) < 10) = true := decide_eq_true (by omega)
          have hkl : k < s.length := by rw [← HN.out]; exact hlt
          have hdr := List.drop_eq_getElem_cons hkl
          obtain ⟨c, hc⟩ : ∃ c : UInt8, c = s[k] := ⟨_, rfl⟩
          have hkz : k < (ofBytes s).size := by rw [hs]; exact hlt
          obtain ⟨x, hx⟩ : ∃ x : Nat, x = c.toNat := ⟨_, rfl⟩
          have hx256 : x < 256 := by rw [hx]; exact c.toNat_lt
          have hbx : (ofBytes s)[k].toNat = x := by rw [hx, hc]; rfl
          rw [← hc] at hdr
          clear hc
          have HX2 := Lib.hid hx
          have HDR := Lib.hid hdr
          clear hx hdr
          have hU9 := HU.out (by omega)
          have hv9 := HVL.out (by omega)
          have hp9 := pow9 k (by omega)
          rw [← hU9] at hp9 hv9
          have hpw : 128 ^ (k + 1) = U * 128 := by rw [Nat.pow_succ, hU9]
          have HPW := Lib.hid hpw
          have HU9 := Lib.hid hU9
          clear hU9 hpw
          by_cases hlast : k = 9 ∧ 1 < x
          · have hnone : PackM.num PackM.MAXU 0 0 s = none := by
              rw [HE.out, HDR.out]
              obtain ⟨h9, hx1⟩ := hlast
              by_cases hov : PackM.MAXU < v + c.toNat % 128 * 128 ^ k
              · exact PackM.num_over hov
              · by_cases hmore : 128 ≤ c.toNat
                · rw [PackM.num_more hov hmore]
                  exact PackM.num_far (by rw [HM.out]; decide) _ _ _ (by omega)
                · exfalso
                  apply hov
                  rw [HM.out, ← HU9.out]
                  rw [h9] at HU9
                  have h1 := HU9.out
                  have h2 : (128 : Nat) ^ 9 = 9223372036854775808 := by decide
                  rw [h2] at h1
                  have h3 := HX2.out
                  rw [Nat.mod_eq_of_lt (by omega), ← h3, h1]
                  omega
            have HX := Lib.hid (HFAIL.out hnone)
            obtain ⟨rfl, hx1⟩ := hlast
            have hd3 : decide (1 < x) = true := decide_eq_true hx1
            clear hnone
            go_wp2_with fail
            refine (mfail_any _).mono ?_
            rintro e w1 ⟨rfl, hb⟩
            have r0' := (hb.cell (p := ⟨R, 0, none⟩) hAs).trans r0
            have r1' := (hb.cell (p := ⟨R, 1, none⟩) hAs).trans r1
            have f0' := (hb.frozen (p := ⟨R, 0, none⟩) hAs).trans f0
            have f1' := (hb.frozen (p := ⟨R, 1, none⟩) hAs).trans f1
            unfold mR
            go_wp2
            have g0 := set2_0 r0' (.string (ofBytes [])) (.bool true) r1'
            have g1 := set2_1 r1' (.string (ofBytes [])) (.bool true)
            have gB := below_set2 (hBA.trans (hb.mono (by omega))) hRw (.string (ofBytes [])) (.bool true)
            generalize (w1.setCell ⟨R, 0, none⟩ (.string (ofBytes []))).setCell ⟨R, 1, none⟩ (.bool true) = w2 at g0 g1 gB ⊢
            rw [HX.out.1, HX.out.2.1, HX.out.2.2]
            exact bodyPost_ret (v := .tuple #[.agg #[.string (ofBytes []), .bool true], .int .u64 0]) (by simp [results, Try.results67, go_sem, g0, g1]) rfl ⟨rfl, gB⟩
          · have hgl : x % 128 < 128 := by omega
            obtain ⟨y, hy⟩ : ∃ y, y = x % 128 * U := ⟨_, rfl⟩
            have hyI : (x : Int) % 128 * (U : Int) = (y : Int) := by rw [hy]; simp
            have hyl : y ≤ 127 * U := by rw [hy]; exact Nat.mul_le_mul_right _ (by omega)
            have hsum : v + y ≤ 18446744073709551615 := by
              by_cases h9 : k = 9
              · have hx1 : x ≤ 1 := by omega
                have : y ≤ 1 * U := by rw [hy]; exact Nat.mul_le_mul_right _ (by omega)
                omega
              · have h8 : 128 ^ (k + 1) ≤ 9223372036854775808 := pow9 (k + 1) (by omega)
                rw [HPW.out] at h8
                omega
            have hval : v + c.toNat % 128 * 128 ^ k = v + y := by rw [← HX2.out, ← HU9.out, ← hy]
            have hno : ¬ PackM.MAXU < v + c.toNat % 128 * 128 ^ k := by rw [hval, HM.out]; omega
            have HV := Lib.hid hval
            have HNO := Lib.hid hno
            have HY := Lib.hid hy
            clear hval hno hy
            by_cases hmore : 128 ≤ x
            · have hk9 : ¬ k = 9 := fun h => hlast ⟨h, by omega⟩
              have hk9b : ((k : Int) == 9) = false := beq_eq_false_iff_ne.2 (by omega)
              have hd3 : decide (x < 128) = false := decide_eq_false (by omega)
              have h8 : U * 128 ≤ 9223372036854775808 := by rw [← HPW.out]; exact pow9 (k + 1) (by omega)
              have hnext : PackM.num PackM.MAXU 0 0 s = PackM.num PackM.MAXU (k + 1) (v + y) (s.drop (k + 1)) := by
                rw [HE.out, HDR.out, PackM.num_more HNO.out (by rw [← HX2.out]; exact hmore), HV.out]
              have hvn : v + y < U * 128 := by omega
              have HNX := Lib.hid hnext
              clear hnext
              go_wp2
              go_round
              case rel => exact ⟨k + 1, v + y, U * 128, by omega, by omega, by go_num, by go_num, by go_num, fun _ => HPW.out.symm, fun _ => by rw [HPW.out]; exact hvn, HNX.out⟩
              case measure => simp [intOf]; omega
            · have hd3 : decide (x < 128) = true := decide_eq_true (by omega)
              by_cases hzero : x = 0 ∧ 0 < k
              · have hnone : PackM.num PackM.MAXU 0 0 s = none := by
                  rw [HE.out, HDR.out]
                  exact PackM.num_null HNO.out (by rw [← HX2.out]; exact hzero.1) hzero.2
                have HX := Lib.hid (HFAIL.out hnone)
                obtain ⟨hz1, hz2⟩ := hzero
                subst hz1
                have hk0 : decide (0 < k) = true := decide_eq_true hz2
                have hx1 : decide ((1 : Int) < 0) = false := rfl
                clear hnone
                by_cases hk9 : k = 9
                · subst hk9
                  go_wp2_with fail
                  refine (mfail_any _).mono ?_
                  rintro e w1 ⟨rfl, hb⟩
                  have r0' := (hb.cell (p := ⟨R, 0, none⟩) hAs).trans r0
                  have r1' := (hb.cell (p := ⟨R, 1, none⟩) hAs).trans r1
                  have f0' := (hb.frozen (p := ⟨R, 0, none⟩) hAs).trans f0
                  have f1' := (hb.frozen (p := ⟨R, 1, none⟩) hAs).trans f1
                  unfold mR
                  go_wp2
                  have g0 := set2_0 r0' (.string (ofBytes [])) (.bool true) r1'
                  have g1 := set2_1 r1' (.string (ofBytes [])) (.bool true)
                  have gB := below_set2 (hBA.trans (hb.mono (by omega))) hRw (.string (ofBytes [])) (.bool true)
                  generalize (w1.setCell ⟨R, 0, none⟩ (.string (ofBytes []))).setCell ⟨R, 1, none⟩ (.bool true) = w2 at g0 g1 gB ⊢
                  rw [HX.out.1, HX.out.2.1, HX.out.2.2]
                  exact bodyPost_ret (v := .tuple #[.agg #[.string (ofBytes []), .bool true], .int .u64 0]) (by simp [results, Try.results67, go_sem, g0, g1]) rfl ⟨rfl, gB⟩
                · have hk9b : ((k : Int) == 9) = false := beq_eq_false_iff_ne.2 (by omega)
                  go_wp2_with fail
                  refine (mfail_any _).mono ?_
                  rintro e w1 ⟨rfl, hb⟩
                  have r0' := (hb.cell (p := ⟨R, 0, none⟩) hAs).trans r0
                  have r1' := (hb.cell (p := ⟨R, 1, none⟩) hAs).trans r1
                  have f0' := (hb.frozen (p := ⟨R, 0, none⟩) hAs).trans f0
                  have f1' := (hb.frozen (p := ⟨R, 1, none⟩) hAs).trans f1
                  unfold mR
                  go_wp2
                  have g0 := set2_0 r0' (.string (ofBytes [])) (.bool true) r1'
                  have g1 := set2_1 r1' (.string (ofBytes [])) (.bool true)
                  have gB := below_set2 (hBA.trans (hb.mono (by omega))) hRw (.string (ofBytes [])) (.bool true)
                  generalize (w1.setCell ⟨R, 0, none⟩ (.string (ofBytes []))).setCell ⟨R, 1, none⟩ (.bool true) = w2 at g0 g1 gB ⊢
                  rw [HX.out.1, HX.out.2.1, HX.out.2.2]
                  exact bodyPost_ret (v := .tuple #[.agg #[.string (ofBytes []), .bool true], .int .u64 0]) (by simp [results, Try.results67, go_sem, g0, g1]) rfl ⟨rfl, gB⟩
              · have hsome : PackM.num PackM.MAXU 0 0 s = some (v + y, s.drop (k + 1)) := by
                  rw [HE.out, HDR.out, PackM.num_end HNO.out (by rw [← HX2.out]; exact hmore) (by rw [← HX2.out]; exact hzero), HV.out]
                have HSOME := Lib.hid hsome
                have hex := extract_drop s (k + 1) N HN.out
                have HZ := Lib.hid hzero
                clear hsome hzero
                by_cases hk9 : k = 9
                · have hx1 : x ≤ 1 := by omega
                  have hx0 : ¬ x = 0 := by have := HZ.out; omega
                  have hx0b : ((x : Int) == 0) = false := beq_eq_false_iff_ne.2 (by omega)
                  have hk9b : ((k : Int) == 9) = true := beq_iff_eq.2 (by omega)
                  have hx1b : decide (1 < x) = false := decide_eq_false (by omega)
                  clear hk9 hx0
                  go_wp2
                  have g0 := set2_0 r0 (.string (ofBytes (s.drop (k + 1)))) (.bool false) r1
                  have g1 := set2_1 r1 (.string (ofBytes (s.drop (k + 1)))) (.bool false)
                  have gB := below_set2 hBA hRw (.string (ofBytes (s.drop (k + 1)))) (.bool false)
                  generalize (wA.setCell ⟨R, 0, none⟩ (.string (ofBytes (s.drop (k + 1))))).setCell ⟨R, 1, none⟩ (.bool false) = w2 at g0 g1 gB ⊢
                  have hx3 : nS PackM.MAXU s = s.drop (k + 1) ∧ nB PackM.MAXU s false = false ∧ nV PackM.MAXU s = v + y := by unfold nS nB nV; rw [HSOME.out]; exact ⟨rfl, rfl, rfl⟩
                  rw [hx3.1, hx3.2.1, hx3.2.2]
                  exact bodyPost_ret (v := .tuple #[.agg #[.string (ofBytes (s.drop (k + 1))), .bool false], .int .u64 ((v : Int) + (y : Int))]) (by simp [results, Try.results67, go_sem, g0, g1]) rfl ⟨by simp, gB⟩
                · have hk9b : ((k : Int) == 9) = false := beq_eq_false_iff_ne.2 (by omega)
                  by_cases hx0 : x = 0
                  · have hx0b : ((x : Int) == 0) = true := beq_iff_eq.2 (by omega)
                    have hk0 : ¬ 0 < k := by have := HZ.out; omega
                    have hk1 : decide (0 < k) = false := decide_eq_false hk0
                    clear hx0
                    go_wp2
                    have g0 := set2_0 r0 (.string (ofBytes (s.drop (k + 1)))) (.bool false) r1
                    have g1 := set2_1 r1 (.string (ofBytes (s.drop (k + 1)))) (.bool false)
                    have gB := below_set2 hBA hRw (.string (ofBytes (s.drop (k + 1)))) (.bool false)
                    generalize (wA.setCell ⟨R, 0, none⟩ (.string (ofBytes (s.drop (k + 1))))).setCell ⟨R, 1, none⟩ (.bool false) = w2 at g0 g1 gB ⊢
                    have hx3 : nS PackM.MAXU s = s.drop (k + 1) ∧ nB PackM.MAXU s false = false ∧ nV PackM.MAXU s = v + y := by unfold nS nB nV; rw [HSOME.out]; exact ⟨rfl, rfl, rfl⟩
                    rw [hx3.1, hx3.2.1, hx3.2.2]
                    exact bodyPost_ret (v := .tuple #[.agg #[.string (ofBytes (s.drop (k + 1))), .bool false], .int .u64 ((v : Int) + (y : Int))]) (by simp [results, Try.results67, go_sem, g0, g1]) rfl ⟨by simp, gB⟩
                  · have hx0b : ((x : Int) == 0) = false := beq_eq_false_iff_ne.2 (by omega)
                    clear hx0
                    go_wp2
                    have g0 := set2_0 r0 (.string (ofBytes (s.drop (k + 1)))) (.bool false) r1
                    have g1 := set2_1 r1 (.string (ofBytes (s.drop (k + 1)))) (.bool false)
                    have gB := below_set2 hBA hRw (.string (ofBytes (s.drop (k + 1)))) (.bool false)
                    generalize (wA.setCell ⟨R, 0, none⟩ (.string (ofBytes (s.drop (k + 1))))).setCell ⟨R, 1, none⟩ (.bool false) = w2 at g0 g1 gB ⊢
                    have hx3 : nS PackM.MAXU s = s.drop (k + 1) ∧ nB PackM.MAXU s false = false ∧ nV PackM.MAXU s = v + y := by unfold nS nB nV; rw [HSOME.out]; exact ⟨rfl, rfl, rfl⟩
                    rw [hx3.1, hx3.2.1, hx3.2.2]
                    exact bodyPost_ret (v := .tuple #[.agg #[.string (ofBytes (s.drop (k + 1))), .bool false], .int .u64 ((v : Int) + (y : Int))]) (by simp [results, Try.results67, go_sem, g0, g1]) rfl ⟨by simp, gB⟩
        · have hd2 : decide ((k : Int) < 10) = false := decide_eq_false (by omega)
          have hnone : PackM.num PackM.MAXU 0 0 s = none := by rw [HE.out]; exact PackM.num_far (by rw [HM.out]; decide) _ _ _ (by omega)
          have HX := Lib.hid (HFAIL.out hnone)
          clear hnone
          go_wp2_with fail
          refine (mfail_any _).mono ?_
          rintro e w1 ⟨rfl, hb⟩
          have r0' := (hb.cell (p := ⟨R, 0, none⟩) hAs).trans r0
          have r1' := (hb.cell (p := ⟨R, 1, none⟩) hAs).trans r1
          have f0' := (hb.frozen (p := ⟨R, 0, none⟩) hAs).trans f0
          have f1' := (hb.frozen (p := ⟨R, 1, none⟩) hAs).trans f1
          unfold mR
          go_wp2
          have g0 := set2_0 r0' (.string (ofBytes [])) (.bool true) r1'
          have g1 := set2_1 r1' (.string (ofBytes [])) (.bool true)
          have gB := below_set2 (hBA.trans (hb.mono (by omega))) hRw (.string (ofBytes [])) (.bool true)
          generalize (w1.setCell ⟨R, 0, none⟩ (.string (ofBytes []))).setCell ⟨R, 1, none⟩ (.bool true) = w2 at g0 g1 gB ⊢
          rw [HX.out.1, HX.out.2.1, HX.out.2.2]
          exact bodyPost_ret (v := .tuple #[.agg #[.string (ofBytes []), .bool true], .int .u64 0]) (by simp [results, Try.results67, go_sem, g0, g1]) rfl ⟨rfl, gB⟩
      · have hd : decide ((k : Int) < (N : Int)) = false := decide_eq_false (by omega)
        have hnone : PackM.num PackM.MAXU 0 0 s = none := by rw [HE.out, List.drop_of_length_le (by rw [← HN.out]; omega)]; rfl
        have HX := Lib.hid (HFAIL.out hnone)
        clear hnone
        go_wp2_with fail
        refine (mfail_any _).mono ?_
        rintro e w1 ⟨rfl, hb⟩
        have r0' := (hb.cell (p := ⟨R, 0, none⟩) hAs).trans r0
        have r1' := (hb.cell (p := ⟨R, 1, none⟩) hAs).trans r1
        have f0' := (hb.frozen (p := ⟨R, 0, none⟩) hAs).trans f0
        have f1' := (hb.frozen (p := ⟨R, 1, none⟩) hAs).trans f1
        unfold mR
        go_wp2
        have g0 := set2_0 r0' (.string (ofBytes [])) (.bool true) r1'
        have g1 := set2_1 r1' (.string (ofBytes [])) (.bool true)
        have gB := below_set2 (hBA.trans (hb.mono (by omega))) hRw (.string (ofBytes [])) (.bool true)
        generalize (w1.setCell ⟨R, 0, none⟩ (.string (ofBytes []))).setCell ⟨R, 1, none⟩ (.bool true) = w2 at g0 g1 gB ⊢
        rw [HX.out.1, HX.out.2.1, HX.out.2.2]
        exact bodyPost_ret (v := .tuple #[.agg #[.string (ofBytes []), .bool true], .int .u64 0]) (by simp [results, Try.results67, go_sem, g0, g1]) rfl ⟨rfl, gB⟩
end Go.Proofs.Ytlcmdnmifmjjgaa

/- The document's reader: TakeVarint, TakeZigzag, Bytes. -/
namespace Go.Proofs.Ytlcmdnmifmjjgaa
open Go.RowKit

theorem num_le {s : List UInt8} (h : nV PackM.MAXU s ≤ PackM.MAXI) : PackM.num PackM.MAXI 0 0 s = PackM.num PackM.MAXU 0 0 s := by
  rw [PackM.num_less (m := PackM.MAXI) (M := PackM.MAXU) (by decide)]
  unfold nV at h
  cases hN : PackM.num PackM.MAXU 0 0 s with
  | none => rfl
  | some x => rw [hN] at h; simp only [Option.bind]; rw [if_pos h]
theorem num_gt {s : List UInt8} (h : PackM.MAXI < nV PackM.MAXU s) : PackM.num PackM.MAXI 0 0 s = none := by
  rw [PackM.num_less (m := PackM.MAXI) (M := PackM.MAXU) (by decide)]
  unfold nV at h
  cases hN : PackM.num PackM.MAXU 0 0 s with
  | none => rfl
  | some x => rw [hN] at h; simp only at h; simp only [Option.bind]; rw [if_neg (by omega)]

theorem endA {w1 : World} {R : Nat} {v0 v1 : Value} (h0 : w1.cell? ⟨R, 0, none⟩ = some v0) (h1 : w1.cell? ⟨R, 1, none⟩ = some v1) (hR : R < w1.heap.size) (o : Obj) (x y : Value) :
    (((w1.setCell ⟨R, 0, none⟩ x).setCell ⟨R, 1, none⟩ y).alloc o).cell? ⟨R, 0, none⟩ = some x ∧ (((w1.setCell ⟨R, 0, none⟩ x).setCell ⟨R, 1, none⟩ y).alloc o).cell? ⟨R, 1, none⟩ = some y := by
  have hz : R < ((w1.setCell ⟨R, 0, none⟩ x).setCell ⟨R, 1, none⟩ y).heap.size := by simpa [World.setCell] using hR
  exact ⟨(World.cell?_alloc_lt _ _ ⟨R, 0, none⟩ hz).trans (set2_0 h0 x y h1), (World.cell?_alloc_lt _ _ ⟨R, 1, none⟩ hz).trans (set2_1 h1 x y)⟩
theorem endB {w w1 : World} {n R : Nat} (h : Below n w w1) (hR : n ≤ R) (hs : n ≤ w1.heap.size) (o : Obj) (x y : Value) : Below n w (((w1.setCell ⟨R, 0, none⟩ x).setCell ⟨R, 1, none⟩ y).alloc o) :=
  (below_set2 h hR x y).alloc (by simpa [World.setCell] using hs) o

/-- the world behind a parameter's box and a result's cells -/
def wMR (w : World) (s : List UInt8) (bad : Bool) : World := (w.alloc (.cells #[.string (ofBytes s), .bool bad] 75)).alloc (.cells #[.string ⟨#[]⟩, .bool false] 75)
section
variable (w : World) (s : List UInt8) (bad : Bool)
theorem wMR_a0 : (wMR w s bad).cell? ⟨w.heap.size, 0, none⟩ = some (.string (ofBytes s)) := by unfold wMR; go_simp
theorem wMR_a1 : (wMR w s bad).cell? ⟨w.heap.size, 1, none⟩ = some (.bool bad) := by unfold wMR; go_simp
theorem wMR_r0 : (wMR w s bad).cell? ⟨w.heap.size + 1, 0, none⟩ = some (.string ⟨#[]⟩) := by unfold wMR; go_simp
theorem wMR_r1 : (wMR w s bad).cell? ⟨w.heap.size + 1, 1, none⟩ = some (.bool false) := by unfold wMR; go_simp
theorem wMR_f0 : (wMR w s bad).frozen? ⟨w.heap.size + 1, 0, none⟩ = false := by unfold wMR; go_simp
theorem wMR_f1 : (wMR w s bad).frozen? ⟨w.heap.size + 1, 1, none⟩ = false := by unfold wMR; go_simp
theorem wMR_size : w.heap.size + 1 < (wMR w s bad).heap.size := by unfold wMR; simp
theorem wMR_below : Below w.heap.size w (wMR w s bad) := ((Below.refl _ _).alloc (Nat.le_refl _) _).alloc (by simp) _
end

set_option maxHeartbeats 1600000 in
set_option maxRecDepth 100000 in
theorem mvarint_any (w : World) (s : List UInt8) (bad : Bool) (hl : s.length ≤ 100000000) (hbad : bad = true → s = []) :
    Calls Try.prog 53 #[mR s bad] w fun e w' => e = .returned (.tuple #[mR (nS PackM.MAXI s) (nB PackM.MAXI s bad), .int .i64 (nV PackM.MAXI s : Nat)]) ∧ Below w.heap.size w w' := by
  obtain ⟨wA, hwA⟩ : ∃ wA, wA = wMR w s bad := ⟨_, rfl⟩
  obtain ⟨A, hA⟩ : ∃ A, A = w.heap.size := ⟨_, rfl⟩
  obtain ⟨R, hR⟩ : ∃ R, R = w.heap.size + 1 := ⟨_, rfl⟩
  have a0 := wMR_a0 w s bad
  have a1 := wMR_a1 w s bad
  have r0 := wMR_r0 w s bad
  have r1 := wMR_r1 w s bad
  have f0 := wMR_f0 w s bad
  have f1 := wMR_f1 w s bad
  have hAs := wMR_size w s bad
  have hBA := wMR_below w s bad
  rw [← hwA, ← hA] at a0 a1
  rw [← hwA, ← hR] at r0 r1 f0 f1 hAs
  rw [← hwA] at hBA
  unfold wMR at hwA
  have hRw : w.heap.size ≤ R := by omega
  have hAR : A < R := by omega
  have htk := fun W => mtake_any W s bad hl hbad
  have hm : PackM.MAXI = 9223372036854775807 := rfl
  have HM := Lib.hid hm
  have hmu : PackM.MAXU = 18446744073709551615 := rfl
  have hvu := nV_le PackM.MAXU s
  obtain ⟨x, hx⟩ : ∃ x, x = nV PackM.MAXU s := ⟨_, rfl⟩
  rw [← hx, hmu] at hvu
  have HX := Lib.hid hx
  obtain ⟨S', hS⟩ : ∃ S', S' = nS PackM.MAXU s := ⟨_, rfl⟩
  obtain ⟨B', hB⟩ : ∃ B', B' = nB PackM.MAXU s bad := ⟨_, rfl⟩
  rw [← hx, ← hS, ← hB] at htk
  have HS := Lib.hid hS
  have HB := Lib.hid hB
  clear hm hmu hx hS hB
  have hmR : mR s bad = .agg #[.string (ofBytes s), .bool bad] := rfl
  rw [hmR] at htk ⊢
  clear hmR
  go_enter Try.func53, Try.ntmps53
  go_wp2_with fail
  rw [← hwA, ← hR, ← hA]
  clear hwA hR hA
  refine (htk _).mono ?_
  rintro e w1 ⟨rfl, hb⟩
  clear htk
  have hB1 : Below w.heap.size w w1 := hBA.trans (hb.mono (by omega))
  have hsz1 := hB1.size
  have hR1 : R < w1.heap.size := Nat.lt_of_lt_of_le hAs hb.size
  have r0' := (hb.cell (p := ⟨R, 0, none⟩) hAs).trans r0
  have r1' := (hb.cell (p := ⟨R, 1, none⟩) hAs).trans r1
  have f0' := (hb.frozen (p := ⟨R, 0, none⟩) hAs).trans f0
  have f1' := (hb.frozen (p := ⟨R, 1, none⟩) hAs).trans f1
  unfold mR
  have hne : ¬ w1.heap.size = R := by omega
  by_cases hbig : 9223372036854775807 < x
  · have hd : decide (9223372036854775807 < x) = true := decide_eq_true hbig
    have hno := num_gt (s := s) (by rw [← HX.out, HM.out]; exact hbig)
    have HNO := Lib.hid hno
    clear hno
    go_wp2_with fail
    refine (mfail_any _).mono ?_
    rintro e w3 ⟨rfl, hb3⟩
    have hlt3 : R < (w1.alloc (.cells #[.string (ofBytes S'), .bool B'] 75)).heap.size := by simp; omega
    have r0'' := (hb3.cell (p := ⟨R, 0, none⟩) hlt3).trans ((World.cell?_alloc_lt _ _ ⟨R, 0, none⟩ hR1).trans r0')
    have r1'' := (hb3.cell (p := ⟨R, 1, none⟩) hlt3).trans ((World.cell?_alloc_lt _ _ ⟨R, 1, none⟩ hR1).trans r1')
    have f0'' := (hb3.frozen (p := ⟨R, 0, none⟩) hlt3).trans ((World.frozen?_of_block (w := w1) (Below.heap_alloc w1 _ R hR1)).trans f0')
    have f1'' := (hb3.frozen (p := ⟨R, 1, none⟩) hlt3).trans ((World.frozen?_of_block (w := w1) (Below.heap_alloc w1 _ R hR1)).trans f1')
    have hB3 : Below w.heap.size w w3 := (hB1.alloc hsz1 _).trans (hb3.mono (by simp; omega))
    unfold mR
    go_wp2
    have g0 := set2_0 r0'' (.string (ofBytes [])) (.bool true) r1''
    have g1 := set2_1 r1'' (.string (ofBytes [])) (.bool true)
    have gB := below_set2 hB3 hRw (.string (ofBytes [])) (.bool true)
    generalize (w3.setCell ⟨R, 0, none⟩ (.string (ofBytes []))).setCell ⟨R, 1, none⟩ (.bool true) = w2 at g0 g1 gB ⊢
    have hx3 : nS PackM.MAXI s = [] ∧ nB PackM.MAXI s bad = true ∧ nV PackM.MAXI s = 0 := by unfold nS nB nV; rw [HNO.out]; exact ⟨rfl, rfl, rfl⟩
    rw [hx3.1, hx3.2.1, hx3.2.2]
    exact bodyPost_ret (v := .tuple #[.agg #[.string (ofBytes []), .bool true], .int .i64 0]) (by simp [results, Try.results53, go_sem, g0, g1]) rfl ⟨rfl, gB⟩
  · have hd : decide (9223372036854775807 < x) = false := decide_eq_false hbig
    have hno := num_le (s := s) (by rw [← HX.out, HM.out]; omega)
    have HNO := Lib.hid hno
    clear hno
    go_wp2
    obtain ⟨g0, g1⟩ := endA r0' r1' hR1 (.cells #[.string (ofBytes S'), .bool B'] 75) (.string (ofBytes S')) (.bool B')
    have gB := endB hB1 hRw hsz1 (.cells #[.string (ofBytes S'), .bool B'] 75) (.string (ofBytes S')) (.bool B')
    generalize ((w1.setCell ⟨R, 0, none⟩ (.string (ofBytes S'))).setCell ⟨R, 1, none⟩ (.bool B')).alloc (.cells #[.string (ofBytes S'), .bool B'] 75) = w2 at g0 g1 gB ⊢
    have hx3 : nS PackM.MAXI s = S' ∧ nB PackM.MAXI s bad = B' ∧ nV PackM.MAXI s = x := by rw [HS.out, HB.out, HX.out]; unfold nS nB nV; rw [HNO.out]; exact ⟨rfl, rfl, rfl⟩
    rw [hx3.1, hx3.2.1, hx3.2.2]
    exact bodyPost_ret (v := .tuple #[.agg #[.string (ofBytes S'), .bool B'], .int .i64 (x : Int)]) (by simp [results, Try.results53, go_sem, g0, g1]) rfl ⟨rfl, gB⟩
end Go.Proofs.Ytlcmdnmifmjjgaa

/- The document's reader: Bytes. -/
namespace Go.Proofs.Ytlcmdnmifmjjgaa
open Go.RowKit

theorem by_out {n : Int} {s : List UInt8} {bad : Bool} (h : bad = true ∧ s = [] ∨ ¬ (0 ≤ n ∧ n ≤ (s.length : Int))) : byS n s = [] ∧ byB n s bad = true ∧ byV n s = [] := by
  unfold byS byB byV
  rcases h with ⟨rfl, rfl⟩ | h
  · simp
  · rw [if_neg h, if_neg h, if_neg h]; exact ⟨rfl, rfl, rfl⟩

end Go.Proofs.Ytlcmdnmifmjjgaa
