
/- A new disk; what only reads or turns one cell. -/
import Derived.Test.YteigkmeenokfoaaVdA
namespace Go.Proofs.Yteigkmeenokfoaa.Vd
open Go.RowKit Go.Proofs.Yteigkmeenokfoaa VdM Go.Maps

def fresh (q : Nat) : Dsk := ⟨q, [], false, 0, 0, 0⟩
theorem mk_files (w : World) : (Instr.makeMap 44 none).run Try.prog w = .ok (.map (some w.heap.size)) (w.alloc (.map #[] 0)) := by
  simp [Instr.makeMap, Result.andThen]
theorem fresh_at (w : World) (q : Nat) (h1 : 1 ≤ q) (h2 : q ≤ 1048576) :
    Is ((w.alloc (.map #[] 0)).alloc (.cells #[.int .i64 (q : Int), .map (some w.heap.size), .bool false, .int .i64 0, .int .i64 0, .int .i64 0] 51)) (fun b => b = w.heap.size ∨ b = w.heap.size + 1) (w.heap.size + 1) (fresh q) := by
  refine ⟨w.heap.size, .map [], fun _ => .slice none 0 0, ?_, ?_, Rep.none_ _, fun n f h => (by cases h), fun n f n' f' h => (by cases h), .inr rfl, .inl rfl, fun n f h => (by cases h), fun b hb => ?_, ?_⟩
  · have := heap_alloc_new (w.alloc (.map #[] 0)) (.cells #[.int .i64 (q : Int), .map (some w.heap.size), .bool false, .int .i64 0, .int .i64 0, .int .i64 0] 51)
    rw [show (w.alloc (.map #[] 0)).heap.size = w.heap.size + 1 from by simp] at this
    exact this
  · exact (World.ownsMap_made w Try.prog 9 fileElem).alloc _
  · have : ((w.alloc (.map #[] 0)).alloc (.cells #[.int .i64 (q : Int), .map (some w.heap.size), .bool false, .int .i64 0, .int .i64 0, .int .i64 0] 51)).heap.size = w.heap.size + 2 := by simp
    rw [this]
    rcases hb with rfl | rfl <;> omega
  · exact ⟨h1, h2, List.Pairwise.nil, fun x h => by simp [fresh] at h, fun x h => by simp [fresh] at h, Nat.zero_le _, Nat.zero_le _, by simp [fresh]⟩
set_option maxRecDepth 100000 in
theorem new_no (q : Int) (w : World) (h : ¬ (1 ≤ q ∧ q ≤ 1048576)) : Calls Try.prog 6 #[.int .i64 q] w fun e w' => e = .returned (.tuple #[.pointer none, .int .i64 1]) ∧ w = w' := by
  by_cases h1 : q < 1
  · have d1 : decide (q < 1) = true := decide_eq_true h1
    clear h
    go_enter Try.func6, Try.ntmps6
    go_wp2
    go_ret2
    exact ⟨rfl, rfl⟩
  · have d1 : decide (q < 1) = false := decide_eq_false h1
    have d2 : decide (1048576 < q) = true := decide_eq_true (by omega)
    clear h
    go_enter Try.func6, Try.ntmps6
    go_wp2
    go_ret2
    exact ⟨rfl, rfl⟩
set_option maxRecDepth 100000 in
theorem new_yes (q : Nat) (w : World) (h1 : 1 ≤ q) (h2 : q ≤ 1048576) : Calls Try.prog 6 #[.int .i64 (q : Int)] w fun e w' => e = .returned (.tuple #[.pointer (some ⟨w.heap.size + 1, 0, none⟩), .int .i64 0]) ∧ Is w' (fun b => b = w.heap.size ∨ b = w.heap.size + 1) (w.heap.size + 1) (fresh q) ∧ Below w.heap.size w w' := by
  have d1 : decide ((q : Int) < 1) = false := decide_eq_false (by omega)
  have d2 : decide ((1048576 : Int) < (q : Int)) = false := decide_eq_false (by omega)
  have HF := Lib.hid (fresh_at w q h1 h2)
  have hmk := mk_files w
  go_enter Try.func6, Try.ntmps6
  go_wp2
  go_ret2
  exact ⟨rfl, HF.out, ((Below.refl _ _).alloc (Nat.le_refl _) _).alloc (by simp) _⟩
set_option maxRecDepth 100000 in
theorem nothing_any (w : World) : Calls Try.prog 29 #[] w fun e w' => e = .returned (.tuple #[]) ∧ w = w' := by
  go_enter Try.func29, Try.ntmps29
  go_wp2
  go_end0
  exact ⟨rfl, rfl⟩
theorem size_list (s : ByteArray) : s.data.toList.length = s.size := Array.length_toList
set_option maxRecDepth 100000 in
theorem isname_any (s : ByteArray) (w : World) : Calls Try.prog 18 #[.string s] w fun e w' => e = .returned (.bool (nameB s.data.toList)) ∧ w = w' := by
  unfold nameB
  rw [size_list]
  by_cases h1 : 1 ≤ s.size
  · rw [decide_eq_true h1]
    have e1 : decide ((1 : Int) ≤ (s.size : Int)) = true := decide_eq_true (by omega)
    have e1' : decide (0 < s.size) = true := decide_eq_true (by omega)
    obtain ⟨b, hb⟩ : ∃ b, decide (s.size ≤ 32) = b := ⟨_, rfl⟩
    have e2 : decide ((s.size : Int) ≤ 32) = b := by rw [← hb]; exact decide_eq_decide.2 (by omega)
    rw [hb]
    clear h1 hb
    go_enter Try.func18, Try.ntmps18
    go_wp2
    go_ret
    exact ⟨rfl, rfl⟩
  · have e1 : decide ((1 : Int) ≤ (s.size : Int)) = false := decide_eq_false (by omega)
    have e1' : decide (0 < s.size) = false := decide_eq_false (by omega)
    rw [decide_eq_false h1]
    clear h1
    go_enter Try.func18, Try.ntmps18
    go_wp2
    go_ret
    exact ⟨rfl, rfl⟩
theorem run_add_9 {P : Program} {w : World} (x n : Nat) (hn : x + n ≤ 1000000000) : (Op.intArith .add .i64 (x : Int) (n : Int)).run P w = .ok (.int .i64 ((x + n : Nat) : Int)) w := by
  have h : IntKind.i64.wrap ((x : Int) + n) = ((x + n : Nat) : Int) := by rw [IntKind.wrap_i64]; omega
  simp [go_sem, h]
set_option maxHeartbeats 400000 in
set_option maxRecDepth 100000 in
theorem iadd9_any (b i : Nat) (x : Nat) (w : World) (hn : x + 1 ≤ 1000000000) (h : w.cell? ⟨b, i, none⟩ = some (.int .i64 x)) (hz : w.frozen? ⟨b, i, none⟩ = false) :
    Calls Try.prog 37 #[.pointer (some ⟨b, i, none⟩), .int .i64 1] w fun e w' => e = .returned (.int .i64 ((x + 1 : Nat) : Int)) ∧ w' = w.setCell ⟨b, i, none⟩ (.int .i64 ((x + 1 : Nat) : Int)) := by
  have hadd := run_call_add (P := Try.prog) Try.func43 (by kernel_rfl) (by kernel_rfl) (by kernel_rfl) .i64 (by kernel_rfl) (y := 1) (s := ((x + 1 : Nat) : Int)) h hz (run_add_9 x 1 hn)
  go_enter Try.func37, Try.ntmps37
  go_wp2
  go_ret
  exact ⟨rfl, rfl⟩
set_option maxHeartbeats 400000 in
set_option maxRecDepth 100000 in
theorem iload9_any (b i : Nat) (n : Int) (w : World) (h : w.cell? ⟨b, i, none⟩ = some (.int .i64 n)) :
    Calls Try.prog 33 #[.pointer (some ⟨b, i, none⟩)] w fun e w' => e = .returned (.int .i64 n) ∧ w = w' := by
  have hl := run_call_load (P := Try.prog) Try.func41 (by kernel_rfl) (by kernel_rfl) (by kernel_rfl) .i64 (by kernel_rfl) h
  go_enter Try.func33, Try.ntmps33
  go_wp2
  go_ret
  exact ⟨rfl, rfl⟩
theorem At.set {w : World} {F : Nat → Prop} {d m : Nat} {D : MD} {V : Name → Value} {s : Dsk} (h : At w F d m D V s) (i : Nat) (u : Value) (s' : Dsk) (hf : s'.fs = s.fs) (hok : Ok s')
    (hc : #[.int .i64 (s.quota : Int), .map (some m), .bool s.down, .int .i64 s.at_, .int .i64 s.keep, .int .i64 (s.eff : Int)].setIfInBounds i u = #[.int .i64 (s'.quota : Int), .map (some m), .bool s'.down, .int .i64 s'.at_, .int .i64 s'.keep, .int .i64 (s'.eff : Int)]) : At (w.setCell ⟨d, i, none⟩ u) F d m D V s' := by
  have hne : ∀ b, b ≠ d → (w.setCell ⟨d, i, none⟩ u).heap[b]? = w.heap[b]? := fun b hb => Below.heap_setCell w _ u b (fun e => hb e)
  refine ⟨?_, ?_, ?_, fun n f hl => ?_, fun n f n' f' hl hl' => ?_, h.fd, h.fm, fun n f hl => ?_, fun b hb => ?_, hok⟩
  · rw [heap_setCell_row h.ob, hc]
  · rw [hf]
    exact Own.stay h.own (hne m h.md)
  · rw [hf]
    exact h.rep
  · rw [hf] at hl
    exact (h.row n f hl).stay fun g hg => hne g (h.gd hl hg).1
  · rw [hf] at hl hl'
    exact h.apart n f n' f' hl hl'
  · rw [hf] at hl
    exact h.fv n f hl
  · have := h.lt b hb
    simpa [World.setCell] using this
theorem Turned.setc {F : Nat → Prop} {w : World} {d : Nat} (hF : F d) (i : Nat) (u : Value) : Turned F w (w.setCell ⟨d, i, none⟩ u) := (Turned.refl F w).set_ hF i u
set_option maxRecDepth 100000 in
theorem start_any (w : World) (F : Nat → Prop) (d : Nat) (s : Dsk) (h : Is w F d s) : Calls Try.prog 12 #[.pointer (some ⟨d, 0, none⟩)] w fun e w' => e = .returned (.tuple #[]) ∧ Turned F w w' ∧ Is w' F d { s with down := false } := by
  obtain ⟨m, D, V, h⟩ := h
  obtain ⟨c0, c1, c2, c3, c4, c5⟩ := h.cells
  have f2 := h.free 2
  have H2 := Lib.hid (h.set 2 (.bool false) { s with down := false } rfl ⟨h.ok.q1, h.ok.q2, h.ok.rise, h.ok.names, h.ok.syn, h.ok.fits, h.ok.most, h.ok.at0⟩ rfl)
  have HF := Lib.hid h.fd
  clear h c0 c1 c3 c4 c5
  go_enter Try.func12, Try.ntmps12
  go_wp2
  go_end0
  exact ⟨rfl, Turned.setc HF.out _ _, m, D, V, H2.out⟩
set_option maxRecDepth 100000 in
theorem effects_any (w : World) (F : Nat → Prop) (d : Nat) (s : Dsk) (h : Is w F d s) : Calls Try.prog 16 #[.pointer (some ⟨d, 0, none⟩)] w fun e w' => e = .returned (.int .i64 (s.eff : Int)) ∧ w = w' := by
  obtain ⟨m, D, V, h⟩ := h
  have HL := Lib.hid (iload9_any d 5 _ w h.cells.2.2.2.2.2)
  clear h
  go_enter Try.func16, Try.ntmps16
  go_wp2_with fail
  refine HL.out.mono ?_
  rintro e w1 ⟨rfl, rfl⟩
  go_wp2
  go_ret
  exact ⟨rfl, rfl⟩
end Go.Proofs.Yteigkmeenokfoaa.Vd
