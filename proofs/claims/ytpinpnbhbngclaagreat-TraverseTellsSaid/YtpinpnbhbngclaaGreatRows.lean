/-
  No cell of these rows narrows 'for every input' (looked for: loops, veiled, ifaces, maps, wideKeys, modest, calm, conditions, laid).
  DERIVED. THE GIVEN ROWS OF THIS SEAT. 3 by the template 'for every input the law returns true; each argument reads behind the call as it read before'; 0 by the template 'total and deterministic' (their statements: YtpinpnbhbngclaaGreatTotals.lean).
  GIVEN WITH THE SEED: the statements are not yours to turn. If you find one false, say at which input.
  Laid BY PROGRAM, IN A SANDBOX (cutbox-rows.mjs): the forced cells as the released guide's own fill.sh prints them over the translation f6e8a905d78b68b8… (all of the seat's roots in one cut). By AI agents, Wed Nov 11 2026. No macro, syntax, notation, axiom, sorry.
-/
import Derived.Test.YtpinpnbhbngclaaGreatChecked
import GoSem.Claim
import GoSem.ClaimJoined
import GoSem.ClaimMapViews
import Derived.JoinedTies
import Derived.KernelRfl
namespace Go.Proofs.YtpinpnbhbngclaaGreat
/- THE CELL 'sum', in the pinned program and in every row, IS THE sha256 OF THE DUMP (.gsa) THAT YtpinpnbhbngclaaGreatProg.lean LOADS. Nothing in Lean hashes anything: it is a label: what it is worth is what the hold of that sum in a sandbox is worth. -/
noncomputable def Tryz.pinned : Pinned := { name := "ytpinpnbhbngclaagreat", sum := "f6e8a905d78b68b8f68e98b129c2b1a1becf41b81ad2613738ef93e319b27661", checked := Tryz.checked }
namespace Rows
def none {H : Type} : Left H := { results := [], args := [] }

/-- 'rankloftlaw06.TraverseTells': WHATEVER THE INPUT: true; the input reads as it did. -/
def traverseTellsSpec : ChangeSpec := { name := "traverseTells", fn := fun _ => fun
  | [d1, d2, d3] => { results := [.lit (.bool true)], args := [d1, d2, d3] }
  | _ => none }
def traverseTellsRow : OpenClaim := { program := "ytpinpnbhbngclaagreat", sum := "f6e8a905d78b68b8f68e98b129c2b1a1becf41b81ad2613738ef93e319b27661", func := "rankloft/rankloftlaw06.TraverseTells", spec := "traverseTells", inPlace := ["sync/atomic.AddInt64", "sync/atomic.LoadInt64"], unfollowed := true, recurses := true, apart := false }
def TraverseTellsSaid : Prop := traverseTellsRow.holds Tryz.pinned (OpenSpec.ofChange traverseTellsSpec)

/-- ITS FALSE NEIGHBOUR: 'it returns false'. Refute it at one input. -/
def traverseTellsWrong : ChangeSpec := { name := "traverseTells", fn := fun _ => fun
  | [d1, d2, d3] => { results := [.lit (.bool false)], args := [d1, d2, d3] }
  | _ => none }
def TraverseTellsWrongFalsely : Prop := traverseTellsRow.holds Tryz.pinned (OpenSpec.ofChange traverseTellsWrong)

/-- 'rankloftlaw06.TraverseSame': WHATEVER THE INPUT: true; the input reads as it did. -/
def traverseSameSpec : ChangeSpec := { name := "traverseSame", fn := fun _ => fun
  | [d1, d2, d3] => { results := [.lit (.bool true)], args := [d1, d2, d3] }
  | _ => none }
def traverseSameRow : OpenClaim := { program := "ytpinpnbhbngclaagreat", sum := "f6e8a905d78b68b8f68e98b129c2b1a1becf41b81ad2613738ef93e319b27661", func := "rankloft/rankloftlaw06.TraverseSame", spec := "traverseSame", inPlace := ["sync/atomic.AddInt64", "sync/atomic.LoadInt64"], unfollowed := true, recurses := true, apart := false }
def TraverseSameSaid : Prop := traverseSameRow.holds Tryz.pinned (OpenSpec.ofChange traverseSameSpec)

/-- ITS FALSE NEIGHBOUR: 'it returns false'. Refute it at one input. -/
def traverseSameWrong : ChangeSpec := { name := "traverseSame", fn := fun _ => fun
  | [d1, d2, d3] => { results := [.lit (.bool false)], args := [d1, d2, d3] }
  | _ => none }
def TraverseSameWrongFalsely : Prop := traverseSameRow.holds Tryz.pinned (OpenSpec.ofChange traverseSameWrong)

/-- 'rankloftlaw06.TraverseMore': WHATEVER THE INPUT: true; the input reads as it did. -/
def traverseMoreSpec : ChangeSpec := { name := "traverseMore", fn := fun _ => fun
  | [d1, d2, d3, d4] => { results := [.lit (.bool true)], args := [d1, d2, d3, d4] }
  | _ => none }
def traverseMoreRow : OpenClaim := { program := "ytpinpnbhbngclaagreat", sum := "f6e8a905d78b68b8f68e98b129c2b1a1becf41b81ad2613738ef93e319b27661", func := "rankloft/rankloftlaw06.TraverseMore", spec := "traverseMore", inPlace := ["sync/atomic.AddInt64", "sync/atomic.LoadInt64"], unfollowed := true, recurses := true, apart := false }
def TraverseMoreSaid : Prop := traverseMoreRow.holds Tryz.pinned (OpenSpec.ofChange traverseMoreSpec)

/-- ITS FALSE NEIGHBOUR: 'it returns false'. Refute it at one input. -/
def traverseMoreWrong : ChangeSpec := { name := "traverseMore", fn := fun _ => fun
  | [d1, d2, d3, d4] => { results := [.lit (.bool false)], args := [d1, d2, d3, d4] }
  | _ => none }
def TraverseMoreWrongFalsely : Prop := traverseMoreRow.holds Tryz.pinned (OpenSpec.ofChange traverseMoreWrong)

/- THE SECOND FORM. 'bulk': how many values and letters a reading holds, each counted each time it is reached (what is shared counts as often as it is met; a slice's spare places count too). A statement '..UptoSaid' is the law's where the arguments, and the package variables that the reading takes, are together of bulk at most 1048576: NARROWER than '..Said'. Prove '..Said' where nothing that the law and all that it calls make is longer than what came in: it says more and counts as full. Else prove '..UptoSaid'. A law counts once. -/
mutual
def uptoBulk {H : Type} : DataW H → Nat
  | .lit (.string bytes) => bytes.length + 1
  | .lit _ => 1
  | .nil => 1
  | .ptr d => uptoBulk d + 1
  | .slice elems spare => uptoBulkAll elems + uptoBulkAll spare + 1
  | .agg parts => uptoBulkAll parts + 1
  | .iface _ d => uptoBulk d + 1
  | .map entries => uptoBulkEntries entries + 1
  | .held _ => 1
def uptoBulkAll {H : Type} : List (DataW H) → Nat
  | [] => 0
  | d :: r => uptoBulk d + uptoBulkAll r
def uptoBulkEntries {H : Type} : List (Lit × DataW H) → Nat
  | [] => 0
  | x :: r => uptoBulkEntry x + uptoBulkEntries r
def uptoBulkEntry {H : Type} : Lit × DataW H → Nat
  | (.string bytes, d) => bytes.length + uptoBulk d + 1
  | (_, d) => uptoBulk d + 1
 end
def uptoSmall : (H : Type) → List (DataW H) → Bool := fun _ ds => decide (uptoBulkAll ds ≤ 1048576)
def OpenSpec.upto (s : _root_.Go.ChangeSpec) : _root_.Go.OpenSpec := { _root_.Go.OpenSpec.ofChange s with cond := some uptoSmall }

/-- 'rankloftlaw06.TraverseTells', WHERE WHAT IT READS IS OF BULK AT MOST 1048576: true; the input reads as it did. -/
def traverseTellsUptoRow : OpenClaim := { program := "ytpinpnbhbngclaagreat", sum := "f6e8a905d78b68b8f68e98b129c2b1a1becf41b81ad2613738ef93e319b27661", func := "rankloft/rankloftlaw06.TraverseTells", spec := "traverseTells", inPlace := ["sync/atomic.AddInt64", "sync/atomic.LoadInt64"], unfollowed := true, recurses := true, apart := false, narrowed := true }
def TraverseTellsUptoSaid : Prop := traverseTellsUptoRow.holds Tryz.pinned (OpenSpec.upto traverseTellsSpec)

/-- 'rankloftlaw06.TraverseSame', WHERE WHAT IT READS IS OF BULK AT MOST 1048576: true; the input reads as it did. -/
def traverseSameUptoRow : OpenClaim := { program := "ytpinpnbhbngclaagreat", sum := "f6e8a905d78b68b8f68e98b129c2b1a1becf41b81ad2613738ef93e319b27661", func := "rankloft/rankloftlaw06.TraverseSame", spec := "traverseSame", inPlace := ["sync/atomic.AddInt64", "sync/atomic.LoadInt64"], unfollowed := true, recurses := true, apart := false, narrowed := true }
def TraverseSameUptoSaid : Prop := traverseSameUptoRow.holds Tryz.pinned (OpenSpec.upto traverseSameSpec)

/-- 'rankloftlaw06.TraverseMore', WHERE WHAT IT READS IS OF BULK AT MOST 1048576: true; the input reads as it did. -/
def traverseMoreUptoRow : OpenClaim := { program := "ytpinpnbhbngclaagreat", sum := "f6e8a905d78b68b8f68e98b129c2b1a1becf41b81ad2613738ef93e319b27661", func := "rankloft/rankloftlaw06.TraverseMore", spec := "traverseMore", inPlace := ["sync/atomic.AddInt64", "sync/atomic.LoadInt64"], unfollowed := true, recurses := true, apart := false, narrowed := true }
def TraverseMoreUptoSaid : Prop := traverseMoreUptoRow.holds Tryz.pinned (OpenSpec.upto traverseMoreSpec)

end Rows
end Go.Proofs.YtpinpnbhbngclaaGreat
