/-
  No cell of these rows narrows 'for every input' (looked for: loops, veiled, ifaces, maps, wideKeys, modest, calm, conditions, laid).
  DERIVED. THE GIVEN ROWS OF THIS SEAT. 3 by the template 'for every input the law returns true; each argument reads behind the call as it read before'; 0 by the template 'total and deterministic' (their statements: YtjdlocmchmeipaaTotals.lean).
  GIVEN WITH THE SEED: the statements are not yours to turn. If you find one false, say at which input.
  Laid BY PROGRAM, IN A SANDBOX (cutbox-rows.mjs): the forced cells as the released guide's own fill.sh prints them over the translation 61f0bf8068c826dd… (all of the seat's roots in one cut). By AI agents, Wed Nov 11 2026. No macro, syntax, notation, axiom, sorry.
-/
import Derived.Test.YtjdlocmchmeipaaChecked
import GoSem.Claim
import GoSem.ClaimJoined
import GoSem.ClaimMapViews
import Derived.JoinedTies
import Derived.KernelRfl
namespace Go.Proofs.Ytjdlocmchmeipaa
/- THE CELL 'sum', in the pinned program and in every row, IS THE sha256 OF THE DUMP (.gsa) THAT YtjdlocmchmeipaaProg.lean LOADS. Nothing in Lean hashes anything: it is a label: what it is worth is what the hold of that sum in a sandbox is worth. -/
noncomputable def Try.pinned : Pinned := { name := "ytjdlocmchmeipaa", sum := "61f0bf8068c826dd71153cd0b2a26d30cadf1c523d5998ba7be7537c1fbaacb2", checked := Try.checked }
namespace Rows
def none {H : Type} : Left H := { results := [], args := [] }

/-- 'rankloftlaw07.DenseTells': WHATEVER THE INPUT: true; the input reads as it did. -/
def denseTellsSpec : ChangeSpec := { name := "denseTells", fn := fun _ => fun
  | [d1, d2, d3, d4, d5, d6] => { results := [.lit (.bool true)], args := [d1, d2, d3, d4, d5, d6] }
  | _ => none }
def denseTellsRow : OpenClaim := { program := "ytjdlocmchmeipaa", sum := "61f0bf8068c826dd71153cd0b2a26d30cadf1c523d5998ba7be7537c1fbaacb2", func := "rankloft/rankloftlaw07.DenseTells", spec := "denseTells", inPlace := ["sync/atomic.AddInt64"], unfollowed := true, recurses := true, apart := false }
def DenseTellsSaid : Prop := denseTellsRow.holds Try.pinned (OpenSpec.ofChange denseTellsSpec)

/-- ITS FALSE NEIGHBOUR: 'it returns false'. Refute it at one input. -/
def denseTellsWrong : ChangeSpec := { name := "denseTells", fn := fun _ => fun
  | [d1, d2, d3, d4, d5, d6] => { results := [.lit (.bool false)], args := [d1, d2, d3, d4, d5, d6] }
  | _ => none }
def DenseTellsWrongFalsely : Prop := denseTellsRow.holds Try.pinned (OpenSpec.ofChange denseTellsWrong)

/-- 'rankloftlaw07.DenseEarly': WHATEVER THE INPUT: true; the input reads as it did. -/
def denseEarlySpec : ChangeSpec := { name := "denseEarly", fn := fun _ => fun
  | [d1, d2, d3, d4, d5] => { results := [.lit (.bool true)], args := [d1, d2, d3, d4, d5] }
  | _ => none }
def denseEarlyRow : OpenClaim := { program := "ytjdlocmchmeipaa", sum := "61f0bf8068c826dd71153cd0b2a26d30cadf1c523d5998ba7be7537c1fbaacb2", func := "rankloft/rankloftlaw07.DenseEarly", spec := "denseEarly", inPlace := ["sync/atomic.AddInt64", "sync/atomic.LoadInt64"], unfollowed := true, recurses := true, apart := false }
def DenseEarlySaid : Prop := denseEarlyRow.holds Try.pinned (OpenSpec.ofChange denseEarlySpec)

/-- ITS FALSE NEIGHBOUR: 'it returns false'. Refute it at one input. -/
def denseEarlyWrong : ChangeSpec := { name := "denseEarly", fn := fun _ => fun
  | [d1, d2, d3, d4, d5] => { results := [.lit (.bool false)], args := [d1, d2, d3, d4, d5] }
  | _ => none }
def DenseEarlyWrongFalsely : Prop := denseEarlyRow.holds Try.pinned (OpenSpec.ofChange denseEarlyWrong)

/-- 'rankloftlaw07.DenseMeasures': WHATEVER THE INPUT: true; the input reads as it did. -/
def denseMeasuresSpec : ChangeSpec := { name := "denseMeasures", fn := fun _ => fun
  | [d1, d2] => { results := [.lit (.bool true)], args := [d1, d2] }
  | _ => none }
def denseMeasuresRow : OpenClaim := { program := "ytjdlocmchmeipaa", sum := "61f0bf8068c826dd71153cd0b2a26d30cadf1c523d5998ba7be7537c1fbaacb2", func := "rankloft/rankloftlaw07.DenseMeasures", spec := "denseMeasures", inPlace := ["sync/atomic.AddInt64"], unfollowed := true, recurses := true, apart := false }
def DenseMeasuresSaid : Prop := denseMeasuresRow.holds Try.pinned (OpenSpec.ofChange denseMeasuresSpec)

/-- ITS FALSE NEIGHBOUR: 'it returns false'. Refute it at one input. -/
def denseMeasuresWrong : ChangeSpec := { name := "denseMeasures", fn := fun _ => fun
  | [d1, d2] => { results := [.lit (.bool false)], args := [d1, d2] }
  | _ => none }
def DenseMeasuresWrongFalsely : Prop := denseMeasuresRow.holds Try.pinned (OpenSpec.ofChange denseMeasuresWrong)

/- THE SECOND FORM. 'bulk': how many values and letters a reading holds, each counted each time it is reached (what is shared counts as often as it is met; a slice's spare places count too). A statement '..UptoSaid' is the law's where the arguments, and the package variables that the reading takes, are together of bulk at most 1048576: NARROWER than '..Said'. Prove '..Said' where nothing that the law and all that it calls make is longer than what came in: it says more and counts as full. Else prove '..UptoSaid'. A law counts once. -/
mutual
def uptoBulk {H : Type} : DataW H → Nat
  | .lit (.string bytes) => bytes.length + 1
  | .lit _ => 1
  | .nil => 1
  | .ptr d => uptoBulk d + 1
  | .slice elems spare => uptoBulkAll elems + uptoBulkAll spare + 1
  | .agg parts => uptoBulkAll parts + 1
  | .iface _ d => uptoBulk d + 1
  | .map entries => uptoBulkEntries entries + 1
  | .held _ => 1
def uptoBulkAll {H : Type} : List (DataW H) → Nat
  | [] => 0
  | d :: r => uptoBulk d + uptoBulkAll r
def uptoBulkEntries {H : Type} : List (Lit × DataW H) → Nat
  | [] => 0
  | x :: r => uptoBulkEntry x + uptoBulkEntries r
def uptoBulkEntry {H : Type} : Lit × DataW H → Nat
  | (.string bytes, d) => bytes.length + uptoBulk d + 1
  | (_, d) => uptoBulk d + 1
 end
def uptoSmall : (H : Type) → List (DataW H) → Bool := fun _ ds => decide (uptoBulkAll ds ≤ 1048576)
def OpenSpec.upto (s : _root_.Go.ChangeSpec) : _root_.Go.OpenSpec := { _root_.Go.OpenSpec.ofChange s with cond := some uptoSmall }

/-- 'rankloftlaw07.DenseTells', WHERE WHAT IT READS IS OF BULK AT MOST 1048576: true; the input reads as it did. -/
def denseTellsUptoRow : OpenClaim := { program := "ytjdlocmchmeipaa", sum := "61f0bf8068c826dd71153cd0b2a26d30cadf1c523d5998ba7be7537c1fbaacb2", func := "rankloft/rankloftlaw07.DenseTells", spec := "denseTells", inPlace := ["sync/atomic.AddInt64"], unfollowed := true, recurses := true, apart := false, narrowed := true }
def DenseTellsUptoSaid : Prop := denseTellsUptoRow.holds Try.pinned (OpenSpec.upto denseTellsSpec)

/-- 'rankloftlaw07.DenseEarly', WHERE WHAT IT READS IS OF BULK AT MOST 1048576: true; the input reads as it did. -/
def denseEarlyUptoRow : OpenClaim := { program := "ytjdlocmchmeipaa", sum := "61f0bf8068c826dd71153cd0b2a26d30cadf1c523d5998ba7be7537c1fbaacb2", func := "rankloft/rankloftlaw07.DenseEarly", spec := "denseEarly", inPlace := ["sync/atomic.AddInt64", "sync/atomic.LoadInt64"], unfollowed := true, recurses := true, apart := false, narrowed := true }
def DenseEarlyUptoSaid : Prop := denseEarlyUptoRow.holds Try.pinned (OpenSpec.upto denseEarlySpec)

/-- 'rankloftlaw07.DenseMeasures', WHERE WHAT IT READS IS OF BULK AT MOST 1048576: true; the input reads as it did. -/
def denseMeasuresUptoRow : OpenClaim := { program := "ytjdlocmchmeipaa", sum := "61f0bf8068c826dd71153cd0b2a26d30cadf1c523d5998ba7be7537c1fbaacb2", func := "rankloft/rankloftlaw07.DenseMeasures", spec := "denseMeasures", inPlace := ["sync/atomic.AddInt64"], unfollowed := true, recurses := true, apart := false, narrowed := true }
def DenseMeasuresUptoSaid : Prop := denseMeasuresUptoRow.holds Try.pinned (OpenSpec.upto denseMeasuresSpec)

end Rows
end Go.Proofs.Ytjdlocmchmeipaa
