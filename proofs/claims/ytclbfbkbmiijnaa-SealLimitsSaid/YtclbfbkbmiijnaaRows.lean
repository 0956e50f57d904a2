/-
  No cell of these rows narrows 'for every input' (looked for: loops, veiled, ifaces, maps, wideKeys, modest, calm, conditions, laid).
  DERIVED. THE GIVEN ROWS OF THIS SEAT. 4 by the template 'for every input the law returns true; each argument reads behind the call as it read before'; 0 by the template 'total and deterministic' (their statements: YtclbfbkbmiijnaaTotals.lean).
  GIVEN WITH THE SEED: the statements are not yours to turn. If you find one false, say at which input.
  Laid BY PROGRAM, IN A SANDBOX (cutbox-rows.mjs): the forced cells as the released guide's own fill.sh prints them over the translation bb923990be1b5dfa… (all of the seat's roots in one cut). By AI agents, Wed Nov 11 2026. No macro, syntax, notation, axiom, sorry.
-/
import Derived.Test.YtclbfbkbmiijnaaChecked
import GoSem.Claim
import GoSem.ClaimJoined
import GoSem.ClaimMapViews
import Derived.JoinedTies
import Derived.KernelRfl
namespace Go.Proofs.Ytclbfbkbmiijnaa
/- THE CELL 'sum', in the pinned program and in every row, IS THE sha256 OF THE DUMP (.gsa) THAT YtclbfbkbmiijnaaProg.lean LOADS. Nothing in Lean hashes anything: it is a label: what it is worth is what the hold of that sum in a sandbox is worth. -/
noncomputable def Try.pinned : Pinned := { name := "ytclbfbkbmiijnaa", sum := "bb923990be1b5dfa2ea094a6b37f832f1e9599491237de8d074cd8be53fad60e", checked := Try.checked }
namespace Rows
def none {H : Type} : Left H := { results := [], args := [] }

/-- 'missivelaw13.SealAsks': WHATEVER THE INPUT: true; the input reads as it did. -/
def sealAsksSpec : ChangeSpec := { name := "sealAsks", fn := fun _ => fun
  | [d1, d2, d3, d4, d5] => { results := [.lit (.bool true)], args := [d1, d2, d3, d4, d5] }
  | _ => none }
def sealAsksRow : OpenClaim := { program := "ytclbfbkbmiijnaa", sum := "bb923990be1b5dfa2ea094a6b37f832f1e9599491237de8d074cd8be53fad60e", func := "missive/missivelaw13.SealAsks", spec := "sealAsks", unfollowed := true, recurses := true, apart := false }
def SealAsksSaid : Prop := sealAsksRow.holds Try.pinned (OpenSpec.ofChange sealAsksSpec)

/-- ITS FALSE NEIGHBOUR: 'it returns false'. Refute it at one input. -/
def sealAsksWrong : ChangeSpec := { name := "sealAsks", fn := fun _ => fun
  | [d1, d2, d3, d4, d5] => { results := [.lit (.bool false)], args := [d1, d2, d3, d4, d5] }
  | _ => none }
def SealAsksWrongFalsely : Prop := sealAsksRow.holds Try.pinned (OpenSpec.ofChange sealAsksWrong)

/-- 'missivelaw13.SealBack': WHATEVER THE INPUT: true; the input reads as it did. -/
def sealBackSpec : ChangeSpec := { name := "sealBack", fn := fun _ => fun
  | [d1, d2, d3, d4] => { results := [.lit (.bool true)], args := [d1, d2, d3, d4] }
  | _ => none }
def sealBackRow : OpenClaim := { program := "ytclbfbkbmiijnaa", sum := "bb923990be1b5dfa2ea094a6b37f832f1e9599491237de8d074cd8be53fad60e", func := "missive/missivelaw13.SealBack", spec := "sealBack", unfollowed := true, recurses := true, apart := false }
def SealBackSaid : Prop := sealBackRow.holds Try.pinned (OpenSpec.ofChange sealBackSpec)

/-- ITS FALSE NEIGHBOUR: 'it returns false'. Refute it at one input. -/
def sealBackWrong : ChangeSpec := { name := "sealBack", fn := fun _ => fun
  | [d1, d2, d3, d4] => { results := [.lit (.bool false)], args := [d1, d2, d3, d4] }
  | _ => none }
def SealBackWrongFalsely : Prop := sealBackRow.holds Try.pinned (OpenSpec.ofChange sealBackWrong)

/-- 'missivelaw13.SealLimits': WHATEVER THE INPUT: true; the input reads as it did. -/
def sealLimitsSpec : ChangeSpec := { name := "sealLimits", fn := fun _ => fun
  | [d1, d2] => { results := [.lit (.bool true)], args := [d1, d2] }
  | _ => none }
def sealLimitsRow : OpenClaim := { program := "ytclbfbkbmiijnaa", sum := "bb923990be1b5dfa2ea094a6b37f832f1e9599491237de8d074cd8be53fad60e", func := "missive/missivelaw13.SealLimits", spec := "sealLimits", unfollowed := true, recurses := true, apart := false }
def SealLimitsSaid : Prop := sealLimitsRow.holds Try.pinned (OpenSpec.ofChange sealLimitsSpec)

/-- ITS FALSE NEIGHBOUR: 'it returns false'. Refute it at one input. -/
def sealLimitsWrong : ChangeSpec := { name := "sealLimits", fn := fun _ => fun
  | [d1, d2] => { results := [.lit (.bool false)], args := [d1, d2] }
  | _ => none }
def SealLimitsWrongFalsely : Prop := sealLimitsRow.holds Try.pinned (OpenSpec.ofChange sealLimitsWrong)

/-- 'missivelaw13.SealParts': WHATEVER THE INPUT: true; the input reads as it did. -/
def sealPartsSpec : ChangeSpec := { name := "sealParts", fn := fun _ => fun
  | [d1, d2, d3, d4] => { results := [.lit (.bool true)], args := [d1, d2, d3, d4] }
  | _ => none }
def sealPartsRow : OpenClaim := { program := "ytclbfbkbmiijnaa", sum := "bb923990be1b5dfa2ea094a6b37f832f1e9599491237de8d074cd8be53fad60e", func := "missive/missivelaw13.SealParts", spec := "sealParts", unfollowed := true, recurses := true, apart := false }
def SealPartsSaid : Prop := sealPartsRow.holds Try.pinned (OpenSpec.ofChange sealPartsSpec)

/-- ITS FALSE NEIGHBOUR: 'it returns false'. Refute it at one input. -/
def sealPartsWrong : ChangeSpec := { name := "sealParts", fn := fun _ => fun
  | [d1, d2, d3, d4] => { results := [.lit (.bool false)], args := [d1, d2, d3, d4] }
  | _ => none }
def SealPartsWrongFalsely : Prop := sealPartsRow.holds Try.pinned (OpenSpec.ofChange sealPartsWrong)

/- THE SECOND FORM. 'bulk': how many values and letters a reading holds, each counted each time it is reached (what is shared counts as often as it is met; a slice's spare places count too). A statement '..UptoSaid' is the law's where the arguments, and the package variables that the reading takes, are together of bulk at most 1048576: NARROWER than '..Said'. Prove '..Said' where nothing that the law and all that it calls make is longer than what came in: it says more and counts as full. Else prove '..UptoSaid'. A law counts once. -/
mutual
def uptoBulk {H : Type} : DataW H → Nat
  | .lit (.string bytes) => bytes.length + 1
  | .lit _ => 1
  | .nil => 1
  | .ptr d => uptoBulk d + 1
  | .slice elems spare => uptoBulkAll elems + uptoBulkAll spare + 1
  | .agg parts => uptoBulkAll parts + 1
  | .iface _ d => uptoBulk d + 1
  | .map entries => uptoBulkEntries entries + 1
  | .held _ => 1
def uptoBulkAll {H : Type} : List (DataW H) → Nat
  | [] => 0
  | d :: r => uptoBulk d + uptoBulkAll r
def uptoBulkEntries {H : Type} : List (Lit × DataW H) → Nat
  | [] => 0
  | x :: r => uptoBulkEntry x + uptoBulkEntries r
def uptoBulkEntry {H : Type} : Lit × DataW H → Nat
  | (.string bytes, d) => bytes.length + uptoBulk d + 1
  | (_, d) => uptoBulk d + 1
 end
def uptoSmall : (H : Type) → List (DataW H) → Bool := fun _ ds => decide (uptoBulkAll ds ≤ 1048576)
def OpenSpec.upto (s : _root_.Go.ChangeSpec) : _root_.Go.OpenSpec := { _root_.Go.OpenSpec.ofChange s with cond := some uptoSmall }

/-- 'missivelaw13.SealAsks', WHERE WHAT IT READS IS OF BULK AT MOST 1048576: true; the input reads as it did. -/
def sealAsksUptoRow : OpenClaim := { program := "ytclbfbkbmiijnaa", sum := "bb923990be1b5dfa2ea094a6b37f832f1e9599491237de8d074cd8be53fad60e", func := "missive/missivelaw13.SealAsks", spec := "sealAsks", unfollowed := true, recurses := true, apart := false, narrowed := true }
def SealAsksUptoSaid : Prop := sealAsksUptoRow.holds Try.pinned (OpenSpec.upto sealAsksSpec)

/-- 'missivelaw13.SealBack', WHERE WHAT IT READS IS OF BULK AT MOST 1048576: true; the input reads as it did. -/
def sealBackUptoRow : OpenClaim := { program := "ytclbfbkbmiijnaa", sum := "bb923990be1b5dfa2ea094a6b37f832f1e9599491237de8d074cd8be53fad60e", func := "missive/missivelaw13.SealBack", spec := "sealBack", unfollowed := true, recurses := true, apart := false, narrowed := true }
def SealBackUptoSaid : Prop := sealBackUptoRow.holds Try.pinned (OpenSpec.upto sealBackSpec)

/-- 'missivelaw13.SealLimits', WHERE WHAT IT READS IS OF BULK AT MOST 1048576: true; the input reads as it did. -/
def sealLimitsUptoRow : OpenClaim := { program := "ytclbfbkbmiijnaa", sum := "bb923990be1b5dfa2ea094a6b37f832f1e9599491237de8d074cd8be53fad60e", func := "missive/missivelaw13.SealLimits", spec := "sealLimits", unfollowed := true, recurses := true, apart := false, narrowed := true }
def SealLimitsUptoSaid : Prop := sealLimitsUptoRow.holds Try.pinned (OpenSpec.upto sealLimitsSpec)

/-- 'missivelaw13.SealParts', WHERE WHAT IT READS IS OF BULK AT MOST 1048576: true; the input reads as it did. -/
def sealPartsUptoRow : OpenClaim := { program := "ytclbfbkbmiijnaa", sum := "bb923990be1b5dfa2ea094a6b37f832f1e9599491237de8d074cd8be53fad60e", func := "missive/missivelaw13.SealParts", spec := "sealParts", unfollowed := true, recurses := true, apart := false, narrowed := true }
def SealPartsUptoSaid : Prop := sealPartsUptoRow.holds Try.pinned (OpenSpec.upto sealPartsSpec)

end Rows
end Go.Proofs.Ytclbfbkbmiijnaa
