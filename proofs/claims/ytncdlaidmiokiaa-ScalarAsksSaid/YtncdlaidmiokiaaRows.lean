/-
  No cell of these rows narrows 'for every input' (looked for: loops, veiled, ifaces, maps, wideKeys, modest, calm, conditions, laid).
  DERIVED. THE GIVEN ROWS OF THIS SEAT. 5 by the template 'for every input the law returns true; each argument reads behind the call as it read before'; 0 by the template 'total and deterministic' (their statements: YtncdlaidmiokiaaTotals.lean).
  GIVEN WITH THE SEED: the statements are not yours to turn. If you find one false, say at which input.
  Laid BY PROGRAM, IN A SANDBOX (cutbox-rows.mjs): the forced cells as the released guide's own fill.sh prints them over the translation 30d5ff28cae90f21… (all of the seat's roots in one cut). By AI agents, Wed Nov 11 2026. No macro, syntax, notation, axiom, sorry.
-/
import Derived.Test.YtncdlaidmiokiaaChecked
import GoSem.Claim
import GoSem.ClaimJoined
import GoSem.ClaimMapViews
import Derived.JoinedTies
import Derived.KernelRfl
namespace Go.Proofs.Ytncdlaidmiokiaa
/- THE CELL 'sum', in the pinned program and in every row, IS THE sha256 OF THE DUMP (.gsa) THAT YtncdlaidmiokiaaProg.lean LOADS. Nothing in Lean hashes anything: it is a label: what it is worth is what the hold of that sum in a sandbox is worth. -/
noncomputable def Try.pinned : Pinned := { name := "ytncdlaidmiokiaa", sum := "30d5ff28cae90f219bb13a4deddd11352fbb49748971223bf65a550a757feff5", checked := Try.checked }
namespace Rows
def none {H : Type} : Left H := { results := [], args := [] }

/-- 'missivelaw7.ScalarAsks': WHATEVER THE INPUT: true; the input reads as it did. -/
def scalarAsksSpec : ChangeSpec := { name := "scalarAsks", fn := fun _ => fun
  | [d1, d2, d3] => { results := [.lit (.bool true)], args := [d1, d2, d3] }
  | _ => none }
def scalarAsksRow : OpenClaim := { program := "ytncdlaidmiokiaa", sum := "30d5ff28cae90f219bb13a4deddd11352fbb49748971223bf65a550a757feff5", func := "missive/missivelaw7.ScalarAsks", spec := "scalarAsks", inPlace := ["math/bits.Add64", "math/bits.Sub64"], recurses := true, apart := false }
def ScalarAsksSaid : Prop := scalarAsksRow.holds Try.pinned (OpenSpec.ofChange scalarAsksSpec)

/-- ITS FALSE NEIGHBOUR: 'it returns false'. Refute it at one input. -/
def scalarAsksWrong : ChangeSpec := { name := "scalarAsks", fn := fun _ => fun
  | [d1, d2, d3] => { results := [.lit (.bool false)], args := [d1, d2, d3] }
  | _ => none }
def ScalarAsksWrongFalsely : Prop := scalarAsksRow.holds Try.pinned (OpenSpec.ofChange scalarAsksWrong)

/-- 'missivelaw7.ScalarLaws': WHATEVER THE INPUT: true; the input reads as it did. -/
def scalarLawsSpec : ChangeSpec := { name := "scalarLaws", fn := fun _ => fun
  | [d1, d2, d3] => { results := [.lit (.bool true)], args := [d1, d2, d3] }
  | _ => none }
def scalarLawsRow : OpenClaim := { program := "ytncdlaidmiokiaa", sum := "30d5ff28cae90f219bb13a4deddd11352fbb49748971223bf65a550a757feff5", func := "missive/missivelaw7.ScalarLaws", spec := "scalarLaws", inPlace := ["math/bits.Add64", "math/bits.Sub64"], unfollowed := true, recurses := true, apart := false }
def ScalarLawsSaid : Prop := scalarLawsRow.holds Try.pinned (OpenSpec.ofChange scalarLawsSpec)

/-- ITS FALSE NEIGHBOUR: 'it returns false'. Refute it at one input. -/
def scalarLawsWrong : ChangeSpec := { name := "scalarLaws", fn := fun _ => fun
  | [d1, d2, d3] => { results := [.lit (.bool false)], args := [d1, d2, d3] }
  | _ => none }
def ScalarLawsWrongFalsely : Prop := scalarLawsRow.holds Try.pinned (OpenSpec.ofChange scalarLawsWrong)

/-- 'missivelaw7.ScalarForms': WHATEVER THE INPUT: true; the input reads as it did. -/
def scalarFormsSpec : ChangeSpec := { name := "scalarForms", fn := fun _ => fun
  | [d] => { results := [.lit (.bool true)], args := [d] }
  | _ => none }
def scalarFormsRow : OpenClaim := { program := "ytncdlaidmiokiaa", sum := "30d5ff28cae90f219bb13a4deddd11352fbb49748971223bf65a550a757feff5", func := "missive/missivelaw7.ScalarForms", spec := "scalarForms", inPlace := ["math/bits.Add64", "math/bits.Sub64"], unfollowed := true, recurses := true, apart := false }
def ScalarFormsSaid : Prop := scalarFormsRow.holds Try.pinned (OpenSpec.ofChange scalarFormsSpec)

/-- ITS FALSE NEIGHBOUR: 'it returns false'. Refute it at one input. -/
def scalarFormsWrong : ChangeSpec := { name := "scalarForms", fn := fun _ => fun
  | [d] => { results := [.lit (.bool false)], args := [d] }
  | _ => none }
def ScalarFormsWrongFalsely : Prop := scalarFormsRow.holds Try.pinned (OpenSpec.ofChange scalarFormsWrong)

/-- 'missivelaw7.ScalarSmalls': WHATEVER THE INPUT: true; the input reads as it did. -/
def scalarSmallsSpec : ChangeSpec := { name := "scalarSmalls", fn := fun _ => fun
  | [d1, d2, d3] => { results := [.lit (.bool true)], args := [d1, d2, d3] }
  | _ => none }
def scalarSmallsRow : OpenClaim := { program := "ytncdlaidmiokiaa", sum := "30d5ff28cae90f219bb13a4deddd11352fbb49748971223bf65a550a757feff5", func := "missive/missivelaw7.ScalarSmalls", spec := "scalarSmalls", inPlace := ["math/bits.Add64", "math/bits.Sub64"], unfollowed := true, recurses := true, apart := false }
def ScalarSmallsSaid : Prop := scalarSmallsRow.holds Try.pinned (OpenSpec.ofChange scalarSmallsSpec)

/-- ITS FALSE NEIGHBOUR: 'it returns false'. Refute it at one input. -/
def scalarSmallsWrong : ChangeSpec := { name := "scalarSmalls", fn := fun _ => fun
  | [d1, d2, d3] => { results := [.lit (.bool false)], args := [d1, d2, d3] }
  | _ => none }
def ScalarSmallsWrongFalsely : Prop := scalarSmallsRow.holds Try.pinned (OpenSpec.ofChange scalarSmallsWrong)

/-- 'missivelaw7.ScalarParts': WHATEVER THE INPUT: true; the input reads as it did. -/
def scalarPartsSpec : ChangeSpec := { name := "scalarParts", fn := fun _ => fun
  | [d1, d2] => { results := [.lit (.bool true)], args := [d1, d2] }
  | _ => none }
def scalarPartsRow : OpenClaim := { program := "ytncdlaidmiokiaa", sum := "30d5ff28cae90f219bb13a4deddd11352fbb49748971223bf65a550a757feff5", func := "missive/missivelaw7.ScalarParts", spec := "scalarParts", inPlace := ["math/bits.Add64", "math/bits.Sub64"], recurses := true, apart := false }
def ScalarPartsSaid : Prop := scalarPartsRow.holds Try.pinned (OpenSpec.ofChange scalarPartsSpec)

/-- ITS FALSE NEIGHBOUR: 'it returns false'. Refute it at one input. -/
def scalarPartsWrong : ChangeSpec := { name := "scalarParts", fn := fun _ => fun
  | [d1, d2] => { results := [.lit (.bool false)], args := [d1, d2] }
  | _ => none }
def ScalarPartsWrongFalsely : Prop := scalarPartsRow.holds Try.pinned (OpenSpec.ofChange scalarPartsWrong)

/- THE SECOND FORM. 'bulk': how many values and letters a reading holds, each counted each time it is reached (what is shared counts as often as it is met; a slice's spare places count too). A statement '..UptoSaid' is the law's where the arguments, and the package variables that the reading takes, are together of bulk at most 1048576: NARROWER than '..Said'. Prove '..Said' where nothing that the law and all that it calls make is longer than what came in: it says more and counts as full. Else prove '..UptoSaid'. A law counts once. -/
mutual
def uptoBulk {H : Type} : DataW H → Nat
  | .lit (.string bytes) => bytes.length + 1
  | .lit _ => 1
  | .nil => 1
  | .ptr d => uptoBulk d + 1
  | .slice elems spare => uptoBulkAll elems + uptoBulkAll spare + 1
  | .agg parts => uptoBulkAll parts + 1
  | .iface _ d => uptoBulk d + 1
  | .map entries => uptoBulkEntries entries + 1
  | .held _ => 1
def uptoBulkAll {H : Type} : List (DataW H) → Nat
  | [] => 0
  | d :: r => uptoBulk d + uptoBulkAll r
def uptoBulkEntries {H : Type} : List (Lit × DataW H) → Nat
  | [] => 0
  | x :: r => uptoBulkEntry x + uptoBulkEntries r
def uptoBulkEntry {H : Type} : Lit × DataW H → Nat
  | (.string bytes, d) => bytes.length + uptoBulk d + 1
  | (_, d) => uptoBulk d + 1
 end
def uptoSmall : (H : Type) → List (DataW H) → Bool := fun _ ds => decide (uptoBulkAll ds ≤ 1048576)
def OpenSpec.upto (s : _root_.Go.ChangeSpec) : _root_.Go.OpenSpec := { _root_.Go.OpenSpec.ofChange s with cond := some uptoSmall }

/-- 'missivelaw7.ScalarAsks', WHERE WHAT IT READS IS OF BULK AT MOST 1048576: true; the input reads as it did. -/
def scalarAsksUptoRow : OpenClaim := { program := "ytncdlaidmiokiaa", sum := "30d5ff28cae90f219bb13a4deddd11352fbb49748971223bf65a550a757feff5", func := "missive/missivelaw7.ScalarAsks", spec := "scalarAsks", inPlace := ["math/bits.Add64", "math/bits.Sub64"], recurses := true, apart := false, narrowed := true }
def ScalarAsksUptoSaid : Prop := scalarAsksUptoRow.holds Try.pinned (OpenSpec.upto scalarAsksSpec)

/-- 'missivelaw7.ScalarLaws', WHERE WHAT IT READS IS OF BULK AT MOST 1048576: true; the input reads as it did. -/
def scalarLawsUptoRow : OpenClaim := { program := "ytncdlaidmiokiaa", sum := "30d5ff28cae90f219bb13a4deddd11352fbb49748971223bf65a550a757feff5", func := "missive/missivelaw7.ScalarLaws", spec := "scalarLaws", inPlace := ["math/bits.Add64", "math/bits.Sub64"], unfollowed := true, recurses := true, apart := false, narrowed := true }
def ScalarLawsUptoSaid : Prop := scalarLawsUptoRow.holds Try.pinned (OpenSpec.upto scalarLawsSpec)

/-- 'missivelaw7.ScalarForms', WHERE WHAT IT READS IS OF BULK AT MOST 1048576: true; the input reads as it did. -/
def scalarFormsUptoRow : OpenClaim := { program := "ytncdlaidmiokiaa", sum := "30d5ff28cae90f219bb13a4deddd11352fbb49748971223bf65a550a757feff5", func := "missive/missivelaw7.ScalarForms", spec := "scalarForms", inPlace := ["math/bits.Add64", "math/bits.Sub64"], unfollowed := true, recurses := true, apart := false, narrowed := true }
def ScalarFormsUptoSaid : Prop := scalarFormsUptoRow.holds Try.pinned (OpenSpec.upto scalarFormsSpec)

/-- 'missivelaw7.ScalarSmalls', WHERE WHAT IT READS IS OF BULK AT MOST 1048576: true; the input reads as it did. -/
def scalarSmallsUptoRow : OpenClaim := { program := "ytncdlaidmiokiaa", sum := "30d5ff28cae90f219bb13a4deddd11352fbb49748971223bf65a550a757feff5", func := "missive/missivelaw7.ScalarSmalls", spec := "scalarSmalls", inPlace := ["math/bits.Add64", "math/bits.Sub64"], unfollowed := true, recurses := true, apart := false, narrowed := true }
def ScalarSmallsUptoSaid : Prop := scalarSmallsUptoRow.holds Try.pinned (OpenSpec.upto scalarSmallsSpec)

/-- 'missivelaw7.ScalarParts', WHERE WHAT IT READS IS OF BULK AT MOST 1048576: true; the input reads as it did. -/
def scalarPartsUptoRow : OpenClaim := { program := "ytncdlaidmiokiaa", sum := "30d5ff28cae90f219bb13a4deddd11352fbb49748971223bf65a550a757feff5", func := "missive/missivelaw7.ScalarParts", spec := "scalarParts", inPlace := ["math/bits.Add64", "math/bits.Sub64"], recurses := true, apart := false, narrowed := true }
def ScalarPartsUptoSaid : Prop := scalarPartsUptoRow.holds Try.pinned (OpenSpec.upto scalarPartsSpec)

end Rows
end Go.Proofs.Ytncdlaidmiokiaa
