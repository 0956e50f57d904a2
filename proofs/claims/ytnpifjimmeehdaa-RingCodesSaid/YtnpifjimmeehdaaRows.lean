/-
  No cell of these rows narrows 'for every input' (looked for: loops, veiled, ifaces, maps, wideKeys, modest, calm, conditions, laid).
  DERIVED. THE GIVEN ROWS OF THIS SEAT. 6 by the template 'for every input the law returns true; each argument reads behind the call as it read before'; 0 by the template 'total and deterministic' (their statements: YtnpifjimmeehdaaTotals.lean).
  GIVEN WITH THE SEED: the statements are not yours to turn. If you find one false, say at which input.
  Laid BY PROGRAM, IN A SANDBOX (cutbox-rows.mjs): the forced cells as the released guide's own fill.sh prints them over the translation 5bec2c607f1a84fd… (all of the seat's roots in one cut). By AI agents, Wed Nov 11 2026. No macro, syntax, notation, axiom, sorry.
-/
import Derived.Test.YtnpifjimmeehdaaChecked
import GoSem.Claim
import GoSem.ClaimJoined
import GoSem.ClaimMapViews
import Derived.JoinedTies
import Derived.KernelRfl
namespace Go.Proofs.Ytnpifjimmeehdaa
/- THE CELL 'sum', in the pinned program and in every row, IS THE sha256 OF THE DUMP (.gsa) THAT YtnpifjimmeehdaaProg.lean LOADS. Nothing in Lean hashes anything: it is a label: what it is worth is what the hold of that sum in a sandbox is worth. -/
noncomputable def Try.pinned : Pinned := { name := "ytnpifjimmeehdaa", sum := "5bec2c607f1a84fd0c072e03af0d94dc64e1bf7bc1278396058db10227df9ec0", checked := Try.checked }
namespace Rows
def none {H : Type} : Left H := { results := [], args := [] }

/-- 'missivelaw10.RingAsks': WHATEVER THE INPUT: true; the input reads as it did. -/
def ringAsksSpec : ChangeSpec := { name := "ringAsks", fn := fun _ => fun
  | [d1, d2] => { results := [.lit (.bool true)], args := [d1, d2] }
  | _ => none }
def ringAsksRow : OpenClaim := { program := "ytnpifjimmeehdaa", sum := "5bec2c607f1a84fd0c072e03af0d94dc64e1bf7bc1278396058db10227df9ec0", func := "missive/missivelaw10.RingAsks", spec := "ringAsks", unfollowed := true, recurses := true, apart := false }
def RingAsksSaid : Prop := ringAsksRow.holds Try.pinned (OpenSpec.ofChange ringAsksSpec)

/-- ITS FALSE NEIGHBOUR: 'it returns false'. Refute it at one input. -/
def ringAsksWrong : ChangeSpec := { name := "ringAsks", fn := fun _ => fun
  | [d1, d2] => { results := [.lit (.bool false)], args := [d1, d2] }
  | _ => none }
def RingAsksWrongFalsely : Prop := ringAsksRow.holds Try.pinned (OpenSpec.ofChange ringAsksWrong)

/-- 'missivelaw10.RingForms': WHATEVER THE INPUT: true; the input reads as it did. -/
def ringFormsSpec : ChangeSpec := { name := "ringForms", fn := fun _ => fun
  | [d1, d2, d3] => { results := [.lit (.bool true)], args := [d1, d2, d3] }
  | _ => none }
def ringFormsRow : OpenClaim := { program := "ytnpifjimmeehdaa", sum := "5bec2c607f1a84fd0c072e03af0d94dc64e1bf7bc1278396058db10227df9ec0", func := "missive/missivelaw10.RingForms", spec := "ringForms", apart := false }
def RingFormsSaid : Prop := ringFormsRow.holds Try.pinned (OpenSpec.ofChange ringFormsSpec)

/-- ITS FALSE NEIGHBOUR: 'it returns false'. Refute it at one input. -/
def ringFormsWrong : ChangeSpec := { name := "ringForms", fn := fun _ => fun
  | [d1, d2, d3] => { results := [.lit (.bool false)], args := [d1, d2, d3] }
  | _ => none }
def RingFormsWrongFalsely : Prop := ringFormsRow.holds Try.pinned (OpenSpec.ofChange ringFormsWrong)

/-- 'missivelaw10.RingBack': WHATEVER THE INPUT: true; the input reads as it did. -/
def ringBackSpec : ChangeSpec := { name := "ringBack", fn := fun _ => fun
  | [d1, d2] => { results := [.lit (.bool true)], args := [d1, d2] }
  | _ => none }
def ringBackRow : OpenClaim := { program := "ytnpifjimmeehdaa", sum := "5bec2c607f1a84fd0c072e03af0d94dc64e1bf7bc1278396058db10227df9ec0", func := "missive/missivelaw10.RingBack", spec := "ringBack", unfollowed := true, recurses := true, apart := false }
def RingBackSaid : Prop := ringBackRow.holds Try.pinned (OpenSpec.ofChange ringBackSpec)

/-- ITS FALSE NEIGHBOUR: 'it returns false'. Refute it at one input. -/
def ringBackWrong : ChangeSpec := { name := "ringBack", fn := fun _ => fun
  | [d1, d2] => { results := [.lit (.bool false)], args := [d1, d2] }
  | _ => none }
def RingBackWrongFalsely : Prop := ringBackRow.holds Try.pinned (OpenSpec.ofChange ringBackWrong)

/-- 'missivelaw10.RingCodes': WHATEVER THE INPUT: true; the input reads as it did. -/
def ringCodesSpec : ChangeSpec := { name := "ringCodes", fn := fun _ => fun
  | [d1, d2] => { results := [.lit (.bool true)], args := [d1, d2] }
  | _ => none }
def ringCodesRow : OpenClaim := { program := "ytnpifjimmeehdaa", sum := "5bec2c607f1a84fd0c072e03af0d94dc64e1bf7bc1278396058db10227df9ec0", func := "missive/missivelaw10.RingCodes", spec := "ringCodes", apart := false }
def RingCodesSaid : Prop := ringCodesRow.holds Try.pinned (OpenSpec.ofChange ringCodesSpec)

/-- ITS FALSE NEIGHBOUR: 'it returns false'. Refute it at one input. -/
def ringCodesWrong : ChangeSpec := { name := "ringCodes", fn := fun _ => fun
  | [d1, d2] => { results := [.lit (.bool false)], args := [d1, d2] }
  | _ => none }
def RingCodesWrongFalsely : Prop := ringCodesRow.holds Try.pinned (OpenSpec.ofChange ringCodesWrong)

/-- 'missivelaw10.RingLinear': WHATEVER THE INPUT: true; the input reads as it did. -/
def ringLinearSpec : ChangeSpec := { name := "ringLinear", fn := fun _ => fun
  | [d1, d2, d3] => { results := [.lit (.bool true)], args := [d1, d2, d3] }
  | _ => none }
def ringLinearRow : OpenClaim := { program := "ytnpifjimmeehdaa", sum := "5bec2c607f1a84fd0c072e03af0d94dc64e1bf7bc1278396058db10227df9ec0", func := "missive/missivelaw10.RingLinear", spec := "ringLinear", unfollowed := true, recurses := true, apart := false }
def RingLinearSaid : Prop := ringLinearRow.holds Try.pinned (OpenSpec.ofChange ringLinearSpec)

/-- ITS FALSE NEIGHBOUR: 'it returns false'. Refute it at one input. -/
def ringLinearWrong : ChangeSpec := { name := "ringLinear", fn := fun _ => fun
  | [d1, d2, d3] => { results := [.lit (.bool false)], args := [d1, d2, d3] }
  | _ => none }
def RingLinearWrongFalsely : Prop := ringLinearRow.holds Try.pinned (OpenSpec.ofChange ringLinearWrong)

/-- 'missivelaw10.RingBits': WHATEVER THE INPUT: true; the input reads as it did. -/
def ringBitsSpec : ChangeSpec := { name := "ringBits", fn := fun _ => fun
  | [d] => { results := [.lit (.bool true)], args := [d] }
  | _ => none }
def ringBitsRow : OpenClaim := { program := "ytnpifjimmeehdaa", sum := "5bec2c607f1a84fd0c072e03af0d94dc64e1bf7bc1278396058db10227df9ec0", func := "missive/missivelaw10.RingBits", spec := "ringBits", apart := false }
def RingBitsSaid : Prop := ringBitsRow.holds Try.pinned (OpenSpec.ofChange ringBitsSpec)

/-- ITS FALSE NEIGHBOUR: 'it returns false'. Refute it at one input. -/
def ringBitsWrong : ChangeSpec := { name := "ringBits", fn := fun _ => fun
  | [d] => { results := [.lit (.bool false)], args := [d] }
  | _ => none }
def RingBitsWrongFalsely : Prop := ringBitsRow.holds Try.pinned (OpenSpec.ofChange ringBitsWrong)

/- THE SECOND FORM. 'bulk': how many values and letters a reading holds, each counted each time it is reached (what is shared counts as often as it is met; a slice's spare places count too). A statement '..UptoSaid' is the law's where the arguments, and the package variables that the reading takes, are together of bulk at most 1048576: NARROWER than '..Said'. Prove '..Said' where nothing that the law and all that it calls make is longer than what came in: it says more and counts as full. Else prove '..UptoSaid'. A law counts once. -/
mutual
def uptoBulk {H : Type} : DataW H → Nat
  | .lit (.string bytes) => bytes.length + 1
  | .lit _ => 1
  | .nil => 1
  | .ptr d => uptoBulk d + 1
  | .slice elems spare => uptoBulkAll elems + uptoBulkAll spare + 1
  | .agg parts => uptoBulkAll parts + 1
  | .iface _ d => uptoBulk d + 1
  | .map entries => uptoBulkEntries entries + 1
  | .held _ => 1
def uptoBulkAll {H : Type} : List (DataW H) → Nat
  | [] => 0
  | d :: r => uptoBulk d + uptoBulkAll r
def uptoBulkEntries {H : Type} : List (Lit × DataW H) → Nat
  | [] => 0
  | x :: r => uptoBulkEntry x + uptoBulkEntries r
def uptoBulkEntry {H : Type} : Lit × DataW H → Nat
  | (.string bytes, d) => bytes.length + uptoBulk d + 1
  | (_, d) => uptoBulk d + 1
 end
def uptoSmall : (H : Type) → List (DataW H) → Bool := fun _ ds => decide (uptoBulkAll ds ≤ 1048576)
def OpenSpec.upto (s : _root_.Go.ChangeSpec) : _root_.Go.OpenSpec := { _root_.Go.OpenSpec.ofChange s with cond := some uptoSmall }

/-- 'missivelaw10.RingAsks', WHERE WHAT IT READS IS OF BULK AT MOST 1048576: true; the input reads as it did. -/
def ringAsksUptoRow : OpenClaim := { program := "ytnpifjimmeehdaa", sum := "5bec2c607f1a84fd0c072e03af0d94dc64e1bf7bc1278396058db10227df9ec0", func := "missive/missivelaw10.RingAsks", spec := "ringAsks", unfollowed := true, recurses := true, apart := false, narrowed := true }
def RingAsksUptoSaid : Prop := ringAsksUptoRow.holds Try.pinned (OpenSpec.upto ringAsksSpec)

/-- 'missivelaw10.RingForms', WHERE WHAT IT READS IS OF BULK AT MOST 1048576: true; the input reads as it did. -/
def ringFormsUptoRow : OpenClaim := { program := "ytnpifjimmeehdaa", sum := "5bec2c607f1a84fd0c072e03af0d94dc64e1bf7bc1278396058db10227df9ec0", func := "missive/missivelaw10.RingForms", spec := "ringForms", apart := false, narrowed := true }
def RingFormsUptoSaid : Prop := ringFormsUptoRow.holds Try.pinned (OpenSpec.upto ringFormsSpec)

/-- 'missivelaw10.RingBack', WHERE WHAT IT READS IS OF BULK AT MOST 1048576: true; the input reads as it did. -/
def ringBackUptoRow : OpenClaim := { program := "ytnpifjimmeehdaa", sum := "5bec2c607f1a84fd0c072e03af0d94dc64e1bf7bc1278396058db10227df9ec0", func := "missive/missivelaw10.RingBack", spec := "ringBack", unfollowed := true, recurses := true, apart := false, narrowed := true }
def RingBackUptoSaid : Prop := ringBackUptoRow.holds Try.pinned (OpenSpec.upto ringBackSpec)

/-- 'missivelaw10.RingCodes', WHERE WHAT IT READS IS OF BULK AT MOST 1048576: true; the input reads as it did. -/
def ringCodesUptoRow : OpenClaim := { program := "ytnpifjimmeehdaa", sum := "5bec2c607f1a84fd0c072e03af0d94dc64e1bf7bc1278396058db10227df9ec0", func := "missive/missivelaw10.RingCodes", spec := "ringCodes", apart := false, narrowed := true }
def RingCodesUptoSaid : Prop := ringCodesUptoRow.holds Try.pinned (OpenSpec.upto ringCodesSpec)

/-- 'missivelaw10.RingLinear', WHERE WHAT IT READS IS OF BULK AT MOST 1048576: true; the input reads as it did. -/
def ringLinearUptoRow : OpenClaim := { program := "ytnpifjimmeehdaa", sum := "5bec2c607f1a84fd0c072e03af0d94dc64e1bf7bc1278396058db10227df9ec0", func := "missive/missivelaw10.RingLinear", spec := "ringLinear", unfollowed := true, recurses := true, apart := false, narrowed := true }
def RingLinearUptoSaid : Prop := ringLinearUptoRow.holds Try.pinned (OpenSpec.upto ringLinearSpec)

/-- 'missivelaw10.RingBits', WHERE WHAT IT READS IS OF BULK AT MOST 1048576: true; the input reads as it did. -/
def ringBitsUptoRow : OpenClaim := { program := "ytnpifjimmeehdaa", sum := "5bec2c607f1a84fd0c072e03af0d94dc64e1bf7bc1278396058db10227df9ec0", func := "missive/missivelaw10.RingBits", spec := "ringBits", apart := false, narrowed := true }
def RingBitsUptoSaid : Prop := ringBitsUptoRow.holds Try.pinned (OpenSpec.upto ringBitsSpec)

end Rows
end Go.Proofs.Ytnpifjimmeehdaa
