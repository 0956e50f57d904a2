/-
  No cell of these rows narrows 'for every input' (looked for: loops, veiled, ifaces, maps, wideKeys, modest, calm, conditions, laid).
  DERIVED. THE GIVEN ROWS OF THIS SEAT. 4 by the template 'for every input the law returns true; each argument reads behind the call as it read before'; 0 by the template 'total and deterministic' (their statements: YtonhpmaiagbheaaTotals.lean).
  GIVEN WITH THE SEED: the statements are not yours to turn. If you find one false, say at which input.
  Laid BY PROGRAM, IN A SANDBOX (cutbox-rows.mjs): the forced cells as the released guide's own fill.sh prints them over the translation e121e68a91ea60f5… (all of the seat's roots in one cut). By AI agents, Wed Nov 11 2026. No macro, syntax, notation, axiom, sorry.
-/
import Derived.Test.YtonhpmaiagbheaaChecked
import GoSem.Claim
import GoSem.ClaimJoined
import GoSem.ClaimMapViews
import Derived.JoinedTies
import Derived.KernelRfl
namespace Go.Proofs.Ytonhpmaiagbheaa
/- THE CELL 'sum', in the pinned program and in every row, IS THE sha256 OF THE DUMP (.gsa) THAT YtonhpmaiagbheaaProg.lean LOADS. Nothing in Lean hashes anything: it is a label: what it is worth is what the hold of that sum in a sandbox is worth. -/
noncomputable def Try.pinned : Pinned := { name := "ytonhpmaiagbheaa", sum := "e121e68a91ea60f5b0040840717355e52cb985fb501a559c7fee3a57db8de8c8", checked := Try.checked }
namespace Rows
def none {H : Type} : Left H := { results := [], args := [] }

/-- 'missivelaw9.EdBack': WHATEVER THE INPUT: true; the input reads as it did. -/
def edBackSpec : ChangeSpec := { name := "edBack", fn := fun _ => fun
  | [d1, d2, d3] => { results := [.lit (.bool true)], args := [d1, d2, d3] }
  | _ => none }
def edBackRow : OpenClaim := { program := "ytonhpmaiagbheaa", sum := "e121e68a91ea60f5b0040840717355e52cb985fb501a559c7fee3a57db8de8c8", func := "missive/missivelaw9.EdBack", spec := "edBack", inPlace := ["math/bits.Add64", "math/bits.Sub64"], unfollowed := true, recurses := true, apart := false }
def EdBackSaid : Prop := edBackRow.holds Try.pinned (OpenSpec.ofChange edBackSpec)

/-- ITS FALSE NEIGHBOUR: 'it returns false'. Refute it at one input. -/
def edBackWrong : ChangeSpec := { name := "edBack", fn := fun _ => fun
  | [d1, d2, d3] => { results := [.lit (.bool false)], args := [d1, d2, d3] }
  | _ => none }
def EdBackWrongFalsely : Prop := edBackRow.holds Try.pinned (OpenSpec.ofChange edBackWrong)

/-- 'missivelaw9.EdSmall': WHATEVER THE INPUT: true; the input reads as it did. -/
def edSmallSpec : ChangeSpec := { name := "edSmall", fn := fun _ => fun
  | [d1, d2, d3] => { results := [.lit (.bool true)], args := [d1, d2, d3] }
  | _ => none }
def edSmallRow : OpenClaim := { program := "ytonhpmaiagbheaa", sum := "e121e68a91ea60f5b0040840717355e52cb985fb501a559c7fee3a57db8de8c8", func := "missive/missivelaw9.EdSmall", spec := "edSmall", inPlace := ["math/bits.Add64", "math/bits.Sub64"], unfollowed := true, recurses := true, apart := false }
def EdSmallSaid : Prop := edSmallRow.holds Try.pinned (OpenSpec.ofChange edSmallSpec)

/-- ITS FALSE NEIGHBOUR: 'it returns false'. Refute it at one input. -/
def edSmallWrong : ChangeSpec := { name := "edSmall", fn := fun _ => fun
  | [d1, d2, d3] => { results := [.lit (.bool false)], args := [d1, d2, d3] }
  | _ => none }
def EdSmallWrongFalsely : Prop := edSmallRow.holds Try.pinned (OpenSpec.ofChange edSmallWrong)

/-- 'missivelaw9.EdForms': WHATEVER THE INPUT: true; the input reads as it did. -/
def edFormsSpec : ChangeSpec := { name := "edForms", fn := fun _ => fun
  | [d1, d2] => { results := [.lit (.bool true)], args := [d1, d2] }
  | _ => none }
def edFormsRow : OpenClaim := { program := "ytonhpmaiagbheaa", sum := "e121e68a91ea60f5b0040840717355e52cb985fb501a559c7fee3a57db8de8c8", func := "missive/missivelaw9.EdForms", spec := "edForms", inPlace := ["math/bits.Add64", "math/bits.Sub64"], unfollowed := true, recurses := true, apart := false }
def EdFormsSaid : Prop := edFormsRow.holds Try.pinned (OpenSpec.ofChange edFormsSpec)

/-- ITS FALSE NEIGHBOUR: 'it returns false'. Refute it at one input. -/
def edFormsWrong : ChangeSpec := { name := "edForms", fn := fun _ => fun
  | [d1, d2] => { results := [.lit (.bool false)], args := [d1, d2] }
  | _ => none }
def EdFormsWrongFalsely : Prop := edFormsRow.holds Try.pinned (OpenSpec.ofChange edFormsWrong)

/-- 'missivelaw9.EdSigners': WHATEVER THE INPUT: true; the input reads as it did. -/
def edSignersSpec : ChangeSpec := { name := "edSigners", fn := fun _ => fun
  | [d1, d2, d3] => { results := [.lit (.bool true)], args := [d1, d2, d3] }
  | _ => none }
def edSignersRow : OpenClaim := { program := "ytonhpmaiagbheaa", sum := "e121e68a91ea60f5b0040840717355e52cb985fb501a559c7fee3a57db8de8c8", func := "missive/missivelaw9.EdSigners", spec := "edSigners", inPlace := ["math/bits.Add64", "math/bits.Sub64"], unfollowed := true, recurses := true, apart := false }
def EdSignersSaid : Prop := edSignersRow.holds Try.pinned (OpenSpec.ofChange edSignersSpec)

/-- ITS FALSE NEIGHBOUR: 'it returns false'. Refute it at one input. -/
def edSignersWrong : ChangeSpec := { name := "edSigners", fn := fun _ => fun
  | [d1, d2, d3] => { results := [.lit (.bool false)], args := [d1, d2, d3] }
  | _ => none }
def EdSignersWrongFalsely : Prop := edSignersRow.holds Try.pinned (OpenSpec.ofChange edSignersWrong)

/- THE SECOND FORM. 'bulk': how many values and letters a reading holds, each counted each time it is reached (what is shared counts as often as it is met; a slice's spare places count too). A statement '..UptoSaid' is the law's where the arguments, and the package variables that the reading takes, are together of bulk at most 1048576: NARROWER than '..Said'. Prove '..Said' where nothing that the law and all that it calls make is longer than what came in: it says more and counts as full. Else prove '..UptoSaid'. A law counts once. -/
mutual
def uptoBulk {H : Type} : DataW H → Nat
  | .lit (.string bytes) => bytes.length + 1
  | .lit _ => 1
  | .nil => 1
  | .ptr d => uptoBulk d + 1
  | .slice elems spare => uptoBulkAll elems + uptoBulkAll spare + 1
  | .agg parts => uptoBulkAll parts + 1
  | .iface _ d => uptoBulk d + 1
  | .map entries => uptoBulkEntries entries + 1
  | .held _ => 1
def uptoBulkAll {H : Type} : List (DataW H) → Nat
  | [] => 0
  | d :: r => uptoBulk d + uptoBulkAll r
def uptoBulkEntries {H : Type} : List (Lit × DataW H) → Nat
  | [] => 0
  | x :: r => uptoBulkEntry x + uptoBulkEntries r
def uptoBulkEntry {H : Type} : Lit × DataW H → Nat
  | (.string bytes, d) => bytes.length + uptoBulk d + 1
  | (_, d) => uptoBulk d + 1
 end
def uptoSmall : (H : Type) → List (DataW H) → Bool := fun _ ds => decide (uptoBulkAll ds ≤ 1048576)
def OpenSpec.upto (s : _root_.Go.ChangeSpec) : _root_.Go.OpenSpec := { _root_.Go.OpenSpec.ofChange s with cond := some uptoSmall }

/-- 'missivelaw9.EdBack', WHERE WHAT IT READS IS OF BULK AT MOST 1048576: true; the input reads as it did. -/
def edBackUptoRow : OpenClaim := { program := "ytonhpmaiagbheaa", sum := "e121e68a91ea60f5b0040840717355e52cb985fb501a559c7fee3a57db8de8c8", func := "missive/missivelaw9.EdBack", spec := "edBack", inPlace := ["math/bits.Add64", "math/bits.Sub64"], unfollowed := true, recurses := true, apart := false, narrowed := true }
def EdBackUptoSaid : Prop := edBackUptoRow.holds Try.pinned (OpenSpec.upto edBackSpec)

/-- 'missivelaw9.EdSmall', WHERE WHAT IT READS IS OF BULK AT MOST 1048576: true; the input reads as it did. -/
def edSmallUptoRow : OpenClaim := { program := "ytonhpmaiagbheaa", sum := "e121e68a91ea60f5b0040840717355e52cb985fb501a559c7fee3a57db8de8c8", func := "missive/missivelaw9.EdSmall", spec := "edSmall", inPlace := ["math/bits.Add64", "math/bits.Sub64"], unfollowed := true, recurses := true, apart := false, narrowed := true }
def EdSmallUptoSaid : Prop := edSmallUptoRow.holds Try.pinned (OpenSpec.upto edSmallSpec)

/-- 'missivelaw9.EdForms', WHERE WHAT IT READS IS OF BULK AT MOST 1048576: true; the input reads as it did. -/
def edFormsUptoRow : OpenClaim := { program := "ytonhpmaiagbheaa", sum := "e121e68a91ea60f5b0040840717355e52cb985fb501a559c7fee3a57db8de8c8", func := "missive/missivelaw9.EdForms", spec := "edForms", inPlace := ["math/bits.Add64", "math/bits.Sub64"], unfollowed := true, recurses := true, apart := false, narrowed := true }
def EdFormsUptoSaid : Prop := edFormsUptoRow.holds Try.pinned (OpenSpec.upto edFormsSpec)

/-- 'missivelaw9.EdSigners', WHERE WHAT IT READS IS OF BULK AT MOST 1048576: true; the input reads as it did. -/
def edSignersUptoRow : OpenClaim := { program := "ytonhpmaiagbheaa", sum := "e121e68a91ea60f5b0040840717355e52cb985fb501a559c7fee3a57db8de8c8", func := "missive/missivelaw9.EdSigners", spec := "edSigners", inPlace := ["math/bits.Add64", "math/bits.Sub64"], unfollowed := true, recurses := true, apart := false, narrowed := true }
def EdSignersUptoSaid : Prop := edSignersUptoRow.holds Try.pinned (OpenSpec.upto edSignersSpec)

end Rows
end Go.Proofs.Ytonhpmaiagbheaa
