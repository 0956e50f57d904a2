/-
  NARROWER THAN 'FOR EVERY INPUT', by the rows' own cells (each row's printed sentence says how): Sha3Sums: laid · Sha3Permutes: laid · Sha3Reads: laid · Sha3Cuts: laid · Sha3Limits: laid.
  DERIVED. THE GIVEN ROWS OF THIS SEAT. 5 by the template 'for every input the law returns true; each argument reads behind the call as it read before'; 0 by the template 'total and deterministic' (their statements: YtmfogngfdgpahaaDoorTotals.lean).
  GIVEN WITH THE SEED: the statements are not yours to turn. If you find one false, say at which input.
  Laid BY PROGRAM, IN A SANDBOX (cutbox-rows.mjs): the forced cells as the released guide's own fill.sh prints them over the translation d4ebabeeb194dff9… (all of the seat's roots in one cut). By AI agents, Wed Nov 11 2026. No macro, syntax, notation, axiom, sorry.
-/
import Derived.Test.YtmfogngfdgpahaaDoorChecked
import GoSem.Claim
import GoSem.ClaimJoined
import GoSem.ClaimMapViews
import Derived.JoinedTies
import Derived.KernelRfl
namespace Go.Proofs.YtmfogngfdgpahaaDoor
/- THE CELL 'sum', in the pinned program and in every row, IS THE sha256 OF THE DUMP (.gsa) THAT YtmfogngfdgpahaaDoorProg.lean LOADS. Nothing in Lean hashes anything: it is a label: what it is worth is what the hold of that sum in a sandbox is worth. -/
noncomputable def Tryd.pinned : Pinned := { name := "ytmfogngfdgpahaadoor", sum := "d4ebabeeb194dff9c951df161772a2ca22d937cd4739c814d55f9326d8c92964", checked := Tryd.checked }
namespace Rows
def none {H : Type} : Left H := { results := [], args := [] }

/- WHAT THE LISTED PACKAGE-LEVEL VARIABLES READ AS WHEN THE CALL BEGINS. Each datum BY PROGRAM (the guide's laid-datum.mjs) off the statement by which the dump's own 'gosem.cut.vars' lays the variable. In a bare row this is a premise. The card (YtmfogngfdgpahaaDoorCards.lean) ties it to the program's text. -/
def laid_missive_sha3_turns {H : Type} : DataW H := .agg [.lit (.int .i64 0), .lit (.int .i64 1), .lit (.int .i64 62), .lit (.int .i64 28), .lit (.int .i64 27), .lit (.int .i64 36), .lit (.int .i64 44), .lit (.int .i64 6), .lit (.int .i64 55), .lit (.int .i64 20), .lit (.int .i64 3), .lit (.int .i64 10), .lit (.int .i64 43), .lit (.int .i64 25), .lit (.int .i64 39), .lit (.int .i64 41), .lit (.int .i64 45), .lit (.int .i64 15), .lit (.int .i64 21), .lit (.int .i64 8), .lit (.int .i64 18), .lit (.int .i64 2), .lit (.int .i64 61), .lit (.int .i64 56), .lit (.int .i64 14)]
def laid_missive_sha3_sources {H : Type} : DataW H := .agg [.lit (.int .i64 0), .lit (.int .i64 6), .lit (.int .i64 12), .lit (.int .i64 18), .lit (.int .i64 24), .lit (.int .i64 3), .lit (.int .i64 9), .lit (.int .i64 10), .lit (.int .i64 16), .lit (.int .i64 22), .lit (.int .i64 1), .lit (.int .i64 7), .lit (.int .i64 13), .lit (.int .i64 19), .lit (.int .i64 20), .lit (.int .i64 4), .lit (.int .i64 5), .lit (.int .i64 11), .lit (.int .i64 17), .lit (.int .i64 23), .lit (.int .i64 2), .lit (.int .i64 8), .lit (.int .i64 14), .lit (.int .i64 15), .lit (.int .i64 21)]
def laid_missive_sha3_marks {H : Type} : DataW H := .agg [.lit (.int .u64 1), .lit (.int .u64 32898), .lit (.int .u64 9223372036854808714), .lit (.int .u64 9223372039002292224), .lit (.int .u64 32907), .lit (.int .u64 2147483649), .lit (.int .u64 9223372039002292353), .lit (.int .u64 9223372036854808585), .lit (.int .u64 138), .lit (.int .u64 136), .lit (.int .u64 2147516425), .lit (.int .u64 2147483658), .lit (.int .u64 2147516555), .lit (.int .u64 9223372036854775947), .lit (.int .u64 9223372036854808713), .lit (.int .u64 9223372036854808579), .lit (.int .u64 9223372036854808578), .lit (.int .u64 9223372036854775936), .lit (.int .u64 32778), .lit (.int .u64 9223372039002259466), .lit (.int .u64 9223372039002292353), .lit (.int .u64 9223372036854808704), .lit (.int .u64 2147483649), .lit (.int .u64 9223372039002292232)]

/-- 'missivelaw3.Sha3Sums': WHATEVER THE INPUT: true; the input reads as it did. -/
def sha3SumsSpec : ChangeSpec := { name := "sha3Sums", fn := fun _ => fun
  | [d1, d2] => { results := [.lit (.bool true)], args := [d1, d2] }
  | _ => none }
def sha3SumsRow : OpenClaim := { program := "ytmfogngfdgpahaadoor", sum := "d4ebabeeb194dff9c951df161772a2ca22d937cd4739c814d55f9326d8c92964", func := "missive/missivelaw3.Sha3Sums", spec := "sha3Sums", unfollowed := true, recurses := true, named := ["missive/sha3.marks", "missive/sha3.turns", "missive/sha3.sources"], apart := false, laid := [("missive/sha3.turns", laid_missive_sha3_turns), ("missive/sha3.sources", laid_missive_sha3_sources), ("missive/sha3.marks", laid_missive_sha3_marks)] }
def Sha3SumsSaid : Prop := sha3SumsRow.holds Tryd.pinned (OpenSpec.ofChange sha3SumsSpec)

/-- ITS FALSE NEIGHBOUR: 'it returns false'. Refute it at one input. -/
def sha3SumsWrong : ChangeSpec := { name := "sha3Sums", fn := fun _ => fun
  | [d1, d2] => { results := [.lit (.bool false)], args := [d1, d2] }
  | _ => none }
def Sha3SumsWrongFalsely : Prop := sha3SumsRow.holds Tryd.pinned (OpenSpec.ofChange sha3SumsWrong)

/-- 'missivelaw3.Sha3Permutes': WHATEVER THE INPUT: true; the input reads as it did. -/
def sha3PermutesSpec : ChangeSpec := { name := "sha3Permutes", fn := fun _ => fun
  | [d1, d2] => { results := [.lit (.bool true)], args := [d1, d2] }
  | _ => none }
def sha3PermutesRow : OpenClaim := { program := "ytmfogngfdgpahaadoor", sum := "d4ebabeeb194dff9c951df161772a2ca22d937cd4739c814d55f9326d8c92964", func := "missive/missivelaw3.Sha3Permutes", spec := "sha3Permutes", unfollowed := true, recurses := true, named := ["missive/sha3.marks", "missive/sha3.turns", "missive/sha3.sources"], apart := false, laid := [("missive/sha3.turns", laid_missive_sha3_turns), ("missive/sha3.sources", laid_missive_sha3_sources), ("missive/sha3.marks", laid_missive_sha3_marks)] }
def Sha3PermutesSaid : Prop := sha3PermutesRow.holds Tryd.pinned (OpenSpec.ofChange sha3PermutesSpec)

/-- ITS FALSE NEIGHBOUR: 'it returns false'. Refute it at one input. -/
def sha3PermutesWrong : ChangeSpec := { name := "sha3Permutes", fn := fun _ => fun
  | [d1, d2] => { results := [.lit (.bool false)], args := [d1, d2] }
  | _ => none }
def Sha3PermutesWrongFalsely : Prop := sha3PermutesRow.holds Tryd.pinned (OpenSpec.ofChange sha3PermutesWrong)

/-- 'missivelaw3.Sha3Reads': WHATEVER THE INPUT: true; the input reads as it did. -/
def sha3ReadsSpec : ChangeSpec := { name := "sha3Reads", fn := fun _ => fun
  | [d1, d2, d3, d4] => { results := [.lit (.bool true)], args := [d1, d2, d3, d4] }
  | _ => none }
def sha3ReadsRow : OpenClaim := { program := "ytmfogngfdgpahaadoor", sum := "d4ebabeeb194dff9c951df161772a2ca22d937cd4739c814d55f9326d8c92964", func := "missive/missivelaw3.Sha3Reads", spec := "sha3Reads", unfollowed := true, recurses := true, named := ["missive/sha3.marks", "missive/sha3.turns", "missive/sha3.sources"], apart := false, laid := [("missive/sha3.turns", laid_missive_sha3_turns), ("missive/sha3.sources", laid_missive_sha3_sources), ("missive/sha3.marks", laid_missive_sha3_marks)] }
def Sha3ReadsSaid : Prop := sha3ReadsRow.holds Tryd.pinned (OpenSpec.ofChange sha3ReadsSpec)

/-- ITS FALSE NEIGHBOUR: 'it returns false'. Refute it at one input. -/
def sha3ReadsWrong : ChangeSpec := { name := "sha3Reads", fn := fun _ => fun
  | [d1, d2, d3, d4] => { results := [.lit (.bool false)], args := [d1, d2, d3, d4] }
  | _ => none }
def Sha3ReadsWrongFalsely : Prop := sha3ReadsRow.holds Tryd.pinned (OpenSpec.ofChange sha3ReadsWrong)

/-- 'missivelaw3.Sha3Cuts': WHATEVER THE INPUT: true; the input reads as it did. -/
def sha3CutsSpec : ChangeSpec := { name := "sha3Cuts", fn := fun _ => fun
  | [d1, d2, d3] => { results := [.lit (.bool true)], args := [d1, d2, d3] }
  | _ => none }
def sha3CutsRow : OpenClaim := { program := "ytmfogngfdgpahaadoor", sum := "d4ebabeeb194dff9c951df161772a2ca22d937cd4739c814d55f9326d8c92964", func := "missive/missivelaw3.Sha3Cuts", spec := "sha3Cuts", unfollowed := true, recurses := true, named := ["missive/sha3.marks", "missive/sha3.turns", "missive/sha3.sources"], apart := false, laid := [("missive/sha3.turns", laid_missive_sha3_turns), ("missive/sha3.sources", laid_missive_sha3_sources), ("missive/sha3.marks", laid_missive_sha3_marks)] }
def Sha3CutsSaid : Prop := sha3CutsRow.holds Tryd.pinned (OpenSpec.ofChange sha3CutsSpec)

/-- ITS FALSE NEIGHBOUR: 'it returns false'. Refute it at one input. -/
def sha3CutsWrong : ChangeSpec := { name := "sha3Cuts", fn := fun _ => fun
  | [d1, d2, d3] => { results := [.lit (.bool false)], args := [d1, d2, d3] }
  | _ => none }
def Sha3CutsWrongFalsely : Prop := sha3CutsRow.holds Tryd.pinned (OpenSpec.ofChange sha3CutsWrong)

/-- 'missivelaw3.Sha3Limits': WHATEVER THE INPUT: true; the input reads as it did. -/
def sha3LimitsSpec : ChangeSpec := { name := "sha3Limits", fn := fun _ => fun
  | [d] => { results := [.lit (.bool true)], args := [d] }
  | _ => none }
def sha3LimitsRow : OpenClaim := { program := "ytmfogngfdgpahaadoor", sum := "d4ebabeeb194dff9c951df161772a2ca22d937cd4739c814d55f9326d8c92964", func := "missive/missivelaw3.Sha3Limits", spec := "sha3Limits", unfollowed := true, recurses := true, named := ["missive/sha3.marks", "missive/sha3.turns", "missive/sha3.sources"], apart := false, laid := [("missive/sha3.turns", laid_missive_sha3_turns), ("missive/sha3.sources", laid_missive_sha3_sources), ("missive/sha3.marks", laid_missive_sha3_marks)] }
def Sha3LimitsSaid : Prop := sha3LimitsRow.holds Tryd.pinned (OpenSpec.ofChange sha3LimitsSpec)

/-- ITS FALSE NEIGHBOUR: 'it returns false'. Refute it at one input. -/
def sha3LimitsWrong : ChangeSpec := { name := "sha3Limits", fn := fun _ => fun
  | [d] => { results := [.lit (.bool false)], args := [d] }
  | _ => none }
def Sha3LimitsWrongFalsely : Prop := sha3LimitsRow.holds Tryd.pinned (OpenSpec.ofChange sha3LimitsWrong)

/- THE SECOND FORM. 'bulk': how many values and letters a reading holds, each counted each time it is reached (what is shared counts as often as it is met; a slice's spare places count too). A statement '..UptoSaid' is the law's where the arguments, and the package variables that the reading takes, are together of bulk at most 1048576: NARROWER than '..Said'. Prove '..Said' where nothing that the law and all that it calls make is longer than what came in: it says more and counts as full. Else prove '..UptoSaid'. A law counts once. -/
mutual
def uptoBulk {H : Type} : DataW H → Nat
  | .lit (.string bytes) => bytes.length + 1
  | .lit _ => 1
  | .nil => 1
  | .ptr d => uptoBulk d + 1
  | .slice elems spare => uptoBulkAll elems + uptoBulkAll spare + 1
  | .agg parts => uptoBulkAll parts + 1
  | .iface _ d => uptoBulk d + 1
  | .map entries => uptoBulkEntries entries + 1
  | .held _ => 1
def uptoBulkAll {H : Type} : List (DataW H) → Nat
  | [] => 0
  | d :: r => uptoBulk d + uptoBulkAll r
def uptoBulkEntries {H : Type} : List (Lit × DataW H) → Nat
  | [] => 0
  | x :: r => uptoBulkEntry x + uptoBulkEntries r
def uptoBulkEntry {H : Type} : Lit × DataW H → Nat
  | (.string bytes, d) => bytes.length + uptoBulk d + 1
  | (_, d) => uptoBulk d + 1
 end
def uptoSmall : (H : Type) → List (DataW H) → Bool := fun _ ds => decide (uptoBulkAll ds ≤ 1048576)
def OpenSpec.upto (s : _root_.Go.ChangeSpec) : _root_.Go.OpenSpec := { _root_.Go.OpenSpec.ofChange s with cond := some uptoSmall }

/-- 'missivelaw3.Sha3Sums', WHERE WHAT IT READS IS OF BULK AT MOST 1048576: true; the input reads as it did. -/
def sha3SumsUptoRow : OpenClaim := { program := "ytmfogngfdgpahaadoor", sum := "d4ebabeeb194dff9c951df161772a2ca22d937cd4739c814d55f9326d8c92964", func := "missive/missivelaw3.Sha3Sums", spec := "sha3Sums", unfollowed := true, recurses := true, named := ["missive/sha3.marks", "missive/sha3.turns", "missive/sha3.sources"], apart := false, laid := [("missive/sha3.turns", laid_missive_sha3_turns), ("missive/sha3.sources", laid_missive_sha3_sources), ("missive/sha3.marks", laid_missive_sha3_marks)], narrowed := true }
def Sha3SumsUptoSaid : Prop := sha3SumsUptoRow.holds Tryd.pinned (OpenSpec.upto sha3SumsSpec)

/-- 'missivelaw3.Sha3Permutes', WHERE WHAT IT READS IS OF BULK AT MOST 1048576: true; the input reads as it did. -/
def sha3PermutesUptoRow : OpenClaim := { program := "ytmfogngfdgpahaadoor", sum := "d4ebabeeb194dff9c951df161772a2ca22d937cd4739c814d55f9326d8c92964", func := "missive/missivelaw3.Sha3Permutes", spec := "sha3Permutes", unfollowed := true, recurses := true, named := ["missive/sha3.marks", "missive/sha3.turns", "missive/sha3.sources"], apart := false, laid := [("missive/sha3.turns", laid_missive_sha3_turns), ("missive/sha3.sources", laid_missive_sha3_sources), ("missive/sha3.marks", laid_missive_sha3_marks)], narrowed := true }
def Sha3PermutesUptoSaid : Prop := sha3PermutesUptoRow.holds Tryd.pinned (OpenSpec.upto sha3PermutesSpec)

/-- 'missivelaw3.Sha3Reads', WHERE WHAT IT READS IS OF BULK AT MOST 1048576: true; the input reads as it did. -/
def sha3ReadsUptoRow : OpenClaim := { program := "ytmfogngfdgpahaadoor", sum := "d4ebabeeb194dff9c951df161772a2ca22d937cd4739c814d55f9326d8c92964", func := "missive/missivelaw3.Sha3Reads", spec := "sha3Reads", unfollowed := true, recurses := true, named := ["missive/sha3.marks", "missive/sha3.turns", "missive/sha3.sources"], apart := false, laid := [("missive/sha3.turns", laid_missive_sha3_turns), ("missive/sha3.sources", laid_missive_sha3_sources), ("missive/sha3.marks", laid_missive_sha3_marks)], narrowed := true }
def Sha3ReadsUptoSaid : Prop := sha3ReadsUptoRow.holds Tryd.pinned (OpenSpec.upto sha3ReadsSpec)

/-- 'missivelaw3.Sha3Cuts', WHERE WHAT IT READS IS OF BULK AT MOST 1048576: true; the input reads as it did. -/
def sha3CutsUptoRow : OpenClaim := { program := "ytmfogngfdgpahaadoor", sum := "d4ebabeeb194dff9c951df161772a2ca22d937cd4739c814d55f9326d8c92964", func := "missive/missivelaw3.Sha3Cuts", spec := "sha3Cuts", unfollowed := true, recurses := true, named := ["missive/sha3.marks", "missive/sha3.turns", "missive/sha3.sources"], apart := false, laid := [("missive/sha3.turns", laid_missive_sha3_turns), ("missive/sha3.sources", laid_missive_sha3_sources), ("missive/sha3.marks", laid_missive_sha3_marks)], narrowed := true }
def Sha3CutsUptoSaid : Prop := sha3CutsUptoRow.holds Tryd.pinned (OpenSpec.upto sha3CutsSpec)

/-- 'missivelaw3.Sha3Limits', WHERE WHAT IT READS IS OF BULK AT MOST 1048576: true; the input reads as it did. -/
def sha3LimitsUptoRow : OpenClaim := { program := "ytmfogngfdgpahaadoor", sum := "d4ebabeeb194dff9c951df161772a2ca22d937cd4739c814d55f9326d8c92964", func := "missive/missivelaw3.Sha3Limits", spec := "sha3Limits", unfollowed := true, recurses := true, named := ["missive/sha3.marks", "missive/sha3.turns", "missive/sha3.sources"], apart := false, laid := [("missive/sha3.turns", laid_missive_sha3_turns), ("missive/sha3.sources", laid_missive_sha3_sources), ("missive/sha3.marks", laid_missive_sha3_marks)], narrowed := true }
def Sha3LimitsUptoSaid : Prop := sha3LimitsUptoRow.holds Tryd.pinned (OpenSpec.upto sha3LimitsSpec)

end Rows
end Go.Proofs.YtmfogngfdgpahaaDoor
