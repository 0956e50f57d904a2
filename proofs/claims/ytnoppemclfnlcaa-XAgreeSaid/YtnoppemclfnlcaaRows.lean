/-
  No cell of these rows narrows 'for every input' (looked for: loops, veiled, ifaces, maps, wideKeys, modest, calm, conditions, laid).
  DERIVED. THE GIVEN ROWS OF THIS SEAT. 6 by the template 'for every input the law returns true; each argument reads behind the call as it read before'; 0 by the template 'total and deterministic' (their statements: YtnoppemclfnlcaaTotals.lean).
  GIVEN WITH THE SEED: the statements are not yours to turn. If you find one false, say at which input.
  Laid BY PROGRAM, IN A SANDBOX (cutbox-rows.mjs): the forced cells as the released guide's own fill.sh prints them over the translation 0ba1f41ecaae27b1… (all of the seat's roots in one cut). By AI agents, Wed Nov 11 2026. No macro, syntax, notation, axiom, sorry.
-/
import Derived.Test.YtnoppemclfnlcaaChecked
import GoSem.Claim
import GoSem.ClaimJoined
import GoSem.ClaimMapViews
import Derived.JoinedTies
import Derived.KernelRfl
namespace Go.Proofs.Ytnoppemclfnlcaa
/- THE CELL 'sum', in the pinned program and in every row, IS THE sha256 OF THE DUMP (.gsa) THAT YtnoppemclfnlcaaProg.lean LOADS. Nothing in Lean hashes anything: it is a label: what it is worth is what the hold of that sum in a sandbox is worth. -/
noncomputable def Try.pinned : Pinned := { name := "ytnoppemclfnlcaa", sum := "0ba1f41ecaae27b13cc999de8d91ab279e60b0a252eb8420bfa64caa56c9636c", checked := Try.checked }
namespace Rows
def none {H : Type} : Left H := { results := [], args := [] }

/-- 'missivelaw6.XMults': WHATEVER THE INPUT: true; the input reads as it did. -/
def xMultsSpec : ChangeSpec := { name := "xMults", fn := fun _ => fun
  | [d1, d2] => { results := [.lit (.bool true)], args := [d1, d2] }
  | _ => none }
def xMultsRow : OpenClaim := { program := "ytnoppemclfnlcaa", sum := "0ba1f41ecaae27b13cc999de8d91ab279e60b0a252eb8420bfa64caa56c9636c", func := "missive/missivelaw6.XMults", spec := "xMults", inPlace := ["math/bits.Add64", "math/bits.Sub64"], unfollowed := true, recurses := true, apart := false }
def XMultsSaid : Prop := xMultsRow.holds Try.pinned (OpenSpec.ofChange xMultsSpec)

/-- ITS FALSE NEIGHBOUR: 'it returns false'. Refute it at one input. -/
def xMultsWrong : ChangeSpec := { name := "xMults", fn := fun _ => fun
  | [d1, d2] => { results := [.lit (.bool false)], args := [d1, d2] }
  | _ => none }
def XMultsWrongFalsely : Prop := xMultsRow.holds Try.pinned (OpenSpec.ofChange xMultsWrong)

/-- 'missivelaw6.XShares': WHATEVER THE INPUT: true; the input reads as it did. -/
def xSharesSpec : ChangeSpec := { name := "xShares", fn := fun _ => fun
  | [d1, d2] => { results := [.lit (.bool true)], args := [d1, d2] }
  | _ => none }
def xSharesRow : OpenClaim := { program := "ytnoppemclfnlcaa", sum := "0ba1f41ecaae27b13cc999de8d91ab279e60b0a252eb8420bfa64caa56c9636c", func := "missive/missivelaw6.XShares", spec := "xShares", inPlace := ["math/bits.Add64", "math/bits.Sub64"], unfollowed := true, recurses := true, apart := false }
def XSharesSaid : Prop := xSharesRow.holds Try.pinned (OpenSpec.ofChange xSharesSpec)

/-- ITS FALSE NEIGHBOUR: 'it returns false'. Refute it at one input. -/
def xSharesWrong : ChangeSpec := { name := "xShares", fn := fun _ => fun
  | [d1, d2] => { results := [.lit (.bool false)], args := [d1, d2] }
  | _ => none }
def XSharesWrongFalsely : Prop := xSharesRow.holds Try.pinned (OpenSpec.ofChange xSharesWrong)

/-- 'missivelaw6.XAgree': WHATEVER THE INPUT: true; the input reads as it did. -/
def xAgreeSpec : ChangeSpec := { name := "xAgree", fn := fun _ => fun
  | [d1, d2] => { results := [.lit (.bool true)], args := [d1, d2] }
  | _ => none }
def xAgreeRow : OpenClaim := { program := "ytnoppemclfnlcaa", sum := "0ba1f41ecaae27b13cc999de8d91ab279e60b0a252eb8420bfa64caa56c9636c", func := "missive/missivelaw6.XAgree", spec := "xAgree", inPlace := ["math/bits.Add64", "math/bits.Sub64"], unfollowed := true, recurses := true, apart := false }
def XAgreeSaid : Prop := xAgreeRow.holds Try.pinned (OpenSpec.ofChange xAgreeSpec)

/-- ITS FALSE NEIGHBOUR: 'it returns false'. Refute it at one input. -/
def xAgreeWrong : ChangeSpec := { name := "xAgree", fn := fun _ => fun
  | [d1, d2] => { results := [.lit (.bool false)], args := [d1, d2] }
  | _ => none }
def XAgreeWrongFalsely : Prop := xAgreeRow.holds Try.pinned (OpenSpec.ofChange xAgreeWrong)

/-- 'missivelaw6.XClamps': WHATEVER THE INPUT: true; the input reads as it did. -/
def xClampsSpec : ChangeSpec := { name := "xClamps", fn := fun _ => fun
  | [d1, d2, d3] => { results := [.lit (.bool true)], args := [d1, d2, d3] }
  | _ => none }
def xClampsRow : OpenClaim := { program := "ytnoppemclfnlcaa", sum := "0ba1f41ecaae27b13cc999de8d91ab279e60b0a252eb8420bfa64caa56c9636c", func := "missive/missivelaw6.XClamps", spec := "xClamps", inPlace := ["math/bits.Add64", "math/bits.Sub64"], unfollowed := true, recurses := true, apart := false }
def XClampsSaid : Prop := xClampsRow.holds Try.pinned (OpenSpec.ofChange xClampsSpec)

/-- ITS FALSE NEIGHBOUR: 'it returns false'. Refute it at one input. -/
def xClampsWrong : ChangeSpec := { name := "xClamps", fn := fun _ => fun
  | [d1, d2, d3] => { results := [.lit (.bool false)], args := [d1, d2, d3] }
  | _ => none }
def XClampsWrongFalsely : Prop := xClampsRow.holds Try.pinned (OpenSpec.ofChange xClampsWrong)

/-- 'missivelaw6.XSmall': WHATEVER THE INPUT: true; the input reads as it did. -/
def xSmallSpec : ChangeSpec := { name := "xSmall", fn := fun _ => fun
  | [d1, d2] => { results := [.lit (.bool true)], args := [d1, d2] }
  | _ => none }
def xSmallRow : OpenClaim := { program := "ytnoppemclfnlcaa", sum := "0ba1f41ecaae27b13cc999de8d91ab279e60b0a252eb8420bfa64caa56c9636c", func := "missive/missivelaw6.XSmall", spec := "xSmall", inPlace := ["math/bits.Add64", "math/bits.Sub64"], unfollowed := true, recurses := true, apart := false }
def XSmallSaid : Prop := xSmallRow.holds Try.pinned (OpenSpec.ofChange xSmallSpec)

/-- ITS FALSE NEIGHBOUR: 'it returns false'. Refute it at one input. -/
def xSmallWrong : ChangeSpec := { name := "xSmall", fn := fun _ => fun
  | [d1, d2] => { results := [.lit (.bool false)], args := [d1, d2] }
  | _ => none }
def XSmallWrongFalsely : Prop := xSmallRow.holds Try.pinned (OpenSpec.ofChange xSmallWrong)

/-- 'missivelaw6.XBases': WHATEVER THE INPUT: true; the input reads as it did. -/
def xBasesSpec : ChangeSpec := { name := "xBases", fn := fun _ => fun
  | [d1, d2, d3] => { results := [.lit (.bool true)], args := [d1, d2, d3] }
  | _ => none }
def xBasesRow : OpenClaim := { program := "ytnoppemclfnlcaa", sum := "0ba1f41ecaae27b13cc999de8d91ab279e60b0a252eb8420bfa64caa56c9636c", func := "missive/missivelaw6.XBases", spec := "xBases", inPlace := ["math/bits.Add64", "math/bits.Sub64"], unfollowed := true, recurses := true, apart := false }
def XBasesSaid : Prop := xBasesRow.holds Try.pinned (OpenSpec.ofChange xBasesSpec)

/-- ITS FALSE NEIGHBOUR: 'it returns false'. Refute it at one input. -/
def xBasesWrong : ChangeSpec := { name := "xBases", fn := fun _ => fun
  | [d1, d2, d3] => { results := [.lit (.bool false)], args := [d1, d2, d3] }
  | _ => none }
def XBasesWrongFalsely : Prop := xBasesRow.holds Try.pinned (OpenSpec.ofChange xBasesWrong)

/- THE SECOND FORM. 'bulk': how many values and letters a reading holds, each counted each time it is reached (what is shared counts as often as it is met; a slice's spare places count too). A statement '..UptoSaid' is the law's where the arguments, and the package variables that the reading takes, are together of bulk at most 1048576: NARROWER than '..Said'. Prove '..Said' where nothing that the law and all that it calls make is longer than what came in: it says more and counts as full. Else prove '..UptoSaid'. A law counts once. -/
mutual
def uptoBulk {H : Type} : DataW H → Nat
  | .lit (.string bytes) => bytes.length + 1
  | .lit _ => 1
  | .nil => 1
  | .ptr d => uptoBulk d + 1
  | .slice elems spare => uptoBulkAll elems + uptoBulkAll spare + 1
  | .agg parts => uptoBulkAll parts + 1
  | .iface _ d => uptoBulk d + 1
  | .map entries => uptoBulkEntries entries + 1
  | .held _ => 1
def uptoBulkAll {H : Type} : List (DataW H) → Nat
  | [] => 0
  | d :: r => uptoBulk d + uptoBulkAll r
def uptoBulkEntries {H : Type} : List (Lit × DataW H) → Nat
  | [] => 0
  | x :: r => uptoBulkEntry x + uptoBulkEntries r
def uptoBulkEntry {H : Type} : Lit × DataW H → Nat
  | (.string bytes, d) => bytes.length + uptoBulk d + 1
  | (_, d) => uptoBulk d + 1
 end
def uptoSmall : (H : Type) → List (DataW H) → Bool := fun _ ds => decide (uptoBulkAll ds ≤ 1048576)
def OpenSpec.upto (s : _root_.Go.ChangeSpec) : _root_.Go.OpenSpec := { _root_.Go.OpenSpec.ofChange s with cond := some uptoSmall }

/-- 'missivelaw6.XMults', WHERE WHAT IT READS IS OF BULK AT MOST 1048576: true; the input reads as it did. -/
def xMultsUptoRow : OpenClaim := { program := "ytnoppemclfnlcaa", sum := "0ba1f41ecaae27b13cc999de8d91ab279e60b0a252eb8420bfa64caa56c9636c", func := "missive/missivelaw6.XMults", spec := "xMults", inPlace := ["math/bits.Add64", "math/bits.Sub64"], unfollowed := true, recurses := true, apart := false, narrowed := true }
def XMultsUptoSaid : Prop := xMultsUptoRow.holds Try.pinned (OpenSpec.upto xMultsSpec)

/-- 'missivelaw6.XShares', WHERE WHAT IT READS IS OF BULK AT MOST 1048576: true; the input reads as it did. -/
def xSharesUptoRow : OpenClaim := { program := "ytnoppemclfnlcaa", sum := "0ba1f41ecaae27b13cc999de8d91ab279e60b0a252eb8420bfa64caa56c9636c", func := "missive/missivelaw6.XShares", spec := "xShares", inPlace := ["math/bits.Add64", "math/bits.Sub64"], unfollowed := true, recurses := true, apart := false, narrowed := true }
def XSharesUptoSaid : Prop := xSharesUptoRow.holds Try.pinned (OpenSpec.upto xSharesSpec)

/-- 'missivelaw6.XAgree', WHERE WHAT IT READS IS OF BULK AT MOST 1048576: true; the input reads as it did. -/
def xAgreeUptoRow : OpenClaim := { program := "ytnoppemclfnlcaa", sum := "0ba1f41ecaae27b13cc999de8d91ab279e60b0a252eb8420bfa64caa56c9636c", func := "missive/missivelaw6.XAgree", spec := "xAgree", inPlace := ["math/bits.Add64", "math/bits.Sub64"], unfollowed := true, recurses := true, apart := false, narrowed := true }
def XAgreeUptoSaid : Prop := xAgreeUptoRow.holds Try.pinned (OpenSpec.upto xAgreeSpec)

/-- 'missivelaw6.XClamps', WHERE WHAT IT READS IS OF BULK AT MOST 1048576: true; the input reads as it did. -/
def xClampsUptoRow : OpenClaim := { program := "ytnoppemclfnlcaa", sum := "0ba1f41ecaae27b13cc999de8d91ab279e60b0a252eb8420bfa64caa56c9636c", func := "missive/missivelaw6.XClamps", spec := "xClamps", inPlace := ["math/bits.Add64", "math/bits.Sub64"], unfollowed := true, recurses := true, apart := false, narrowed := true }
def XClampsUptoSaid : Prop := xClampsUptoRow.holds Try.pinned (OpenSpec.upto xClampsSpec)

/-- 'missivelaw6.XSmall', WHERE WHAT IT READS IS OF BULK AT MOST 1048576: true; the input reads as it did. -/
def xSmallUptoRow : OpenClaim := { program := "ytnoppemclfnlcaa", sum := "0ba1f41ecaae27b13cc999de8d91ab279e60b0a252eb8420bfa64caa56c9636c", func := "missive/missivelaw6.XSmall", spec := "xSmall", inPlace := ["math/bits.Add64", "math/bits.Sub64"], unfollowed := true, recurses := true, apart := false, narrowed := true }
def XSmallUptoSaid : Prop := xSmallUptoRow.holds Try.pinned (OpenSpec.upto xSmallSpec)

/-- 'missivelaw6.XBases', WHERE WHAT IT READS IS OF BULK AT MOST 1048576: true; the input reads as it did. -/
def xBasesUptoRow : OpenClaim := { program := "ytnoppemclfnlcaa", sum := "0ba1f41ecaae27b13cc999de8d91ab279e60b0a252eb8420bfa64caa56c9636c", func := "missive/missivelaw6.XBases", spec := "xBases", inPlace := ["math/bits.Add64", "math/bits.Sub64"], unfollowed := true, recurses := true, apart := false, narrowed := true }
def XBasesUptoSaid : Prop := xBasesUptoRow.holds Try.pinned (OpenSpec.upto xBasesSpec)

end Rows
end Go.Proofs.Ytnoppemclfnlcaa
