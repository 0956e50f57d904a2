/-
  No cell of these rows narrows 'for every input' (looked for: loops, veiled, ifaces, maps, wideKeys, modest, calm, conditions, laid).
  DERIVED. THE GIVEN ROWS OF THIS SEAT. 6 by the template 'for every input the law returns true; each argument reads behind the call as it read before'; 0 by the template 'total and deterministic' (their statements: YtefabimolfcllaaTotals.lean).
  GIVEN WITH THE SEED: the statements are not yours to turn. If you find one false, say at which input.
  Laid BY PROGRAM, IN A SANDBOX (cutbox-rows.mjs): the forced cells as the released guide's own fill.sh prints them over the translation 3c5aebe0482a5546… (all of the seat's roots in one cut). By AI agents, Wed Nov 11 2026. No macro, syntax, notation, axiom, sorry.
-/
import Derived.Test.YtefabimolfcllaaChecked
import GoSem.Claim
import GoSem.ClaimJoined
import GoSem.ClaimMapViews
import Derived.JoinedTies
import Derived.KernelRfl
namespace Go.Proofs.Ytefabimolfcllaa
/- THE CELL 'sum', in the pinned program and in every row, IS THE sha256 OF THE DUMP (.gsa) THAT YtefabimolfcllaaProg.lean LOADS. Nothing in Lean hashes anything: it is a label: what it is worth is what the hold of that sum in a sandbox is worth. -/
noncomputable def Try.pinned : Pinned := { name := "ytefabimolfcllaa", sum := "3c5aebe0482a554606d96655604ebcfb1550b0d36e1308a16196e944ef473f84", checked := Try.checked }
namespace Rows
def none {H : Type} : Left H := { results := [], args := [] }

/-- 'missivelaw16.StoreSaves': WHATEVER THE INPUT: true; the input reads as it did. -/
def storeSavesSpec : ChangeSpec := { name := "storeSaves", fn := fun _ => fun
  | [d1, d2] => { results := [.lit (.bool true)], args := [d1, d2] }
  | _ => none }
def storeSavesRow : OpenClaim := { program := "ytefabimolfcllaa", sum := "3c5aebe0482a554606d96655604ebcfb1550b0d36e1308a16196e944ef473f84", func := "missive/missivelaw16.StoreSaves", spec := "storeSaves", unfollowed := true, recurses := true, apart := false }
def StoreSavesSaid : Prop := storeSavesRow.holds Try.pinned (OpenSpec.ofChange storeSavesSpec)

/-- ITS FALSE NEIGHBOUR: 'it returns false'. Refute it at one input. -/
def storeSavesWrong : ChangeSpec := { name := "storeSaves", fn := fun _ => fun
  | [d1, d2] => { results := [.lit (.bool false)], args := [d1, d2] }
  | _ => none }
def StoreSavesWrongFalsely : Prop := storeSavesRow.holds Try.pinned (OpenSpec.ofChange storeSavesWrong)

/-- 'missivelaw16.StoreCrash': WHATEVER THE INPUT: true; the input reads as it did. -/
def storeCrashSpec : ChangeSpec := { name := "storeCrash", fn := fun _ => fun
  | [d1, d2, d3, d4] => { results := [.lit (.bool true)], args := [d1, d2, d3, d4] }
  | _ => none }
def storeCrashRow : OpenClaim := { program := "ytefabimolfcllaa", sum := "3c5aebe0482a554606d96655604ebcfb1550b0d36e1308a16196e944ef473f84", func := "missive/missivelaw16.StoreCrash", spec := "storeCrash", unfollowed := true, recurses := true, apart := false }
def StoreCrashSaid : Prop := storeCrashRow.holds Try.pinned (OpenSpec.ofChange storeCrashSpec)

/-- ITS FALSE NEIGHBOUR: 'it returns false'. Refute it at one input. -/
def storeCrashWrong : ChangeSpec := { name := "storeCrash", fn := fun _ => fun
  | [d1, d2, d3, d4] => { results := [.lit (.bool false)], args := [d1, d2, d3, d4] }
  | _ => none }
def StoreCrashWrongFalsely : Prop := storeCrashRow.holds Try.pinned (OpenSpec.ofChange storeCrashWrong)

/-- 'missivelaw16.StoreReopens': WHATEVER THE INPUT: true; the input reads as it did. -/
def storeReopensSpec : ChangeSpec := { name := "storeReopens", fn := fun _ => fun
  | [d] => { results := [.lit (.bool true)], args := [d] }
  | _ => none }
def storeReopensRow : OpenClaim := { program := "ytefabimolfcllaa", sum := "3c5aebe0482a554606d96655604ebcfb1550b0d36e1308a16196e944ef473f84", func := "missive/missivelaw16.StoreReopens", spec := "storeReopens", unfollowed := true, recurses := true, apart := false }
def StoreReopensSaid : Prop := storeReopensRow.holds Try.pinned (OpenSpec.ofChange storeReopensSpec)

/-- ITS FALSE NEIGHBOUR: 'it returns false'. Refute it at one input. -/
def storeReopensWrong : ChangeSpec := { name := "storeReopens", fn := fun _ => fun
  | [d] => { results := [.lit (.bool false)], args := [d] }
  | _ => none }
def StoreReopensWrongFalsely : Prop := storeReopensRow.holds Try.pinned (OpenSpec.ofChange storeReopensWrong)

/-- 'missivelaw16.StoreNothing': WHATEVER THE INPUT: true; the input reads as it did. -/
def storeNothingSpec : ChangeSpec := { name := "storeNothing", fn := fun _ => fun
  | [d1, d2] => { results := [.lit (.bool true)], args := [d1, d2] }
  | _ => none }
def storeNothingRow : OpenClaim := { program := "ytefabimolfcllaa", sum := "3c5aebe0482a554606d96655604ebcfb1550b0d36e1308a16196e944ef473f84", func := "missive/missivelaw16.StoreNothing", spec := "storeNothing", unfollowed := true, recurses := true, apart := false }
def StoreNothingSaid : Prop := storeNothingRow.holds Try.pinned (OpenSpec.ofChange storeNothingSpec)

/-- ITS FALSE NEIGHBOUR: 'it returns false'. Refute it at one input. -/
def storeNothingWrong : ChangeSpec := { name := "storeNothing", fn := fun _ => fun
  | [d1, d2] => { results := [.lit (.bool false)], args := [d1, d2] }
  | _ => none }
def StoreNothingWrongFalsely : Prop := storeNothingRow.holds Try.pinned (OpenSpec.ofChange storeNothingWrong)

/-- 'missivelaw16.StoreDead': WHATEVER THE INPUT: true; the input reads as it did. -/
def storeDeadSpec : ChangeSpec := { name := "storeDead", fn := fun _ => fun
  | [d1, d2] => { results := [.lit (.bool true)], args := [d1, d2] }
  | _ => none }
def storeDeadRow : OpenClaim := { program := "ytefabimolfcllaa", sum := "3c5aebe0482a554606d96655604ebcfb1550b0d36e1308a16196e944ef473f84", func := "missive/missivelaw16.StoreDead", spec := "storeDead", unfollowed := true, recurses := true, apart := false }
def StoreDeadSaid : Prop := storeDeadRow.holds Try.pinned (OpenSpec.ofChange storeDeadSpec)

/-- ITS FALSE NEIGHBOUR: 'it returns false'. Refute it at one input. -/
def storeDeadWrong : ChangeSpec := { name := "storeDead", fn := fun _ => fun
  | [d1, d2] => { results := [.lit (.bool false)], args := [d1, d2] }
  | _ => none }
def StoreDeadWrongFalsely : Prop := storeDeadRow.holds Try.pinned (OpenSpec.ofChange storeDeadWrong)

/-- 'missivelaw16.StoreKeeps': WHATEVER THE INPUT: true; the input reads as it did. -/
def storeKeepsSpec : ChangeSpec := { name := "storeKeeps", fn := fun _ => fun
  | [d1, d2] => { results := [.lit (.bool true)], args := [d1, d2] }
  | _ => none }
def storeKeepsRow : OpenClaim := { program := "ytefabimolfcllaa", sum := "3c5aebe0482a554606d96655604ebcfb1550b0d36e1308a16196e944ef473f84", func := "missive/missivelaw16.StoreKeeps", spec := "storeKeeps", unfollowed := true, recurses := true, apart := false }
def StoreKeepsSaid : Prop := storeKeepsRow.holds Try.pinned (OpenSpec.ofChange storeKeepsSpec)

/-- ITS FALSE NEIGHBOUR: 'it returns false'. Refute it at one input. -/
def storeKeepsWrong : ChangeSpec := { name := "storeKeeps", fn := fun _ => fun
  | [d1, d2] => { results := [.lit (.bool false)], args := [d1, d2] }
  | _ => none }
def StoreKeepsWrongFalsely : Prop := storeKeepsRow.holds Try.pinned (OpenSpec.ofChange storeKeepsWrong)

/- THE SECOND FORM. 'bulk': how many values and letters a reading holds, each counted each time it is reached (what is shared counts as often as it is met; a slice's spare places count too). A statement '..UptoSaid' is the law's where the arguments, and the package variables that the reading takes, are together of bulk at most 1048576: NARROWER than '..Said'. Prove '..Said' where nothing that the law and all that it calls make is longer than what came in: it says more and counts as full. Else prove '..UptoSaid'. A law counts once. -/
mutual
def uptoBulk {H : Type} : DataW H → Nat
  | .lit (.string bytes) => bytes.length + 1
  | .lit _ => 1
  | .nil => 1
  | .ptr d => uptoBulk d + 1
  | .slice elems spare => uptoBulkAll elems + uptoBulkAll spare + 1
  | .agg parts => uptoBulkAll parts + 1
  | .iface _ d => uptoBulk d + 1
  | .map entries => uptoBulkEntries entries + 1
  | .held _ => 1
def uptoBulkAll {H : Type} : List (DataW H) → Nat
  | [] => 0
  | d :: r => uptoBulk d + uptoBulkAll r
def uptoBulkEntries {H : Type} : List (Lit × DataW H) → Nat
  | [] => 0
  | x :: r => uptoBulkEntry x + uptoBulkEntries r
def uptoBulkEntry {H : Type} : Lit × DataW H → Nat
  | (.string bytes, d) => bytes.length + uptoBulk d + 1
  | (_, d) => uptoBulk d + 1
 end
def uptoSmall : (H : Type) → List (DataW H) → Bool := fun _ ds => decide (uptoBulkAll ds ≤ 1048576)
def OpenSpec.upto (s : _root_.Go.ChangeSpec) : _root_.Go.OpenSpec := { _root_.Go.OpenSpec.ofChange s with cond := some uptoSmall }

/-- 'missivelaw16.StoreSaves', WHERE WHAT IT READS IS OF BULK AT MOST 1048576: true; the input reads as it did. -/
def storeSavesUptoRow : OpenClaim := { program := "ytefabimolfcllaa", sum := "3c5aebe0482a554606d96655604ebcfb1550b0d36e1308a16196e944ef473f84", func := "missive/missivelaw16.StoreSaves", spec := "storeSaves", unfollowed := true, recurses := true, apart := false, narrowed := true }
def StoreSavesUptoSaid : Prop := storeSavesUptoRow.holds Try.pinned (OpenSpec.upto storeSavesSpec)

/-- 'missivelaw16.StoreCrash', WHERE WHAT IT READS IS OF BULK AT MOST 1048576: true; the input reads as it did. -/
def storeCrashUptoRow : OpenClaim := { program := "ytefabimolfcllaa", sum := "3c5aebe0482a554606d96655604ebcfb1550b0d36e1308a16196e944ef473f84", func := "missive/missivelaw16.StoreCrash", spec := "storeCrash", unfollowed := true, recurses := true, apart := false, narrowed := true }
def StoreCrashUptoSaid : Prop := storeCrashUptoRow.holds Try.pinned (OpenSpec.upto storeCrashSpec)

/-- 'missivelaw16.StoreReopens', WHERE WHAT IT READS IS OF BULK AT MOST 1048576: true; the input reads as it did. -/
def storeReopensUptoRow : OpenClaim := { program := "ytefabimolfcllaa", sum := "3c5aebe0482a554606d96655604ebcfb1550b0d36e1308a16196e944ef473f84", func := "missive/missivelaw16.StoreReopens", spec := "storeReopens", unfollowed := true, recurses := true, apart := false, narrowed := true }
def StoreReopensUptoSaid : Prop := storeReopensUptoRow.holds Try.pinned (OpenSpec.upto storeReopensSpec)

/-- 'missivelaw16.StoreNothing', WHERE WHAT IT READS IS OF BULK AT MOST 1048576: true; the input reads as it did. -/
def storeNothingUptoRow : OpenClaim := { program := "ytefabimolfcllaa", sum := "3c5aebe0482a554606d96655604ebcfb1550b0d36e1308a16196e944ef473f84", func := "missive/missivelaw16.StoreNothing", spec := "storeNothing", unfollowed := true, recurses := true, apart := false, narrowed := true }
def StoreNothingUptoSaid : Prop := storeNothingUptoRow.holds Try.pinned (OpenSpec.upto storeNothingSpec)

/-- 'missivelaw16.StoreDead', WHERE WHAT IT READS IS OF BULK AT MOST 1048576: true; the input reads as it did. -/
def storeDeadUptoRow : OpenClaim := { program := "ytefabimolfcllaa", sum := "3c5aebe0482a554606d96655604ebcfb1550b0d36e1308a16196e944ef473f84", func := "missive/missivelaw16.StoreDead", spec := "storeDead", unfollowed := true, recurses := true, apart := false, narrowed := true }
def StoreDeadUptoSaid : Prop := storeDeadUptoRow.holds Try.pinned (OpenSpec.upto storeDeadSpec)

/-- 'missivelaw16.StoreKeeps', WHERE WHAT IT READS IS OF BULK AT MOST 1048576: true; the input reads as it did. -/
def storeKeepsUptoRow : OpenClaim := { program := "ytefabimolfcllaa", sum := "3c5aebe0482a554606d96655604ebcfb1550b0d36e1308a16196e944ef473f84", func := "missive/missivelaw16.StoreKeeps", spec := "storeKeeps", unfollowed := true, recurses := true, apart := false, narrowed := true }
def StoreKeepsUptoSaid : Prop := storeKeepsUptoRow.holds Try.pinned (OpenSpec.upto storeKeepsSpec)

end Rows
end Go.Proofs.Ytefabimolfcllaa
