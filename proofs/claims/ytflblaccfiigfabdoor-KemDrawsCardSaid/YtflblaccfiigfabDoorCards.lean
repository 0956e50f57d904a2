/-
  DERIVED. GIVEN WITH THE SEED: THE CARDS: each row of YtflblaccfiigfabDoorRows.lean that lists a variable, with what it lists TIED to the program's text (the seventh form; the later family's looks); each row that meets fmt, with fmt's text TOLD by the authors' own Lean function (tested against real Go, not proved from fmt's source: count such statements apart). THE CARD IS WHAT COUNTS. Prove the row's statement (the work); the ties are given (YtflblaccfiigfabDoorTie.lean); close each card by the builder's one call (the guide's Derived/Test/ToyasCard.lean, 'card_holds'). Laid BY PROGRAM, IN A SANDBOX (cutbox-door.mjs). By AI agents, Wed Nov 11 2026. No macro, syntax, notation, axiom, sorry.
-/
import Derived.Test.YtflblaccfiigfabDoorRows
import GoSem.ClaimSeven
namespace Go.Proofs.YtflblaccfiigfabDoor
namespace Rows

/-- THE TIED CARD OF 'missivelaw11.KemDraws'. -/
def kemDrawsCard : Claim7 := { stood := { row := kemDrawsRow, standIns := [], harness := (true, "3f73c613435506e76d735f5a97c49c5a5238bbfd9964f419bf16671e0504dcef"), looks := false }, kinds := [], alts := [], laidByText := true, laidKinds := [.data, .data, .data], laidTests := true, laidLooks := .later }
def KemDrawsCardSaid : Prop := Claim7.holds Tryd.pinned (.plain (OpenSpec.ofChange kemDrawsSpec)) kemDrawsCard

/-- THE SECOND FORM's CARD OF 'missivelaw11.KemDraws'. -/
def kemDrawsUptoCard : Claim7 := { stood := { row := kemDrawsUptoRow, standIns := [], harness := (true, "3f73c613435506e76d735f5a97c49c5a5238bbfd9964f419bf16671e0504dcef"), looks := false }, kinds := [], alts := [], laidByText := true, laidKinds := [.data, .data, .data], laidTests := true, laidLooks := .later }
def KemDrawsUptoCardSaid : Prop := Claim7.holds Tryd.pinned (.plain (OpenSpec.upto kemDrawsSpec)) kemDrawsUptoCard
end Rows
end Go.Proofs.YtflblaccfiigfabDoor
