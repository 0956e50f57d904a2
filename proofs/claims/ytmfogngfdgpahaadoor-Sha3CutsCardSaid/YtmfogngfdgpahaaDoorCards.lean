/-
  DERIVED. GIVEN WITH THE SEED: THE CARDS: each row of YtmfogngfdgpahaaDoorRows.lean that lists a variable, with what it lists TIED to the program's text (the seventh form; the later family's looks); each row that meets fmt, with fmt's text TOLD by the authors' own Lean function (tested against real Go, not proved from fmt's source: count such statements apart). THE CARD IS WHAT COUNTS. Prove the row's statement (the work); the ties are given (YtmfogngfdgpahaaDoorTie.lean); close each card by the builder's one call (the guide's Derived/Test/ToyasCard.lean, 'card_holds'). Laid BY PROGRAM, IN A SANDBOX (cutbox-door.mjs). By AI agents, Wed Nov 11 2026. No macro, syntax, notation, axiom, sorry.
-/
import Derived.Test.YtmfogngfdgpahaaDoorRows
import GoSem.ClaimSeven
namespace Go.Proofs.YtmfogngfdgpahaaDoor
namespace Rows

/-- THE TIED CARD OF 'missivelaw3.Sha3Sums'. -/
def sha3SumsCard : Claim7 := { stood := { row := sha3SumsRow, standIns := [], harness := (true, "8d42d2b9cf5f3bdab9679e0cf84de43cd64bddeda1f5f853c23f120a679cd4e1"), looks := false }, kinds := [], alts := [], laidByText := true, laidKinds := [.data, .data, .data], laidTests := true, laidLooks := .later }
def Sha3SumsCardSaid : Prop := Claim7.holds Tryd.pinned (.plain (OpenSpec.ofChange sha3SumsSpec)) sha3SumsCard

/-- THE TIED CARD OF 'missivelaw3.Sha3Permutes'. -/
def sha3PermutesCard : Claim7 := { stood := { row := sha3PermutesRow, standIns := [], harness := (true, "8d42d2b9cf5f3bdab9679e0cf84de43cd64bddeda1f5f853c23f120a679cd4e1"), looks := false }, kinds := [], alts := [], laidByText := true, laidKinds := [.data, .data, .data], laidTests := true, laidLooks := .later }
def Sha3PermutesCardSaid : Prop := Claim7.holds Tryd.pinned (.plain (OpenSpec.ofChange sha3PermutesSpec)) sha3PermutesCard

/-- THE TIED CARD OF 'missivelaw3.Sha3Reads'. -/
def sha3ReadsCard : Claim7 := { stood := { row := sha3ReadsRow, standIns := [], harness := (true, "8d42d2b9cf5f3bdab9679e0cf84de43cd64bddeda1f5f853c23f120a679cd4e1"), looks := false }, kinds := [], alts := [], laidByText := true, laidKinds := [.data, .data, .data], laidTests := true, laidLooks := .later }
def Sha3ReadsCardSaid : Prop := Claim7.holds Tryd.pinned (.plain (OpenSpec.ofChange sha3ReadsSpec)) sha3ReadsCard

/-- THE TIED CARD OF 'missivelaw3.Sha3Cuts'. -/
def sha3CutsCard : Claim7 := { stood := { row := sha3CutsRow, standIns := [], harness := (true, "8d42d2b9cf5f3bdab9679e0cf84de43cd64bddeda1f5f853c23f120a679cd4e1"), looks := false }, kinds := [], alts := [], laidByText := true, laidKinds := [.data, .data, .data], laidTests := true, laidLooks := .later }
def Sha3CutsCardSaid : Prop := Claim7.holds Tryd.pinned (.plain (OpenSpec.ofChange sha3CutsSpec)) sha3CutsCard

/-- THE TIED CARD OF 'missivelaw3.Sha3Limits'. -/
def sha3LimitsCard : Claim7 := { stood := { row := sha3LimitsRow, standIns := [], harness := (true, "8d42d2b9cf5f3bdab9679e0cf84de43cd64bddeda1f5f853c23f120a679cd4e1"), looks := false }, kinds := [], alts := [], laidByText := true, laidKinds := [.data, .data, .data], laidTests := true, laidLooks := .later }
def Sha3LimitsCardSaid : Prop := Claim7.holds Tryd.pinned (.plain (OpenSpec.ofChange sha3LimitsSpec)) sha3LimitsCard

/-- THE SECOND FORM's CARD OF 'missivelaw3.Sha3Sums'. -/
def sha3SumsUptoCard : Claim7 := { stood := { row := sha3SumsUptoRow, standIns := [], harness := (true, "8d42d2b9cf5f3bdab9679e0cf84de43cd64bddeda1f5f853c23f120a679cd4e1"), looks := false }, kinds := [], alts := [], laidByText := true, laidKinds := [.data, .data, .data], laidTests := true, laidLooks := .later }
def Sha3SumsUptoCardSaid : Prop := Claim7.holds Tryd.pinned (.plain (OpenSpec.upto sha3SumsSpec)) sha3SumsUptoCard

/-- THE SECOND FORM's CARD OF 'missivelaw3.Sha3Permutes'. -/
def sha3PermutesUptoCard : Claim7 := { stood := { row := sha3PermutesUptoRow, standIns := [], harness := (true, "8d42d2b9cf5f3bdab9679e0cf84de43cd64bddeda1f5f853c23f120a679cd4e1"), looks := false }, kinds := [], alts := [], laidByText := true, laidKinds := [.data, .data, .data], laidTests := true, laidLooks := .later }
def Sha3PermutesUptoCardSaid : Prop := Claim7.holds Tryd.pinned (.plain (OpenSpec.upto sha3PermutesSpec)) sha3PermutesUptoCard

/-- THE SECOND FORM's CARD OF 'missivelaw3.Sha3Reads'. -/
def sha3ReadsUptoCard : Claim7 := { stood := { row := sha3ReadsUptoRow, standIns := [], harness := (true, "8d42d2b9cf5f3bdab9679e0cf84de43cd64bddeda1f5f853c23f120a679cd4e1"), looks := false }, kinds := [], alts := [], laidByText := true, laidKinds := [.data, .data, .data], laidTests := true, laidLooks := .later }
def Sha3ReadsUptoCardSaid : Prop := Claim7.holds Tryd.pinned (.plain (OpenSpec.upto sha3ReadsSpec)) sha3ReadsUptoCard

/-- THE SECOND FORM's CARD OF 'missivelaw3.Sha3Cuts'. -/
def sha3CutsUptoCard : Claim7 := { stood := { row := sha3CutsUptoRow, standIns := [], harness := (true, "8d42d2b9cf5f3bdab9679e0cf84de43cd64bddeda1f5f853c23f120a679cd4e1"), looks := false }, kinds := [], alts := [], laidByText := true, laidKinds := [.data, .data, .data], laidTests := true, laidLooks := .later }
def Sha3CutsUptoCardSaid : Prop := Claim7.holds Tryd.pinned (.plain (OpenSpec.upto sha3CutsSpec)) sha3CutsUptoCard

/-- THE SECOND FORM's CARD OF 'missivelaw3.Sha3Limits'. -/
def sha3LimitsUptoCard : Claim7 := { stood := { row := sha3LimitsUptoRow, standIns := [], harness := (true, "8d42d2b9cf5f3bdab9679e0cf84de43cd64bddeda1f5f853c23f120a679cd4e1"), looks := false }, kinds := [], alts := [], laidByText := true, laidKinds := [.data, .data, .data], laidTests := true, laidLooks := .later }
def Sha3LimitsUptoCardSaid : Prop := Claim7.holds Tryd.pinned (.plain (OpenSpec.upto sha3LimitsSpec)) sha3LimitsUptoCard
end Rows
end Go.Proofs.YtmfogngfdgpahaaDoor
