/-
  DERIVED. GIVEN WITH THE SEED: THE PROGRAM's TIES (one call each: nine closed facts by the kernel) AND EACH ROW's TIE, after the 31st guide's Derived/Test/Toyas{Tie, Card}.lean. No idea stands in it: it is a product of the set-up. Laid BY PROGRAM, IN A SANDBOX (cutbox-door.mjs). By AI agents, Wed Nov 11 2026. No macro, syntax, notation, axiom, sorry.
-/
import Derived.Test.YtflblaccfiigfabDoorRows
import Derived.LaidByTextLater
import Derived.SevenTiedAt
import Derived.LaidSub
import Derived.LaidOnce
namespace Go.Proofs.YtflblaccfiigfabDoor
open Go
set_option maxRecDepth 100000
theorem seatTie1 : Tryd.prog.laidByTextLater [("missive/sha3.turns", Rows.laid_missive_sha3_turns), ("missive/sha3.sources", Rows.laid_missive_sha3_sources), ("missive/sha3.marks", Rows.laid_missive_sha3_marks)] [.data, .data, .data] true :=
  Program.laidByTextLater_by_one 24 8 26 (by kernel_rfl) (by kernel_rfl) (by kernel_rfl) (by kernel_rfl) (by kernel_rfl) (by kernel_rfl) (fun _ _ => by kernel_rfl)
theorem noOwnUnsafe : Tryd.pinned.checked.prog.headLifts.contains "ownunsafe" = false := by kernel_rfl
theorem tie : Tryd.prog.laidByTextLater [("missive/sha3.turns", Rows.laid_missive_sha3_turns), ("missive/sha3.sources", Rows.laid_missive_sha3_sources), ("missive/sha3.marks", Rows.laid_missive_sha3_marks)] [.data, .data, .data] true :=
  Program.laidByTextLater.sub seatTie1 ["missive/sha3.turns", "missive/sha3.sources", "missive/sha3.marks"] (by kernel_rfl) (by kernel_rfl)
theorem kemDraws_row_tie : Rows.kemDrawsRow.laidByTextAt .later Tryd.pinned [.data, .data, .data] true :=
  OpenClaim.laidByTextAt_later rfl rfl tie noOwnUnsafe
theorem kemDrawsUpto_row_tie : Rows.kemDrawsUptoRow.laidByTextAt .later Tryd.pinned [.data, .data, .data] true :=
  OpenClaim.laidByTextAt_later rfl rfl tie noOwnUnsafe
end Go.Proofs.YtflblaccfiigfabDoor
