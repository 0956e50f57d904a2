/- WireWrites. -/
import Derived.Test.YtllppgfajbbbaaaMM2
set_option linter.unusedSimpArgs false
set_option linter.unusedVariables false
namespace Go.Proofs.Ytllppgfajbbbaaa
open Go.RowKit Go.Deep
theorem law_wireWrites (w : World) (v : Value) (L : List It) (hL : Its w v L) : Calls Try.prog 3 #[v] w fun e w' => e = .returned (.bool true) ∧ Below w.heap.size w w' :=
  wireWrites_api wrApi 2 _ zeroW zeroW_at (fun w => awake14_any w) w v L hL
end Go.Proofs.Ytllppgfajbbbaaa
