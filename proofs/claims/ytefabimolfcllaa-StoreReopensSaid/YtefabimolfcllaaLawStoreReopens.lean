/- StoreReopens. -/
import Derived.Test.YtefabimolfcllaaMM3
set_option linter.unusedSimpArgs false
namespace Go.Proofs.Ytefabimolfcllaa
open Go.RowKit Go.Deep
set_option linter.unusedVariables false
theorem law_storeReopens (w : World) (vl : Value) (L : List Int) (hL : NumsK .i64 w vl L) : Calls Try.prog 5 #[vl] w fun e w' => e = .returned (.bool true) ∧ Below w.heap.size w w' :=
  storeReopens_api stoApi w vl L hL
end Go.Proofs.Ytefabimolfcllaa
