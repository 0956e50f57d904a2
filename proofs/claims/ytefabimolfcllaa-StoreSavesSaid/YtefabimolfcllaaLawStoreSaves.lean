/- StoreSaves. -/
import Derived.Test.YtefabimolfcllaaMM3
set_option linter.unusedSimpArgs false
namespace Go.Proofs.Ytefabimolfcllaa
open Go.RowKit Go.Deep
set_option linter.unusedVariables false
theorem law_storeSaves (w : World) (vl : Value) (L : List Int) (hL : NumsK .i64 w vl L) (vp : Value) (P : List Int) (hP : NumsK .i64 w vp P) : Calls Try.prog 3 #[vl, vp] w fun e w' => e = .returned (.bool true) ∧ Below w.heap.size w w' :=
  storeSaves_api stoApi w vl L hL vp P hP
end Go.Proofs.Ytefabimolfcllaa
