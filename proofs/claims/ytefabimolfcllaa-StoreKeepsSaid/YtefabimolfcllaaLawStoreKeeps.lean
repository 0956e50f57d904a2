/- StoreKeeps. -/
import Derived.Test.YtefabimolfcllaaMM3
set_option linter.unusedSimpArgs false
namespace Go.Proofs.Ytefabimolfcllaa
open Go.RowKit Go.Deep
set_option linter.unusedVariables false
theorem law_storeKeeps (w : World) (vb : Value) (l : List UInt8) (hb : Bs w vb l) (vp : Value) (P : List Int) (hP : NumsK .i64 w vp P) : Calls Try.prog 8 #[vb, vp] w fun e w' => e = .returned (.bool true) ∧ Below w.heap.size w w' :=
  storeKeeps_api stoApi w vb l hb vp P hP
end Go.Proofs.Ytefabimolfcllaa
