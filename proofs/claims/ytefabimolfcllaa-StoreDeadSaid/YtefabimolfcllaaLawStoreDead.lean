/- StoreDead. -/
import Derived.Test.YtefabimolfcllaaMM3
set_option linter.unusedSimpArgs false
namespace Go.Proofs.Ytefabimolfcllaa
open Go.RowKit Go.Deep
set_option linter.unusedVariables false
theorem law_storeDead (w : World) (n : Int) (hn : (Lit.int .i64 n).wf = true) (c : Int) (hc : (Lit.int .i64 c).wf = true) : Calls Try.prog 7 #[.int .i64 n, .int .i64 c] w fun e w' => e = .returned (.bool true) ∧ Below w.heap.size w w' :=
  storeDead_api stoApi w n c
end Go.Proofs.Ytefabimolfcllaa
