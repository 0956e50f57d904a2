/- StoreCrash. -/
import Derived.Test.YtefabimolfcllaaMM3
set_option linter.unusedSimpArgs false
namespace Go.Proofs.Ytefabimolfcllaa
open Go.RowKit Go.Deep
set_option linter.unusedVariables false
theorem law_storeCrash (w : World) (vl : Value) (L : List Int) (hL : NumsK .i64 w vl L) (c : Int) (hc : (Lit.int .i64 c).wf = true) (vp : Value) (P : List Int) (hP : NumsK .i64 w vp P) (vc : Value) (C : List Int) (hC : NumsK .i64 w vc C) : Calls Try.prog 4 #[vl, .int .i64 c, vp, vc] w fun e w' => e = .returned (.bool true) ∧ Below w.heap.size w w' :=
  storeCrash_api stoApi w vl L hL c vp P hP vc C hC
end Go.Proofs.Ytefabimolfcllaa
