/- BlockGood. -/
import Derived.Test.YtpilfjdhpahphaaMM3
set_option linter.unusedSimpArgs false
set_option linter.unusedVariables false
namespace Go.Proofs.Ytpilfjdhpahphaa
open Go.RowKit Go.Deep
theorem law_blockGood (w : World) (vl : Value) (L : List Sp) (hL : Sps w vl L) (vp : Value) (P : List Int) (hP : NumsK .i64 w vp P) : Calls Try.prog 4 #[vl, vp] w fun e w' => e = .returned (.bool true) ∧ Below w.heap.size w w' :=
  blockGood_api blkApi w vl L hL vp P hP
end Go.Proofs.Ytpilfjdhpahphaa
