/- BlockCuts. -/
import Derived.Test.YtpilfjdhpahphaaMM3
set_option linter.unusedSimpArgs false
set_option linter.unusedVariables false
namespace Go.Proofs.Ytpilfjdhpahphaa
open Go.RowKit Go.Deep
theorem law_blockCuts (w : World) (n0 : Int) (h0 : (Lit.int .i64 n0).wf = true) (vl : Value) (L : List Sp) (hL : Sps w vl L) : Calls Try.prog 7 #[.int .i64 n0, vl] w fun e w' => e = .returned (.bool true) ∧ Below w.heap.size w w' :=
  blockCuts_api blkApi w n0 h0 vl L hL
end Go.Proofs.Ytpilfjdhpahphaa
