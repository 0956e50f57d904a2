/- BlockAgain. -/
import Derived.Test.YtpilfjdhpahphaaMM3
set_option linter.unusedSimpArgs false
set_option linter.unusedVariables false
namespace Go.Proofs.Ytpilfjdhpahphaa
open Go.RowKit Go.Deep
theorem law_blockAgain (w : World) (vl : Value) (L : List Sp) (hL : Sps w vl L) (vp : Value) (P : List Int) (hP : NumsK .i64 w vp P) (vq : Value) (Q : List Int) (hQ : NumsK .i64 w vq Q) : Calls Try.prog 5 #[vl, vp, vq] w fun e w' => e = .returned (.bool true) ∧ Below w.heap.size w w' :=
  blockAgain_api blkApi w vl L hL vp P hP vq Q hQ
end Go.Proofs.Ytpilfjdhpahphaa
