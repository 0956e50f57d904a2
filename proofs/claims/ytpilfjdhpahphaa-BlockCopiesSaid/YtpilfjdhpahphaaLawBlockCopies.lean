/- BlockCopies. -/
import Derived.Test.YtpilfjdhpahphaaMM3
set_option linter.unusedSimpArgs false
set_option linter.unusedVariables false
namespace Go.Proofs.Ytpilfjdhpahphaa
open Go.RowKit Go.Deep
theorem law_blockCopies (w : World) (vl : Value) (L : List Sp) (hL : Sps w vl L) (vp : Value) (P : List Sp) (hP : Sps w vp P) (k0 : Int) (h0 : (Lit.int .i64 k0).wf = true) : Calls Try.prog 6 #[vl, vp, .int .i64 k0] w fun e w' => e = .returned (.bool true) ∧ Below w.heap.size w w' :=
  blockCopies_api blkApi w vl L hL vp P hP k0 h0
end Go.Proofs.Ytpilfjdhpahphaa
