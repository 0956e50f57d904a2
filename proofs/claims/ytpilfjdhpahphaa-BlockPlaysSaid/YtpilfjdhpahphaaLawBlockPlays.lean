/- BlockPlays. -/
import Derived.Test.YtpilfjdhpahphaaMM3
set_option linter.unusedSimpArgs false
set_option linter.unusedVariables false
namespace Go.Proofs.Ytpilfjdhpahphaa
open Go.RowKit Go.Deep
theorem law_blockPlays (w : World) (b0 : Int) (hb0 : (Lit.int .i64 b0).wf = true) (vl : Value) (L : List Sp) (hL : Sps w vl L) (vp : Value) (P : List Int) (hP : NumsK .i64 w vp P) : Calls Try.prog 3 #[.int .i64 b0, vl, vp] w fun e w' => e = .returned (.bool true) ∧ Below w.heap.size w w' :=
  blockPlays_api blkApi w b0 hb0 vl L hL vp P hP
end Go.Proofs.Ytpilfjdhpahphaa
