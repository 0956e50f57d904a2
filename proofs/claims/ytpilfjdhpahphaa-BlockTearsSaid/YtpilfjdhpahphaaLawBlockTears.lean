/- BlockTears. -/
import Derived.Test.YtpilfjdhpahphaaMM3
set_option linter.unusedSimpArgs false
set_option linter.unusedVariables false
namespace Go.Proofs.Ytpilfjdhpahphaa
open Go.RowKit Go.Deep
theorem law_blockTears (w : World) (a0 : Int) (ha : (Lit.int .i64 a0).wf = true) (b0 : Int) (hb : (Lit.int .i64 b0).wf = true) (p0 : Int) (hp : (Lit.int .i64 p0).wf = true) : Calls Try.prog 8 #[.int .i64 a0, .int .i64 b0, .int .i64 p0] w fun e w' => e = .returned (.bool true) ∧ Below w.heap.size w w' :=
  blockTears_api blkApi w a0 ha b0 hb p0 hp
end Go.Proofs.Ytpilfjdhpahphaa
