/- The program's numbers below p: Small, Add, Neg. -/
import Derived.Test.YtncdlaidmiokiaaEwD
set_option linter.unusedSimpArgs false
set_option linter.unusedVariables false
namespace Go.Proofs.Ytncdlaidmiokiaa
open Go.RowKit Go.Deep

end Go.Proofs.Ytncdlaidmiokiaa
