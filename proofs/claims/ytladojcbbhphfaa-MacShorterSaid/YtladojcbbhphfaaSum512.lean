/- Sum512 of rows. -/
import Derived.Test.YtladojcbbhphfaaSumAll
namespace Go.Proofs.Ytladojcbbhphfaa
open Go.RowKit Go.Deep

theorem Away.of_slice {x : Addr} {n c b : Nat} (h : x.block ≠ b) : Away (.slice (some x) n c) b := fun x' n' c' he _ => by cases he; exact h

end Go.Proofs.Ytladojcbbhphfaa
