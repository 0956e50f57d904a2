/- The program's numbers below p: Inv, Root. -/
import Derived.Test.YtncdlaidmiokiaaEwG
import Derived.Test.YtncdlaidmiokiaaMM1
set_option linter.unusedSimpArgs false
set_option linter.unusedVariables false
namespace Go.Proofs.Ytncdlaidmiokiaa
open Go.RowKit Go.Deep

theorem pick_even (σ : Nat) : (if decide (σ % 2 = 1) = true then oppP σ else σ) = evenOf p25 σ := by
  unfold evenOf
  by_cases h : σ % 2 = 1
  · rw [if_pos h, if_pos (decide_eq_true h), oppP_eq]
  · rw [if_neg h, if_neg (by rw [decide_eq_true_eq]; exact h)]

end Go.Proofs.Ytncdlaidmiokiaa
