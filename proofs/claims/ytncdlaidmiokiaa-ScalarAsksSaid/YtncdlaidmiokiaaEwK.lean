/- The program's numbers below p: Strict. -/
import Derived.Test.YtncdlaidmiokiaaEwJ
import Derived.Test.YtncdlaidmiokiaaMM1
set_option linter.unusedSimpArgs false
set_option linter.unusedVariables false
namespace Go.Proofs.Ytncdlaidmiokiaa
open Go.RowKit Go.Deep

theorem bytesSame_any (v1 v2 : Value) (l1 l2 : List UInt8) (w : World) (h1 : Bs w v1 l1) (h2 : Bs w v2 l2) :
    Calls Try.prog 41 #[v1, v2] w fun e w' => e = .returned (.bool (l1 == l2)) ∧ w' = w := by
  have c1 := h1.conv
  have c2 := h2.conv
  clear h1 h2
  go_enter Try.func41, Try.ntmps41
  go_wp2
  go_ret
  exact ⟨rfl, rfl⟩
theorem flatSame_any (v1 v2 : Value) (l1 l2 : List UInt8) (w : World) (h1 : Bs w v1 l1) (h2 : Bs w v2 l2) :
    Calls Try.prog 31 #[v1, v2] w fun e w' => e = .returned (.bool (decide (l1 = l2))) ∧ w' = w := by
  have hd : decide (l1 = l2) = (l1 == l2) := by
    by_cases h : l1 = l2
    · rw [decide_eq_true h, h]; simp
    · rw [decide_eq_false h, beq_eq_false_iff_ne.2 h]
  rw [hd]
  go_enter Try.func31, Try.ntmps31
  go_wp2_with fail
  refine (bytesSame_any v1 v2 l1 l2 _ h1 h2).mono ?_
  rintro e w' ⟨rfl, rfl⟩
  go_wp2
  go_ret
  exact ⟨rfl, rfl⟩
theorem strict_same (l : List UInt8) : strictL l = if litB (ofL l) 32 = l then some (ofL l) else none := by
  rw [strictL_eq]
  by_cases h : litB (ofL l) 32 = l
  · have hp : ofL l < p25 := mod_p_lt _
    have h1 : l.length = 32 := by rw [← h, litB_length]
    have h2 : numL l 32 = ofL l := by
      have h3 := numL_own (ofL l) hp
      rw [h] at h3
      exact h3
    rw [if_pos h, if_pos ⟨h1, by rw [h2]; exact hp⟩, h2]
  · rw [if_neg h, if_neg]
    rintro ⟨h1, h2⟩
    apply h
    rw [ofL_low l h2]
    exact litB_numL l 32 h1

end Go.Proofs.Ytncdlaidmiokiaa
