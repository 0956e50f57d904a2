/- Rows one behind the other: flat.Cat, missivealike.Cat. -/
import Derived.Test.YtnoppemclfnlcaaMM1
set_option linter.unusedSimpArgs false
set_option linter.unusedVariables false
namespace Go.Proofs.Ytnoppemclfnlcaa
open Go.RowKit Go.Deep

/-- The first j rows, one behind the other. -/
def catTo (L : List (List UInt8)) (j : Nat) : List UInt8 := (L.take j).flatten
theorem catTo_succ (L : List (List UInt8)) (j : Nat) (h : j < L.length) : catTo L (j + 1) = catTo L j ++ L[j] := by
  unfold catTo
  rw [List.take_succ_eq_append_getElem h, List.flatten_append]
  simp
theorem catTo_all (L : List (List UInt8)) (j : Nat) (h : L.length ≤ j) : catTo L j = L.flatten := by
  unfold catTo; rw [List.take_of_length_le h]
theorem catTo_le (L : List (List UInt8)) (j : Nat) : (catTo L j).length ≤ L.flatten.length := by
  have : L.flatten = catTo L j ++ (L.drop j).flatten := by unfold catTo; rw [← List.flatten_append, List.take_append_drop]
  rw [this, List.length_append]; omega

end Go.Proofs.Ytnoppemclfnlcaa
