/- The document's numbers below p: StrictFe. -/
import Derived.Test.YtnoppemclfnlcaaMM1
set_option linter.unusedSimpArgs false
set_option linter.unusedVariables false
namespace Go.Proofs.Ytnoppemclfnlcaa
open Go.RowKit Go.Deep

section
variable {P : Program} {ops : Array Oper} {Q : Exit → Act → World → Prop}
theorem stp_none {i : Nat} {r : Stp} {a : Act} {w : World} {o : Oper} (d : Nat) (ho : ops[i]? = some o) (hd : o.dst = some d)
    (hw : Region.wanted o (yielded ops a.tmps) = false) (h : LinT P ops Q r (a.put (some d) undef) w) : wpOp P ops Q i (fun a' w' => Below w.heap.size w w' ∧ LinT P ops Q r a' w') a w := by
  refine wpOp_step ho fun K' hK => ?_
  rw [if_neg (by rw [hw]; simp)]
  exact hK _ _ ⟨Below.refl _ _, by rw [hd]; exact h⟩
end
theorem exec_str_neq {w : World} (ρ : Operand → Value) (x y : Operand) (t : TypeId) {l m : List UInt8} (hx : ρ x = .string ⟨l.toArray⟩) (hy : ρ y = .string ⟨m.toArray⟩) :
    (execOp ρ (mkOp (.binOp .neq 9 x y 9) t)).run Try.prog w = .ok (.value (.bool (!decide (l = m)))) w := by
  simp only [execOp, mkOp, hx, hy]
  go_simp
  by_cases h : l = m
  · subst h; simp
  · simp [h]
/-- What StrictFe reads. -/
def strictL (l : List UInt8) : Option Nat := if l.length = 32 ∧ (l.getD 31 0).toNat ≤ 127 ∧ litB (ofL l) 32 = l then some (ofL l) else none
def strictE (o : Option Nat) : Int := if o.isSome then 0 else 2

end Go.Proofs.Ytnoppemclfnlcaa
