/- What the laws of chapter 5 ask: few, is, awake. -/
import Derived.Test.YtncdlaidmiokiaaEwK
import Derived.Test.YtncdlaidmiokiaaMM1
import Derived.Test.YtncdlaidmiokiaaFlip
set_option linter.unusedSimpArgs false
set_option linter.unusedVariables false
namespace Go.Proofs.Ytncdlaidmiokiaa
open Go.RowKit Go.Deep

section
variable {P : Program} {ops : Array Oper} {Q : Exit → Act → World → Prop}
theorem stp_val {i : Nat} {r : Stp} {a : Act} {w : World} {o : Oper} {fn : Func} (d : Nat) (x : Operand) (f : Nat) (xs : Array Operand) (ts : Array TypeId) (args : Array Value) {R : Ending → World → Prop} (hc : Calls P f args w R)
    (ho : ops[i]? = some o) (hd : o.dst = some d) (hop : o.op = .call { callee := .value x, args := xs, argTypes := ts }) (hx : a.eval x = .func (.func f) #[] #[])
    (hw : Region.wanted o (yielded ops a.tmps) = true) (hf : P.funcs[f]? = some fn) (hn : (fn.name == "runtime.NumGoroutine") = false) (hb : fn.body.isNone = false) (hargs : xs.map a.eval = args)
    (h : ∀ e w', R e w' → ∃ v, e = .returned v ∧ Below w.heap.size w w' ∧ LinT P ops Q r (a.put (some d) v) w') : wpOp P ops Q i (fun a' w' => Below w.heap.size w w' ∧ LinT P ops Q r a' w') a w := by
  refine wpOp_step ho fun K' hK => ?_
  rw [if_pos hw]
  unfold Oper.wp
  have hx : (execOp a.eval o).run P w = .ok (.enter f args) w := by simp [execOp, hop, resolve, hx, Deferred.ofValue, invoke, hargs, run_enter hf hn hb]
  rw [hx]
  refine hc.mono fun e w' hT => ?_
  obtain ⟨v, rfl, h1, h2⟩ := h e w' hT
  exact hK _ _ ⟨h1, by rw [hd]; exact h2⟩
end
theorem exec_str_yes {w : World} (ρ : Operand → Value) (x y : Operand) (t : TypeId) {l m : List UInt8} (h : l = m) (hx : ρ x = .string ⟨l.toArray⟩) (hy : ρ y = .string ⟨m.toArray⟩) :
    (execOp ρ (mkOp (.binOp .eql 9 x y 9) t)).run Try.prog w = .ok (.value (.bool true)) w := by
  subst h
  simp only [execOp, mkOp, hx, hy]
  all_goals go_simp
theorem exec_str_no {w : World} (ρ : Operand → Value) (x y : Operand) (t : TypeId) {l m : List UInt8} (h : l ≠ m) (hx : ρ x = .string ⟨l.toArray⟩) (hy : ρ y = .string ⟨m.toArray⟩) :
    (execOp ρ (mkOp (.binOp .eql 9 x y 9) t)).run Try.prog w = .ok (.value (.bool false)) w := by
  simp only [execOp, mkOp, hx, hy]
  go_simp
  all_goals simp [h]
section
variable {P : Program} {ops : Array Oper} {Q : Exit → Act → World → Prop} {a : Act} {w : World} {rest : List Oper} {o : Oper}
theorem wpList_given (hw : Region.wanted o (yielded ops a.tmps) = true) (h : ∀ K : Act → World → Prop, (∀ a w, wpList P ops Q rest a w → K a w) → o.wp P a w K Q) : wpList P ops Q (o :: rest) a w :=
  wpList_step fun K hK => by rw [if_pos hw]; exact h K hK
theorem wpList_load_given (hw : Region.wanted o (yielded ops a.tmps) = true) (ty : TypeId) (x : Operand) (ho : o.op = .load ty x) (k : Nat) (ht : IsArr P ty k) {b m off : Nat} {t : TypeId} {f : Nat → Value}
    (hr : w.rowIs b t m f) (hx : a.eval x = .pointer (some ⟨b, off, none⟩)) (hk : off + k ≤ m) (h : wpList P ops Q rest (a.put o.dst (.agg (arrOf k fun i => f (off + i)))) w) : wpList P ops Q (o :: rest) a w :=
  wpList_given hw fun _ hK => by
    unfold Oper.wp execOp
    simp only [ho, hx, Instr.loadAt, Instr.sureAddr, Sem.run_bind, Sem.run_pure, Result.andThen_ok, run_load_arr hr hk ht]
    exact hK _ _ h
theorem wpList_value_given (hw : Region.wanted o (yielded ops a.tmps) = true) {w' : World} (v : Value) (hx : (execOp a.eval o).run P w = .ok (.value v) w') (h : wpList P ops Q rest (a.put o.dst v) w') : wpList P ops Q (o :: rest) a w :=
  wpList_given hw fun _ hK => by
    unfold Oper.wp
    rw [hx]
    exact hK _ _ h
end
theorem strict_one : strictL [1] = none := by
  unfold strictL
  rw [if_neg (by simp)]
theorem two_inv : mulP (invP 2) 2 = 1 := by
  rw [mulP_comm]
  exact mul_invP 2 p25_two (by decide)
theorem invP_lt' (a : Nat) : invP a < p25 := mod_p_lt _
theorem one_lt : 1 < p25 := by decide +kernel
end Go.Proofs.Ytncdlaidmiokiaa
