/- As Lin, the order a tree: where two writers are ready, either may come first, and each goes on in its own way. -/
import Derived.Test.YthapdohblphlgaaLin
namespace Go.Proofs.Ythapdohblphlgaa
open Go.RowKit Go.Deep

inductive Stp where
  | done
  | rd (i : Nat) (r : Stp)
  | wr (i : Nat) (r : Stp)
  | br (i : Nat) (r1 : Stp) (j : Nat) (r2 : Stp)
def Stp.depth : Stp → Nat
  | .done => 0
  | .rd _ r => r.depth + 1
  | .wr _ r => r.depth + 1
  | .br _ r1 _ r2 => max r1.depth r2.depth + 1
section
variable {P : Program} {ops : Array Oper} {Q : Exit → Act → World → Prop}

def LinT (P : Program) (ops : Array Oper) (Q : Exit → Act → World → Prop) : Stp → Act → World → Prop
  | .done, a, w => Q .normal a w
  | .rd i r, a, w => ∃ o v, ops[i]? = some o ∧ YieldsIf P ops (Below w.heap.size w) o v a ∧ LinT P ops Q r (a.put o.dst v) w
  | .wr i r, a, w => wpOp P ops Q i (fun a' w' => Below w.heap.size w w' ∧ LinT P ops Q r a' w') a w
  | .br i r1 j r2, a, w => wpOp P ops Q i (fun a' w' => Below w.heap.size w w' ∧ LinT P ops Q r1 a' w') a w ∧ wpOp P ops Q j (fun a' w' => Below w.heap.size w w' ∧ LinT P ops Q r2 a' w') a w

def lintOk (ops : Array Oper) : Stp → Array Bool → Bool
  | .done, l => (Region.ready .any ops l).isEmpty
  | .rd i r, l => (Region.ready .any ops l).contains i && Region.free .any ops l i && lintOk ops r (l.setIfInBounds i true)
  | .wr i r, l => (Region.ready .any ops l == [i]) && lintOk ops r (l.setIfInBounds i true)
  | .br i r1 j r2, l => (Region.ready .any ops l == [i, j]) && lintOk ops r1 (l.setIfInBounds i true) && lintOk ops r2 (l.setIfInBounds j true)

theorem wpAnyH_lint (hs : Region.noSelect ops = true) (hQ : ∀ d v c a w, Q (.panic c) (Act.put a d v) w → Q (.panic c) a w) :
    ∀ (r : Stp) (fuel : Nat) (l : Array Bool) (a : Act) (w : World), r.depth ≤ fuel → lintOk ops r l = true → LinT P ops Q r a w → wpAnyH P .any ops Q (Below w.heap.size w) fuel l a w
  | .done, fuel, l, a, w, _, hk, h => wpAnyH_done (by simpa [lintOk] using hk) h fuel
  | .rd i r, fuel, l, a, w, hf, hk, h => by
    obtain ⟨o, v, ho, hy, hr⟩ := h
    simp only [lintOk, Bool.and_eq_true] at hk
    cases fuel with
    | zero => simp [Stp.depth] at hf
    | succ fuel =>
      exact wpAnyH_take ho hs hk.1.2 hk.1.1 (fun c a w => hQ _ _ c a w) hy (Below.refl _ _) (wpAnyH_lint hs hQ r fuel _ _ _ (by simpa [Stp.depth] using hf) hk.2 hr)
  | .wr i r, fuel, l, a, w, hf, hk, h => by
    simp only [lintOk, Bool.and_eq_true, beq_iff_eq] at hk
    cases fuel with
    | zero => simp [Stp.depth] at hf
    | succ fuel =>
      refine wpAnyH_all hk.1 (by simp) fun j hj => ?_
      obtain rfl : j = i := by simpa using hj
      refine wpOp_mono (fun a' w' h' => ⟨h'.1, ?_⟩) h
      exact wpAnyH_weaken (fun w2 h2 => h'.1.trans (h2.mono h'.1.size)) _ _ _ _ (wpAnyH_lint hs hQ r fuel _ _ _ (by simpa [Stp.depth] using hf) hk.2 h'.2)
  | .br i r1 j r2, fuel, l, a, w, hf, hk, h => by
    simp only [lintOk, Bool.and_eq_true, beq_iff_eq] at hk
    cases fuel with
    | zero => simp [Stp.depth] at hf
    | succ fuel =>
      have hf' : max r1.depth r2.depth ≤ fuel := by simpa [Stp.depth] using hf
      have hf1 : r1.depth ≤ fuel := Nat.le_trans (Nat.le_max_left _ _) hf'
      have hf2 : r2.depth ≤ fuel := Nat.le_trans (Nat.le_max_right _ _) hf'
      refine wpAnyH_all hk.1.1 (by simp) fun x hx => ?_
      have hx' : x = i ∨ x = j := by simpa using hx
      rcases hx' with rfl | rfl
      · refine wpOp_mono (fun a' w' h' => ⟨h'.1, ?_⟩) h.1
        exact wpAnyH_weaken (fun w2 h2 => h'.1.trans (h2.mono h'.1.size)) _ _ _ _ (wpAnyH_lint hs hQ r1 fuel _ _ _ hf1 hk.1.2 h'.2)
      · refine wpOp_mono (fun a' w' h' => ⟨h'.1, ?_⟩) h.2
        exact wpAnyH_weaken (fun w2 h2 => h'.1.trans (h2.mono h'.1.size)) _ _ _ _ (wpAnyH_lint hs hQ r2 fuel _ _ _ hf2 hk.2 h'.2)

theorem wp_region_lint {id : Nat} {a : Act} {w : World} (r : Stp) (hm : P.follows .mixedOrders = true) (hs : Region.noSelect ops = true) (hl : r.depth ≤ ops.size)
    (hk : lintOk ops r (Array.replicate ops.size false) = true) (hQ : ∀ d v c a w, Q (.panic c) (Act.put a d v) w → Q (.panic c) a w)
    (h : LinT P ops Q r a w.drew) : (Code.region id ops true).wp P Q a w :=
  wp_region_held hm (wpAnyH_lint hs hQ r _ _ _ _ hl hk h)

theorem lint_pure {i : Nat} {r : Stp} {a : Act} {w : World} {o : Oper} (d : Nat) (op : Op) (t : TypeId) (v : Value) (ho : ops[i]? = some o) (hd : o.dst = some d) (hop : o.op = op) (ht : o.type = t)
    (hw : Region.wanted o (yielded ops a.tmps) = true) (hy : ∀ w', Below w.heap.size w w' → (execOp a.eval (mkOp op t)).run P w' = .ok (.value v) w') (h : LinT P ops Q r (a.put (some d) v) w) : LinT P ops Q (.rd i r) a w := by
  refine ⟨o, v, ho, .inl ⟨hw, fun w' hb => ?_⟩, by rw [hd]; exact h⟩
  rw [exec_mkOp, hop, ht]
  exact hy w' hb
theorem lint_none {i : Nat} {r : Stp} {a : Act} {w : World} {o : Oper} (d : Nat) (ho : ops[i]? = some o) (hd : o.dst = some d)
    (hw : Region.wanted o (yielded ops a.tmps) = false) (h : LinT P ops Q r (a.put (some d) undef) w) : LinT P ops Q (.rd i r) a w :=
  ⟨o, undef, ho, .inr ⟨hw, rfl⟩, by rw [hd]; exact h⟩
/-- A writer's step: what 'wr' asks, and each arm of 'br'. -/
theorem stp_fn {i : Nat} {r : Stp} {a : Act} {w : World} {o : Oper} {fn : Func} (d f : Nat) (xs : Array Operand) (ts : Array TypeId) (args : Array Value) {R : Ending → World → Prop} (hc : Calls P f args w R)
    (ho : ops[i]? = some o) (hd : o.dst = some d) (hop : o.op = .call { callee := .value (.func f), args := xs, argTypes := ts })
    (hw : Region.wanted o (yielded ops a.tmps) = true) (hf : P.funcs[f]? = some fn) (hn : (fn.name == "runtime.NumGoroutine") = false) (hb : fn.body.isNone = false) (hargs : xs.map a.eval = args)
    (h : ∀ e w', R e w' → ∃ v, e = .returned v ∧ Below w.heap.size w w' ∧ LinT P ops Q r (a.put (some d) v) w') : wpOp P ops Q i (fun a' w' => Below w.heap.size w w' ∧ LinT P ops Q r a' w') a w := by
  refine wpOp_step ho fun K' hK => ?_
  rw [if_pos hw]
  unfold Oper.wp
  have he : a.eval (.func f) = .func (.func f) #[] #[] := rfl
  have hx : (execOp a.eval o).run P w = .ok (.enter f args) w := by simp [execOp, hop, resolve, he, Deferred.ofValue, invoke, hargs, run_enter hf hn hb]
  rw [hx]
  refine hc.mono fun e w' hT => ?_
  obtain ⟨v, rfl, h1, h2⟩ := h e w' hT
  exact hK _ _ ⟨h1, by rw [hd]; exact h2⟩
theorem stp_made {i : Nat} {r : Stp} {a : Act} {w : World} {o : Oper} (d : Nat) (op : Op) (t : TypeId) (v : Value) (w1 : World) (ho : ops[i]? = some o) (hd : o.dst = some d) (hop : o.op = op) (ht : o.type = t)
    (hw : Region.wanted o (yielded ops a.tmps) = true) (hx : (execOp a.eval (mkOp op t)).run P w = .ok (.value v) w1) (hb : Below w.heap.size w w1) (h : LinT P ops Q r (a.put (some d) v) w1) :
    wpOp P ops Q i (fun a' w' => Below w.heap.size w w' ∧ LinT P ops Q r a' w') a w := by
  refine wpOp_step ho fun K' hK => ?_
  rw [if_pos hw]
  unfold Oper.wp
  rw [exec_mkOp, hop, ht, hx]
  exact hK _ _ ⟨hb, by rw [hd]; exact h⟩
theorem lint_end {a : Act} {w : World} (h : Q .normal a w) : LinT P ops Q .done a w := h
end
theorem lint_conv {ops : Array Oper} {Q : Exit → Act → World → Prop} {i : Nat} {r : Stp} {a : Act} {w : World} {o : Oper} (d : Nat) (x : Operand) (v : Value) (l : List UInt8) (ho : ops[i]? = some o) (hd : o.dst = some d)
    (hop : o.op = .convert 22 9 x) (hw : Region.wanted o (yielded ops a.tmps) = true) (hx : a.eval x = v) (hB : Bs w v l) (h : LinT Try.prog ops Q r (a.put (some d) (.string ⟨l.toArray⟩)) w) : LinT Try.prog ops Q (.rd i r) a w := by
  refine ⟨o, _, ho, .inl ⟨hw, fun w' hw' => ?_⟩, by rw [hd]; exact h⟩
  have hc := (hB.below hw' (Nat.le_refl _)).conv
  simp [execOp, hop, hx, hc, Result.andThen]

end Go.Proofs.Ythapdohblphlgaa
