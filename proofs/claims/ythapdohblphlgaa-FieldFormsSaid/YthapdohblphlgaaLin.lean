/- A region that draws its order, walked in one order: whatever only reads may come as early as it can; a call comes when nothing else may. What is read must read the same behind every later write: that is asked of each reader, in every world that holds what the world at hand holds. -/
import Derived.Test.YthapdohblphlgaaOwn
import Derived.OrdersHeld
namespace Go.Proofs.Ythapdohblphlgaa
open Go.RowKit Go.Deep
section
variable {P : Program} {ops : Array Oper} {Q : Exit → Act → World → Prop}

/-- The order's steps: (i, 0): a reader, it yields its value in every world that holds what this one holds; (i, 1): a writer, it shows that what was there is as it was; (i, j + 2): two writers, i and j, either of which may come first. -/
def Lin (P : Program) (ops : Array Oper) (Q : Exit → Act → World → Prop) : List (Nat × Nat) → Act → World → Prop
  | [], a, w => Q .normal a w
  | (i, 0) :: r, a, w => ∃ o v, ops[i]? = some o ∧ YieldsIf P ops (Below w.heap.size w) o v a ∧ Lin P ops Q r (a.put o.dst v) w
  | (i, 1) :: r, a, w => wpOp P ops Q i (fun a' w' => Below w.heap.size w w' ∧ Lin P ops Q r a' w') a w
  | (i, j + 2) :: r, a, w => wpOp P ops Q i (fun a1 w1 => Below w.heap.size w w1 ∧ wpOp P ops Q j (fun a' w' => Below w1.heap.size w1 w' ∧ Lin P ops Q r a' w') a1 w1) a w ∧
      wpOp P ops Q j (fun a1 w1 => Below w.heap.size w w1 ∧ wpOp P ops Q i (fun a' w' => Below w1.heap.size w1 w' ∧ Lin P ops Q r a' w') a1 w1) a w

/-- The order fits the region: by the kernel. -/
def linOk (ops : Array Oper) : List (Nat × Nat) → Array Bool → Bool
  | [], l => (Region.ready .any ops l).isEmpty
  | (i, 0) :: r, l => (Region.ready .any ops l).contains i && Region.free .any ops l i && linOk ops r (l.setIfInBounds i true)
  | (i, 1) :: r, l => (Region.ready .any ops l == [i]) && linOk ops r (l.setIfInBounds i true)
  | (i, j + 2) :: r, l => (Region.ready .any ops l == [i, j]) && (Region.ready .any ops (l.setIfInBounds i true) == [j]) && (Region.ready .any ops (l.setIfInBounds j true) == [i]) &&
      linOk ops r ((l.setIfInBounds i true).setIfInBounds j true) && linOk ops r ((l.setIfInBounds j true).setIfInBounds i true)

/-- How many operations an order names. -/
def linLen : List (Nat × Nat) → Nat
  | [] => 0
  | (_, 0) :: r => linLen r + 1
  | (_, 1) :: r => linLen r + 1
  | (_, _ + 2) :: r => linLen r + 2

theorem wpAnyH_weaken {S1 S2 : World → Prop} (h : ∀ w, S2 w → S1 w) : ∀ (fuel : Nat) (l : Array Bool) (a : Act) (w : World), wpAnyH P .any ops Q S2 fuel l a w → wpAnyH P .any ops Q S1 fuel l a w
  | 0, _, _, _, hh => hh
  | fuel + 1, _, _, _, hh => ⟨hh.1, fun i hi => wpOp_mono (fun a' w' h' => ⟨h w' h'.1, wpAnyH_weaken h fuel _ a' w' h'.2⟩) (hh.2 i hi)⟩

theorem wpAnyH_lin (hs : Region.noSelect ops = true) (hQ : ∀ d v c a w, Q (.panic c) (Act.put a d v) w → Q (.panic c) a w) :
    ∀ (r : List (Nat × Nat)) (fuel : Nat) (l : Array Bool) (a : Act) (w : World), linLen r ≤ fuel → linOk ops r l = true → Lin P ops Q r a w → wpAnyH P .any ops Q (Below w.heap.size w) fuel l a w
  | [], fuel, l, a, w, _, hk, h => wpAnyH_done (by simpa [linOk] using hk) h fuel
  | (i, 0) :: r, fuel, l, a, w, hf, hk, h => by
    obtain ⟨o, v, ho, hy, hr⟩ := h
    simp only [linOk, Bool.and_eq_true] at hk
    cases fuel with
    | zero => simp [linLen] at hf
    | succ fuel =>
      exact wpAnyH_take ho hs hk.1.2 hk.1.1 (fun c a w => hQ _ _ c a w) hy (Below.refl _ _) (wpAnyH_lin hs hQ r fuel _ _ _ (by simpa [linLen] using hf) hk.2 hr)
  | (i, 1) :: r, fuel, l, a, w, hf, hk, h => by
    simp only [linOk, Bool.and_eq_true, beq_iff_eq] at hk
    cases fuel with
    | zero => simp [linLen] at hf
    | succ fuel =>
      refine wpAnyH_all hk.1 (by simp) fun j hj => ?_
      obtain rfl : j = i := by simpa using hj
      refine wpOp_mono (fun a' w' h' => ⟨h'.1, ?_⟩) h
      exact wpAnyH_weaken (fun w2 h2 => h'.1.trans (h2.mono h'.1.size)) _ _ _ _ (wpAnyH_lin hs hQ r fuel _ _ _ (by simpa [linLen] using hf) hk.2 h'.2)
  | (i, j + 2) :: r, fuel, l, a, w, hf, hk, h => by
    simp only [linOk, Bool.and_eq_true, beq_iff_eq] at hk
    obtain ⟨⟨⟨⟨k1, k2⟩, k3⟩, k4⟩, k5⟩ := hk
    obtain ⟨h1, h2⟩ := h
    match fuel, hf with
    | 0, hf => simp [linLen] at hf
    | 1, hf => simp [linLen] at hf
    | fuel + 2, hf =>
      have hf' : linLen r ≤ fuel := by simpa [linLen] using hf
      refine wpAnyH_all k1 (by simp) fun x hx => ?_
      have hx' : x = i ∨ x = j := by simpa using hx
      rcases hx' with rfl | rfl
      · refine wpOp_mono (fun a1 w1 g1 => ⟨g1.1, ?_⟩) h1
        refine wpAnyH_weaken (S2 := Below w1.heap.size w1) (fun w2 h2 => g1.1.trans (h2.mono g1.1.size)) _ _ _ _ ?_
        refine wpAnyH_all k2 (by simp) fun y hy => ?_
        obtain rfl : y = j := by simpa using hy
        refine wpOp_mono (fun a' w' h' => ⟨h'.1, ?_⟩) g1.2
        exact wpAnyH_weaken (fun w2 h2 => h'.1.trans (h2.mono h'.1.size)) _ _ _ _ (wpAnyH_lin hs hQ r fuel _ _ _ hf' k4 h'.2)
      · refine wpOp_mono (fun a1 w1 g1 => ⟨g1.1, ?_⟩) h2
        refine wpAnyH_weaken (S2 := Below w1.heap.size w1) (fun w2 h2 => g1.1.trans (h2.mono g1.1.size)) _ _ _ _ ?_
        refine wpAnyH_all k3 (by simp) fun y hy => ?_
        obtain rfl : y = i := by simpa using hy
        refine wpOp_mono (fun a' w' h' => ⟨h'.1, ?_⟩) g1.2
        exact wpAnyH_weaken (fun w2 h2 => h'.1.trans (h2.mono h'.1.size)) _ _ _ _ (wpAnyH_lin hs hQ r fuel _ _ _ hf' k5 h'.2)

/-- THE REGION, by an order that fits it. -/
theorem wp_region_lin {id : Nat} {a : Act} {w : World} (r : List (Nat × Nat)) (hm : P.follows .mixedOrders = true) (hs : Region.noSelect ops = true) (hl : linLen r ≤ ops.size)
    (hk : linOk ops r (Array.replicate ops.size false) = true) (hQ : ∀ d v c a w, Q (.panic c) (Act.put a d v) w → Q (.panic c) a w)
    (h : Lin P ops Q r a w.drew) : (Code.region id ops true).wp P Q a w :=
  wp_region_held hm (wpAnyH_lin hs hQ r _ _ _ _ hl hk h)

/-- A reader that is wanted. -/
theorem lin_read {i : Nat} {r : List (Nat × Nat)} {a : Act} {w : World} (o : Oper) (v : Value) (ho : ops[i]? = some o) (hw : Region.wanted o (yielded ops a.tmps) = true)
    (hy : ∀ w', Below w.heap.size w w' → (execOp a.eval o).run P w' = .ok (.value v) w') (h : Lin P ops Q r (a.put o.dst v) w) : Lin P ops Q ((i, 0) :: r) a w :=
  ⟨o, v, ho, .inl ⟨hw, hy⟩, h⟩
/-- A reader that is not wanted. -/
theorem lin_skip {i : Nat} {r : List (Nat × Nat)} {a : Act} {w : World} (o : Oper) (ho : ops[i]? = some o) (hw : Region.wanted o (yielded ops a.tmps) = false)
    (h : Lin P ops Q r (a.put o.dst undef) w) : Lin P ops Q ((i, 0) :: r) a w :=
  ⟨o, undef, ho, .inr ⟨hw, rfl⟩, h⟩
/-- A call of a Go function that is wanted. -/
theorem lin_call {i : Nat} {r : List (Nat × Nat)} {a : Act} {w : World} (o : Oper) (f : Nat) (args : Array Value) (ho : ops[i]? = some o) (hw : Region.wanted o (yielded ops a.tmps) = true)
    (hx : (execOp a.eval o).run P w = .ok (.enter f args) w) {R : Ending → World → Prop} (hc : Calls P f args w R)
    (h : ∀ e w', R e w' → ∃ v, e = .returned v ∧ Below w.heap.size w w' ∧ Lin P ops Q r (a.put o.dst v) w') : Lin P ops Q ((i, 1) :: r) a w := by
  show wpOp P ops Q i _ a w
  refine wpOp_step ho fun K' hK => ?_
  rw [if_pos hw]
  unfold Oper.wp
  rw [hx]
  refine hc.mono fun e w' he => ?_
  obtain ⟨v, rfl, hb, hr⟩ := h e w' he
  exact hK _ _ ⟨hb, hr⟩
/-- A writer that is not wanted. -/
theorem lin_skip' {i : Nat} {r : List (Nat × Nat)} {a : Act} {w : World} (o : Oper) (ho : ops[i]? = some o) (hw : Region.wanted o (yielded ops a.tmps) = false)
    (h : Lin P ops Q r (a.put o.dst undef) w) : Lin P ops Q ((i, 1) :: r) a w := by
  show wpOp P ops Q i _ a w
  refine wpOp_step ho fun K' hK => ?_
  rw [if_neg (by rw [hw]; simp)]
  exact hK _ _ ⟨Below.refl _ _, h⟩
/-- A writer that makes a block and yields a value. -/
theorem lin_make {i : Nat} {r : List (Nat × Nat)} {a : Act} {w : World} (o : Oper) (v : Value) (w1 : World) (ho : ops[i]? = some o) (hw : Region.wanted o (yielded ops a.tmps) = true)
    (hx : (execOp a.eval o).run P w = .ok (.value v) w1) (hb : Below w.heap.size w w1)
    (h : Lin P ops Q r (a.put o.dst v) w1) : Lin P ops Q ((i, 1) :: r) a w := by
  show wpOp P ops Q i _ a w
  refine wpOp_step ho fun K' hK => ?_
  rw [if_pos hw]
  unfold Oper.wp
  rw [hx]
  exact hK _ _ ⟨hb, h⟩
/-- Two writers, either of which may come first: what is asked of each order. -/
theorem lin_fork {i j : Nat} {r : List (Nat × Nat)} {a : Act} {w : World} (g1 : Lin P ops Q ((i, 1) :: (j, 1) :: r) a w) (g2 : Lin P ops Q ((j, 1) :: (i, 1) :: r) a w) :
    Lin P ops Q ((i, j + 2) :: r) a w := ⟨g1, g2⟩
theorem lin_end {a : Act} {w : World} (h : Q .normal a w) : Lin P ops Q [] a w := h

/-- An operation by its kind and its type alone. -/
def mkOp (op : Op) (t : TypeId) : Oper := { dst := none, op := op, type := t, pos := "", after := #[], guard := none }
theorem exec_mkOp (ρ : Operand → Value) (o : Oper) : execOp ρ o = execOp ρ (mkOp o.op o.type) := by
  cases o; rfl

/-- A reader that does not look at memory. -/
theorem lin_pure {i : Nat} {r : List (Nat × Nat)} {a : Act} {w : World} {o : Oper} (d : Nat) (op : Op) (t : TypeId) (v : Value) (ho : ops[i]? = some o) (hd : o.dst = some d) (hop : o.op = op) (ht : o.type = t)
    (hw : Region.wanted o (yielded ops a.tmps) = true) (hy : ∀ w', (execOp a.eval (mkOp op t)).run P w' = .ok (.value v) w') (h : Lin P ops Q r (a.put (some d) v) w) : Lin P ops Q ((i, 0) :: r) a w := by
  refine lin_read o v ho hw (fun w' _ => ?_) (by rw [hd]; exact h)
  rw [exec_mkOp, hop, ht]
  exact hy w'
/-- A reader that is not wanted. -/
theorem lin_none {i : Nat} {r : List (Nat × Nat)} {a : Act} {w : World} {o : Oper} (d : Nat) (ho : ops[i]? = some o) (hd : o.dst = some d)
    (hw : Region.wanted o (yielded ops a.tmps) = false) (h : Lin P ops Q r (a.put (some d) undef) w) : Lin P ops Q ((i, 0) :: r) a w :=
  lin_skip o ho hw (by rw [hd]; exact h)

/-- A writer of a new block, by its kind. -/
theorem lin_made {i : Nat} {r : List (Nat × Nat)} {a : Act} {w : World} {o : Oper} (d : Nat) (op : Op) (t : TypeId) (v : Value) (w1 : World) (ho : ops[i]? = some o) (hd : o.dst = some d) (hop : o.op = op) (ht : o.type = t)
    (hw : Region.wanted o (yielded ops a.tmps) = true) (hx : (execOp a.eval (mkOp op t)).run P w = .ok (.value v) w1) (hb : Below w.heap.size w w1) (h : Lin P ops Q r (a.put (some d) v) w1) : Lin P ops Q ((i, 1) :: r) a w := by
  refine lin_make o v w1 ho hw ?_ hb (by rw [hd]; exact h)
  rw [exec_mkOp, hop, ht]
  exact hx

theorem run_enter {f : Nat} {fn : Func} (hf : P.funcs[f]? = some fn) (hn : (fn.name == "runtime.NumGoroutine") = false) (hb : fn.body.isNone = false) (args : Array Value) (w : World) : (callFunc f args).run P w = .ok (.enter f args) w := by
  have h1 : ¬ fn.name = "runtime.NumGoroutine" := by simpa using hn
  have h2 : ¬ fn.body = none := fun h => by simp [h] at hb
  simp [callFunc, hf, h1, h2]

/-- A call of a Go function by its contract. -/
theorem lin_fn {i : Nat} {r : List (Nat × Nat)} {a : Act} {w : World} {o : Oper} {fn : Func} (d f : Nat) (xs : Array Operand) (ts : Array TypeId) (args : Array Value) {R : Ending → World → Prop} (hc : Calls P f args w R)
    (ho : ops[i]? = some o) (hd : o.dst = some d) (hop : o.op = .call { callee := .value (.func f), args := xs, argTypes := ts })
    (hw : Region.wanted o (yielded ops a.tmps) = true) (hf : P.funcs[f]? = some fn) (hn : (fn.name == "runtime.NumGoroutine") = false) (hb : fn.body.isNone = false) (hargs : xs.map a.eval = args)
    (h : ∀ e w', R e w' → ∃ v, e = .returned v ∧ Below w.heap.size w w' ∧ Lin P ops Q r (a.put (some d) v) w') : Lin P ops Q ((i, 1) :: r) a w := by
  refine lin_call o f args ho hw ?_ hc (by rw [hd]; exact h)
  have he : a.eval (.func f) = .func (.func f) #[] #[] := rfl
  simp [execOp, hop, resolve, he, Deferred.ofValue, invoke, hargs, run_enter hf hn hb]
end

/-- string(b) of what reads as bytes. -/
theorem lin_conv {ops : Array Oper} {Q : Exit → Act → World → Prop} {i : Nat} {r : List (Nat × Nat)} {a : Act} {w : World} {o : Oper} (d : Nat) (x : Operand) (v : Value) (l : List UInt8) (ho : ops[i]? = some o) (hd : o.dst = some d)
    (hop : o.op = .convert 22 9 x) (hw : Region.wanted o (yielded ops a.tmps) = true) (hx : a.eval x = v) (hB : Bs w v l) (h : Lin Try.prog ops Q r (a.put (some d) (.string ⟨l.toArray⟩)) w) : Lin Try.prog ops Q ((i, 0) :: r) a w := by
  refine lin_read o _ ho hw (fun w' hw' => ?_) (by rw [hd]; exact h)
  have hc := (hB.below hw' (Nat.le_refl _)).conv
  simp [execOp, hop, hx, hc, Result.andThen]
end Go.Proofs.Ythapdohblphlgaa
