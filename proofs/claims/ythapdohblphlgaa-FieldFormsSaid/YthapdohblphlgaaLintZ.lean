/- As Lint, in segments: behind a segment, in whatever order its writers came up, what stands is one assertion, from which the next segment goes on. What every writer leaves alone is a relation of the reader's choice. -/
import Derived.Test.YthapdohblphlgaaLint
namespace Go.Proofs.Ythapdohblphlgaa
open Go.RowKit Go.Deep

section
variable {P : Program} {ops : Array Oper} {Q : Exit → Act → World → Prop} {E : World → World → Prop} {K : Act → World → Prop}

/-- A segment (its leaves: 'done') from which K goes on. -/
def LinZ (P : Program) (ops : Array Oper) (Q : Exit → Act → World → Prop) (E : World → World → Prop) (K : Act → World → Prop) : Stp → Act → World → Prop
  | .done, a, w => K a w
  | .rd i r, a, w => ∃ o v, ops[i]? = some o ∧ YieldsIf P ops (E w) o v a ∧ LinZ P ops Q E K r (a.put o.dst v) w
  | .wr i r, a, w => wpOp P ops Q i (fun a' w' => E w w' ∧ LinZ P ops Q E K r a' w') a w
  | .br i r1 j r2, a, w => wpOp P ops Q i (fun a' w' => E w w' ∧ LinZ P ops Q E K r1 a' w') a w ∧ wpOp P ops Q j (fun a' w' => E w w' ∧ LinZ P ops Q E K r2 a' w') a w

/-- A segment fits, and lists l2 at each of its leaves. -/
def lintzOk (ops : Array Oper) (l2 : Array Bool) : Stp → Array Bool → Bool
  | .done, l => l == l2
  | .rd i r, l => (Region.ready .any ops l).contains i && Region.free .any ops l i && lintzOk ops l2 r (l.setIfInBounds i true)
  | .wr i r, l => (Region.ready .any ops l == [i]) && lintzOk ops l2 r (l.setIfInBounds i true)
  | .br i r1 j r2, l => (Region.ready .any ops l == [i, j]) && lintzOk ops l2 r1 (l.setIfInBounds i true) && lintzOk ops l2 r2 (l.setIfInBounds j true)
/-- The first operations, as far as c. -/
def listedTo (n c : Nat) : Array Bool := ((List.range n).map fun i => decide (i ≤ c)).toArray

theorem wpAnyH_lintz (hrf : ∀ w, E w w) (htr : ∀ w1 w2 w3, E w1 w2 → E w2 w3 → E w1 w3) (hs : Region.noSelect ops = true) (hQ : ∀ d v c a w, Q (.panic c) (Act.put a d v) w → Q (.panic c) a w) (d : Nat) (l2 : Array Bool)
    (hK : ∀ fuel a w, d ≤ fuel → K a w → wpAnyH P .any ops Q (E w) fuel l2 a w) :
    ∀ (r : Stp) (fuel : Nat) (l : Array Bool) (a : Act) (w : World), r.depth + d ≤ fuel → lintzOk ops l2 r l = true → LinZ P ops Q E K r a w → wpAnyH P .any ops Q (E w) fuel l a w
  | .done, fuel, l, a, w, hf, hk, h => by
    obtain rfl : l = l2 := by simpa [lintzOk] using hk
    exact hK fuel a w (by simpa [Stp.depth] using hf) h
  | .rd i r, fuel, l, a, w, hf, hk, h => by
    obtain ⟨o, v, ho, hy, hr⟩ := h
    simp only [lintzOk, Bool.and_eq_true] at hk
    cases fuel with
    | zero => simp [Stp.depth] at hf
    | succ fuel =>
      exact wpAnyH_take ho hs hk.1.2 hk.1.1 (fun c a w => hQ _ _ c a w) hy (hrf _) (wpAnyH_lintz hrf htr hs hQ d l2 hK r fuel _ _ _ (by simp only [Stp.depth] at hf; omega) hk.2 hr)
  | .wr i r, fuel, l, a, w, hf, hk, h => by
    simp only [lintzOk, Bool.and_eq_true, beq_iff_eq] at hk
    cases fuel with
    | zero => simp [Stp.depth] at hf
    | succ fuel =>
      refine wpAnyH_all hk.1 (by simp) fun j hj => ?_
      obtain rfl : j = i := by simpa using hj
      refine wpOp_mono (fun a' w' h' => ⟨h'.1, ?_⟩) h
      exact wpAnyH_weaken (fun w2 h2 => htr _ _ _ h'.1 h2) _ _ _ _ (wpAnyH_lintz hrf htr hs hQ d l2 hK r fuel _ _ _ (by simp only [Stp.depth] at hf; omega) hk.2 h'.2)
  | .br i r1 j r2, fuel, l, a, w, hf, hk, h => by
    simp only [lintzOk, Bool.and_eq_true, beq_iff_eq] at hk
    cases fuel with
    | zero => simp [Stp.depth] at hf
    | succ fuel =>
      have hf' : max r1.depth r2.depth + d ≤ fuel := by simp only [Stp.depth] at hf; omega
      have hf1 : r1.depth + d ≤ fuel := by have := Nat.le_max_left r1.depth r2.depth; omega
      have hf2 : r2.depth + d ≤ fuel := by have := Nat.le_max_right r1.depth r2.depth; omega
      refine wpAnyH_all hk.1.1 (by simp) fun x hx => ?_
      have hx' : x = i ∨ x = j := by simpa using hx
      rcases hx' with rfl | rfl
      · refine wpOp_mono (fun a' w' h' => ⟨h'.1, ?_⟩) h.1
        exact wpAnyH_weaken (fun w2 h2 => htr _ _ _ h'.1 h2) _ _ _ _ (wpAnyH_lintz hrf htr hs hQ d l2 hK r1 fuel _ _ _ hf1 hk.1.2 h'.2)
      · refine wpOp_mono (fun a' w' h' => ⟨h'.1, ?_⟩) h.2
        exact wpAnyH_weaken (fun w2 h2 => htr _ _ _ h'.1 h2) _ _ _ _ (wpAnyH_lintz hrf htr hs hQ d l2 hK r2 fuel _ _ _ hf2 hk.2 h'.2)

/-- The segments, one behind the other. -/
def LinP (P : Program) (ops : Array Oper) (Q : Exit → Act → World → Prop) (E : World → World → Prop) : List (Stp × Nat) → Act → World → Prop
  | [], a, w => Q .normal a w
  | T :: r, a, w => ∃ C : Act → World → Prop, LinZ P ops Q E C T.1 a w ∧ ∀ a' w', C a' w' → LinP P ops Q E r a' w'
def planOk (ops : Array Oper) (n : Nat) : List (Stp × Nat) → Array Bool → Bool
  | [], l => (Region.ready .any ops l).isEmpty
  | T :: r, l => lintzOk ops (listedTo n T.2) T.1 l && planOk ops n r (listedTo n T.2)
theorem planOk_cons {ops : Array Oper} {n c : Nat} {T : Stp} {r : List (Stp × Nat)} {l : Array Bool} (h1 : lintzOk ops (listedTo n c) T l = true) (h2 : planOk ops n r (listedTo n c) = true) : planOk ops n ((T, c) :: r) l = true := by
  simp only [planOk, h1, h2, Bool.and_self]
def planDepth : List (Stp × Nat) → Nat
  | [] => 0
  | T :: r => T.1.depth + planDepth r
theorem wpAnyH_plan (hrf : ∀ w, E w w) (htr : ∀ w1 w2 w3, E w1 w2 → E w2 w3 → E w1 w3) (hs : Region.noSelect ops = true) (hQ : ∀ d v c a w, Q (.panic c) (Act.put a d v) w → Q (.panic c) a w) (n : Nat) :
    ∀ (r : List (Stp × Nat)) (fuel : Nat) (l : Array Bool) (a : Act) (w : World), planDepth r ≤ fuel → planOk ops n r l = true → LinP P ops Q E r a w → wpAnyH P .any ops Q (E w) fuel l a w
  | [], fuel, l, a, w, _, hk, h => wpAnyH_done (by simpa [planOk] using hk) h fuel
  | T :: r, fuel, l, a, w, hf, hk, h => by
    obtain ⟨C, h1, h2⟩ := h
    simp only [planOk, Bool.and_eq_true] at hk
    exact wpAnyH_lintz (K := C) hrf htr hs hQ (planDepth r) _ (fun fuel a w hf' hC => wpAnyH_plan hrf htr hs hQ n r fuel _ a w hf' hk.2 (h2 a w hC)) T.1 fuel l a w hf hk.1 h1

theorem wp_region_plan {id : Nat} {a : Act} {w : World} (E : World → World → Prop) (hrf : ∀ w, E w w) (htr : ∀ w1 w2 w3, E w1 w2 → E w2 w3 → E w1 w3) (n : Nat) (r : List (Stp × Nat)) (hm : P.follows .mixedOrders = true) (hs : Region.noSelect ops = true) (hl : planDepth r ≤ ops.size)
    (hk : planOk ops n r (Array.replicate ops.size false) = true) (hQ : ∀ d v c a w, Q (.panic c) (Act.put a d v) w → Q (.panic c) a w)
    (h : LinP P ops Q E r a w.drew) : (Code.region id ops true).wp P Q a w :=
  wp_region_held hm (wpAnyH_plan hrf htr hs hQ n r _ _ _ _ hl hk h)

theorem lintz_pure {i : Nat} {r : Stp} {a : Act} {w : World} {o : Oper} (d : Nat) (op : Op) (t : TypeId) (v : Value) (ho : ops[i]? = some o) (hd : o.dst = some d) (hop : o.op = op) (ht : o.type = t)
    (hw : Region.wanted o (yielded ops a.tmps) = true) (hy : ∀ w', E w w' → (execOp a.eval (mkOp op t)).run P w' = .ok (.value v) w') (h : LinZ P ops Q E K r (a.put (some d) v) w) : LinZ P ops Q E K (.rd i r) a w := by
  refine ⟨o, v, ho, .inl ⟨hw, fun w' hb => ?_⟩, by rw [hd]; exact h⟩
  rw [exec_mkOp, hop, ht]
  exact hy w' hb
/-- A writer's step: what 'wr' asks, and each arm of 'br'. -/
theorem stpz_fn {i : Nat} {r : Stp} {a : Act} {w : World} {o : Oper} {fn : Func} (d f : Nat) (xs : Array Operand) (ts : Array TypeId) (args : Array Value) {R : Ending → World → Prop} (hc : Calls P f args w R)
    (ho : ops[i]? = some o) (hd : o.dst = some d) (hop : o.op = .call { callee := .value (.func f), args := xs, argTypes := ts })
    (hw : Region.wanted o (yielded ops a.tmps) = true) (hf : P.funcs[f]? = some fn) (hn : (fn.name == "runtime.NumGoroutine") = false) (hb : fn.body.isNone = false) (hargs : xs.map a.eval = args)
    (h : ∀ e w', R e w' → ∃ v, e = .returned v ∧ E w w' ∧ LinZ P ops Q E K r (a.put (some d) v) w') : wpOp P ops Q i (fun a' w' => E w w' ∧ LinZ P ops Q E K r a' w') a w := by
  refine wpOp_step ho fun K' hK => ?_
  rw [if_pos hw]
  unfold Oper.wp
  have he : a.eval (.func f) = .func (.func f) #[] #[] := rfl
  have hx : (execOp a.eval o).run P w = .ok (.enter f args) w := by simp [execOp, hop, resolve, he, Deferred.ofValue, invoke, hargs, run_enter hf hn hb]
  rw [hx]
  refine hc.mono fun e w' hT => ?_
  obtain ⟨v, rfl, h1, h2⟩ := h e w' hT
  exact hK _ _ ⟨h1, by rw [hd]; exact h2⟩
theorem stpz_made {i : Nat} {r : Stp} {a : Act} {w : World} {o : Oper} (d : Nat) (op : Op) (t : TypeId) (v : Value) (w1 : World) (ho : ops[i]? = some o) (hd : o.dst = some d) (hop : o.op = op) (ht : o.type = t)
    (hw : Region.wanted o (yielded ops a.tmps) = true) (hx : (execOp a.eval (mkOp op t)).run P w = .ok (.value v) w1) (hb : E w w1) (h : LinZ P ops Q E K r (a.put (some d) v) w1) :
    wpOp P ops Q i (fun a' w' => E w w' ∧ LinZ P ops Q E K r a' w') a w := by
  refine wpOp_step ho fun K' hK => ?_
  rw [if_pos hw]
  unfold Oper.wp
  rw [exec_mkOp, hop, ht, hx]
  exact hK _ _ ⟨hb, by rw [hd]; exact h⟩
theorem lintz_leaf {a : Act} {w : World} (h : K a w) : LinZ P ops Q E K .done a w := h
theorem linp_seg {T : Stp} {c : Nat} {r : List (Stp × Nat)} {a : Act} {w : World} (C : Act → World → Prop) (h : LinZ P ops Q E C T a w) (h2 : ∀ a' w', C a' w' → LinP P ops Q E r a' w') : LinP P ops Q E ((T, c) :: r) a w := ⟨C, h, h2⟩
theorem lintz_slots {a : Act} {FR : (Nat → Value) → Act} (h : a = FR (fun i => a.tmps.getD i undef)) : ∃ u, a = FR u := ⟨_, h⟩
theorem linp_end {a : Act} {w : World} (h : Q .normal a w) : LinP P ops Q E [] a w := h
end
theorem lintz_conv {ops : Array Oper} {Q : Exit → Act → World → Prop} {E : World → World → Prop} {K : Act → World → Prop} {i : Nat} {r : Stp} {a : Act} {w : World} {o : Oper} (d : Nat) (x : Operand) (v : Value) (l : List UInt8) (ho : ops[i]? = some o) (hd : o.dst = some d)
    (hop : o.op = .convert 22 9 x) (hw : Region.wanted o (yielded ops a.tmps) = true) (hx : a.eval x = v) (hB : ∀ w', E w w' → Bs w' v l) (h : LinZ Try.prog ops Q E K r (a.put (some d) (.string ⟨l.toArray⟩)) w) : LinZ Try.prog ops Q E K (.rd i r) a w := by
  refine ⟨o, _, ho, .inl ⟨hw, fun w' hw' => ?_⟩, by rw [hd]; exact h⟩
  have hc := (hB w' hw').conv
  simp [execOp, hop, hx, hc, Result.andThen]
end Go.Proofs.Ythapdohblphlgaa
