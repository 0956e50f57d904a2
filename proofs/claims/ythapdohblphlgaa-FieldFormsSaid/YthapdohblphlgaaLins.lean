/- A region that draws its order, walked in one order (as Lin), where what a reader must stand is said writer by writer: 'R c' holds as long as writer c has not come up; a reader that some writers wait for needs no more than their R. The last writer may write whatever it likes. -/
import Derived.Test.YthapdohblphlgaaLin
namespace Go.Proofs.Ythapdohblphlgaa
open Go.RowKit Go.Deep
section
variable {P : Program} {ops : Array Oper} {Q : Exit → Act → World → Prop}

def wpAnyL (P : Program) (ops : Array Oper) (Q : Exit → Act → World → Prop) (S : Array Bool → World → Prop) : Nat → Array Bool → Act → World → Prop
  | 0, l, a, w => Region.ready .any ops l = [] ∧ Q .normal a w
  | fuel + 1, l, a, w => (Region.ready .any ops l = [] → Q .normal a w) ∧
    ∀ i ∈ Region.ready .any ops l, wpOp P ops Q i (fun a' w' => S (l.setIfInBounds i true) w' ∧ wpAnyL P ops Q S fuel (l.setIfInBounds i true) a' w') a w

theorem wpAny_of_L {S : Array Bool → World → Prop} : ∀ (fuel : Nat) (l : Array Bool) (a : Act) (w : World), wpAnyL P ops Q S fuel l a w → wpAny P .any ops Q fuel l a w
  | 0, _, _, _, h => h
  | fuel + 1, _, _, _, h => ⟨h.1, fun i hi => wpOp_mono (fun a' w' h' => wpAny_of_L fuel _ a' w' h'.2) (h.2 i hi)⟩

theorem unlisted_of_ready {l : Array Bool} {i j : Nat} {oj : Oper} (hi : l.getD i true = false) (hj : j ∈ Region.ready .any ops l) (ho : ops[j]? = some oj) (e : Edge) (he : e ∈ oj.after) (hb : Region.binds .any e = true) : e.on ≠ i := by
  intro heq
  obtain ⟨_, o, ho', hall⟩ := mem_ready.1 hj
  rw [ho] at ho'
  cases ho'
  have h1 := hall e he hb
  rw [heq] at h1
  rcases Nat.lt_or_ge i l.size with h' | h'
  · simp [h'] at hi h1; rw [hi] at h1; cases h1
  · simp [Array.getElem?_eq_none h'] at h1

theorem wpAnyL_first {S : Array Bool → World → Prop} {i : Nat} {oi : Oper} {v : Value} {C : List Nat} (hi : ops[i]? = some oi) (hsel : ∀ (j : Nat) (o : Oper) cs b, ops[j]? = some o → o.op ≠ .select cs b)
    (hQ : ∀ c a w, Q (.panic c) (a.put oi.dst v) w → Q (.panic c) a w) (hSi : ∀ l w, S (l.setIfInBounds i true) w ↔ S l w)
    (hC : ∀ c ∈ C, ∀ oc, ops[c]? = some oc → ∃ e ∈ oc.after, Region.binds .any e = true ∧ e.on = i) :
    ∀ (fuel : Nat) (l : Array Bool) (a : Act) (w : World),
      (∀ j oj, ops[j]? = some oj → j ≠ i → l.getD j true = false → (∀ e ∈ oj.after, Region.binds .any e = true → e.on ≠ i) → oi.apart ops oj = true) →
      i ∈ Region.ready .any ops l → YieldsIf P ops (fun w' => ∃ l', (∀ c ∈ C, l'.getD c true = false) ∧ S l' w') oi v a → (∀ c ∈ C, l.getD c true = false) → S l w →
      wpAnyL P ops Q S fuel (l.setIfInBounds i true) (a.put oi.dst v) w → wpAnyL P ops Q S (fuel + 1) l a w := by
  intro fuel
  induction fuel with
  | zero =>
    intro l a w _ hr hy hT hS H
    refine ⟨fun h => (by rw [h] at hr; cases hr), fun j hj => ?_⟩
    by_cases hji : j = i
    · subst hji; exact hy.wpOp hi ⟨l, hT, hS⟩ ⟨(hSi l w).2 hS, H⟩
    · have := ready_mono hj hji
      rw [H.1] at this
      cases this
  | succ fuel ih =>
    intro l a w hfree hr hy hT hS H
    refine ⟨fun h => (by rw [h] at hr; cases hr), fun j hj => ?_⟩
    by_cases hji : j = i
    · subst hji; exact hy.wpOp hi ⟨l, hT, hS⟩ ⟨(hSi l w).2 hS, H⟩
    · have h1 := H.2 j (ready_mono hj hji)
      obtain ⟨hjun, oj, hoj, _⟩ := mem_ready.1 hj
      have hiun := (mem_ready.1 hr).1
      have hnot : ∀ e ∈ oj.after, Region.binds .any e = true → e.on ≠ i := fun e he hb => unlisted_of_ready hiun hj hoj e he hb
      have h2 := wpOp_putIf hoj (hfree j oj hoj hji hjun hnot) (fun cs b => hsel i oi cs b hi) (fun cs b => hsel j oj cs b hoj) hQ hy h1
      have hfree' : ∀ k ok, ops[k]? = some ok → k ≠ i → (l.setIfInBounds j true).getD k true = false →
          (∀ e ∈ ok.after, Region.binds .any e = true → e.on ≠ i) → oi.apart ops ok = true := fun k ok hk hki hun hno => by
        refine hfree k ok hk hki ?_ hno
        by_cases hjk : j = k
        · subst hjk; exact hjun
        · rw [getD_set_ne true hjk] at hun; exact hun
      have hT' : ∀ c ∈ C, (l.setIfInBounds j true).getD c true = false := fun c hc => by
        by_cases hjc : j = c
        · subst hjc
          obtain ⟨e, he, hb, hon⟩ := hC j hc oj hoj
          exact absurd hon (hnot e he hb)
        · rw [getD_set_ne true hjc]; exact hT c hc
      refine wpOp_mono (fun a' w' h3 => ?_) h2
      have hS' : S (l.setIfInBounds j true) w' := (hSi _ _).1 (by rw [Array.setIfInBounds_comm _ _ hji]; exact h3.2.1)
      refine ⟨hS', ih (l.setIfInBounds j true) a' w' hfree' (ready_mono hr (Ne.symm hji)) h3.1 hT' hS' ?_⟩
      rw [Array.setIfInBounds_comm _ _ hji]
      exact h3.2.2

/-- Behind i another S will do, if it says more in every listing in which i has come up. -/
theorem wpAnyL_weaken {S1 S2 : Array Bool → World → Prop} {i : Nat} (h : ∀ l w, l.getD i false = true → S2 l w → S1 l w) : ∀ (fuel : Nat) (l : Array Bool) (a : Act) (w : World), l.getD i false = true → wpAnyL P ops Q S2 fuel l a w → wpAnyL P ops Q S1 fuel l a w
  | 0, _, _, _, _, hh => hh
  | fuel + 1, _, _, _, hl, hh => ⟨hh.1, fun j hj => wpOp_mono (fun a' w' h' => ⟨h _ _ (getD_set_true hl) h'.1, wpAnyL_weaken h fuel _ a' w' (getD_set_true hl) h'.2⟩) (hh.2 j hj)⟩

/-- The order's steps: (i, some C): a reader that the writers C wait for; (i, none): a writer. -/
def writers (r : List (Nat × Option (List Nat))) : List Nat := r.filterMap fun p => match p.2 with | none => some p.1 | some _ => none
def LinS (P : Program) (ops : Array Oper) (Q : Exit → Act → World → Prop) : List (Nat × Option (List Nat)) → (Nat → World → Prop) → Act → World → Prop
  | [], _, a, w => Q .normal a w
  | (i, some C) :: r, R, a, w => ∃ o v, ops[i]? = some o ∧ YieldsIf P ops (fun w' => ∀ c ∈ C, R c w') o v a ∧ LinS P ops Q r R (a.put o.dst v) w
  | (i, none) :: r, R, a, w => wpOp P ops Q i (fun a' w' => ∃ R' : Nat → World → Prop, (∀ c ∈ writers r, R' c w' ∧ ∀ w'', R' c w'' → R c w'') ∧ LinS P ops Q r R' a' w') a w

def waitsFor (ops : Array Oper) (c i : Nat) : Bool := match ops[c]? with | some oc => oc.after.any (fun e => Region.binds .any e && e.on == i) | none => false
def linsOk (ops : Array Oper) : List (Nat × Option (List Nat)) → Array Bool → Bool
  | [], l => (Region.ready .any ops l).isEmpty
  | (i, some C) :: r, l => (Region.ready .any ops l).contains i && Region.free .any ops l i && C.all (fun c => waitsFor ops c i && (writers r).contains c && !l.getD c true) && !(writers r).contains i && linsOk ops r (l.setIfInBounds i true)
  | (i, none) :: r, l => (Region.ready .any ops l == [i]) && !(writers r).contains i && decide (i < l.size) && linsOk ops r (l.setIfInBounds i true)

def SofR (W : List Nat) (R : Nat → World → Prop) (l : Array Bool) (w : World) : Prop := ∀ c ∈ W, l.getD c true = false → R c w

theorem wpAnyL_lins (hs : Region.noSelect ops = true) (hQ : ∀ d v c a w, Q (.panic c) (Act.put a d v) w → Q (.panic c) a w) :
    ∀ (r : List (Nat × Option (List Nat))) (R : Nat → World → Prop) (fuel : Nat) (l : Array Bool) (a : Act) (w : World), r.length ≤ fuel → linsOk ops r l = true → (∀ c ∈ writers r, R c w) → LinS P ops Q r R a w →
      wpAnyL P ops Q (SofR (writers r) R) fuel l a w
  | [], _, fuel, l, a, w, _, hk, _, h => by
    have hr : Region.ready .any ops l = [] := by simpa [linsOk] using hk
    cases fuel with
    | zero => exact ⟨hr, h⟩
    | succ fuel => exact ⟨fun _ => h, by rw [hr]; simp⟩
  | (i, some C) :: r, R, fuel, l, a, w, hf, hk, hR, h => by
    obtain ⟨o, v, ho, hy, hr⟩ := h
    simp only [linsOk, Bool.and_eq_true, List.all_eq_true, Bool.not_eq_true'] at hk
    obtain ⟨⟨⟨⟨k1, k2⟩, k3⟩, k4⟩, k5⟩ := hk
    cases fuel with
    | zero => simp at hf
    | succ fuel =>
      have hW : writers ((i, some C) :: r) = writers r := by simp [writers]
      rw [hW] at hR ⊢
      have hSi : ∀ l w, SofR (writers r) R (l.setIfInBounds i true) w ↔ SofR (writers r) R l w := fun l w => by
        have hne : ∀ c ∈ writers r, i ≠ c := fun c hc e => by subst e; simp [hc] at k4
        constructor
        · intro h c hc hl; exact h c hc (by rw [getD_set_ne true (hne c hc)]; exact hl)
        · intro h c hc hl; exact h c hc (by rw [getD_set_ne true (hne c hc)] at hl; exact hl)
      have hC : ∀ c ∈ C, ∀ oc, ops[c]? = some oc → ∃ e ∈ oc.after, Region.binds .any e = true ∧ e.on = i := fun c hc oc hoc => by
        have h1 := (k3 c hc).1.1
        simp only [waitsFor, hoc, Array.any_eq_true'] at h1
        obtain ⟨e, he, hb⟩ := h1
        simp only [Bool.and_eq_true, beq_iff_eq] at hb
        exact ⟨e, he, hb.1, hb.2⟩
      refine wpAnyL_first (C := C) ho (Region.noSelect_spec hs) (fun c a w => hQ _ _ c a w) hSi hC fuel l a w (Region.free_spec ho k2) (by simpa using k1) ?_ (fun c hc => (k3 c hc).2) (fun c hc _ => hR c hc)
        (wpAnyL_lins hs hQ r R fuel _ _ _ (by simpa using hf) k5 hR hr)
      refine hy.imp (fun ⟨hw, hv⟩ => ⟨hw, fun w' ⟨l', hl', hS'⟩ => hv w' fun c hc => hS' c ?_ (hl' c hc)⟩) id
      simpa using (k3 c hc).1.2
  | (i, none) :: r, R, fuel, l, a, w, hf, hk, hR, h => by
    simp only [linsOk, Bool.and_eq_true, beq_iff_eq, Bool.not_eq_true', decide_eq_true_eq] at hk
    obtain ⟨⟨⟨k1, k2⟩, k3⟩, k4⟩ := hk
    cases fuel with
    | zero => simp at hf
    | succ fuel =>
      refine ⟨fun h0 => (by rw [k1] at h0; cases h0), fun j hj => ?_⟩
      rw [k1] at hj
      obtain rfl : j = i := by simpa using hj
      refine wpOp_mono (fun a' w' h' => ?_) h
      obtain ⟨R', h1, h2⟩ := h'
      have hW : writers ((j, none) :: r) = j :: writers r := by simp [writers]
      have hl : (l.setIfInBounds j true).getD j false = true := by simp [k3]
      rw [hW]
      have hweak : ∀ (l : Array Bool) (w : World), l.getD j false = true → SofR (writers r) R' l w → SofR (j :: writers r) R l w := fun l w hl hS c hc hcl => by
        rcases List.mem_cons.1 hc with rfl | hc
        · rcases Nat.lt_or_ge c l.size with h' | h'
          · simp [h'] at hl hcl; rw [hl] at hcl; cases hcl
          · simp [Array.getElem?_eq_none h'] at hl
        · exact (h1 c hc).2 w (hS c hc hcl)
      exact ⟨hweak _ _ hl (fun c hc _ => (h1 c hc).1), wpAnyL_weaken hweak _ _ _ _ hl (wpAnyL_lins hs hQ r R' fuel _ _ _ (by simpa using hf) k4 (fun c hc => (h1 c hc).1) h2)⟩

/-- THE REGION. -/
theorem wp_region_lins {id : Nat} {a : Act} {w : World} (r : List (Nat × Option (List Nat))) (R : Nat → World → Prop) (hm : P.follows .mixedOrders = true) (hs : Region.noSelect ops = true) (hl : r.length ≤ ops.size)
    (hk : linsOk ops r (Array.replicate ops.size false) = true) (hQ : ∀ d v c a w, Q (.panic c) (Act.put a d v) w → Q (.panic c) a w)
    (hR : ∀ c ∈ writers r, R c w.drew) (h : LinS P ops Q r R a w.drew) : (Code.region id ops true).wp P Q a w :=
  wp_region_any hm (wpAny_of_L _ _ _ _ (wpAnyL_lins hs hQ r R _ _ _ _ hl hk hR h))

/-- A region that does not panic serves whatever is asked of a panic. -/
def NoPan (Q : Exit → Act → World → Prop) : Exit → Act → World → Prop
  | .panic _, _, _ => False
  | e, a, w => Q e a w
theorem wp_noPan {C : Code} {a : Act} {w : World} (h : C.wp P (NoPan Q) a w) : C.wp P Q a w :=
  Code.wp_mono (fun e a w h => by cases e <;> first | exact h | exact (h : False).elim) h

/-- A reader, by its kind; what it must stand is R of the writers that wait for it. -/
theorem lins_read {i : Nat} {C : List Nat} {r : List (Nat × Option (List Nat))} {R : Nat → World → Prop} {a : Act} {w : World} {o : Oper} (d : Nat) (op : Op) (t : TypeId) (v : Value) (ho : ops[i]? = some o) (hd : o.dst = some d) (hop : o.op = op) (ht : o.type = t)
    (hw : Region.wanted o (yielded ops a.tmps) = true) (hy : ∀ w', (∀ c ∈ C, R c w') → (execOp a.eval (mkOp op t)).run P w' = .ok (.value v) w') (h : LinS P ops Q r R (a.put (some d) v) w) : LinS P ops Q ((i, some C) :: r) R a w := by
  refine ⟨o, v, ho, .inl ⟨hw, fun w' hw' => ?_⟩, by rw [hd]; exact h⟩
  rw [exec_mkOp, hop, ht]
  exact hy w' hw'

/-- A call of a Go function by its contract. -/
theorem lins_fn {i : Nat} {r : List (Nat × Option (List Nat))} {R : Nat → World → Prop} {a : Act} {w : World} {o : Oper} {fn : Func} (d : Option Nat) (f : Nat) (xs : Array Operand) (ts : Array TypeId) (args : Array Value) {T : Ending → World → Prop} (hc : Calls P f args w T)
    (ho : ops[i]? = some o) (hd : o.dst = d) (hop : o.op = .call { callee := .value (.func f), args := xs, argTypes := ts })
    (hw : Region.wanted o (yielded ops a.tmps) = true) (hf : P.funcs[f]? = some fn) (hn : (fn.name == "runtime.NumGoroutine") = false) (hb : fn.body.isNone = false) (hargs : xs.map a.eval = args)
    (h : ∀ e w', T e w' → ∃ v, e = .returned v ∧ ∃ R' : Nat → World → Prop, (∀ c ∈ writers r, R' c w' ∧ ∀ w'', R' c w'' → R c w'') ∧ LinS P ops Q r R' (a.put d v) w') : LinS P ops Q ((i, none) :: r) R a w := by
  show wpOp P ops Q i _ a w
  refine wpOp_step ho fun K' hK => ?_
  rw [if_pos hw]
  unfold Oper.wp
  have he : a.eval (.func f) = .func (.func f) #[] #[] := rfl
  have hx : (execOp a.eval o).run P w = .ok (.enter f args) w := by simp [execOp, hop, resolve, he, Deferred.ofValue, invoke, hargs, run_enter hf hn hb]
  rw [hx]
  refine hc.mono fun e w' hT => ?_
  obtain ⟨v, rfl, R', h1, h2⟩ := h e w' hT
  exact hK _ _ ⟨R', h1, by rw [hd]; exact h2⟩

/-- A writer that yields a value (an append, a copy, a new block), its run known. -/
theorem lins_made {i : Nat} {r : List (Nat × Option (List Nat))} {R : Nat → World → Prop} {a : Act} {w : World} {o : Oper} (d : Option Nat) (op : Op) (t : TypeId) (v : Value) (w1 : World) (ho : ops[i]? = some o) (hd : o.dst = d) (hop : o.op = op) (ht : o.type = t)
    (hw : Region.wanted o (yielded ops a.tmps) = true) (hx : (execOp a.eval (mkOp op t)).run P w = .ok (.value v) w1) (R' : Nat → World → Prop) (hR : ∀ c ∈ writers r, R' c w1 ∧ ∀ w'', R' c w'' → R c w'')
    (h : LinS P ops Q r R' (a.put d v) w1) : LinS P ops Q ((i, none) :: r) R a w := by
  show wpOp P ops Q i _ a w
  refine wpOp_step ho fun K' hK => ?_
  rw [if_pos hw]
  unfold Oper.wp
  rw [exec_mkOp, hop, ht, hx]
  exact hK _ _ ⟨R', hR, by rw [hd]; exact h⟩

/-- A store, its run known. -/
theorem lins_store {i : Nat} {r : List (Nat × Option (List Nat))} {R : Nat → World → Prop} {a : Act} {w : World} {o : Oper} (op : Op) (t : TypeId) (w1 : World) (ho : ops[i]? = some o) (hd : o.dst = none) (hop : o.op = op) (ht : o.type = t)
    (hw : Region.wanted o (yielded ops a.tmps) = true) (hx : (execOp a.eval (mkOp op t)).run P w = .ok .skip w1) (R' : Nat → World → Prop) (hR : ∀ c ∈ writers r, R' c w1 ∧ ∀ w'', R' c w'' → R c w'')
    (h : LinS P ops Q r R' a w1) : LinS P ops Q ((i, none) :: r) R a w := by
  show wpOp P ops Q i _ a w
  refine wpOp_step ho fun K' hK => ?_
  rw [if_pos hw]
  unfold Oper.wp
  rw [exec_mkOp, hop, ht, hx]
  refine hK _ _ ⟨R', hR, ?_⟩
  rw [hd]
  exact h
theorem lins_end {R : Nat → World → Prop} {a : Act} {w : World} (h : Q .normal a w) : LinS P ops Q [] R a w := h
end
end Go.Proofs.Ythapdohblphlgaa
