/- A region where several operations may come up in any order (allocs and calls whose operands are constants): the readers first, then these in whatever order, then the rest in segments. What stands after some of them is an assertion of the reader's choice over which are done and what they laid in their slots. -/
import Derived.Test.YtncdlaidmiokiaaMM1
set_option linter.unusedSimpArgs false
set_option linter.unusedVariables false
namespace Go.Proofs.Ytncdlaidmiokiaa
open Go.RowKit Go.Deep

section
variable {P : Program} {ops : Array Oper} {Q : Exit → Act → World → Prop} {E : World → World → Prop}

/-- Slots in the order of the list, as many as are done. -/
def putM : List Nat → Nat → List Bool → (Nat → Value) → Act → Act
  | [], _, _, _, a => a
  | d :: r, p, m, g, a => putM r (p + 1) m g (if m.getD p false = true then a.put (some d) (g p) else a)
def listM : List Nat → Nat → List Bool → Array Bool → Array Bool
  | [], _, _, l => l
  | i :: r, p, m, l => listM r (p + 1) m (if m.getD p false = true then l.setIfInBounds i true else l)
def allB : Nat → List (List Bool)
  | 0 => [[]]
  | n + 1 => (allB n).flatMap fun m => [false :: m, true :: m]
theorem mem_allB : ∀ (m : List Bool), m ∈ allB m.length
  | [] => by simp [allB]
  | b :: m => by
    show b :: m ∈ (allB m.length).flatMap fun m => [false :: m, true :: m]
    rw [List.mem_flatMap]
    exact ⟨m, mem_allB m, by cases b <;> simp⟩
def parStep (ops : Array Oper) (S : List Nat) (l : Array Bool) (m : List Bool) (i : Nat) : Bool :=
  match S.idxOf? i with
  | none => false
  | some p => (m.getD p true == false) && decide (p < m.length) && (S.getD p 0 == i) && (listM S 0 (m.set p true) l == (listM S 0 m l).setIfInBounds i true)
def parOk (ops : Array Oper) (S : List Nat) (l : Array Bool) : Bool :=
  (allB S.length).all fun m => m.all id || (!(Region.ready .any ops (listM S 0 m l)).isEmpty && (Region.ready .any ops (listM S 0 m l)).all fun i => parStep ops S l m i)
def upd (g : Nat → Value) (p : Nat) (v : Value) : Nat → Value := fun q => if q = p then v else g q
theorem put_comm (a : Act) (d e : Nat) (v u : Value) (h : d ≠ e) : (a.put (some d) v).put (some e) u = (a.put (some e) u).put (some d) v := by
  unfold Act.put
  simp only [Array.setIfInBounds_comm _ _ h]
theorem putM_congr : ∀ (ds : List Nat) (p : Nat) (m m' : List Bool) (g g' : Nat → Value) (a : Act), (∀ q, p ≤ q → m.getD q false = m'.getD q false ∧ g q = g' q) → putM ds p m g a = putM ds p m' g' a
  | [], _, _, _, _, _, _, _ => rfl
  | d :: r, p, m, m', g, g', a, h => by
    unfold putM
    obtain ⟨h1, h2⟩ := h p (Nat.le_refl _)
    rw [h1, h2]
    exact putM_congr r (p + 1) m m' g g' _ fun q hq => h q (by omega)
theorem put_putM : ∀ (ds : List Nat) (p : Nat) (m : List Bool) (g : Nat → Value) (a : Act) (d : Nat) (v : Value), d ∉ ds → (putM ds p m g a).put (some d) v = putM ds p m g (a.put (some d) v)
  | [], _, _, _, _, _, _, _ => rfl
  | e :: r, p, m, g, a, d, v, h => by
    simp only [List.mem_cons, not_or] at h
    unfold putM
    rw [put_putM r (p + 1) m g _ d v h.2]
    congr 1
    split
    · exact put_comm _ _ _ _ _ (Ne.symm h.1)
    · rfl
theorem putM_set : ∀ (ds : List Nat) (p : Nat) (m : List Bool) (g : Nat → Value) (a : Act) (k : Nat) (v : Value), ds.Nodup → k < ds.length → p + k < m.length → m.getD (p + k) true = false →
    (putM ds p m g a).put (some (ds.getD k 0)) v = putM ds p (m.set (p + k) true) (upd g (p + k) v) a
  | [], _, _, _, _, _, _, _, h, _, _ => by simp at h
  | d :: r, p, m, g, a, 0, v, hnd, _, hl, hm => by
    rw [List.nodup_cons] at hnd
    have hm2 : m.getD p false = false := by
      rw [Nat.add_zero] at hm hl
      rw [List.getD_eq_getElem?_getD, List.getElem?_eq_getElem hl] at hm ⊢
      exact hm
    have hm3 : (m.set (p + 0) true).getD p false = true := by
      rw [Nat.add_zero] at hl ⊢
      rw [List.getD_eq_getElem?_getD, List.getElem?_set_self hl]
      rfl
    show (putM (d :: r) p m g a).put (some d) v = _
    unfold putM
    rw [hm2, hm3, if_neg (by decide), if_pos rfl, put_putM r (p + 1) m g a d v hnd.1]
    rw [show upd g (p + 0) v p = v by simp [upd]]
    refine putM_congr r (p + 1) _ _ _ _ _ fun q hq => ⟨?_, ?_⟩
    · rw [List.getD_eq_getElem?_getD, List.getD_eq_getElem?_getD, List.getElem?_set_ne (by omega)]
    · unfold upd
      rw [if_neg (by omega)]
  | d :: r, p, m, g, a, k + 1, v, hnd, hk, hl, hm => by
    rw [List.nodup_cons] at hnd
    have e : p + (k + 1) = p + 1 + k := by omega
    rw [e] at hm hl
    have hk2 : k < r.length := by simp only [List.length_cons] at hk; omega
    have h := putM_set r (p + 1) m g (if m.getD p false = true then a.put (some d) (g p) else a) k v hnd.2 hk2 hl hm
    show (putM r (p + 1) m g (if m.getD p false = true then a.put (some d) (g p) else a)).put (some (r.getD k 0)) v = putM r (p + 1) (m.set (p + (k + 1)) true) (upd g (p + (k + 1)) v) (if (m.set (p + (k + 1)) true).getD p false = true then a.put (some d) (upd g (p + (k + 1)) v p) else a)
    rw [h, e, show upd g (p + 1 + k) v p = g p by unfold upd; rw [if_neg (by omega)], show (m.set (p + 1 + k) true).getD p false = m.getD p false by
      rw [List.getD_eq_getElem?_getD, List.getD_eq_getElem?_getD, List.getElem?_set_ne (by omega)]]
def falses : List Bool → Nat
  | [] => 0
  | b :: m => (if b then 0 else 1) + falses m
theorem falses_set : ∀ (m : List Bool) (p : Nat), p < m.length → m.getD p true = false → falses (m.set p true) + 1 = falses m
  | [], _, h, _ => by simp at h
  | b :: m, 0, _, h => by
    have hb : b = false := h
    subst hb
    simp [falses]
    omega
  | b :: m, p + 1, h, h2 => by
    have ih := falses_set m p (by simp only [List.length_cons] at h; omega) h2
    simp only [List.set_cons_succ, falses]
    omega
theorem falses_rep : ∀ n, falses (List.replicate n false) = n
  | 0 => rfl
  | n + 1 => by rw [List.replicate_succ, falses, falses_rep n]; simp; omega
theorem all_rep : ∀ (m : List Bool), m.all id = true → m = List.replicate m.length true
  | [], _ => rfl
  | b :: m, h => by
    simp only [List.all_cons, Bool.and_eq_true, id] at h
    rw [List.length_cons, List.replicate_succ, ← all_rep m h.2, h.1]
theorem putM_none : ∀ (ds : List Nat) (p n : Nat) (g : Nat → Value) (a : Act), putM ds p (List.replicate n false) g a = a
  | [], _, _, _, _ => rfl
  | d :: r, p, n, g, a => by
    unfold putM
    rw [show (List.replicate n false).getD p false = false by
      rw [List.getD_eq_getElem?_getD, List.getElem?_replicate]; split <;> rfl, if_neg (by decide)]
    exact putM_none r (p + 1) n g a
theorem listM_none : ∀ (S : List Nat) (p n : Nat) (l : Array Bool), listM S p (List.replicate n false) l = l
  | [], _, _, _ => rfl
  | d :: r, p, n, l => by
    unfold listM
    rw [show (List.replicate n false).getD p false = false by
      rw [List.getD_eq_getElem?_getD, List.getElem?_replicate]; split <;> rfl, if_neg (by decide)]
    exact listM_none r (p + 1) n l

/-- What is to be shown of the operations S, their slots ds; K is what goes on behind them. -/
def ParZ (P : Program) (ops : Array Oper) (Q : Exit → Act → World → Prop) (E : World → World → Prop) (S ds : List Nat) (K : Act → World → Prop) (a : Act) (w : World) : Prop :=
  ∃ J : List Bool → (Nat → Value) → World → Prop, J (List.replicate S.length false) (fun _ => undef) w ∧
    (∀ m g w1 p a1, p < S.length → m.length = S.length → m.getD p true = false → E w w1 → J m g w1 →
      wpOp P ops Q (S.getD p 0) (fun a' w' => E w w' ∧ ∃ v, a' = a1.put (some (ds.getD p 0)) v ∧ J (m.set p true) (upd g p v) w') a1 w1) ∧
    ∀ g w1, E w w1 → J (List.replicate S.length true) g w1 → K (putM ds 0 (List.replicate S.length true) g a) w1
theorem wpAnyH_par (S ds : List Nat) (l : Array Bool) (hk : parOk ops S l = true) (hnd : ds.Nodup) (hlen : ds.length = S.length) (dep : Nat) {a : Act} {w0 : World} (J : List Bool → (Nat → Value) → World → Prop)
    (hstep : ∀ m g w1 p a1, p < S.length → m.length = S.length → m.getD p true = false → E w0 w1 → J m g w1 →
      wpOp P ops Q (S.getD p 0) (fun a' w' => E w0 w' ∧ ∃ v, a' = a1.put (some (ds.getD p 0)) v ∧ J (m.set p true) (upd g p v) w') a1 w1)
    (hfin : ∀ fuel g w1, dep ≤ fuel → E w0 w1 → J (List.replicate S.length true) g w1 → wpAnyH P .any ops Q (E w0) fuel (listM S 0 (List.replicate S.length true) l) (putM ds 0 (List.replicate S.length true) g a) w1) :
    ∀ (n : Nat) (fuel : Nat) (m : List Bool) (g : Nat → Value) (w1 : World), falses m = n → m.length = S.length → n + dep ≤ fuel → E w0 w1 → J m g w1 → wpAnyH P .any ops Q (E w0) fuel (listM S 0 m l) (putM ds 0 m g a) w1 := by
  intro n
  induction n with
  | zero =>
    intro fuel m g w1 hf hm hfu hE hJ
    have hall : m.all id = true := by
      clear hm hJ
      induction m with
      | nil => rfl
      | cons b m ih =>
        cases b
        · simp [falses] at hf
        · simp only [List.all_cons, id, Bool.true_and]
          exact ih (by simpa [falses] using hf)
    have e := all_rep m hall
    rw [hm] at e
    subst e
    exact hfin fuel g w1 (by omega) hE hJ
  | succ n ih =>
    intro fuel m g w1 hf hm hfu hE hJ
    have hmem := mem_allB m
    rw [hm] at hmem
    have hc := List.all_eq_true.1 hk m hmem
    have hnall : m.all id = false := by
      refine Bool.eq_false_iff.2 fun hall => ?_
      have e := all_rep m hall
      rw [e] at hf
      have h0 : ∀ k, falses (List.replicate k true) = 0 := by
        intro k
        induction k with
        | zero => rfl
        | succ k ih => rw [List.replicate_succ, falses, ih]; rfl
      rw [h0] at hf
      cases hf
    rw [hnall, Bool.false_or, Bool.and_eq_true] at hc
    cases fuel with
    | zero => omega
    | succ fuel =>
      refine wpAnyH_all rfl (fun h0 => by rw [h0] at hc; exact absurd hc.1 (by decide)) fun i hi => ?_
      have hs := List.all_eq_true.1 hc.2 i hi
      unfold parStep at hs
      cases hx : S.idxOf? i with
      | none => rw [hx] at hs; cases hs
      | some p =>
        rw [hx] at hs
        simp only [Bool.and_eq_true, beq_iff_eq, decide_eq_true_eq] at hs
        obtain ⟨⟨⟨h1, h2⟩, h3⟩, h4⟩ := hs
        have hst := hstep m g w1 p (putM ds 0 m g a) (by omega) hm h1 hE hJ
        rw [h3] at hst
        refine wpOp_mono (fun a' w' h' => ?_) hst
        obtain ⟨hE', v, rfl, hJ'⟩ := h'
        refine ⟨hE', ?_⟩
        rw [← h4]
        have hp := putM_set ds 0 m g a p v hnd (by omega) (by omega) (by rw [Nat.zero_add]; exact h1)
        rw [Nat.zero_add] at hp
        rw [hp]
        have hfs := falses_set m p h2 h1
        exact ih fuel _ _ w' (by omega) (by rw [List.length_set]; exact hm) (by omega) hE' hJ'
theorem wp_region_par {id : Nat} {a : Act} {w : World} (E : World → World → Prop) (hrf : ∀ w, E w w) (htr : ∀ w1 w2 w3, E w1 w2 → E w2 w3 → E w1 w3) (n : Nat) (r1 : Stp) (l1 : Array Bool) (S ds : List Nat) (r2 : List (Stp × Nat))
    (hm : P.follows .mixedOrders = true) (hs : Region.noSelect ops = true) (hl : r1.depth + (S.length + planDepth r2) ≤ ops.size) (hk1 : lintzOk ops l1 r1 (Array.replicate ops.size false) = true) (hk2 : parOk ops S l1 = true)
    (hk3 : planOk ops n r2 (listM S 0 (List.replicate S.length true) l1) = true) (hnd : ds.Nodup) (hlen : ds.length = S.length) (hQ : ∀ d v c a w, Q (.panic c) (Act.put a d v) w → Q (.panic c) a w)
    (h : LinZ P ops Q E (fun a1 w1 => ParZ P ops Q E S ds (fun a2 w2 => LinP P ops Q E r2 a2 w2) a1 w1) r1 a w.drew) : (Code.region id ops true).wp P Q a w := by
  refine wp_region_held hm (wpAnyH_lintz hrf htr hs hQ (S.length + planDepth r2) l1 (fun fuel a1 w1 hf hK => ?_) r1 _ _ _ _ hl hk1 h)
  obtain ⟨J, h0, hst, hfin⟩ := hK
  have h1 := wpAnyH_par (E := E) S ds l1 hk2 hnd hlen (planDepth r2) (a := a1) (w0 := w1) J hst (fun fuel g w2 hf2 hE hJ => ?_) S.length fuel (List.replicate S.length false) (fun _ => undef) w1 (falses_rep _) List.length_replicate hf (hrf _) h0
  · rwa [putM_none, listM_none] at h1
  · exact wpAnyH_weaken (fun w3 h3 => htr _ _ _ hE h3) _ _ _ _ (wpAnyH_plan hrf htr hs hQ n r2 _ _ _ _ hf2 hk3 (hfin g w2 hE hJ))

/-- A call among them. -/
theorem parz_fn {i : Nat} {a : Act} {w : World} {o : Oper} {fn : Func} (d f : Nat) (xs : Array Operand) (ts : Array TypeId) (args : Array Value) {R : Ending → World → Prop} {K : Act → World → Prop} (hc : Calls P f args w R)
    (ho : ops[i]? = some o) (hd : o.dst = some d) (hop : o.op = .call { callee := .value (.func f), args := xs, argTypes := ts })
    (hw : Region.wanted o (yielded ops a.tmps) = true) (hf : P.funcs[f]? = some fn) (hn : (fn.name == "runtime.NumGoroutine") = false) (hb : fn.body.isNone = false) (hargs : xs.map a.eval = args)
    (h : ∀ e w', R e w' → ∃ v, e = .returned v ∧ K (a.put (some d) v) w') : wpOp P ops Q i K a w := by
  refine wpOp_step ho fun K' hK => ?_
  rw [if_pos hw]
  unfold Oper.wp
  have he : a.eval (.func f) = .func (.func f) #[] #[] := rfl
  have hx : (execOp a.eval o).run P w = .ok (.enter f args) w := by simp [execOp, hop, resolve, he, Deferred.ofValue, invoke, hargs, run_enter hf hn hb]
  rw [hx]
  refine hc.mono fun e w' hT => ?_
  obtain ⟨v, rfl, h2⟩ := h e w' hT
  exact hK _ _ (by rw [hd]; exact h2)
/-- What makes a value otherwise (an alloc). -/
theorem parz_made {i : Nat} {a : Act} {w : World} {o : Oper} (d : Nat) (op : Op) (t : TypeId) (v : Value) (w1 : World) {K : Act → World → Prop} (ho : ops[i]? = some o) (hd : o.dst = some d) (hop : o.op = op) (ht : o.type = t)
    (hw : Region.wanted o (yielded ops a.tmps) = true) (hx : (execOp a.eval (mkOp op t)).run P w = .ok (.value v) w1) (h : K (a.put (some d) v) w1) : wpOp P ops Q i K a w := by
  refine wpOp_step ho fun K' hK => ?_
  rw [if_pos hw]
  unfold Oper.wp
  rw [exec_mkOp, hop, ht, hx]
  exact hK _ _ (by rw [hd]; exact h)

/-- Calls that tell cs, and rows that are laid: what stands of those that are done. -/
def JP (B : Nat) (cs : Nat → Option Value) (ty : TypeId) (k : Nat) (f : Nat → Value) (m : List Bool) (g : Nat → Value) (w : World) : Prop :=
  ∀ p, m.getD p false = true → (∀ v, cs p = some v → g p = v) ∧ (cs p = none → ∃ b, g p = .pointer (some ⟨b, 0, none⟩) ∧ B ≤ b ∧ w.rowIs b ty k f ∧ ∀ q, q ≠ p → m.getD q false = true → cs q = none → g q ≠ g p)
theorem getD_set_ne (m : List Bool) (p q : Nat) (h : q ≠ p) : (m.set p true).getD q false = m.getD q false := by
  rw [List.getD_eq_getElem?_getD, List.getD_eq_getElem?_getD, List.getElem?_set_ne (by omega)]
theorem upd_self (g : Nat → Value) (p : Nat) (v : Value) : upd g p v p = v := by simp [upd]
theorem upd_ne (g : Nat → Value) (p q : Nat) (v : Value) (h : q ≠ p) : upd g p v q = g q := by simp [upd, h]
theorem JP.start {B : Nat} {cs : Nat → Option Value} {ty : TypeId} {k : Nat} {f : Nat → Value} {n : Nat} {g : Nat → Value} {w : World} : JP B cs ty k f (List.replicate n false) g w := fun p h => by
  rw [List.getD_eq_getElem?_getD, List.getElem?_replicate] at h
  split at h <;> cases h
theorem JP.call {B : Nat} {cs : Nat → Option Value} {ty : TypeId} {k : Nat} {f : Nat → Value} {m : List Bool} {g : Nat → Value} {w w' : World} {p : Nat} {v : Value} (h : JP B cs ty k f m g w) (hb : Below w.heap.size w w') (hc : cs p = some v) :
    JP B cs ty k f (m.set p true) (upd g p v) w' := fun q hq => by
  by_cases e : q = p
  · subst e
    refine ⟨fun u hu => ?_, fun hn => ?_⟩
    · rw [upd_self]
      rw [hc] at hu
      exact Option.some.inj hu
    · rw [hc] at hn
      cases hn
  · rw [getD_set_ne m p q e] at hq
    obtain ⟨h1, h2⟩ := h q hq
    rw [upd_ne g p q v e]
    refine ⟨h1, fun hn => ?_⟩
    obtain ⟨b, k1, k2, k3, k4⟩ := h2 hn
    refine ⟨b, k1, k2, k3.of_block (hb.block _ k3.lt), fun r hr1 hr2 hr3 => ?_⟩
    by_cases e2 : r = p
    · subst e2
      rw [hc] at hr3
      cases hr3
    · rw [upd_ne g p r v e2]
      rw [getD_set_ne m p r e2] at hr2
      exact k4 r hr1 hr2 hr3
theorem JP.alloc {B : Nat} {cs : Nat → Option Value} {ty : TypeId} {k : Nat} {f : Nat → Value} {m : List Bool} {g : Nat → Value} {w : World} {p : Nat} (h : JP B cs ty k f m g w) (hB : B ≤ w.heap.size) (hc : cs p = none)
    (hr : (w.alloc (.cells (arrOf k f) ty)).rowIs w.heap.size ty k f) : JP B cs ty k f (m.set p true) (upd g p (.pointer (some ⟨w.heap.size, 0, none⟩))) (w.alloc (.cells (arrOf k f) ty)) := by
  have hold : ∀ q, q ≠ p → m.getD q false = true → cs q = none → ∃ b, g q = .pointer (some ⟨b, 0, none⟩) ∧ b < w.heap.size := fun q _ hq hn => by
    obtain ⟨b, k1, _, k3, _⟩ := (h q hq).2 hn
    exact ⟨b, k1, k3.lt⟩
  have hne : ∀ b, b < w.heap.size → (Value.pointer (some ⟨b, 0, none⟩)) ≠ .pointer (some ⟨w.heap.size, 0, none⟩) := fun b hb e => by
    have e1 : b = w.heap.size := by
      injection e with e
      injection e with e
      injection e
    omega
  intro q hq
  by_cases e : q = p
  · subst e
    refine ⟨fun u hu => (by rw [hc] at hu; cases hu), fun _ => ⟨w.heap.size, upd_self _ _ _, hB, hr, fun r hr1 hr2 hr3 => ?_⟩⟩
    rw [upd_self, upd_ne _ _ _ _ hr1]
    rw [getD_set_ne _ _ _ hr1] at hr2
    obtain ⟨b, k1, k2⟩ := hold r hr1 hr2 hr3
    rw [k1]
    exact hne b k2
  · rw [getD_set_ne m p q e] at hq
    obtain ⟨h1, h2⟩ := h q hq
    rw [upd_ne _ _ _ _ e]
    refine ⟨h1, fun hn => ?_⟩
    obtain ⟨b, k1, k2, k3, k4⟩ := h2 hn
    refine ⟨b, k1, k2, World.rowIs.alloc k3 _, fun r hr1 hr2 hr3 => ?_⟩
    by_cases e2 : r = p
    · subst e2
      rw [upd_self, k1]
      exact fun e => hne b k3.lt e.symm
    · rw [upd_ne _ _ _ _ e2]
      rw [getD_set_ne m p r e2] at hr2
      exact k4 r hr1 hr2 hr3
theorem JP.row {B : Nat} {cs : Nat → Option Value} {ty : TypeId} {k : Nat} {f : Nat → Value} {n : Nat} {g : Nat → Value} {w : World} (h : JP B cs ty k f (List.replicate n true) g w) (p : Nat) (hp : p < n) (hc : cs p = none) :
    ∃ b, g p = .pointer (some ⟨b, 0, none⟩) ∧ B ≤ b ∧ w.rowIs b ty k f ∧ ∀ q, q ≠ p → q < n → cs q = none → g q ≠ g p := by
  have ht : ∀ q, q < n → (List.replicate n true).getD q false = true := fun q hq => by
    rw [List.getD_eq_getElem?_getD, List.getElem?_replicate, if_pos hq]
    rfl
  obtain ⟨b, h1, h2, h3, h4⟩ := (h p (ht p hp)).2 hc
  exact ⟨b, h1, h2, h3, fun q hq1 hq2 hq3 => h4 q hq1 (ht q hq2) hq3⟩
theorem JP.val {B : Nat} {cs : Nat → Option Value} {ty : TypeId} {k : Nat} {f : Nat → Value} {n : Nat} {g : Nat → Value} {w : World} (h : JP B cs ty k f (List.replicate n true) g w) (p : Nat) (hp : p < n) {v : Value} (hc : cs p = some v) : g p = v := by
  refine (h p ?_).1 v hc
  rw [List.getD_eq_getElem?_getD, List.getElem?_replicate, if_pos hp]
  rfl
theorem ptr_ne {b c : Nat} (h : (Value.pointer (some ⟨b, 0, none⟩)) ≠ .pointer (some ⟨c, 0, none⟩)) : b ≠ c := fun e => h (by rw [e])
end
end Go.Proofs.Ytncdlaidmiokiaa
