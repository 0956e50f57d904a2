/- A region whose operations come up in any order: readers first, then all others as items, each behind those that it waits for. What stands behind some of them is one assertion over which are done: what each answered, which rows were laid and whether they were written. -/
import Derived.Test.YtncdlaidmiokiaaPar
set_option linter.unusedSimpArgs false
set_option linter.unusedVariables false
namespace Go.Proofs.Ytncdlaidmiokiaa
open Go.RowKit Go.Deep

section
variable {P : Program} {ops : Array Oper} {Q : Exit → Act → World → Prop} {E : World → World → Prop}

/-- As many items' answers as are done, in their slots. -/
def putO : List (Option Nat) → Nat → List Bool → (Nat → Value) → Act → Act
  | [], _, _, _, a => a
  | d :: r, p, m, g, a => putO r (p + 1) m g (if m.getD p false = true then a.put d (g p) else a)
/-- No slot twice. -/
def apartO : List (Option Nat) → Bool
  | [] => true
  | d :: r => (d.all fun x => !(r.contains (some x))) && apartO r
theorem putO_congr : ∀ (ds : List (Option Nat)) (p : Nat) (m m' : List Bool) (g g' : Nat → Value) (a : Act), (∀ q, p ≤ q → m.getD q false = m'.getD q false ∧ g q = g' q) → putO ds p m g a = putO ds p m' g' a
  | [], _, _, _, _, _, _, _ => rfl
  | d :: r, p, m, m', g, g', a, h => by
    unfold putO
    obtain ⟨h1, h2⟩ := h p (Nat.le_refl _)
    rw [h1, h2]
    exact putO_congr r (p + 1) m m' g g' _ fun q hq => h q (by omega)
theorem put_putO : ∀ (ds : List (Option Nat)) (p : Nat) (m : List Bool) (g : Nat → Value) (a : Act) (d : Nat) (v : Value), ds.contains (some d) = false → (putO ds p m g a).put (some d) v = putO ds p m g (a.put (some d) v)
  | [], _, _, _, _, _, _, _ => rfl
  | e :: r, p, m, g, a, d, v, h => by
    simp only [List.contains_cons, Bool.or_eq_false_iff, beq_eq_false_iff_ne] at h
    unfold putO
    rw [put_putO r (p + 1) m g _ d v h.2]
    congr 1
    split
    · cases e with
      | none => rfl
      | some e => exact put_comm _ _ _ _ _ (fun he => h.1 (by rw [he]))
    · rfl
theorem putO_set : ∀ (ds : List (Option Nat)) (p : Nat) (m : List Bool) (g : Nat → Value) (a : Act) (k : Nat) (v : Value), apartO ds = true → k < ds.length → p + k < m.length → m.getD (p + k) true = false →
    (putO ds p m g a).put (ds.getD k none) v = putO ds p (m.set (p + k) true) (upd g (p + k) v) a
  | [], _, _, _, _, _, _, _, h, _, _ => by simp at h
  | d :: r, p, m, g, a, 0, v, hnd, _, hl, hm => by
    simp only [apartO, Bool.and_eq_true] at hnd
    have hm2 : m.getD p false = false := by
      rw [Nat.add_zero] at hm hl
      rw [List.getD_eq_getElem?_getD, List.getElem?_eq_getElem hl] at hm ⊢
      exact hm
    have hm3 : (m.set (p + 0) true).getD p false = true := by
      rw [Nat.add_zero] at hl ⊢
      rw [List.getD_eq_getElem?_getD, List.getElem?_set_self hl]
      rfl
    show (putO (d :: r) p m g a).put d v = _
    unfold putO
    rw [hm2, hm3, if_neg (by decide), if_pos rfl]
    have hr : (putO r (p + 1) m g a).put d v = putO r (p + 1) m g (a.put d v) := by
      cases d with
      | none => rfl
      | some d =>
        refine put_putO r (p + 1) m g a d v ?_
        have := hnd.1
        simp only [Option.all_some, Bool.not_eq_true'] at this
        exact this
    rw [hr, show upd g (p + 0) v p = v by simp [upd]]
    refine putO_congr r (p + 1) _ _ _ _ _ fun q hq => ⟨?_, ?_⟩
    · rw [List.getD_eq_getElem?_getD, List.getD_eq_getElem?_getD, List.getElem?_set_ne (by omega)]
    · unfold upd
      rw [if_neg (by omega)]
  | d :: r, p, m, g, a, k + 1, v, hnd, hk, hl, hm => by
    simp only [apartO, Bool.and_eq_true] at hnd
    have e : p + (k + 1) = p + 1 + k := by omega
    rw [e] at hm hl
    have hk2 : k < r.length := by simp only [List.length_cons] at hk; omega
    have h := putO_set r (p + 1) m g (if m.getD p false = true then a.put d (g p) else a) k v hnd.2 hk2 hl hm
    show (putO r (p + 1) m g (if m.getD p false = true then a.put d (g p) else a)).put (r.getD k none) v = putO r (p + 1) (m.set (p + (k + 1)) true) (upd g (p + (k + 1)) v) (if (m.set (p + (k + 1)) true).getD p false = true then a.put d (upd g (p + (k + 1)) v p) else a)
    rw [h, e, show upd g (p + 1 + k) v p = g p by unfold upd; rw [if_neg (by omega)], show (m.set (p + 1 + k) true).getD p false = m.getD p false by
      rw [List.getD_eq_getElem?_getD, List.getD_eq_getElem?_getD, List.getElem?_set_ne (by omega)]]
theorem putO_none : ∀ (ds : List (Option Nat)) (p n : Nat) (g : Nat → Value) (a : Act), putO ds p (List.replicate n false) g a = a
  | [], _, _, _, _ => rfl
  | d :: r, p, n, g, a => by
    unfold putO
    rw [show (List.replicate n false).getD p false = false by
      rw [List.getD_eq_getElem?_getD, List.getElem?_replicate]; split <;> rfl, if_neg (by decide)]
    exact putO_none r (p + 1) n g a
theorem eval_put_ne (a : Act) (e : Option Nat) (v : Value) (d : Nat) (h : e ≠ some d) : (a.put e v).eval (.tmp d) = a.eval (.tmp d) := by
  cases e with
  | none => rfl
  | some e =>
    show (a.tmps.setIfInBounds e v).getD d undef = a.tmps.getD d undef
    have : e ≠ d := fun x => h (by rw [x])
    simp [Array.getD_eq_getD_getElem?, Array.getElem?_setIfInBounds_ne this]
theorem eval_put_self (a : Act) (v : Value) (d : Nat) (h : d < a.tmps.size) : (a.put (some d) v).eval (.tmp d) = v := by
  show (a.tmps.setIfInBounds d v).getD d undef = v
  simp [Array.getD_eq_getD_getElem?, h]
theorem size_put (a : Act) (e : Option Nat) (v : Value) : (a.put e v).tmps.size = a.tmps.size := by
  cases e <;> simp [Act.put]
/-- What is no item's slot is as it was. -/
theorem putO_other : ∀ (ds : List (Option Nat)) (p : Nat) (m : List Bool) (g : Nat → Value) (a : Act) (d : Nat), ds.contains (some d) = false → (putO ds p m g a).eval (.tmp d) = a.eval (.tmp d)
  | [], _, _, _, _, _, _ => rfl
  | e :: r, p, m, g, a, d, h => by
    simp only [List.contains_cons, Bool.or_eq_false_iff, beq_eq_false_iff_ne] at h
    unfold putO
    rw [putO_other r (p + 1) m g _ d h.2]
    split
    · exact eval_put_ne _ _ _ _ (Ne.symm h.1)
    · rfl
/-- An item's slot, once it is done. -/
theorem putO_done : ∀ (ds : List (Option Nat)) (p : Nat) (m : List Bool) (g : Nat → Value) (a : Act) (q d : Nat), apartO ds = true → ds[q]? = some (some d) → m.getD (p + q) false = true → d < a.tmps.size → (putO ds p m g a).eval (.tmp d) = g (p + q)
  | [], _, _, _, _, _, _, _, h, _, _ => by simp at h
  | e :: r, p, m, g, a, 0, d, hap, h, hm, hs => by
    simp only [apartO, Bool.and_eq_true] at hap
    have he : e = some d := by simpa using h
    subst he
    unfold putO
    rw [if_pos (by simpa using hm), putO_other r (p + 1) m g _ d (by simpa using hap.1)]
    exact eval_put_self _ _ _ hs
  | e :: r, p, m, g, a, q + 1, d, hap, h, hm, hs => by
    simp only [apartO, Bool.and_eq_true] at hap
    unfold putO
    rw [show p + (q + 1) = p + 1 + q by omega] at hm ⊢
    refine putO_done r (p + 1) m g _ q d hap.2 (by simpa using h) hm ?_
    split
    · rw [size_put]; exact hs
    · exact hs

/-- Each that is done has those that it waits for. -/
def closedO (deps : List (List Nat)) (m : List Bool) : Bool := (List.range m.length).all fun p => !m.getD p false || (deps.getD p []).all fun q => m.getD q false
/-- Which operations wait for which, in numbers. -/
def tblOf (ops : Array Oper) : List (Nat × List Nat) := (List.range ops.size).map fun i => (i, match ops[i]? with
  | some o => (o.after.toList.filter fun e => Region.binds .any e).map (·.on)
  | none => [])
def readyN (tbl : List (Nat × List Nat)) (M : Nat) : List Nat := (tbl.filter fun x => !M.testBit x.1 && x.2.all fun j => M.testBit j).map (·.1)
theorem readyN_mem {ops : Array Oper} {listed : Array Bool} {M : Nat} (hs : listed.size = ops.size) (H : ∀ j, listed.getD j false = M.testBit j) (i : Nat) : i ∈ Region.ready .any ops listed ↔ i ∈ readyN (tblOf ops) M := by
  have hsame : ∀ j, j < ops.size → listed.getD j true = listed.getD j false := fun j hj => by
    rw [Array.getD_eq_getD_getElem?, Array.getD_eq_getD_getElem?, Array.getElem?_eq_getElem (by omega)]
    rfl
  rw [mem_ready]
  unfold readyN tblOf
  simp only [List.mem_map, List.mem_filter, List.mem_range, Bool.and_eq_true, Bool.not_eq_true', List.all_eq_true]
  constructor
  · rintro ⟨h1, o, ho, h2⟩
    have hi : i < ops.size := (Array.getElem?_eq_some_iff.1 ho).1
    refine ⟨_, ⟨⟨i, hi, rfl⟩, ?_, ?_⟩, rfl⟩
    · dsimp only
      rw [← H, ← hsame i hi]
      exact h1
    · dsimp only
      rw [ho]
      intro j hj
      obtain ⟨e, he, rfl⟩ := List.mem_map.1 hj
      rw [List.mem_filter] at he
      rw [← H]
      exact h2 e (by simpa using he.1) he.2
  · rintro ⟨x, ⟨⟨k, hk, rfl⟩, h1, h2⟩, rfl⟩
    dsimp only at *
    obtain ⟨o, ho⟩ : ∃ o, ops[k]? = some o := ⟨_, Array.getElem?_eq_getElem hk⟩
    rw [ho] at h2
    refine ⟨?_, o, ho, fun e he hb => ?_⟩
    · rw [hsame k hk, H]
      exact h1
    · rw [H]
      exact h2 _ (List.mem_map.2 ⟨e, List.mem_filter.2 ⟨by simpa using he, hb⟩, rfl⟩)
def dedupN : List Nat → List Nat
  | [] => []
  | m :: r => if (dedupN r).contains m then dedupN r else m :: dedupN r
theorem mem_dedupN {x : Nat} : ∀ {L : List Nat}, x ∈ L → x ∈ dedupN L
  | m :: r, h => by
    unfold dedupN
    rcases List.mem_cons.1 h with rfl | h
    · split
      · rename_i hc
        simpa using hc
      · exact List.mem_cons_self
    · split
      · exact mem_dedupN h
      · exact List.mem_cons_of_mem _ (mem_dedupN h)
def stepN (S : List Nat) (deps : List (List Nat)) (M i : Nat) : Bool :=
  match S.idxOf? i with
  | none => false
  | some p => (S.getD p 0 == i) && decide (p < S.length) && (deps.getD p []).all fun q => decide (q < S.length) && M.testBit (S.getD q 0)
/-- What may be done behind one more item. -/
def nextN (tbl : List (Nat × List Nat)) (L : List Nat) : List Nat := dedupN (L.flatMap fun M => (readyN tbl M).map fun i => M ||| 1 <<< i)
def poGo (tbl : List (Nat × List Nat)) (S : List Nat) (deps : List (List Nat)) : Nat → List Nat → Bool
  | 0, L => L.all fun M => (readyN tbl M).isEmpty
  | n + 1, L => (L.all fun M => !(readyN tbl M).isEmpty && (readyN tbl M).all fun i => stepN S deps M i) && poGo tbl S deps n (nextN tbl L)
def nodupN : List Nat → Bool
  | [] => true
  | m :: r => !r.contains m && nodupN r
def startN (S : List Nat) (l1 : Array Bool) (n M0 : Nat) : Bool := l1.size == n && decide (M0 < 2 ^ n) && ((List.range n).all fun j => l1.getD j false == M0.testBit j) && (S.all fun i => decide (i < n) && !M0.testBit i) && nodupN S
def poOk (ops : Array Oper) (S : List Nat) (deps : List (List Nat)) (l1 : Array Bool) (tbl : List (Nat × List Nat)) (M0 : Nat) : Bool := (tblOf ops == tbl) && startN S l1 ops.size M0 && poGo tbl S deps S.length [M0]
theorem listM_set : ∀ (S : List Nat) (p : Nat) (m : List Bool) (l : Array Bool) (k : Nat), k < S.length → p + k < m.length → listM S p (m.set (p + k) true) l = (listM S p m l).setIfInBounds (S.getD k 0) true
  | [], _, _, _, _, h, _ => by simp at h
  | i :: r, p, m, l, k, h, hl => by
    have hcomm : ∀ (r : List Nat) (p : Nat) (m : List Bool) (l : Array Bool) (i : Nat), listM r p m (l.setIfInBounds i true) = (listM r p m l).setIfInBounds i true := by
      intro r
      induction r with
      | nil => intros; rfl
      | cons j r ih =>
        intro p m l i
        unfold listM
        split
        · rw [show (l.setIfInBounds i true).setIfInBounds j true = (l.setIfInBounds j true).setIfInBounds i true by
            by_cases e : i = j
            · rw [e]
            · exact (Array.setIfInBounds_comm _ _ e)]
          exact ih _ _ _ _
        · exact ih _ _ _ _
    have hcg : ∀ (r : List Nat) (p : Nat) (m m' : List Bool) (l : Array Bool), (∀ q, p ≤ q → m.getD q false = m'.getD q false) → listM r p m l = listM r p m' l := by
      intro r
      induction r with
      | nil => intros; rfl
      | cons j r ih =>
        intro p m m' l hq
        unfold listM
        rw [hq p (Nat.le_refl _)]
        exact ih _ _ _ _ fun q hq' => hq q (by omega)
    cases k with
    | zero =>
      show listM (i :: r) p (m.set (p + 0) true) l = (listM (i :: r) p m l).setIfInBounds i true
      unfold listM
      rw [show (m.set (p + 0) true).getD p false = true by
        rw [Nat.add_zero] at hl ⊢
        rw [List.getD_eq_getElem?_getD, List.getElem?_set_self hl]; rfl, if_pos rfl]
      rw [hcg r (p + 1) (m.set (p + 0) true) m _ (fun q hq => getD_set_ne m (p + 0) q (by omega)), hcomm]
      split
      · rw [hcomm]
        rw [Array.setIfInBounds_setIfInBounds]
      · rfl
    | succ k =>
      have h2 : k < r.length := by simpa using h
      have ih := listM_set r (p + 1) m (if m.getD p false = true then l.setIfInBounds i true else l) k h2 (by omega)
      unfold listM
      rw [getD_set_ne m (p + (k + 1)) p (by omega), show p + (k + 1) = p + 1 + k by omega, ih]
      rfl
theorem closedO_spec {deps : List (List Nat)} {m : List Bool} (h : closedO deps m = true) {p q : Nat} (hp : m.getD p false = true) (hq : q ∈ deps.getD p []) : m.getD q false = true := by
  have hl : p < m.length := by
    refine Nat.lt_of_not_le fun hn => ?_
    rw [List.getD_eq_getElem?_getD, List.getElem?_eq_none hn] at hp
    cases hp
  have h1 := List.all_eq_true.1 h p (List.mem_range.2 hl)
  rw [hp, Bool.not_true, Bool.false_or] at h1
  exact List.all_eq_true.1 h1 q hq
theorem closedO_set {deps : List (List Nat)} {m : List Bool} (h : closedO deps m = true) {p : Nat} (hd : ((deps.getD p []).all fun q => m.getD q false) = true) : closedO deps (m.set p true) = true := by
  refine List.all_eq_true.2 fun r hr => ?_
  rw [List.length_set, List.mem_range] at hr
  have mono : ∀ q, m.getD q false = true → (m.set p true).getD q false = true := fun q hq => by
    by_cases e : q = p
    · subst e
      have hl : q < m.length := by
        refine Nat.lt_of_not_le fun hn => ?_
        rw [List.getD_eq_getElem?_getD, List.getElem?_eq_none hn] at hq
        cases hq
      rw [List.getD_eq_getElem?_getD, List.getElem?_set_self hl]
      rfl
    · rw [getD_set_ne m p q e]
      exact hq
  by_cases e : r = p
  · subst e
    rw [Bool.or_eq_true]
    right
    exact List.all_eq_true.2 fun q hq => mono q (List.all_eq_true.1 hd q hq)
  · rw [getD_set_ne m p r e]
    cases hm : m.getD r false with
    | false => rfl
    | true =>
      rw [Bool.not_true, Bool.false_or]
      exact List.all_eq_true.2 fun q hq => mono q (closedO_spec h hm hq)

/-- What goes on behind the region. -/
def PoEnd (Q : Exit → Act → World → Prop) (a : Act) (w : World) : Prop := Q .normal a w
theorem po_end {a : Act} {w : World} (h : Q .normal a w) : PoEnd Q a w := h
/-- What is to be shown of the items. -/
def PoZ (P : Program) (ops : Array Oper) (Q : Exit → Act → World → Prop) (E : World → World → Prop) (S : List Nat) (ds : List (Option Nat)) (deps : List (List Nat)) (a : Act) (w : World) : Prop :=
  ∃ J : List Bool → (Nat → Value) → World → Prop, J (List.replicate S.length false) (fun _ => undef) w ∧
    (∀ m g w1 p a1, p < S.length → m.length = S.length → m.getD p true = false → closedO deps m = true → (∀ q, q ∈ deps.getD p [] → m.getD q false = true) → E w w1 → J m g w1 →
      (∀ q d, ds[q]? = some (some d) → m.getD q false = true → d < a.tmps.size → a1.eval (.tmp d) = g q) → (∀ d, ds.contains (some d) = false → a1.eval (.tmp d) = a.eval (.tmp d)) →
      wpOp P ops Q (S.getD p 0) (fun a' w' => E w w' ∧ ∃ v, a' = a1.put (ds.getD p none) v ∧ J (m.set p true) (upd g p v) w') a1 w1) ∧
    ∀ g w1, E w w1 → J (List.replicate S.length true) g w1 → PoEnd Q (putO ds 0 (List.replicate S.length true) g a) w1
theorem nodupN_ne : ∀ {S : List Nat}, nodupN S = true → ∀ {p q : Nat}, p < S.length → q < S.length → p ≠ q → S.getD p 0 ≠ S.getD q 0
  | [], _, _, _, h, _, _ => by simp at h
  | i :: r, hn, p, q, hp, hq, hpq => by
    simp only [nodupN, Bool.and_eq_true, Bool.not_eq_true', List.contains_eq_mem, decide_eq_false_iff_not] at hn
    have hmem : ∀ k, k < r.length → r.getD k 0 ∈ r := fun k hk => by
      rw [List.getD_eq_getElem?_getD, List.getElem?_eq_getElem hk]
      exact List.getElem_mem hk
    cases p with
    | zero =>
      cases q with
      | zero => exact absurd rfl hpq
      | succ q =>
        intro e
        have e' : i = r.getD q 0 := e
        exact hn.1 (e' ▸ hmem q (by simpa using hq))
    | succ p =>
      cases q with
      | zero =>
        intro e
        have e' : r.getD p 0 = i := e
        exact hn.1 (e' ▸ hmem p (by simpa using hp))
      | succ q => exact nodupN_ne hn.2 (p := p) (q := q) (by simpa using hp) (by simpa using hq) (by omega)
/-- The mask of what is done agrees with what is listed. -/
structure MaskOk (S : List Nat) (l : Array Bool) (n : Nat) (m : List Bool) (M : Nat) : Prop where
  size : (listM S 0 m l).size = n
  all : ∀ j, (listM S 0 m l).getD j false = M.testBit j
  item : ∀ q, q < S.length → m.getD q false = M.testBit (S.getD q 0)
theorem bit_or (M i j : Nat) : (M ||| 1 <<< i).testBit j = (M.testBit j || decide (j = i)) := by
  rw [Nat.testBit_or, Nat.testBit_shiftLeft]
  by_cases h : j = i
  · subst h
    simp
  · rw [decide_eq_false h]
    congr 1
    by_cases h2 : i ≤ j
    · rw [decide_eq_true h2, Bool.true_and]
      refine Bool.eq_false_iff.2 fun h3 => ?_
      have := Nat.testBit_one_eq_true_iff_self_eq_zero.1 h3
      omega
    · rw [decide_eq_false h2, Bool.false_and]
theorem MaskOk.step {S : List Nat} {l : Array Bool} {n : Nat} {m : List Bool} {M p : Nat} (h : MaskOk S l n m M) (hnd : nodupN S = true) (hp : p < S.length) (hm : m.length = S.length) (hS : S.getD p 0 < n) : MaskOk S l n (m.set p true) (M ||| 1 <<< (S.getD p 0)) := by
  have e := listM_set S 0 m l p hp (by omega)
  rw [Nat.zero_add] at e
  refine ⟨by rw [e, Array.size_setIfInBounds]; exact h.size, fun j => ?_, fun q hq => ?_⟩
  · rw [e, bit_or]
    by_cases hj : j = S.getD p 0
    · rw [decide_eq_true hj, Bool.or_true, hj, Array.getD_eq_getD_getElem?, Array.getElem?_setIfInBounds_self_of_lt (by rw [h.size]; exact hS)]
      rfl
    · rw [decide_eq_false hj, Bool.or_false, Array.getD_eq_getD_getElem?, Array.getElem?_setIfInBounds_ne (Ne.symm hj), ← Array.getD_eq_getD_getElem?]
      exact h.all j
  · rw [bit_or]
    by_cases hq2 : q = p
    · subst hq2
      rw [decide_eq_true rfl, Bool.or_true, List.getD_eq_getElem?_getD, List.getElem?_set_self (by omega)]
      rfl
    · rw [getD_set_ne m p q hq2, h.item q hq, decide_eq_false (nodupN_ne hnd hq hp hq2), Bool.or_false]
theorem wpAnyH_po (S : List Nat) (ds : List (Option Nat)) (deps : List (List Nat)) (l : Array Bool) (hnd : apartO ds = true) (hlen : ds.length = S.length) (hS : nodupN S = true) (hSn : ∀ i, i ∈ S → i < ops.size) {a : Act} {w0 : World} (J : List Bool → (Nat → Value) → World → Prop)
    (hstep : ∀ m g w1 p a1, p < S.length → m.length = S.length → m.getD p true = false → closedO deps m = true → (∀ q, q ∈ deps.getD p [] → m.getD q false = true) → E w0 w1 → J m g w1 →
      (∀ q d, ds[q]? = some (some d) → m.getD q false = true → d < a.tmps.size → a1.eval (.tmp d) = g q) → (∀ d, ds.contains (some d) = false → a1.eval (.tmp d) = a.eval (.tmp d)) →
      wpOp P ops Q (S.getD p 0) (fun a' w' => E w0 w' ∧ ∃ v, a' = a1.put (ds.getD p none) v ∧ J (m.set p true) (upd g p v) w') a1 w1)
    (hfin : ∀ g w1, E w0 w1 → J (List.replicate S.length true) g w1 → Q .normal (putO ds 0 (List.replicate S.length true) g a) w1) :
    ∀ (n : Nat) (fuel : Nat) (L : List Nat) (M : Nat) (m : List Bool) (g : Nat → Value) (w1 : World), poGo (tblOf ops) S deps n L = true → M ∈ L → MaskOk S l ops.size m M → falses m = n → m.length = S.length → n ≤ fuel → closedO deps m = true → E w0 w1 → J m g w1 → wpAnyH P .any ops Q (E w0) fuel (listM S 0 m l) (putO ds 0 m g a) w1 := by
  intro n
  induction n with
  | zero =>
    intro fuel L M m g w1 hk hmem hM hf hm hfu hcl hE hJ
    have hall : m.all id = true := by
      clear hm hJ hcl hM
      induction m with
      | nil => rfl
      | cons b m ih =>
        cases b
        · simp [falses] at hf
        · simp only [List.all_cons, id, Bool.true_and]
          exact ih (by simpa [falses] using hf)
    have e := all_rep m hall
    rw [hm] at e
    subst e
    have h0 : readyN (tblOf ops) M = [] := by simpa using List.all_eq_true.1 hk M hmem
    refine wpAnyH_done ?_ (hfin g w1 hE hJ) fuel
    refine List.eq_nil_iff_forall_not_mem.2 fun i hi => ?_
    have := (readyN_mem hM.size hM.all i).1 hi
    rw [h0] at this
    cases this
  | succ n ih =>
    intro fuel L M m g w1 hk hmem hM hf hm hfu hcl hE hJ
    rw [poGo, Bool.and_eq_true] at hk
    have hc := List.all_eq_true.1 hk.1 M hmem
    rw [Bool.and_eq_true] at hc
    cases fuel with
    | zero => omega
    | succ fuel =>
      refine wpAnyH_all rfl (fun h0 => ?_) fun i hi => ?_
      · have h1 : readyN (tblOf ops) M = [] := List.eq_nil_iff_forall_not_mem.2 fun i hi => by
          have := (readyN_mem hM.size hM.all i).2 hi
          rw [h0] at this
          cases this
        rw [h1] at hc
        exact absurd hc.1 (by decide)
      have hiN := (readyN_mem hM.size hM.all i).1 hi
      have hs := List.all_eq_true.1 hc.2 i hiN
      unfold stepN at hs
      cases hx : S.idxOf? i with
      | none => rw [hx] at hs; cases hs
      | some p =>
        rw [hx] at hs
        simp only [Bool.and_eq_true, beq_iff_eq, decide_eq_true_eq] at hs
        obtain ⟨⟨h3, h2⟩, h5⟩ := hs
        have hbit : M.testBit i = false := by
          have := (mem_ready.1 hi).1
          have hi2 : i < ops.size := by obtain ⟨_, o, ho, _⟩ := mem_ready.1 hi; exact (Array.getElem?_eq_some_iff.1 ho).1
          rw [← hM.all]
          rw [Array.getD_eq_getD_getElem?, Array.getElem?_eq_getElem (by rw [hM.size]; exact hi2)] at this ⊢
          exact this
        have h1f : m.getD p false = false := by rw [hM.item p h2, h3]; exact hbit
        have h1 : m.getD p true = false := by
          rw [List.getD_eq_getElem?_getD, List.getElem?_eq_getElem (by omega)] at h1f ⊢
          exact h1f
        have h5' : ∀ q, q ∈ deps.getD p [] → m.getD q false = true := fun q hq => by
          have := List.all_eq_true.1 h5 q hq
          simp only [Bool.and_eq_true, decide_eq_true_eq] at this
          rw [hM.item q this.1]
          exact this.2
        have hst := hstep m g w1 p (putO ds 0 m g a) h2 hm h1 hcl h5' hE hJ
          (fun q d hq hmq hd => by have := putO_done ds 0 m g a q d hnd hq (by rw [Nat.zero_add]; exact hmq) hd; rwa [Nat.zero_add] at this) (fun d hd => putO_other ds 0 m g a d hd)
        rw [h3] at hst
        refine wpOp_mono (fun a' w' h' => ?_) hst
        obtain ⟨hE', v, rfl, hJ'⟩ := h'
        refine ⟨hE', ?_⟩
        have hl := listM_set S 0 m l p h2 (by omega)
        rw [Nat.zero_add, h3] at hl
        rw [← hl]
        have hp := putO_set ds 0 m g a p v hnd (by omega) (by omega) (by rw [Nat.zero_add]; exact h1)
        rw [Nat.zero_add] at hp
        rw [hp]
        have hiS : i ∈ S := by
          have : S.getD p 0 ∈ S := by
            rw [List.getD_eq_getElem?_getD, List.getElem?_eq_getElem h2]
            exact List.getElem_mem h2
          rwa [h3] at this
        have hnext : M ||| 1 <<< i ∈ nextN (tblOf ops) L := mem_dedupN (List.mem_flatMap.2 ⟨M, hmem, List.mem_map.2 ⟨i, hiN, rfl⟩⟩)
        have hM' := hM.step hS h2 hm (by rw [h3]; exact hSn i hiS)
        rw [h3] at hM'
        have hfs := falses_set m p (by omega) h1
        exact ih fuel _ _ _ _ w' hk.2 hnext hM' (by omega) (by rw [List.length_set]; exact hm) (by omega) (closedO_set hcl (List.all_eq_true.2 h5')) hE' hJ'
theorem closedO_none (deps : List (List Nat)) (n : Nat) : closedO deps (List.replicate n false) = true := by
  refine List.all_eq_true.2 fun p _ => ?_
  rw [show (List.replicate n false).getD p false = false by
    rw [List.getD_eq_getElem?_getD, List.getElem?_replicate]; split <;> rfl]
  rfl
theorem wp_region_po {id : Nat} {a : Act} {w : World} (E : World → World → Prop) (hrf : ∀ w, E w w) (htr : ∀ w1 w2 w3, E w1 w2 → E w2 w3 → E w1 w3) (r1 : Stp) (l1 : Array Bool) (S : List Nat) (ds : List (Option Nat)) (deps : List (List Nat)) (tbl : List (Nat × List Nat)) (M0 : Nat)
    (hm : P.follows .mixedOrders = true) (hs : Region.noSelect ops = true) (hl : r1.depth + S.length ≤ ops.size) (hk1 : lintzOk ops l1 r1 (Array.replicate ops.size false) = true) (hk2 : poOk ops S deps l1 tbl M0 = true)
    (hnd : apartO ds = true) (hlen : ds.length = S.length) (hQ : ∀ d v c a w, Q (.panic c) (Act.put a d v) w → Q (.panic c) a w)
    (h : LinZ P ops Q E (fun a1 w1 => PoZ P ops Q E S ds deps a1 w1) r1 a w.drew) : (Code.region id ops true).wp P Q a w := by
  refine wp_region_held hm (wpAnyH_lintz hrf htr hs hQ S.length l1 (fun fuel a1 w1 hf hK => ?_) r1 _ _ _ _ hl hk1 h)
  obtain ⟨J, h0, hst, hfin⟩ := hK
  simp only [poOk, Bool.and_eq_true, beq_iff_eq] at hk2
  obtain ⟨⟨ht, hstart⟩, hgo⟩ := hk2
  subst ht
  simp only [startN, Bool.and_eq_true, beq_iff_eq, decide_eq_true_eq, List.all_eq_true, List.mem_range, Bool.not_eq_true'] at hstart
  obtain ⟨⟨⟨⟨hsz, hM0⟩, hbits⟩, hS⟩, hSnd⟩ := hstart
  have hMk : MaskOk S l1 ops.size (List.replicate S.length false) M0 := by
    refine ⟨by rw [listM_none]; exact hsz, fun j => ?_, fun q hq => ?_⟩
    · rw [listM_none]
      by_cases hj : j < ops.size
      · exact hbits j hj
      · rw [Array.getD_eq_getD_getElem?, Array.getElem?_eq_none (by omega)]
        exact (Nat.testBit_lt_two_pow (Nat.lt_of_lt_of_le hM0 (Nat.pow_le_pow_right (by decide) (by omega)))).symm
    · rw [show (List.replicate S.length false).getD q false = false by
        rw [List.getD_eq_getElem?_getD, List.getElem?_replicate]; split <;> rfl]
      have hmem : S.getD q 0 ∈ S := by
        rw [List.getD_eq_getElem?_getD, List.getElem?_eq_getElem hq]
        exact List.getElem_mem hq
      exact (hS _ hmem).2.symm
  have h1 := wpAnyH_po (E := E) S ds deps l1 hnd hlen hSnd (fun i hi => (hS i hi).1) (a := a1) (w0 := w1) J hst hfin S.length fuel _ M0 (List.replicate S.length false) (fun _ => undef) w1 hgo (List.mem_singleton.2 rfl) hMk (falses_rep _) List.length_replicate hf (closedO_none _ _) (hrf _) h0
  rwa [putO_none, listM_none] at h1
end

/-! ### What stands behind some of the items -/

/-- All blocks as they were, but those of the list. -/
structure Keep (bs : List Nat) (w w' : World) : Prop where
  os : w'.os = w.os
  tape : w'.tape = w.tape
  output : w'.output = w.output
  size : w.heap.size ≤ w'.heap.size
  block : ∀ k, k < w.heap.size → bs.contains k = false → w'.heap[k]? = w.heap[k]?
theorem Keep.refl (bs : List Nat) (w : World) : Keep bs w w := ⟨rfl, rfl, rfl, Nat.le_refl _, fun _ _ _ => rfl⟩
theorem Keep.trans {bs : List Nat} {a b c : World} (h : Keep bs a b) (k : Keep bs b c) : Keep bs a c :=
  ⟨k.os.trans h.os, k.tape.trans h.tape, k.output.trans h.output, Nat.le_trans h.size k.size, fun i hi hb => (k.block i (by have := h.size; omega) hb).trans (h.block i hi hb)⟩
theorem Keep.of {bs : List Nat} {w w' : World} (h : Below w.heap.size w w') : Keep bs w w' := ⟨h.os, h.tape, h.output, h.size, fun k hk _ => h.block k hk⟩
theorem Keep.of_grown {bs : List Nat} {w0 w w' : World} {b : Nat} (h0 : Keep bs w0 w) (h : w.grownBy w' (some b)) (hb : w0.heap.size ≤ b ∨ bs.contains b = true) : Keep bs w0 w' :=
  ⟨h.os.trans h0.os, h.tape.trans h0.tape, h.output.trans h0.output, Nat.le_trans h0.size h.size, fun k hk hk2 => (h.block k (by have := h0.size; omega) (fun e => by
    have e1 : k = b := Option.some.inj e
    subst e1
    rcases hb with hb | hb
    · omega
    · rw [hb] at hk2; cases hk2)).trans (h0.block k hk hk2)⟩
theorem Keep.below {bs : List Nat} {B : Nat} {w w1 w2 : World} (h : Keep bs w1 w2) (hb : Below B w w1) (hs : B ≤ w1.heap.size) (hbs : (bs.all fun b => decide (B ≤ b)) = true) : Below B w w2 :=
  hb.trans ⟨h.os, h.tape, h.output, h.size, fun k hk => h.block k (by omega) (by
    refine Bool.eq_false_iff.2 fun hc => ?_
    have h1 := List.all_eq_true.1 hbs k (by simpa using hc)
    simp only [decide_eq_true_eq] at h1
    omega)⟩
theorem Keep.row {bs : List Nat} {w w' : World} {b m : Nat} {t : TypeId} {f : Nat → Value} (h : Keep bs w w') (hr : w.rowIs b t m f) (hb : bs.contains b = false) : w'.rowIs b t m f := hr.of_block (h.block b hr.lt hb)
theorem keep_all1 {B b : Nat} (h : B ≤ b) : ([b].all fun b => decide (B ≤ b)) = true := by simp [h]
theorem keep_all2 {B b c : Nat} (h : B ≤ b) (k : B ≤ c) : ([b, c].all fun b => decide (B ≤ b)) = true := by simp [h, k]

inductive PI where
  | val (v : Value)
  | row (ty : TypeId) (k : Nat) (f0 : Nat → Value) (s : Nat) (f1 : Nat → Value)
  | own (l : List UInt8) (u : Nat)
  | nil
/-- A row that was there: its block, type, cells, what it was, the item that writes it, what it is then. -/
structure Old where
  b : Nat
  ty : TypeId
  k : Nat
  f0 : Nat → Value
  s : Nat
  f1 : Nat → Value
def PI.isRow : PI → Bool | .row .. => true | _ => false
def PI.isNil : PI → Bool | .nil => true | _ => false
/-- A row, or bytes of one's own that no item has appended to as yet. -/
def PI.lives (m : List Bool) : PI → Bool | .row .. => true | .own _ u => !m.getD u false | _ => false
def blkOf : Value → Option Nat
  | .pointer (some a) => some a.block
  | .slice (some a) _ _ => some a.block
  | _ => none
def PIfact (N : Nat) (m : List Bool) (g : Nat → Value) (w : World) (p : Nat) : PI → Prop
  | .val v => g p = v
  | .row ty k f0 s f1 => ∃ b, g p = .pointer (some ⟨b, 0, none⟩) ∧ N ≤ b ∧ w.rowIs b ty k (if m.getD s false = true then f1 else f0)
  | .own l u => m.getD u false = false → Owns w N (g p) l
  | .nil => True
/-- What writes a row is a store. -/
def poWf (it : List PI) (olds : List Old) : Bool := (it.all fun i => match i with | .row _ _ _ s _ => (it.getD s .nil).isNil | _ => true) && olds.all fun o => (it.getD o.s .nil).isNil
structure JG (it : List PI) (olds : List Old) (N : Nat) (m : List Bool) (g : Nat → Value) (w : World) : Prop where
  le : N ≤ w.heap.size
  olds : ∀ i, (h : i < olds.length) → w.rowIs olds[i].b olds[i].ty olds[i].k (if m.getD olds[i].s false = true then olds[i].f1 else olds[i].f0)
  items : ∀ p, m.getD p false = true → PIfact N m g w p (it.getD p .nil)
  apart : ∀ p q, p ≠ q → m.getD p false = true → m.getD q false = true → (it.getD p .nil).lives m = true → (it.getD q .nil).lives m = true → ∀ b, blkOf (g p) = some b → blkOf (g q) ≠ some b
theorem getD_rep (n q : Nat) (h : q < n) : (List.replicate n true).getD q false = true := by
  rw [List.getD_eq_getElem?_getD, List.getElem?_replicate, if_pos h]
  rfl
theorem getD_repF (n q : Nat) : (List.replicate n false).getD q false = false := by
  rw [List.getD_eq_getElem?_getD, List.getElem?_replicate]; split <;> rfl
theorem getD_set_self' (m : List Bool) (p : Nat) (h : p < m.length) : (m.set p true).getD p false = true := by
  rw [List.getD_eq_getElem?_getD, List.getElem?_set_self h]
  rfl
theorem getD_set_false {m : List Bool} {p q : Nat} (h : (m.set p true).getD q false = false) : m.getD q false = false := by
  by_cases e : q = p
  · subst e
    cases hx : m.getD q false with
    | false => rfl
    | true =>
      have hl : q < m.length := by
        refine Nat.lt_of_not_le fun hn => ?_
        rw [List.getD_eq_getElem?_getD, List.getElem?_eq_none hn] at hx
        cases hx
      rw [getD_set_self' m q hl] at h
      cases h
  · rwa [getD_set_ne m p q e] at h
theorem PI.lives_less {i : PI} {m : List Bool} {p : Nat} (h : i.lives (m.set p true) = true) : i.lives m = true := by
  cases i with
  | val _ => cases h
  | nil => cases h
  | row _ _ _ _ _ => rfl
  | own l u =>
    simp only [PI.lives, Bool.not_eq_true'] at h ⊢
    exact getD_set_false h
theorem JG.start {it : List PI} {olds : List Old} {N n : Nat} {g : Nat → Value} {w : World} (hN : N ≤ w.heap.size) (h : ∀ i, (h : i < olds.length) → w.rowIs olds[i].b olds[i].ty olds[i].k olds[i].f0) : JG it olds N (List.replicate n false) g w :=
  ⟨hN, fun i hi => by rw [getD_repF, if_neg (by decide)]; exact h i hi, fun p hp => (by rw [getD_repF] at hp; cases hp), fun p q _ hp => (by rw [getD_repF] at hp; cases hp)⟩
theorem poWf_row {it : List PI} {olds : List Old} (h : poWf it olds = true) {q : Nat} {ty : TypeId} {k : Nat} {f0 : Nat → Value} {s : Nat} {f1 : Nat → Value} (hq : it.getD q .nil = .row ty k f0 s f1) : (it.getD s .nil).isNil = true := by
  simp only [poWf, Bool.and_eq_true] at h
  have hm : it.getD q .nil ∈ it := by
    rw [List.getD_eq_getElem?_getD] at hq ⊢
    cases hx : it[q]? with
    | none => rw [hx] at hq; cases hq
    | some i => exact List.mem_of_getElem? hx
  have h1 := List.all_eq_true.1 h.1 _ hm
  rw [hq] at h1
  exact h1
theorem poWf_old {it : List PI} {olds : List Old} (h : poWf it olds = true) {i : Nat} (hi : i < olds.length) : (it.getD olds[i].s .nil).isNil = true := by
  simp only [poWf, Bool.and_eq_true] at h
  exact List.all_eq_true.1 h.2 _ (List.getElem_mem hi)
theorem PIfact.congr {N : Nat} {m : List Bool} {g g' : Nat → Value} {w : World} {p : Nat} {i : PI} (h : PIfact N m g w p i) (hg : g' p = g p) : PIfact N m g' w p i := by
  cases i with
  | nil => trivial
  | val v => exact hg.trans h
  | row ty k f0 s f1 =>
    obtain ⟨b, h1, h2⟩ := h
    exact ⟨b, hg.trans h1, h2⟩
  | own l u =>
    intro hu
    rw [hg]
    exact h hu
theorem Owns.blk {w : World} {N : Nat} {v : Value} {l : List UInt8} (h : Owns w N v l) {b : Nat} (hb : blkOf v = some b) : v.ownBlock = some b ∧ N ≤ b ∧ b < w.heap.size := by
  have hv : v.ownBlock = some b := by
    obtain ⟨_, h2⟩ := h
    rcases h2 with ⟨rfl, _⟩ | ⟨g, cap, cur, rfl, _⟩
    · cases hb
    · exact hb
  exact ⟨hv, World.ownsRow.lt h b hv⟩
theorem Owns.blk_of {w : World} {N : Nat} {v : Value} {l : List UInt8} (h : Owns w N v l) {b : Nat} (hb : v.ownBlock = some b) : blkOf v = some b := by
  obtain ⟨_, h2⟩ := h
  rcases h2 with ⟨rfl, _⟩ | ⟨g, cap, cur, rfl, _⟩
  · cases hb
  · exact hb
/-- What lives has a block of the region's own. -/
theorem JG.blk {it : List PI} {olds : List Old} {N : Nat} {m : List Bool} {g : Nat → Value} {w : World} (h : JG it olds N m g w) {q : Nat} (hq : m.getD q false = true) (hl : (it.getD q .nil).lives m = true) {b : Nat} (hb : blkOf (g q) = some b) : N ≤ b ∧ b < w.heap.size := by
  have hf := h.items q hq
  cases hi : it.getD q .nil with
  | nil => rw [hi] at hl; cases hl
  | val u => rw [hi] at hl; cases hl
  | row ty k f0 s f1 =>
    rw [hi] at hf
    obtain ⟨b', k1, k2, k3⟩ := hf
    rw [k1] at hb
    have e : b' = b := Option.some.inj hb
    subst e
    exact ⟨k2, k3.lt⟩
  | own l u =>
    rw [hi] at hf hl
    exact ((hf (by simpa [PI.lives] using hl)).blk hb).2
/-- What another item says still stands behind p, which changes no block of its. -/
theorem JG.kept {it : List PI} {olds : List Old} {N : Nat} {m : List Bool} {g : Nat → Value} {w w' : World} {p : Nat} {row : Option Nat} (h : JG it olds N m g w) (hg : w.grownBy w' row) {q : Nat} (hm : m.getD q false = true)
    (hs : ∀ ty k f0 s f1, it.getD q .nil = .row ty k f0 s f1 → s ≠ p) (hrow : (it.getD q .nil).lives (m.set p true) = true → ∀ b, blkOf (g q) = some b → row ≠ some b) : PIfact N (m.set p true) g w' q (it.getD q .nil) := by
  have hf := h.items q hm
  cases hi : it.getD q .nil with
  | nil => trivial
  | val u => rw [hi] at hf; exact hf
  | row ty k f0 s f1 =>
    rw [hi] at hf hrow
    obtain ⟨b, k1, k2, k3⟩ := hf
    refine ⟨b, k1, k2, ?_⟩
    rw [getD_set_ne m p s (hs _ _ _ _ _ hi)]
    exact k3.of_block (hg.block _ k3.lt (fun e => hrow rfl b (by rw [k1]; rfl) e.symm))
  | own l u =>
    rw [hi] at hf hrow
    intro hu
    have ho := hf (getD_set_false hu)
    have hl : (PI.own l u).lives (m.set p true) = true := by simp only [PI.lives, hu, Bool.not_false]
    refine World.ownsRow.kept ho hg ?_
    cases hx : (g q).ownBlock with
    | none => exact .inl rfl
    | some b => exact .inr (fun e => hrow hl b (ho.blk_of hx) e.symm)
theorem JG.put {it : List PI} {olds : List Old} {N : Nat} {m : List Bool} {g : Nat → Value} {w w' : World} {p : Nat} {v : Value} (h : JG it olds N m g w) (hsz : w.heap.size ≤ w'.heap.size) (holds : ∀ i, (h : i < olds.length) → w'.rowIs olds[i].b olds[i].ty olds[i].k (if (m.set p true).getD olds[i].s false = true then olds[i].f1 else olds[i].f0))
    (hkeep : ∀ q, q ≠ p → m.getD q false = true → PIfact N (m.set p true) g w' q (it.getD q .nil)) (hfact : PIfact N (m.set p true) (upd g p v) w' p (it.getD p .nil))
    (hblk : (it.getD p .nil).lives (m.set p true) = true → ∀ b, blkOf v = some b → ∀ q, q ≠ p → m.getD q false = true → (it.getD q .nil).lives (m.set p true) = true → blkOf (g q) ≠ some b) : JG it olds N (m.set p true) (upd g p v) w' := by
  refine ⟨Nat.le_trans h.le hsz, holds, fun q hq => ?_, fun x y hxy hx hy lx ly b hbx => ?_⟩
  · by_cases e : q = p
    · subst e; exact hfact
    · rw [getD_set_ne m p q e] at hq
      exact (hkeep q e hq).congr (upd_ne g p q v e)
  · by_cases ex : x = p
    · subst ex
      rw [upd_self] at hbx
      have ey : y ≠ x := Ne.symm hxy
      rw [upd_ne g x y v ey]
      rw [getD_set_ne m x y ey] at hy
      exact hblk lx b hbx y ey hy ly
    · rw [upd_ne g p x v ex] at hbx
      rw [getD_set_ne m p x ex] at hx
      by_cases ey : y = p
      · subst ey
        rw [upd_self]
        exact fun hby => hblk ly b hby x ex hx lx hbx
      · rw [upd_ne g p y v ey]
        rw [getD_set_ne m p y ey] at hy
        exact h.apart x y hxy hx hy (PI.lives_less lx) (PI.lives_less ly) b hbx
theorem grownBy_none {w w' : World} (h : Below w.heap.size w w') : w.grownBy w' none := ⟨h.os, h.tape, h.output, h.size, fun k hk _ => h.block k hk⟩
theorem JG.keptOlds {it : List PI} {olds : List Old} {N : Nat} {m : List Bool} {g : Nat → Value} {w w' : World} {p : Nat} {row : Option Nat} (h : JG it olds N m g w) (hg : w.grownBy w' row) (hs : ∀ i, (h : i < olds.length) → olds[i].s ≠ p) (hrow : ∀ i, (h : i < olds.length) → row ≠ some olds[i].b) :
    ∀ i, (h : i < olds.length) → w'.rowIs olds[i].b olds[i].ty olds[i].k (if (m.set p true).getD olds[i].s false = true then olds[i].f1 else olds[i].f0) := fun i hi => by
  rw [getD_set_ne m p _ (hs i hi)]
  have hr := h.olds i hi
  exact hr.of_block (hg.block _ hr.lt (fun e => hrow i hi e.symm))
/-- A call is done, or what only reads. -/
theorem JG.val {it : List PI} {olds : List Old} {N : Nat} {m : List Bool} {g : Nat → Value} {w w' : World} {p : Nat} {v : Value} (hwf : poWf it olds = true) (h : JG it olds N m g w) (hit : it.getD p .nil = .val v) (hb : Below w.heap.size w w') : JG it olds N (m.set p true) (upd g p v) w' := by
  have hne : ∀ s, (it.getD s .nil).isNil = true → s ≠ p := fun s hs e => by rw [e, hit] at hs; cases hs
  have hg := grownBy_none hb
  refine h.put hb.size (h.keptOlds hg (fun i hi => hne _ (poWf_old hwf hi)) (fun _ _ e => by cases e)) (fun q _ hq => h.kept hg hq (fun ty k f0 s f1 hi => hne s (poWf_row hwf hi)) (fun _ _ _ e => by cases e)) ?_ (fun hl => by rw [hit] at hl; cases hl)
  rw [hit]
  exact upd_self _ _ _
/-- A call that answers bytes of its own, or what lays such. -/
theorem JG.owns {it : List PI} {olds : List Old} {N : Nat} {m : List Bool} {g : Nat → Value} {w w' : World} {p : Nat} {v : Value} {l : List UInt8} {u : Nat} (hwf : poWf it olds = true) (h : JG it olds N m g w) (hit : it.getD p .nil = .own l u) (hb : Below w.heap.size w w') (ho : Owns w' w.heap.size v l) : JG it olds N (m.set p true) (upd g p v) w' := by
  have hne : ∀ s, (it.getD s .nil).isNil = true → s ≠ p := fun s hs e => by rw [e, hit] at hs; cases hs
  have hg := grownBy_none hb
  refine h.put hb.size (h.keptOlds hg (fun i hi => hne _ (poWf_old hwf hi)) (fun _ _ e => by cases e)) (fun q _ hq => h.kept hg hq (fun ty k f0 s f1 hi => hne s (poWf_row hwf hi)) (fun _ _ _ e => by cases e)) ?_ (fun hl b hbv q _ hq hlq hbq => ?_)
  · rw [hit]
    intro _
    rw [upd_self]
    exact ho.lower h.le
  · have h1 := (ho.blk hbv).2.1
    have h2 := (h.blk hq (PI.lives_less hlq) hbq).2
    omega
/-- A row is laid. -/
theorem JG.alloc {it : List PI} {olds : List Old} {N : Nat} {m : List Bool} {g : Nat → Value} {w : World} {p : Nat} {ty : TypeId} {k : Nat} {f0 : Nat → Value} {s : Nat} {f1 : Nat → Value} (hwf : poWf it olds = true) (h : JG it olds N m g w) (hit : it.getD p .nil = .row ty k f0 s f1) (hs : m.getD s false = false) :
    JG it olds N (m.set p true) (upd g p (.pointer (some ⟨w.heap.size, 0, none⟩))) (w.alloc (.cells (arrOf k f0) ty)) := by
  have hne : ∀ s, (it.getD s .nil).isNil = true → s ≠ p := fun s hs e => by rw [e, hit] at hs; cases hs
  have hb : Below w.heap.size w (w.alloc (.cells (arrOf k f0) ty)) := (Below.refl _ _).alloc (Nat.le_refl _) _
  have hg := grownBy_none hb
  refine h.put hb.size (h.keptOlds hg (fun i hi => hne _ (poWf_old hwf hi)) (fun _ _ e => by cases e)) (fun q _ hq => h.kept hg hq (fun ty k f0 s f1 hi => hne s (poWf_row hwf hi)) (fun _ _ _ e => by cases e)) ?_ (fun hl b hbv q _ hq hlq hbq => ?_)
  · rw [hit]
    refine ⟨w.heap.size, upd_self _ _ _, h.le, ?_⟩
    rw [getD_set_ne m p s (hne s (poWf_row hwf hit)), if_neg (by rw [hs]; decide)]
    exact rowIs_arr _ _ _ _
  · have h1 : w.heap.size = b := Option.some.inj hbv
    have h2 := (h.blk hq (PI.lives_less hlq) hbq).2
    omega
/-- Bytes of an item's own are appended to by the item that they are for. -/
theorem JG.app {it : List PI} {olds : List Old} {N : Nat} {m : List Bool} {g : Nat → Value} {w w' : World} {p r : Nat} {v : Value} {l l0 : List UInt8} {u : Nat} (hwf : poWf it olds = true) (hp : p < m.length) (h : JG it olds N m g w) (hit : it.getD p .nil = .own l u) (hr : it.getD r .nil = .own l0 p) (hmr : m.getD r false = true) (hmp : m.getD p false = false)
    (holds : ∀ i, (h : i < olds.length) → olds[i].b < N) (hg : w.grownBy w' (g r).ownBlock) (ho : Owns w' N v l) (hv : v.ownBlock = (g r).ownBlock ∨ ∀ b, v.ownBlock = some b → w.heap.size ≤ b) : JG it olds N (m.set p true) (upd g p v) w' := by
  have hne : ∀ s, (it.getD s .nil).isNil = true → s ≠ p := fun s hs e => by rw [e, hit] at hs; cases hs
  have hor : Owns w N (g r) l0 := by
    have hf := h.items r hmr
    rw [hr] at hf
    exact hf hmp
  have hlr : (it.getD r .nil).lives m = true := by rw [hr]; simp only [PI.lives, hmp, Bool.not_false]
  have hdr : (it.getD r .nil).lives (m.set p true) = true → False := fun hl => by
    rw [hr] at hl
    simp only [PI.lives, getD_set_self' m p hp, Bool.not_true] at hl
    cases hl
  refine h.put hg.size (h.keptOlds hg (fun i hi => hne _ (poWf_old hwf hi)) (fun i hi e => ?_)) (fun q _ hq => h.kept hg hq (fun ty k f0 s f1 hi => hne s (poWf_row hwf hi)) (fun hlq b hbq e => ?_)) ?_ (fun hl b hbv q hqp hq hlq hbq => ?_)
  · have h1 := (hor.blk (hor.blk_of e)).2.1
    have h2 := holds i hi
    omega
  · by_cases e2 : q = r
    · subst e2; exact hdr hlq
    · exact h.apart q r e2 hq hmr (PI.lives_less hlq) hlr b hbq (hor.blk_of e)
  · rw [hit]
    intro _
    rw [upd_self]
    exact ho
  · have hvb := (ho.blk hbv).1
    rcases hv with hv | hv
    · rw [hv] at hvb
      by_cases e2 : q = r
      · subst e2; exact hdr hlq
      · exact h.apart q r e2 hq hmr (PI.lives_less hlq) hlr b hbq (hor.blk_of hvb)
    · have h1 := hv b hvb
      have h2 := (h.blk hq (PI.lives_less hlq) hbq).2
      omega
/-- A row that an item laid is written whole. The rows that s writes are the one that r laid. -/
theorem JG.storeRow {it : List PI} {olds : List Old} {N : Nat} {m : List Bool} {g : Nat → Value} {w w' : World} {p r : Nat} {ty : TypeId} {k : Nat} {f0 : Nat → Value} {f1 : Nat → Value} {b : Nat} {v : Value} (hp : p < m.length) (h : JG it olds N m g w) (hit : (it.getD p .nil).isNil = true)
    (hr : it.getD r .nil = .row ty k f0 p f1) (hm : m.getD r false = true) (hg : g r = .pointer (some ⟨b, 0, none⟩)) (hgb : w.grownBy w' (some b)) (hrow : w'.rowIs b ty k f1)
    (hone : ∀ q ty k f0 f1, it.getD q .nil = .row ty k f0 p f1 → q = r) (holds : ∀ i, (h : i < olds.length) → olds[i].s ≠ p ∧ olds[i].b < N) : JG it olds N (m.set p true) (upd g p v) w' := by
  have hlr : (it.getD r .nil).lives m = true := by rw [hr]; rfl
  have hNb : N ≤ b := (h.blk hm hlr (b := b) (by rw [hg]; rfl)).1
  have hnl : (it.getD p .nil).lives (m.set p true) = true → False := fun hl => by
    cases hi : it.getD p .nil with
    | nil => rw [hi] at hl; cases hl
    | val u => rw [hi] at hl; cases hl
    | row _ _ _ _ _ => rw [hi] at hit; cases hit
    | own _ _ => rw [hi] at hit; cases hit
  refine h.put hgb.size (h.keptOlds hgb (fun i hi => (holds i hi).1) (fun i hi e => ?_)) (fun q hqp hq => ?_) ?_ (fun hl => (hnl hl).elim)
  · have h1 : b = olds[i].b := Option.some.inj e
    have h2 := (holds i hi).2
    omega
  · by_cases e2 : q = r
    · subst e2
      rw [hr]
      refine ⟨b, hg, hNb, ?_⟩
      rw [getD_set_self' m p hp, if_pos rfl]
      exact hrow
    · refine h.kept hgb hq (fun ty k f0 s f1 hi e => ?_) (fun hlq b' hbq e => ?_)
      · subst e
        exact e2 (hone q _ _ _ _ hi)
      · have e3 : b = b' := Option.some.inj e
        subst e3
        exact h.apart q r e2 hq hm (PI.lives_less hlq) hlr b hbq (by rw [hg]; rfl)
  · cases hi : it.getD p .nil with
    | nil => trivial
    | val u => rw [hi] at hit; cases hit
    | row _ _ _ _ _ => rw [hi] at hit; cases hit
    | own _ _ => rw [hi] at hit; cases hit
/-- A row that was there is written whole. -/
theorem JG.storeOld {it : List PI} {olds : List Old} {N : Nat} {m : List Bool} {g : Nat → Value} {w w' : World} {p j : Nat} {v : Value} (hp : p < m.length) (h : JG it olds N m g w) (hit : (it.getD p .nil).isNil = true)
    (hj : j < olds.length) (hs : olds[j].s = p) (hbN : olds[j].b < N) (hgb : w.grownBy w' (some olds[j].b)) (hrow : w'.rowIs olds[j].b olds[j].ty olds[j].k olds[j].f1)
    (hone : ∀ q ty k f0 f1, it.getD q .nil ≠ .row ty k f0 p f1) (holds : ∀ i, (h : i < olds.length) → i ≠ j → olds[i].s ≠ p ∧ olds[i].b ≠ olds[j].b) : JG it olds N (m.set p true) (upd g p v) w' := by
  have hnl : (it.getD p .nil).lives (m.set p true) = true → False := fun hl => by
    cases hi : it.getD p .nil with
    | nil => rw [hi] at hl; cases hl
    | val u => rw [hi] at hl; cases hl
    | row _ _ _ _ _ => rw [hi] at hit; cases hit
    | own _ _ => rw [hi] at hit; cases hit
  refine h.put hgb.size (fun i hi => ?_) (fun q hqp hq => h.kept hgb hq (fun ty k f0 s f1 hi e => ?_) (fun hlq b hbq e => ?_)) ?_ (fun hl => (hnl hl).elim)
  · by_cases ei : i = j
    · subst ei
      rw [hs, getD_set_self' m p hp, if_pos rfl]
      exact hrow
    · obtain ⟨h1, h2⟩ := holds i hi ei
      rw [getD_set_ne m p _ h1]
      have hr := h.olds i hi
      exact hr.of_block (hgb.block _ hr.lt (fun e => h2 (Option.some.inj e)))
  · subst e
    exact hone q _ _ _ _ hi
  · have e3 : olds[j].b = b := Option.some.inj e
    have h1 := (h.blk hq (PI.lives_less hlq) hbq).1
    omega
  · cases hi : it.getD p .nil with
    | nil => trivial
    | val u => rw [hi] at hit; cases hit
    | row _ _ _ _ _ => rw [hi] at hit; cases hit
    | own _ _ => rw [hi] at hit; cases hit
theorem JG.ne {it : List PI} {olds : List Old} {N : Nat} {m : List Bool} {g : Nat → Value} {w : World} (h : JG it olds N m g w) {p q : Nat} (hpq : q ≠ p) (hp : m.getD p false = true) (hq : m.getD q false = true) (hrp : (it.getD p .nil).isRow = true) (hrq : (it.getD q .nil).isRow = true) : g q ≠ g p := by
  have hl : ∀ i : PI, i.isRow = true → i.lives m = true := fun i hi => by cases i with
    | row _ _ _ _ _ => rfl
    | val _ => cases hi
    | nil => cases hi
    | own _ _ => cases hi
  have hf := h.items p hp
  cases hi : it.getD p .nil with
  | val _ => rw [hi] at hrp; cases hrp
  | nil => rw [hi] at hrp; cases hrp
  | own _ _ => rw [hi] at hrp; cases hrp
  | row ty k f0 s f1 =>
    rw [hi] at hf
    obtain ⟨b, k1, _, _⟩ := hf
    exact fun e => h.apart q p hpq hq hp (hl _ hrq) (hl _ hrp) b (by rw [e, k1]; rfl) (by rw [k1]; rfl)
theorem JG.row {it : List PI} {olds : List Old} {N n : Nat} {g : Nat → Value} {w : World} (h : JG it olds N (List.replicate n true) g w) (p : Nat) (hp : p < n) {ty : TypeId} {k : Nat} {f0 : Nat → Value} {s : Nat} {f1 : Nat → Value} (hit : it.getD p .nil = .row ty k f0 s f1) (hs : s < n) :
    ∃ b, g p = .pointer (some ⟨b, 0, none⟩) ∧ N ≤ b ∧ w.rowIs b ty k f1 ∧ ∀ q, q ≠ p → q < n → (it.getD q .nil).isRow = true → g q ≠ g p := by
  have hf := h.items p (getD_rep n p hp)
  rw [hit] at hf
  obtain ⟨b, h1, h2, h3⟩ := hf
  rw [if_pos (getD_rep n s hs)] at h3
  exact ⟨b, h1, h2, h3, fun q hq1 hq2 hq3 => h.ne hq1 (getD_rep n p hp) (getD_rep n q hq2) (by rw [hit]; rfl) hq3⟩
theorem JG.row0 {it : List PI} {olds : List Old} {N n : Nat} {g : Nat → Value} {w : World} (h : JG it olds N (List.replicate n true) g w) (p : Nat) (hp : p < n) {ty : TypeId} {k : Nat} {f0 : Nat → Value} {s : Nat} {f1 : Nat → Value} (hit : it.getD p .nil = .row ty k f0 s f1) (hs : n ≤ s) :
    ∃ b, g p = .pointer (some ⟨b, 0, none⟩) ∧ N ≤ b ∧ w.rowIs b ty k f0 ∧ ∀ q, q ≠ p → q < n → (it.getD q .nil).isRow = true → g q ≠ g p := by
  have hf := h.items p (getD_rep n p hp)
  rw [hit] at hf
  obtain ⟨b, h1, h2, h3⟩ := hf
  rw [if_neg (by rw [List.getD_eq_getElem?_getD, List.getElem?_replicate, if_neg (by omega)]; decide)] at h3
  exact ⟨b, h1, h2, h3, fun q hq1 hq2 hq3 => h.ne hq1 (getD_rep n p hp) (getD_rep n q hq2) (by rw [hit]; rfl) hq3⟩
theorem JG.told {it : List PI} {olds : List Old} {N n : Nat} {g : Nat → Value} {w : World} (h : JG it olds N (List.replicate n true) g w) (p : Nat) (hp : p < n) {v : Value} (hit : it.getD p .nil = .val v) : g p = v := by
  have hf := h.items p (getD_rep n p hp)
  rw [hit] at hf
  exact hf
theorem JG.old {it : List PI} {olds : List Old} {N n : Nat} {g : Nat → Value} {w : World} (h : JG it olds N (List.replicate n true) g w) (i : Nat) (hi : i < olds.length) (hs : olds[i].s < n) : w.rowIs olds[i].b olds[i].ty olds[i].k olds[i].f1 := by
  have hf := h.olds i hi
  rwa [if_pos (getD_rep n _ hs)] at hf
theorem JG.old0 {it : List PI} {olds : List Old} {N : Nat} {m : List Bool} {g : Nat → Value} {w : World} (h : JG it olds N m g w) (i : Nat) (hi : i < olds.length) (hs : m.getD olds[i].s false = false) : w.rowIs olds[i].b olds[i].ty olds[i].k olds[i].f0 := by
  have hf := h.olds i hi
  rwa [if_neg (by rw [hs]; decide)] at hf
/-- What an item answered, some being done. -/
theorem JG.says {it : List PI} {olds : List Old} {N : Nat} {m : List Bool} {g : Nat → Value} {w : World} (h : JG it olds N m g w) {p : Nat} (hp : m.getD p false = true) {v : Value} (hit : it.getD p .nil = .val v) : g p = v := by
  have hf := h.items p hp
  rw [hit] at hf
  exact hf

section
variable {P : Program} {ops : Array Oper} {Q : Exit → Act → World → Prop}
def oneB (it : List PI) (p r : Nat) : Bool := (List.range it.length).all fun q => match it.getD q .nil with | .row _ _ _ s _ => s != p || q == r | _ => true
theorem oneB_spec {it : List PI} {p r : Nat} (h : oneB it p r = true) (q : Nat) (ty : TypeId) (k : Nat) (f0 f1 : Nat → Value) (hq : it.getD q .nil = .row ty k f0 p f1) : q = r := by
  have hl : q < it.length := by
    refine Nat.lt_of_not_le fun hn => ?_
    rw [List.getD_eq_getElem?_getD, List.getElem?_eq_none hn] at hq
    cases hq
  have h1 := List.all_eq_true.1 h q (List.mem_range.2 hl)
  rw [hq] at h1
  simpa using h1
/-- A call. -/
theorem po_call {bs : List Nat} {w0 : World} {i : Nat} {a : Act} {w : World} {o : Oper} {fn : Func} {it : List PI} {olds : List Old} {N : Nat} {m : List Bool} {g : Nat → Value} {p : Nat} {ds : List (Option Nat)} (d f : Nat) (xs : Array Operand) (ts : Array TypeId) (args : Array Value) {v : Value} (hwf : poWf it olds = true) (hJ : JG it olds N m g w) (hit : it.getD p .nil = .val v) (hE : Keep bs w0 w)
    (hc : Calls P f args w fun e w' => e = .returned v ∧ Below w.heap.size w w') (ho : ops[i]? = some o) (hd : o.dst = some d) (hds : ds.getD p none = some d) (hop : o.op = .call { callee := .value (.func f), args := xs, argTypes := ts })
    (hw : Region.wanted o (yielded ops a.tmps) = true) (hf : P.funcs[f]? = some fn) (hn : (fn.name == "runtime.NumGoroutine") = false) (hb : fn.body.isNone = false) (hargs : xs.map a.eval = args) :
    wpOp P ops Q i (fun a' w' => Keep bs w0 w' ∧ ∃ v, a' = a.put (ds.getD p none) v ∧ JG it olds N (m.set p true) (upd g p v) w') a w := by
  refine wpOp_step ho fun K' hK => ?_
  rw [if_pos hw]
  unfold Oper.wp
  have he : a.eval (.func f) = .func (.func f) #[] #[] := rfl
  have hx : (execOp a.eval o).run P w = .ok (.enter f args) w := by simp [execOp, hop, resolve, he, Deferred.ofValue, invoke, hargs, run_enter hf hn hb]
  rw [hx]
  refine hc.mono fun e w' hT => ?_
  obtain ⟨rfl, hb⟩ := hT
  exact hK _ _ ⟨hE.trans (Keep.of hb), v, by rw [hd, hds], hJ.val hwf hit hb⟩
/-- A call of a function's value that a slot holds. -/
theorem po_callv {bs : List Nat} {w0 : World} {i : Nat} {a : Act} {w : World} {o : Oper} {fn : Func} {it : List PI} {olds : List Old} {N : Nat} {m : List Bool} {g : Nat → Value} {p : Nat} {ds : List (Option Nat)} (d f : Nat) (x : Operand) (xs : Array Operand) (ts : Array TypeId) (args : Array Value) {v : Value} (hwf : poWf it olds = true) (hJ : JG it olds N m g w) (hit : it.getD p .nil = .val v) (hE : Keep bs w0 w)
    (hc : Calls P f args w fun e w' => e = .returned v ∧ Below w.heap.size w w') (ho : ops[i]? = some o) (hd : o.dst = some d) (hds : ds.getD p none = some d) (hop : o.op = .call { callee := .value x, args := xs, argTypes := ts }) (hxf : a.eval x = .func (.func f) #[] #[])
    (hw : Region.wanted o (yielded ops a.tmps) = true) (hf : P.funcs[f]? = some fn) (hn : (fn.name == "runtime.NumGoroutine") = false) (hb : fn.body.isNone = false) (hargs : xs.map a.eval = args) :
    wpOp P ops Q i (fun a' w' => Keep bs w0 w' ∧ ∃ v, a' = a.put (ds.getD p none) v ∧ JG it olds N (m.set p true) (upd g p v) w') a w := by
  refine wpOp_step ho fun K' hK => ?_
  rw [if_pos hw]
  unfold Oper.wp
  have hx : (execOp a.eval o).run P w = .ok (.enter f args) w := by simp [execOp, hop, resolve, hxf, Deferred.ofValue, invoke, hargs, run_enter hf hn hb]
  rw [hx]
  refine hc.mono fun e w' hT => ?_
  obtain ⟨rfl, hb⟩ := hT
  exact hK _ _ ⟨hE.trans (Keep.of hb), v, by rw [hd, hds], hJ.val hwf hit hb⟩
/-- What only reads. -/
theorem po_run {bs : List Nat} {w0 : World} {i : Nat} {a : Act} {w : World} {o : Oper} {it : List PI} {olds : List Old} {N : Nat} {m : List Bool} {g : Nat → Value} {p : Nat} {ds : List (Option Nat)} (d : Nat) (op : Op) (t : TypeId) {v : Value} (hwf : poWf it olds = true) (hJ : JG it olds N m g w) (hit : it.getD p .nil = .val v) (hE : Keep bs w0 w)
    (ho : ops[i]? = some o) (hd : o.dst = some d) (hds : ds.getD p none = some d) (hop : o.op = op) (ht : o.type = t) (hw : Region.wanted o (yielded ops a.tmps) = true) (hx : (execOp a.eval (mkOp op t)).run P w = .ok (.value v) w) :
    wpOp P ops Q i (fun a' w' => Keep bs w0 w' ∧ ∃ v, a' = a.put (ds.getD p none) v ∧ JG it olds N (m.set p true) (upd g p v) w') a w := by
  refine wpOp_step ho fun K' hK => ?_
  rw [if_pos hw]
  unfold Oper.wp
  rw [exec_mkOp, hop, ht, hx]
  exact hK _ _ ⟨hE, v, by rw [hd, hds], hJ.val hwf hit (Below.refl _ _)⟩
/-- A variable. -/
theorem po_alloc {bs : List Nat} {w0 : World} {i : Nat} {a : Act} {w : World} {o : Oper} {it : List PI} {olds : List Old} {N : Nat} {m : List Bool} {g : Nat → Value} {p : Nat} {ds : List (Option Nat)} (d : Nat) (t ty : TypeId) (k : Nat) (f0 : Nat → Value) (s : Nat) (f1 : Nat → Value) (hwf : poWf it olds = true) (hJ : JG it olds N m g w) (hit : it.getD p .nil = .row ty k f0 s f1) (hs : m.getD s false = false) (hE : Keep bs w0 w)
    (ho : ops[i]? = some o) (hd : o.dst = some d) (hds : ds.getD p none = some d) (hop : o.op = .alloc ty) (ht : o.type = t) (hw : Region.wanted o (yielded ops a.tmps) = true) (hz : (P.info? ty).map (fun i => i.zero) = some (some (.agg (arrOf k f0)))) :
    wpOp P ops Q i (fun a' w' => Keep bs w0 w' ∧ ∃ v, a' = a.put (ds.getD p none) v ∧ JG it olds N (m.set p true) (upd g p v) w') a w := by
  refine wpOp_step ho fun K' hK => ?_
  rw [if_pos hw]
  unfold Oper.wp
  rw [exec_mkOp, hop, ht, exec_alloc_arr _ _ _ _ hz]
  exact hK _ _ ⟨hE.trans (Keep.of ((Below.refl _ _).alloc (Nat.le_refl _) _)), _, by rw [hd, hds], hJ.alloc hwf hit hs⟩
/-- A row that an item laid is written. -/
theorem po_storeRow {bs : List Nat} {w0 : World} {i : Nat} {a : Act} {w : World} {o : Oper} {it : List PI} {olds : List Old} {m : List Bool} {g : Nat → Value} {p : Nat} {ds : List (Option Nat)} (r : Nat) (x y : Operand) (ty : TypeId) (k : Nat) (f0 : Nat → Value) (f1 : Nat → Value) (hp : p < m.length) (hmp : m.getD p true = false) (hJ : JG it olds w0.heap.size m g w) (hit : (it.getD p .nil).isNil = true) (hr : it.getD r .nil = .row ty k f0 p f1) (hmr : m.getD r false = true)
    (hone : oneB it p r = true) (holds : ∀ i, (h : i < olds.length) → olds[i].s ≠ p ∧ olds[i].b < w0.heap.size) (hE : Keep bs w0 w)
    (ho : ops[i]? = some o) (hd : o.dst = none) (hds : ds.getD p none = none) (hop : o.op = .store ty x y) (hw : Region.wanted o (yielded ops a.tmps) = true) (hx : a.eval x = g r) (hy : a.eval y = .agg (arrOf k f1)) (ht : IsArr P ty k) (h1 : ∀ j, j < k → (f1 j).oneCell' = true) :
    wpOp P ops Q i (fun a' w' => Keep bs w0 w' ∧ ∃ v, a' = a.put (ds.getD p none) v ∧ JG it olds w0.heap.size (m.set p true) (upd g p v) w') a w := by
  have hf := hJ.items r hmr
  rw [hr] at hf
  obtain ⟨b, k1, k2, k3⟩ := hf
  have hmp' : m.getD p false = false := by
    rw [List.getD_eq_getElem?_getD, List.getElem?_eq_getElem hp] at hmp ⊢
    exact hmp
  rw [hmp', if_neg (by decide)] at k3
  obtain ⟨w', hx', e1, e2, e3⟩ := exec_store_arr (P := P) a.eval ty x y o.type (off := 0) k3 (hx.trans k1) hy ht (by omega) h1
  have e1' : w'.rowIs b ty k f1 := e1.congr fun i hi => by unfold putN; rw [if_pos (by omega), Nat.sub_zero]
  refine wpOp_step ho fun K' hK => ?_
  rw [if_pos hw]
  unfold Oper.wp
  rw [exec_mkOp, hop, hx']
  exact hK _ _ ⟨hE.of_grown e2 (.inl k2), undef, by rw [hd, hds], hJ.storeRow hp hit hr hmr k1 e2 e1' (fun q ty k f0 f1 hq => oneB_spec hone q ty k f0 f1 hq) holds⟩
/-- A row that was there is written. -/
theorem po_storeOld {bs : List Nat} {w0 : World} {i : Nat} {a : Act} {w : World} {o : Oper} {it : List PI} {olds : List Old} {m : List Bool} {g : Nat → Value} {p : Nat} {ds : List (Option Nat)} (j : Nat) (x y : Operand) (ty : TypeId) (b k : Nat) (f1 : Nat → Value) (hp : p < m.length) (hmp : m.getD p true = false) (hJ : JG it olds w0.heap.size m g w) (hit : (it.getD p .nil).isNil = true)
    (hj : j < olds.length) (hs : olds[j].s = p) (hbb : olds[j].b = b) (htt : olds[j].ty = ty) (hkk : olds[j].k = k) (hff : olds[j].f1 = f1) (hbN : b < w0.heap.size) (hbs : bs.contains b = true)
    (hone : oneB it p it.length = true) (holds : ∀ i, (h : i < olds.length) → i ≠ j → olds[i].s ≠ p ∧ olds[i].b ≠ olds[j].b) (hE : Keep bs w0 w)
    (ho : ops[i]? = some o) (hd : o.dst = none) (hds : ds.getD p none = none) (hop : o.op = .store ty x y) (hw : Region.wanted o (yielded ops a.tmps) = true) (hx : a.eval x = .pointer (some ⟨b, 0, none⟩)) (hy : a.eval y = .agg (arrOf k f1)) (ht : IsArr P ty k) (h1 : ∀ j, j < k → (f1 j).oneCell' = true) :
    wpOp P ops Q i (fun a' w' => Keep bs w0 w' ∧ ∃ v, a' = a.put (ds.getD p none) v ∧ JG it olds w0.heap.size (m.set p true) (upd g p v) w') a w := by
  have hmp' : m.getD p false = false := by
    rw [List.getD_eq_getElem?_getD, List.getElem?_eq_getElem hp] at hmp ⊢
    exact hmp
  have k3 := hJ.olds j hj
  rw [hs, hmp', if_neg (by decide), hbb, htt, hkk] at k3
  obtain ⟨w', hx', e1, e2, e3⟩ := exec_store_arr (P := P) a.eval ty x y o.type (off := 0) k3 hx hy ht (by omega) h1
  have e1' : w'.rowIs b ty k f1 := e1.congr fun i hi => by unfold putN; rw [if_pos (by omega), Nat.sub_zero]
  refine wpOp_step ho fun K' hK => ?_
  rw [if_pos hw]
  unfold Oper.wp
  rw [exec_mkOp, hop, hx']
  refine hK _ _ ⟨hE.of_grown e2 (.inr hbs), undef, by rw [hd, hds], ?_⟩
  refine hJ.storeOld hp hit hj hs (by rw [hbb]; exact hbN) (by rw [hbb]; exact e2) (by rw [hbb, htt, hkk, hff]; exact e1') (fun q ty k f0 f1 hq => ?_) holds
  have e4 := oneB_spec hone q ty k f0 f1 hq
  rw [e4, List.getD_eq_getElem?_getD, List.getElem?_eq_none (Nat.le_refl _)] at hq
  cases hq
/-- A load of a whole row, or of a part of it. -/
theorem exec_load_as {w : World} (ρ : Operand → Value) (ty : TypeId) (x : Operand) (t : TypeId) {k b m off : Nat} {t' : TypeId} {f : Nat → Value} (F : Nat → Value) (hx : ρ x = .pointer (some ⟨b, off, none⟩)) (ht : IsArr P ty k) (hr : w.rowIs b t' m f) (hk : off + k ≤ m) (hF : ∀ i, i < k → f (off + i) = F i) :
    (execOp ρ (mkOp (.load ty x) t)).run P w = .ok (.value (.agg (arrOf k F))) w := by
  rw [exec_load_arr ρ ty x t hx ht hr hk, arrOf_congr hF]
end
end Go.Proofs.Ytncdlaidmiokiaa
