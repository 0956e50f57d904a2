/- Rows of a call's own, one operation at a time, in worlds that are left open: a variable, a boxed argument, a store and a load of a whole row or of a part of it. -/
import Derived.Test.YtncdlaidmiokiaaPo
set_option linter.unusedSimpArgs false
set_option linter.unusedVariables false
namespace Go.Proofs.Ytncdlaidmiokiaa
open Go.RowKit Go.Deep

section
variable {P : Program} {ops : Array Oper} {rest : List Oper} {o : Oper} {a : Act} {w : World} {Q : Exit → Act → World → Prop}
theorem wpList_alloc_row (hgd : o.guard = none) (ty : TypeId) (ho : o.op = .alloc ty) (k : Nat) (f : Nat → Value) (hz : (P.info? ty).map (fun i => i.zero) = some (some (.agg (arrOf k f))))
    (h : ∀ b w', w.heap.size ≤ b → w'.rowIs b ty k f → Below w.heap.size w w' → wpList P ops Q rest (a.put o.dst (.pointer (some ⟨b, 0, none⟩))) w') : wpList P ops Q (o :: rest) a w :=
  wpList_alloc_arr hgd ty ho (arrOf k f) hz (h _ _ (Nat.le_refl _) (rowIs_arr _ _ _ _) ((Below.refl _ _).alloc (Nat.le_refl _) _))
theorem wpList_box_row (hgd : o.guard = none) (ty : TypeId) (x : Operand) (ho : o.op = .box ty x) (k : Nat) (f : Nat → Value) (hx : a.eval x = .agg (arrOf k f))
    (h : ∀ b w', w.heap.size ≤ b → w'.rowIs b ty k f → Below w.heap.size w w' → wpList P ops Q rest (a.put o.dst (.pointer (some ⟨b, 0, none⟩))) w') : wpList P ops Q (o :: rest) a w :=
  wpList_plain hgd fun _ hK => by
    unfold Oper.wp execOp
    simp [ho, hx, Instr.box, newVar, newRow, newObj, Value.cells, Result.andThen]
    exact hK _ _ (h _ _ (Nat.le_refl _) (rowIs_arr _ _ _ _) ((Below.refl _ _).alloc (Nat.le_refl _) _))
theorem wpList_load_as (hgd : o.guard = none) (ty : TypeId) (x : Operand) (ho : o.op = .load ty x) (k : Nat) (F : Nat → Value) (ht : IsArr P ty k) {b m off : Nat} {t : TypeId} {f : Nat → Value}
    (hr : w.rowIs b t m f) (hx : a.eval x = .pointer (some ⟨b, off, none⟩)) (hk : off + k ≤ m) (hF : ∀ i, i < k → f (off + i) = F i) (h : wpList P ops Q rest (a.put o.dst (.agg (arrOf k F))) w) : wpList P ops Q (o :: rest) a w :=
  wpList_load_arr hgd ty x ho k ht hr hx hk (by rw [arrOf_congr hF]; exact h)
theorem wpList_store_as (hgd : o.guard = none) (ty : TypeId) (x y : Operand) (ho : o.op = .store ty x y) (k : Nat) (F : Nat → Value) (ht : IsArr P ty k) {b m off : Nat} {t : TypeId} {f g : Nat → Value}
    (hr : w.rowIs b t m f) (hx : a.eval x = .pointer (some ⟨b, off, none⟩)) (hy : a.eval y = .agg (arrOf k g)) (hk : off + k ≤ m) (h1 : ∀ j, j < k → (g j).oneCell' = true) (hF : ∀ i, i < m → putN f off k g i = F i)
    (h : ∀ w', w'.rowIs b t m F → w.grownBy w' (some b) → wpList P ops Q rest (a.put o.dst undef) w') : wpList P ops Q (o :: rest) a w :=
  wpList_store_arr hgd ty x y ho k ht hr hx hy hk h1 fun w' h1 h2 _ => h w' (h1.congr hF) h2
theorem putN_whole {f g : Nat → Value} {k i : Nat} (h : i < k) : putN f 0 k g i = g i := by
  unfold putN
  rw [if_pos (by omega), Nat.sub_zero]
theorem ret_cell_as {fn : Func} {R : Ending → World → Prop} {p : Tmp} {ty : TypeId} {k b m : Nat} {t : TypeId} {f : Nat → Value} (F : Nat → Value) (h : fn.results = #[.cell p ty]) (ht : IsArr P ty k)
    (hr : w.rowIs b t m f) (hp : a.tmps.getD p undef = .pointer (some ⟨b, 0, none⟩)) (hk : k ≤ m) (hF : ∀ i, i < k → f i = F i) (hd : a.defers = []) (hR : R (.returned (.agg (arrOf k F))) w) : bodyPost P fn R .ret a w :=
  ret_cell_arr h ht hr hp (by omega) hd (by rw [arrOf_congr (g := F) fun i hi => by rw [Nat.zero_add]; exact hF i hi]; exact hR)
end
theorem po_notyet {deps : List (List Nat)} {m : List Bool} {p s : Nat} (hcl : closedO deps m = true) (hmp : m.getD p true = false) (hp : p < m.length) (hq : p ∈ deps.getD s []) : m.getD s false = false := by
  cases h : m.getD s false with
  | false => rfl
  | true =>
    have h1 := closedO_spec hcl h hq
    rw [List.getD_eq_getElem?_getD, List.getElem?_eq_getElem hp] at hmp h1
    have h2 : m[p] = false := hmp
    have h3 : m[p] = true := h1
    rw [h2] at h3
    cases h3
theorem po_never {m : List Bool} {n s : Nat} (hm : m.length = n) (h : n ≤ s) : m.getD s false = false := by
  rw [List.getD_eq_getElem?_getD, List.getElem?_eq_none (by omega)]
  rfl
theorem eval_const (a : Act) (v : Value) : a.eval (.const v) = v := rfl
theorem eval_func (a : Act) (f : Nat) : a.eval (.func f) = .func (.func f) #[] #[] := rfl
theorem cont1 {b x : Nat} (h : b ≠ x) : [x].contains b = false := by simp [h]
theorem cont2 {b x y : Nat} (h : b ≠ x) (k : b ≠ y) : [x, y].contains b = false := by simp [h, k]
theorem cont3 {b x y z : Nat} (h : b ≠ x) (k : b ≠ y) (l : b ≠ z) : [x, y, z].contains b = false := by simp [h, k, l]
theorem exec_build_as {P : Program} {w : World} (ρ : Operand → Value) (ty t : TypeId) {parts : Array (Nat × Operand)} {c : Array Value} (h : P.built ty (parts.map fun (i, x) => (i, ρ x)).toList = some c) :
    (execOp ρ (mkOp (.build ty parts) t)).run P w = .ok (.value (.agg c)) w := by
  have hr := run_build w ty (parts.map fun (i, x) => (i, ρ x)) c h
  simp [execOp, mkOp, hr, Result.andThen]
theorem po_olds2 {o1 o2 : Old} {w : World} (h1 : w.rowIs o1.b o1.ty o1.k o1.f0) (h2 : w.rowIs o2.b o2.ty o2.k o2.f0) : ∀ i, (h : i < [o1, o2].length) → w.rowIs [o1, o2][i].b [o1, o2][i].ty [o1, o2][i].k [o1, o2][i].f0
  | 0, _ => h1
  | 1, _ => h2
  | _ + 2, h => by simp at h; omega
theorem po_far1 {o1 : Old} {p N : Nat} (h1 : o1.s ≠ p) (h2 : o1.b < N) : ∀ i, (h : i < [o1].length) → [o1][i].s ≠ p ∧ [o1][i].b < N
  | 0, _ => ⟨h1, h2⟩
  | _ + 1, h => by simp at h
theorem po_far2 {o1 o2 : Old} {p N : Nat} (h1 : o1.s ≠ p) (k1 : o2.s ≠ p) (h2 : o1.b < N) (k2 : o2.b < N) : ∀ i, (h : i < [o1, o2].length) → [o1, o2][i].s ≠ p ∧ [o1, o2][i].b < N
  | 0, _ => ⟨h1, h2⟩
  | 1, _ => ⟨k1, k2⟩
  | _ + 2, h => by simp at h; omega
theorem po_ne1 {o1 : Old} {p b : Nat} : ∀ i, (h : i < [o1].length) → i ≠ 0 → [o1][i].s ≠ p ∧ [o1][i].b ≠ b
  | 0, _ => fun h => absurd rfl h
  | _ + 1, h => by simp at h
theorem po_ne2a {o1 o2 : Old} {p b : Nat} (h1 : o2.s ≠ p) (h2 : o2.b ≠ b) : ∀ i, (h : i < [o1, o2].length) → i ≠ 0 → [o1, o2][i].s ≠ p ∧ [o1, o2][i].b ≠ b
  | 0, _ => fun h => absurd rfl h
  | 1, _ => fun _ => ⟨h1, h2⟩
  | _ + 2, h => by simp at h; omega
theorem po_ne2b {o1 o2 : Old} {p b : Nat} (h1 : o1.s ≠ p) (h2 : o1.b ≠ b) : ∀ i, (h : i < [o1, o2].length) → i ≠ 1 → [o1, o2][i].s ≠ p ∧ [o1, o2][i].b ≠ b
  | 0, _ => fun _ => ⟨h1, h2⟩
  | 1, _ => fun h => absurd rfl h
  | _ + 2, h => by simp at h; omega
end Go.Proofs.Ytncdlaidmiokiaa
