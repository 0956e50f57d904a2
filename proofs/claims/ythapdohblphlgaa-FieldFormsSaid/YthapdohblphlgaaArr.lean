/- Arrays: a whole array out of a row and into it (or a part of it), its zero value, its elements. -/
import Derived.Test.YthapdohblphlgaaSha
import Derived.Deep.WholeRow
namespace Go.Proofs.Ythapdohblphlgaa
open Go.RowKit Go.Deep

def arrOf (n : Nat) (f : Nat → Value) : Array Value := ((List.range n).map f).toArray
theorem arrOf_size (n : Nat) (f : Nat → Value) : (arrOf n f).size = n := by simp [arrOf]
theorem arrOf_get (n : Nat) (f : Nat → Value) (i : Nat) (h : i < n) : (arrOf n f)[i]? = some (f i) := by simp [arrOf, h]
theorem arrOf_congr {n : Nat} {f g : Nat → Value} (h : ∀ i, i < n → f i = g i) : arrOf n f = arrOf n g := by
  unfold arrOf
  congr 1
  exact List.map_congr_left fun i hi => h i (by simpa using hi)

/-- f, with g laid over k cells from off on. -/
def putN (f : Nat → Value) (off k : Nat) (g : Nat → Value) : Nat → Value := fun i => if off ≤ i ∧ i < off + k then g (i - off) else f i

section
variable {P : Program}
def IsArr (P : Program) (ty : TypeId) (k : Nat) : Prop := (P.underlying ty).map (fun d => match d with | .struct _ | .array _ _ => true | _ => false) = some true ∧ (P.info? ty).map (fun i => i.size) = some k

theorem run_load_arr {w : World} {b m off k : Nat} {t ty : TypeId} {f : Nat → Value} (hr : w.rowIs b t m f) (hk : off + k ≤ m) (ht : IsArr P ty k) :
    (loadVar ty ⟨b, off, none⟩).run P w = .ok (.agg (arrOf k fun i => f (off + i))) w := by
  obtain ⟨hu, hi⟩ := ht
  have hl : (loadCells ⟨b, off, none⟩ ((List.range k).map fun i => f (off + i)).length).run P w = .ok ((List.range k).map fun i => f (off + i)).toArray w :=
    run_loadCells_list (P := P) w ⟨b, off, none⟩ _ (fun j v hv => by
      obtain ⟨hj, rfl⟩ := List.getElem?_eq_some_iff.1 hv
      have hj' : j < k := by simpa using hj
      rw [add_eq, hr.cell (by omega)]
      simp)
  cases hq : P.info? ty with
  | none => simp [hq] at hi
  | some i =>
    have hs : i.size = k := by simpa [hq] using hi
    cases hd : P.underlying ty with
    | none => simp [hd] at hu
    | some d =>
      have hagg : (isAgg ty).run P w = .ok true w := by
        unfold isAgg
        rw [Sem.run_bind, run_underlying hd w]
        simp [hd] at hu
        cases d <;> simp_all
      simp only [List.length_map, List.length_range] at hl
      simp [loadVar, Sem.run_bind, hagg, sizeOf, typeInfo, hq, hs, hl, arrOf]

theorem grownBy_refl (w : World) (b : Option Nat) : w.grownBy w b := ⟨rfl, rfl, rfl, Nat.le_refl _, fun _ _ _ => rfl⟩
theorem grownBy_trans {w w1 w2 : World} {b : Option Nat} (h : w.grownBy w1 b) (k : w1.grownBy w2 b) : w.grownBy w2 b :=
  ⟨k.os.trans h.os, k.tape.trans h.tape, k.output.trans h.output, Nat.le_trans h.size k.size, fun i hi hb => (k.block i (by have := h.size; omega) hb).trans (h.block i hi hb)⟩
theorem grownBy_set (w : World) (b i : Nat) (v : Value) : w.grownBy (w.setCell ⟨b, i, none⟩ v) (some b) :=
  ⟨rfl, rfl, rfl, by simp, fun k _ hk => Below.heap_setCell _ _ _ _ (by intro e; exact hk (by rw [e]))⟩

theorem run_storeCells_at (b off m : Nat) (t : TypeId) (g : Nat → Value) : ∀ (k i : Nat) (w : World) (f : Nat → Value), w.rowIs b t m f → off + i + k ≤ m → (∀ j, j < i + k → (g j).oneCell' = true) →
    ∃ w', (storeCells ⟨b, off, none⟩ ((List.range' i k).map g) i).run P w = .ok () w' ∧ w'.rowIs b t m (putN f (off + i) k fun j => g (i + j)) ∧ w.grownBy w' (some b) ∧ w'.heap.size = w.heap.size
  | 0, i, w, f, hr, _, _ => ⟨w, by simp [storeCells], hr.congr fun j _ => by unfold putN; rw [if_neg (by omega)], grownBy_refl _ _, rfl⟩
  | k + 1, i, w, f, hr, hm, h1 => by
    have hi : off + i < m := by omega
    have hst : (store ((⟨b, off, none⟩ : Addr).add i) (g i)).run P w = .ok () (w.setCell ⟨b, off + i, none⟩ (g i)) := by
      rw [add_eq, run_store P w _ _ _ (h1 i (by omega)), hr.cell hi]
      simp [hr.frozen]
    obtain ⟨w', e1, e2, e3, e4⟩ := run_storeCells_at b off m t g k (i + 1) (w.setCell ⟨b, off + i, none⟩ (g i)) _ (hr.set (off + i) (g i)) (by omega) (fun j hj => h1 j (by omega))
    refine ⟨w', ?_, e2.congr fun j hj => ?_, grownBy_trans (grownBy_set _ _ _ _) e3, by rw [e4]; simp⟩
    · simp only [List.range'_succ, List.map_cons, storeCells, Sem.run_bind, hst, Result.andThen_ok, e1]
    · unfold putN
      show (if off + (i + 1) ≤ j ∧ j < off + (i + 1) + k then g (i + 1 + (j - (off + (i + 1)))) else if j = off + i then g i else f j) = if off + i ≤ j ∧ j < off + i + (k + 1) then g (i + (j - (off + i))) else f j
      by_cases hj1 : off + (i + 1) ≤ j ∧ j < off + (i + 1) + k
      · rw [if_pos hj1, if_pos ⟨by omega, by omega⟩]; congr 1; omega
      · rw [if_neg hj1]
        by_cases hj2 : j = off + i
        · subst hj2; simp
        · rw [if_neg hj2, if_neg (by omega)]

theorem run_store_arr {w : World} {b m off k : Nat} {t ty : TypeId} {f g : Nat → Value} (hr : w.rowIs b t m f) (hk : off + k ≤ m) (hi : (P.info? ty).map (fun i => i.size) = some k) (h1 : ∀ j, j < k → (g j).oneCell' = true) :
    ∃ w', (storeVar ty ⟨b, off, none⟩ (.agg (arrOf k g))).run P w = .ok () w' ∧ w'.rowIs b t m (putN f off k g) ∧ w.grownBy w' (some b) ∧ w'.heap.size = w.heap.size := by
  obtain ⟨w', e1, e2, e3, e4⟩ := run_storeCells_at (P := P) b off m t g k 0 w f hr (by omega) (by intro j hj; exact h1 j (by omega))
  refine ⟨w', ?_, by simpa using e2, e3, e4⟩
  cases hq : P.info? ty with
  | none => simp [hq] at hi
  | some i =>
    have hs : i.size = k := by simpa [hq] using hi
    have hl : (arrOf k g).toList = (List.range' 0 k).map g := by simp [arrOf, List.range_eq_range']
    simp [storeVar, sizeOf, typeInfo, hq, Value.cells, hs, arrOf_size, hl, e1]

variable {ops : Array Oper} {rest : List Oper} {o : Oper} {a : Act} {w : World} {Q : Exit → Act → World → Prop}

/-- A whole array (or struct) is loaded. -/
theorem wpList_load_arr (hgd : o.guard = none) (ty : TypeId) (x : Operand) (ho : o.op = .load ty x) (k : Nat) (ht : IsArr P ty k) {b m off : Nat} {t : TypeId} {f : Nat → Value}
    (hr : w.rowIs b t m f) (hx : a.eval x = .pointer (some ⟨b, off, none⟩)) (hk : off + k ≤ m) (h : wpList P ops Q rest (a.put o.dst (.agg (arrOf k fun i => f (off + i)))) w) : wpList P ops Q (o :: rest) a w :=
  wpList_plain hgd fun _ hK => by
    unfold Oper.wp execOp
    simp only [ho, hx, Instr.loadAt, Instr.sureAddr, Sem.run_bind, Sem.run_pure, Result.andThen_ok, run_load_arr hr hk ht]
    exact hK _ _ h

/-- A whole array (or struct) is stored. -/
theorem wpList_store_arr (hgd : o.guard = none) (ty : TypeId) (x y : Operand) (ho : o.op = .store ty x y) (k : Nat) (ht : IsArr P ty k) {b m off : Nat} {t : TypeId} {f g : Nat → Value}
    (hr : w.rowIs b t m f) (hx : a.eval x = .pointer (some ⟨b, off, none⟩)) (hy : a.eval y = .agg (arrOf k g)) (hk : off + k ≤ m) (h1 : ∀ j, j < k → (g j).oneCell' = true)
    (h : ∀ w', w'.rowIs b t m (putN f off k g) → w.grownBy w' (some b) → w'.heap.size = w.heap.size → wpList P ops Q rest (a.put o.dst undef) w') : wpList P ops Q (o :: rest) a w :=
  wpList_plain hgd fun _ hK => by
    obtain ⟨w', e1, e2, e3, e4⟩ := run_store_arr (P := P) hr hk ht.2 h1
    unfold Oper.wp execOp
    simp only [ho, hx, hy, Instr.storeAt, Instr.sureAddr, Sem.run_bind, Sem.run_pure, Result.andThen_ok, e1]
    exact hK _ _ (h w' e2 e3 e4)

/-- A variable of whatever type, its zero value known. -/
theorem wpList_alloc_arr (hgd : o.guard = none) (ty : TypeId) (ho : o.op = .alloc ty) (c : Array Value) (hz : (P.info? ty).map (fun i => i.zero) = some (some (.agg c)))
    (h : wpList P ops Q rest (a.put o.dst (.pointer (some ⟨w.heap.size, 0, none⟩))) (w.alloc (.cells c ty))) : wpList P ops Q (o :: rest) a w :=
  wpList_plain hgd fun _ hK => by
    cases hq : P.info? ty with
    | none => simp [hq] at hz
    | some i =>
      have hz' : i.zero = some (.agg c) := by simpa [hq] using hz
      unfold Oper.wp execOp
      simp [ho, Instr.alloc, zeroValue, typeInfo, hq, hz', newVar, newRow, newObj, Value.cells, Result.andThen]
      exact hK _ _ h

/-- A result that lies in a variable of its own, an array. -/
theorem ret_cell_arr {fn : Func} {R : Ending → World → Prop} {p : Tmp} {ty : TypeId} {k b off m : Nat} {t : TypeId} {f : Nat → Value} (h : fn.results = #[.cell p ty]) (ht : IsArr P ty k)
    (hr : w.rowIs b t m f) (hp : a.tmps.getD p undef = .pointer (some ⟨b, off, none⟩)) (hk : off + k ≤ m) (hd : a.defers = []) (hR : R (.returned (.agg (arrOf k fun i => f (off + i)))) w) : bodyPost P fn R .ret a w := by
  refine bodyPost_ret (v := .agg (arrOf k fun i => f (off + i))) ?_ hd hR
  have hp' : a.tmps[p]?.getD undef = .pointer (some ⟨b, off, none⟩) := by simpa using hp
  simp [results, h, hp', asAddr, run_load_arr hr hk ht]

theorem rowIs_arr (w : World) (n : Nat) (f : Nat → Value) (t : TypeId) : (w.alloc (.cells (arrOf n f) t)).rowIs w.heap.size t n f := by
  have h := World.rowIs_alloc w (arrOf n f) t f (fun i hi => arrOf_get n _ i (by rw [arrOf_size] at hi; exact hi))
  rwa [arrOf_size] at h

/-- An array that is built of its elements. -/
theorem wpList_build_arr (hgd : o.guard = none) (ty : TypeId) (parts : Array (Nat × Operand)) (ho : o.op = .build ty parts) (c : Array Value) (hb : P.built ty (parts.map fun (i, x) => (i, a.eval x)).toList = some c)
    (h : wpList P ops Q rest (a.put o.dst (.agg c)) w) : wpList P ops Q (o :: rest) a w :=
  wpList_build hgd ty parts ho (by rw [hb]; rfl) (by rw [hb]; exact h)

/-- An element of an array that is a value. -/
theorem wpList_index_arr (hgd : o.guard = none) (ty elem : TypeId) (x y : Operand) (ho : o.op = .index ty x y) (n : Nat) (hu : P.underlying ty = some (.array n elem)) (d : TypeDesc) (hd : P.underlying elem = some d)
    (hagg : (match d with | .struct _ | .array _ _ => true | _ => false) = false) (hi : (P.info? elem).map (fun i => i.size) = some 1) {k : IntKind} {f : Nat → Value} {j : Nat} (hx : a.eval x = .agg (arrOf n f)) (hy : a.eval y = .int k (j : Int)) (hj : j < n)
    (h : wpList P ops Q rest (a.put o.dst (f j)) w) : wpList P ops Q (o :: rest) a w :=
  wpList_plain hgd fun _ hK => by
    cases hq : P.info? elem with
    | none => simp [hq] at hi
    | some i =>
      have hs : i.size = 1 := by simpa [hq] using hi
      have hg : (isAgg elem).run P w = .ok false w := by
        unfold isAgg
        rw [Sem.run_bind, run_underlying hd w]
        cases d <;> simp_all
      have hc : (arrOf n f)[j]? = some (f j) := arrOf_get n f j hj
      unfold Oper.wp execOp
      simp [ho, hx, hy, Instr.index, asIntOf, run_underlying hu w, sizeOf, typeInfo, hq, hs, part, hg, hc, hj, Result.andThen]
      exact hK _ _ h

theorem run_bound_in (w : World) (k : IntKind) (j y : Nat) (code : BoundsCode) (h : j ≤ y) : (Instr.sliceBound (.int k (j : Int)) y code).run P w = .ok j w := by
  rw [run_sliceBound w k (j : Int) y code (by omega) (by omega)]
  rfl

/-- 'arr[j:]' of an array that lies in a row. -/
theorem run_sliceFrom_arr (w : World) (ty elem : TypeId) (n b off j : Nat) (k : IntKind) (hu : P.underlying ty = some (.array n elem)) (hi : (P.info? elem).map (fun i => i.size) = some 1) (hj : j < n) :
    (Instr.sliceAt ty (.pointer (some ⟨b, off, none⟩)) (some (.int k (j : Int))) none none).run P w = .ok (.slice (some ⟨b, off + j, none⟩) (n - j) (n - j)) w := by
  cases hq : P.info? elem with
  | none => simp [hq] at hi
  | some i =>
    have hs : i.size = 1 := by simpa [hq] using hi
    have hne : ¬ n = j := by omega
    simp [Instr.sliceAt, run_underlying hu w, Instr.sureAddr, Instr.sliceBounds, run_bound_in w k j n _ (by omega), sizeOf, typeInfo, hq, hs, hne, add_eq, Result.andThen]

/-- 'arr[:]'. -/
theorem run_sliceAll_arr (w : World) (ty elem : TypeId) (n b off : Nat) (hu : P.underlying ty = some (.array n elem)) (hi : (P.info? elem).map (fun i => i.size) = some 1) (hj : 0 < n) :
    (Instr.sliceAt ty (.pointer (some ⟨b, off, none⟩)) none none none).run P w = .ok (.slice (some ⟨b, off, none⟩) n n) w := by
  cases hq : P.info? elem with
  | none => simp [hq] at hi
  | some i =>
    have hs : i.size = 1 := by simpa [hq] using hi
    have hne : ¬ n = 0 := by omega
    simp [Instr.sliceAt, run_underlying hu w, Instr.sureAddr, Instr.sliceBounds, sizeOf, typeInfo, hq, hs, hne, add_eq, Result.andThen]

/-- 's[j:]' of a slice. -/
theorem run_sliceFrom (w : World) (ty elem : TypeId) (a : Option Addr) (n cap j : Nat) (k : IntKind) (hu : P.underlying ty = some (.slice elem)) (hi : (P.info? elem).map (fun i => i.size) = some 1) (hj : j ≤ n) :
    (Instr.sliceAt ty (.slice a n cap) (some (.int k (j : Int))) none none).run P w = .ok (.slice (if cap = j then a else a.map (·.add j)) (n - j) (cap - j)) w := by
  cases hq : P.info? elem with
  | none => simp [hq] at hi
  | some i =>
    have hs : i.size = 1 := by simpa [hq] using hi
    simp [Instr.sliceAt, run_underlying hu w, Instr.slice, Instr.sliceBounds, run_bound_in w k j n _ hj, sizeOf, typeInfo, hq, hs, Result.andThen]

/-- Whatever operation that yields a value, its run known. -/
theorem wpList_value (hgd : o.guard = none) {w' : World} (v : Value) (hx : (execOp a.eval o).run P w = .ok (.value v) w') (h : wpList P ops Q rest (a.put o.dst v) w') : wpList P ops Q (o :: rest) a w :=
  wpList_plain hgd fun _ hK => by
    unfold Oper.wp
    rw [hx]
    exact hK _ _ h
theorem wpList_sliceFrom_arr (hgd : o.guard = none) (ty elem : TypeId) (x lo : Operand) (ho : o.op = .slice ty x (some lo) none none) {n b off j : Nat} {k : IntKind} (hu : P.underlying ty = some (.array n elem)) (hi : (P.info? elem).map (fun i => i.size) = some 1)
    (hx : a.eval x = .pointer (some ⟨b, off, none⟩)) {i : Int} (hlo : a.eval lo = .int k i) (hij : i = (j : Int)) (hj : j < n) (h : wpList P ops Q rest (a.put o.dst (.slice (some ⟨b, off + j, none⟩) (n - j) (n - j))) w) : wpList P ops Q (o :: rest) a w :=
  wpList_value hgd _ (by simp [execOp, ho, hx, hlo, hij, run_sliceFrom_arr w ty elem n b off j k hu hi hj, Result.andThen]) h
theorem wpList_sliceFrom (hgd : o.guard = none) (ty elem : TypeId) (x lo : Operand) (ho : o.op = .slice ty x (some lo) none none) {ad : Option Addr} {n cap j : Nat} {k : IntKind} (hu : P.underlying ty = some (.slice elem)) (hi : (P.info? elem).map (fun i => i.size) = some 1)
    (hx : a.eval x = .slice ad n cap) {i : Int} (hlo : a.eval lo = .int k i) (hij : i = (j : Int)) (hj : j ≤ n) (h : wpList P ops Q rest (a.put o.dst (.slice (if cap = j then ad else ad.map (·.add j)) (n - j) (cap - j))) w) : wpList P ops Q (o :: rest) a w :=
  wpList_value hgd _ (by simp [execOp, ho, hx, hlo, hij, run_sliceFrom w ty elem ad n cap j k hu hi hj, Result.andThen]) h
end

theorem Bs.drop {w : World} {a : Option Addr} {n cap k : Nat} {l : List UInt8} (h : Bs w (.slice a n cap) l) (hk : k ≤ n) : Bs w (.slice (if cap = k then a else a.map (·.add k)) (n - k) (cap - k)) (l.drop k) := by
  obtain ⟨a', cap', he, h1, h2, h3, h4⟩ := h
  cases he
  have e : (l.drop k).length = l.length - k := by simp
  refine ⟨_, cap - k, by rw [e], by omega, by omega, ?_, ?_⟩
  · intro hn
    by_cases hc : cap = k
    · omega
    · rw [if_neg hc] at hn
      have := h3 (by simpa using hn)
      omega
  · intro x hx i hi
    rw [e] at hi
    rw [if_neg (by omega)] at hx
    obtain ⟨x0, hx0, rfl⟩ := Option.map_eq_some_iff.1 hx
    obtain ⟨g1, g2⟩ := h4 x0 hx0 (k + i) (by omega)
    refine ⟨by rw [add_block]; exact g1, ?_⟩
    have hs : x0.spot = none := by
      have g3 := (h4 x0 hx0 0 (by omega)).2
      obtain ⟨b, off, spot⟩ := x0
      simpa [Addr.add] using World.cell?_spot g3
    obtain ⟨b, off, spot⟩ := x0
    subst hs
    rw [add_eq, add_eq]
    rw [add_eq] at g2
    rw [Nat.add_assoc, g2]
    simp
end Go.Proofs.Ythapdohblphlgaa
