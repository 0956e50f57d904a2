/- copy of bytes into a row that is known whole. -/
import Derived.Test.YthapdohblphlgaaArr
import Derived.Test.YthapdohblphlgaaLins
import Derived.Laws.CopyOwn
namespace Go.Proofs.Ythapdohblphlgaa
open Go.RowKit Go.Deep

def bytesAt (l : List UInt8) : Nat → Value := fun i => .int .u8 ((l.getD i 0).toNat : Int)
theorem grownBy_setRow (w : World) (b : Nat) (c : Array Value) : w.grownBy (w.setRow b c) (some b) :=
  ⟨rfl, rfl, rfl, by simp, fun k _ hk => setRow_other w b k c (by intro e; exact hk (by rw [e]))⟩

theorem exec_copy {w : World} {b m off dLen dCap : Nat} {t : TypeId} {f : Nat → Value} (hr : w.rowIs b t m f) {vb : Value} {l : List UInt8} (hB : Bs w vb l) (ρ : Operand → Value) (d s : Operand) (ty : TypeId)
    (hd : ρ d = .slice (some ⟨b, off, none⟩) dLen dCap) (hs : ρ s = vb) (hfit : off + dLen ≤ m) (n : Nat) (hn : n = Nat.min l.length dLen) :
    ∃ w', (execOp ρ (mkOp (.call { callee := .builtin .copy, args := #[d, s], argTypes := #[22, 22] }) ty)).run Try.prog w = .ok (.value (.int .i64 (n : Int))) w' ∧
      w'.rowIs b t m (putN f off n (bytesAt l)) ∧ w.grownBy w' (some b) ∧ w'.heap.size = w.heap.size := by
  have hu : Try.prog.underlying 22 = some (.slice 5) := Try.underlying22
  have hsz : (Try.prog.info? 5).map (·.size) = some 1 := by kernel_rfl
  obtain ⟨ad, cap, rfl, h1, h2, h3, h4⟩ := hB
  by_cases h0 : n = 0
  · subst h0
    have hrun := run_copy_none (P := Try.prog) w 22 22 ty 5 (some ⟨b, off, none⟩) ad dLen dCap l.length cap hu hsz hn.symm
    refine ⟨w, ?_, hr.congr fun i _ => by unfold putN; rw [if_neg (by omega)], grownBy_refl _ _, rfl⟩
    simp [execOp, mkOp, resolve, invoke, builtin, hd, hs, hrun, Result.andThen, goInt]
  · have hlen : 0 < l.length := by
      rcases Nat.eq_zero_or_pos l.length with h | h
      · rw [h] at hn; simp at hn; omega
      · exact h
    have hnl : n ≤ l.length := by rw [hn]; exact Nat.min_le_left _ _
    have hnd : n ≤ dLen := by rw [hn]; exact Nat.min_le_right _ _
    obtain ⟨x, rfl⟩ : ∃ x, ad = some x := by
      cases ad with
      | none => have := h3 rfl; omega
      | some x => exact ⟨x, rfl⟩
    obtain ⟨c, hc, hcs, hcf⟩ := hr
    have hlc : ((List.range n).map (bytesAt l)).length = n := by simp
    have hrun := run_copy_row (P := Try.prog) w 22 22 ty 5 b off dLen dCap x l.length cap c t ((List.range n).map (bytesAt l)) hu hsz hc (by rw [hlc]; exact hn) (fun j v hj => by
      obtain ⟨hj', rfl⟩ := List.getElem?_eq_some_iff.1 hj
      rw [hlc] at hj'
      rw [(h4 x rfl j (by omega)).2]
      simp [bytesAt, List.getD_eq_getElem?_getD, show j < l.length by omega]) (by rw [hlc]; omega) (by
      intro v hv
      simp only [List.mem_map] at hv
      obtain ⟨i, _, rfl⟩ := hv
      rfl)
    rw [hlc] at hrun
    obtain ⟨N, hN⟩ : ∃ N, N = (c.toList.take off ++ (List.range n).map (bytesAt l) ++ c.toList.drop (off + n)).toArray := ⟨_, rfl⟩
    rw [← hN] at hrun
    refine ⟨w.setRow b N, ?_, ⟨N, setRow_heap w b _ _ t _ hc, ?_, ?_⟩, grownBy_setRow _ _ _, by simp⟩
    · simp [execOp, mkOp, resolve, invoke, builtin, hd, hs, hrun, Result.andThen, goInt]
    · rw [hN]; simp [hcs]; omega
    · intro i hi
      rw [hN]
      unfold putN
      simp only [List.getElem?_toArray, List.getElem?_append, List.length_append, List.length_take, Array.length_toList, hcs, List.length_map, List.length_range]
      by_cases e1 : i < off
      · rw [if_pos (by omega), if_pos (by omega), if_neg (by omega), List.getElem?_take_of_lt e1]
        simpa using hcf i hi
      · by_cases e2 : i < off + n
        · rw [if_pos (by omega), if_neg (by omega), if_pos ⟨by omega, e2⟩]
          simp [show min off m = off by omega, show i - off < n by omega]
        · rw [if_neg (by omega), if_neg (by omega), List.getElem?_drop]
          rw [show off + n + (i - (min off m + n)) = i by omega]
          simpa using hcf i hi

/-- 's[j:]', j short of the capacity, as an operation of a region that draws. -/
theorem exec_sliceAt {P : Program} {w : World} (ρ : Operand → Value) (ty elem : TypeId) (x lo : Operand) (t : TypeId) {b off n cap n' cap' off' : Nat} (j : Nat) {k : IntKind} {i : Int} (hu : P.underlying ty = some (.slice elem)) (hi : (P.info? elem).map (fun i => i.size) = some 1)
    (hx : ρ x = .slice (some ⟨b, off, none⟩) n cap) (hlo : ρ lo = .int k i) (hij : i = (j : Int)) (hj : j ≤ n) (hjc : j < cap) (hn : n' = n - j) (hc : cap' = cap - j) (ho : off' = off + j) :
    (execOp ρ (mkOp (.slice ty x (some lo) none none) t)).run P w = .ok (.value (.slice (some ⟨b, off', none⟩) n' cap')) w := by
  subst hn hc ho
  have hrun := run_sliceFrom (P := P) w ty elem (some ⟨b, off, none⟩) n cap j k hu hi hj
  rw [if_neg (by omega)] at hrun
  simp only [Option.map_some, add_eq] at hrun
  simp [execOp, mkOp, hx, hlo, hij, hrun, Result.andThen]
/-- 'arr[:]' likewise. -/
theorem exec_sliceAll {P : Program} {w : World} (ρ : Operand → Value) (ty elem : TypeId) (x : Operand) (t : TypeId) {b off n : Nat} (hu : P.underlying ty = some (.array n elem)) (hi : (P.info? elem).map (fun i => i.size) = some 1)
    (hx : ρ x = .pointer (some ⟨b, off, none⟩)) (hj : 0 < n) :
    (execOp ρ (mkOp (.slice ty x none none none) t)).run P w = .ok (.value (.slice (some ⟨b, off, none⟩) n n)) w := by
  have hrun := run_sliceAll_arr (P := P) w ty elem n b off hu hi hj
  simp [execOp, mkOp, hx, hrun, Result.andThen]
/-- A load of one cell. -/
theorem exec_load_cell {P : Program} {w : World} (ρ : Operand → Value) (ty : TypeId) (x : Operand) (t : TypeId) {p : Addr} {v : Value} (hx : ρ x = .pointer (some p)) (hu : (P.underlying ty).map (fun d => match d with | .struct _ | .array _ _ => true | _ => false) = some false) (hc : w.cell? p = some v) :
    (execOp ρ (mkOp (.load ty x) t)).run P w = .ok (.value v) w := by
  cases hd : P.underlying ty with
  | none => simp [hd] at hu
  | some d =>
    have hagg : (isAgg ty).run P w = .ok false w := by
      unfold isAgg
      rw [Sem.run_bind, run_underlying hd w]
      simp [hd] at hu
      cases d <;> simp_all
    simp [execOp, mkOp, hx, Instr.loadAt, Instr.sureAddr, loadVar, Sem.run_bind, hagg, hc, Result.andThen]
/-- A load of an array. -/
theorem exec_load_arr {P : Program} {w : World} (ρ : Operand → Value) (ty : TypeId) (x : Operand) (t : TypeId) {k b m off : Nat} {t' : TypeId} {f : Nat → Value} (hx : ρ x = .pointer (some ⟨b, off, none⟩)) (ht : IsArr P ty k) (hr : w.rowIs b t' m f) (hk : off + k ≤ m) :
    (execOp ρ (mkOp (.load ty x) t)).run P w = .ok (.value (.agg (arrOf k fun i => f (off + i)))) w := by
  simp [execOp, mkOp, hx, Instr.loadAt, Instr.sureAddr, Sem.run_bind, run_load_arr hr hk ht, Result.andThen]
/-- A store of an array. -/
theorem exec_store_arr {P : Program} {w : World} (ρ : Operand → Value) (ty : TypeId) (x y : Operand) (t : TypeId) {k b m off : Nat} {t' : TypeId} {f g : Nat → Value} (hr : w.rowIs b t' m f) (hx : ρ x = .pointer (some ⟨b, off, none⟩)) (hy : ρ y = .agg (arrOf k g)) (ht : IsArr P ty k)
    (hk : off + k ≤ m) (h1 : ∀ j, j < k → (g j).oneCell' = true) :
    ∃ w', (execOp ρ (mkOp (.store ty x y) t)).run P w = .ok .skip w' ∧ w'.rowIs b t' m (putN f off k g) ∧ w.grownBy w' (some b) ∧ w'.heap.size = w.heap.size := by
  obtain ⟨w', e1, e2⟩ := run_store_arr (P := P) hr hk ht.2 h1
  refine ⟨w', ?_, e2⟩
  simp [execOp, mkOp, hx, hy, Instr.storeAt, Instr.sureAddr, Sem.run_bind, e1, Result.andThen]
/-- A store of one cell into a row. -/
theorem exec_store_cell {P : Program} {w : World} (ρ : Operand → Value) (ty : TypeId) (x y : Operand) (t : TypeId) {b m off : Nat} {t' : TypeId} {f : Nat → Value} {v : Value} (hr : w.rowIs b t' m f) (hx : ρ x = .pointer (some ⟨b, off, none⟩)) (hy : ρ y = v)
    (hi : (P.info? ty).map (fun i => i.size) = some 1) (hv : v.cells = #[v]) (h1 : v.oneCell' = true) (hk : off < m) :
    (execOp ρ (mkOp (.store ty x y) t)).run P w = .ok .skip (w.setCell ⟨b, off, none⟩ v) := by
  cases hq : P.info? ty with
  | none => simp [hq] at hi
  | some i =>
    have hs : i.size = 1 := by simpa [hq] using hi
    have hst : (store ((⟨b, off, none⟩ : Addr).add 0) v).run P w = .ok () (w.setCell ⟨b, off, none⟩ v) := by
      rw [add_eq, run_store P w _ _ _ h1, hr.cell (by omega)]
      simp [hr.frozen]
    simp [execOp, mkOp, hx, hy, Instr.storeAt, Instr.sureAddr, storeVar, sizeOf, typeInfo, hq, hs, hv, storeCells, Sem.run_bind, hst, Result.andThen]

/-- copy into a row, as a writer of a region that draws. -/
theorem lins_copy {ops : Array Oper} {Q : Exit → Act → World → Prop} {i : Nat} {r : List (Nat × Option (List Nat))} {R : Nat → World → Prop} {a : Act} {w : World} {o : Oper} (d : Option Nat) (x y : Operand) (t : TypeId) (ho : ops[i]? = some o) (hd : o.dst = d)
    (hop : o.op = .call { callee := .builtin .copy, args := #[x, y], argTypes := #[22, 22] }) (ht : o.type = t) (hw : Region.wanted o (yielded ops a.tmps) = true)
    {b m off dLen dCap : Nat} {t' : TypeId} {f : Nat → Value} (hr : w.rowIs b t' m f) {vb : Value} {l : List UInt8} (hB : Bs w vb l) (hx : a.eval x = .slice (some ⟨b, off, none⟩) dLen dCap) (hy : a.eval y = vb) (hfit : off + dLen ≤ m) (n : Nat) (hn : n = Nat.min l.length dLen)
    (h : ∀ w', w'.rowIs b t' m (putN f off n (bytesAt l)) → w.grownBy w' (some b) → w'.heap.size = w.heap.size → ∃ R' : Nat → World → Prop, (∀ c ∈ writers r, R' c w' ∧ ∀ w'', R' c w'' → R c w'') ∧ LinS Try.prog ops Q r R' (a.put d (.int .i64 (n : Int))) w') :
    LinS Try.prog ops Q ((i, none) :: r) R a w := by
  obtain ⟨w', hx', h1, h2, h3⟩ := exec_copy hr hB a.eval x y t hx hy hfit n hn
  obtain ⟨R', g1, g2⟩ := h w' h1 h2 h3
  exact lins_made d _ t _ w' ho hd hop ht hw hx' R' g1 g2
/-- A store of an array likewise. -/
theorem lins_store_arr {P : Program} {ops : Array Oper} {Q : Exit → Act → World → Prop} {i : Nat} {r : List (Nat × Option (List Nat))} {R : Nat → World → Prop} {a : Act} {w : World} {o : Oper} (ty : TypeId) (x y : Operand) (ho : ops[i]? = some o) (hd : o.dst = none) (hop : o.op = .store ty x y)
    (hw : Region.wanted o (yielded ops a.tmps) = true) {k b m off : Nat} {t' : TypeId} {f g : Nat → Value} (hr : w.rowIs b t' m f) (hx : a.eval x = .pointer (some ⟨b, off, none⟩)) (hy : a.eval y = .agg (arrOf k g)) (ht : IsArr P ty k)
    (hk : off + k ≤ m) (h1 : ∀ j, j < k → (g j).oneCell' = true)
    (h : ∀ w', w'.rowIs b t' m (putN f off k g) → w.grownBy w' (some b) → w'.heap.size = w.heap.size → ∃ R' : Nat → World → Prop, (∀ c ∈ writers r, R' c w' ∧ ∀ w'', R' c w'' → R c w'') ∧ LinS P ops Q r R' a w') :
    LinS P ops Q ((i, none) :: r) R a w := by
  obtain ⟨w', hx', e1, e2, e3⟩ := exec_store_arr (P := P) a.eval ty x y o.type hr hx hy ht hk h1
  obtain ⟨R', g1, g2⟩ := h w' e1 e2 e3
  exact lins_store _ o.type w' ho hd hop rfl hw hx' R' g1 g2
theorem lins_store_cell {P : Program} {ops : Array Oper} {Q : Exit → Act → World → Prop} {i : Nat} {r : List (Nat × Option (List Nat))} {R : Nat → World → Prop} {a : Act} {w : World} {o : Oper} (ty : TypeId) (x y : Operand) (ho : ops[i]? = some o) (hd : o.dst = none) (hop : o.op = .store ty x y)
    (hw : Region.wanted o (yielded ops a.tmps) = true) {b m off : Nat} {t' : TypeId} {f : Nat → Value} {v : Value} (hr : w.rowIs b t' m f) (hx : a.eval x = .pointer (some ⟨b, off, none⟩)) (hy : a.eval y = v) (hi : (P.info? ty).map (fun i => i.size) = some 1)
    (hv : v.cells = #[v]) (h1 : v.oneCell' = true) (hk : off < m)
    (h : ∃ R' : Nat → World → Prop, (∀ c ∈ writers r, R' c (w.setCell ⟨b, off, none⟩ v) ∧ ∀ w'', R' c w'' → R c w'') ∧ LinS P ops Q r R' a (w.setCell ⟨b, off, none⟩ v)) :
    LinS P ops Q ((i, none) :: r) R a w := by
  obtain ⟨R', g1, g2⟩ := h
  exact lins_store _ o.type _ ho hd hop rfl hw (exec_store_cell (P := P) a.eval ty x y o.type hr hx hy hi hv h1 hk) R' g1 g2

/-- Whatever operation that yields a value, by its kind. -/
theorem wpList_op {P : Program} {ops : Array Oper} {rest : List Oper} {o : Oper} {a : Act} {w w' : World} {Q : Exit → Act → World → Prop} (hgd : o.guard = none) (op : Op) (t : TypeId) (v : Value) (hop : o.op = op) (ht : o.type = t)
    (hx : (execOp a.eval (mkOp op t)).run P w = .ok (.value v) w') (h : wpList P ops Q rest (a.put o.dst v) w') : wpList P ops Q (o :: rest) a w :=
  wpList_value hgd v (by rw [exec_mkOp, hop, ht]; exact hx) h
/-- 's[j:]' where s reads as bytes: it reads as what is left of them; where it lies is left open. -/
theorem wpList_bsFrom {ops : Array Oper} {rest : List Oper} {o : Oper} {a : Act} {w : World} {Q : Exit → Act → World → Prop} (hgd : o.guard = none) (x lo : Operand) (ho : o.op = .slice 22 x (some lo) none none) {ad : Option Addr} {n cap : Nat} {l : List UInt8} (hB : Bs w (.slice ad n cap) l) (j : Nat) {k : IntKind} {i : Int}
    (hx : a.eval x = .slice ad n cap) (hlo : a.eval lo = .int k i) (hij : i = (j : Int)) (hj : j ≤ n)
    (h : ∀ ad', ad' = (if cap = j then ad else ad.map (·.add j)) → Bs w (.slice ad' (n - j) (cap - j)) (l.drop j) → wpList Try.prog ops Q rest (a.put o.dst (.slice ad' (n - j) (cap - j))) w) : wpList Try.prog ops Q (o :: rest) a w :=
  wpList_sliceFrom hgd 22 5 x lo ho Try.underlying22 (by kernel_rfl) hx hlo hij hj (h _ rfl (hB.drop hj))
/-- copy into a row that is known whole. -/
theorem wpList_copy_bytes {ops : Array Oper} {rest : List Oper} {o : Oper} {a : Act} {w : World} {Q : Exit → Act → World → Prop} (hgd : o.guard = none) (x y : Operand) (ho : o.op = .call { callee := .builtin .copy, args := #[x, y], argTypes := #[22, 22] })
    {b m off dLen dCap : Nat} {t' : TypeId} {f : Nat → Value} (hr : w.rowIs b t' m f) {vb : Value} {l : List UInt8} (hB : Bs w vb l) (hx : a.eval x = .slice (some ⟨b, off, none⟩) dLen dCap) (hy : a.eval y = vb) (hfit : off + dLen ≤ m) (n : Nat) (hn : n = Nat.min l.length dLen)
    (h : ∀ w', w'.rowIs b t' m (putN f off n (bytesAt l)) → w.grownBy w' (some b) → w'.heap.size = w.heap.size → wpList Try.prog ops Q rest (a.put o.dst (.int .i64 (n : Int))) w') : wpList Try.prog ops Q (o :: rest) a w := by
  obtain ⟨w', hx', h1, h2, h3⟩ := exec_copy hr hB a.eval x y o.type hx hy hfit n hn
  exact wpList_op hgd _ o.type _ ho rfl hx' (h w' h1 h2 h3)

/-- A closure over one variable. -/
theorem exec_makeFunc1 {P : Program} {w : World} (ρ : Operand → Value) (fn : Fn) (x : Operand) (t : TypeId) {u : Value} (hx : ρ x = u) : (execOp ρ (mkOp (.makeFunc fn #[] #[x]) t)).run P w = .ok (.value (.func fn #[] #[u])) w := by
  have hmf : ∀ (fn : Fn) (first cap : Array Value), (Instr.makeFunc fn first cap).run P w = .ok (.func fn first cap) w := fun _ _ _ => rfl
  simp [execOp, mkOp, hx, hmf, Result.andThen]
end Go.Proofs.Ythapdohblphlgaa
