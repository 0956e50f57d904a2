/- Items that answer bytes of their own, append to such, read such as a string; items behind guards. -/
import Derived.Test.YtncdlaidmiokiaaWalk
import Derived.Test.YtncdlaidmiokiaaFlip
set_option linter.unusedSimpArgs false
set_option linter.unusedVariables false
namespace Go.Proofs.Ytncdlaidmiokiaa
open Go.RowKit Go.Deep

/-- A row of bytes, as bytes of one's own. -/
theorem Owns.of_row {w : World} {base b n : Nat} {f : Nat → Value} {l : List UInt8} (h : w.rowIs b 5 n f) (hb : base ≤ b) (hm : n ≤ maxLen) (hl : l.length = n) (hf : ∀ i, (h : i < l.length) → f i = .int .u8 ((l[i].toNat : Nat) : Int)) : Owns w base (.slice (some ⟨b, 0, none⟩) n n) l := by
  obtain ⟨c, h1, h2, h3⟩ := h
  subst hl
  refine ⟨by rw [u8s_length, Nat.mul_one], .inr ⟨b, l.length, c, rfl, hb, h1, Nat.le_refl _, hm, by rw [h2, Nat.mul_one], ?_⟩⟩
  refine List.ext_getElem? fun i => ?_
  rw [Nat.mul_one]
  by_cases hi : i < l.length
  · rw [List.getElem?_take_of_lt hi, Array.getElem?_toList, h3 i hi, hf i hi]
    simp [u8s, hi]
  · rw [List.getElem?_eq_none (by simp [h2]; omega), List.getElem?_eq_none (by rw [u8s_length]; omega)]
theorem made_own (w : World) (n : Nat) (hm : n ≤ maxLen) : Owns (w.alloc (.cells (madeCells #[.int .u8 0] n) 5)) w.heap.size (.slice (some ⟨w.heap.size, 0, none⟩) n n) (List.replicate n 0) :=
  Owns.of_row (World.rowIs_made w (.int .u8 0) n 5) (Nat.le_refl _) hm List.length_replicate fun i hi => by
    rw [List.getElem_replicate]
    rfl
theorem exec_str {w : World} (ρ : Operand → Value) (x : Operand) (t : TypeId) {v : Value} {l : List UInt8} (hx : ρ x = v) (hB : Bs w v l) : (execOp ρ (mkOp (.convert 22 9 x) t)).run Try.prog w = .ok (.value (.string ⟨l.toArray⟩)) w := by
  have hc := hB.conv
  simp [execOp, mkOp, hx, hc, Result.andThen]
theorem exec_blen {w : World} (ρ : Operand → Value) (x : Operand) {v : Value} {l : List UInt8} (hx : ρ x = v) (hB : Bs w v l) : (execOp ρ (mkOp (.call { callee := .builtin .len, args := #[x], argTypes := #[22] }) 3)).run Try.prog w = .ok (.value (.int .i64 (l.length : Int))) w := by
  obtain ⟨ad, cap, rfl, _⟩ := hB
  simp only [execOp, mkOp, resolve, invoke, builtin, List.map_toArray, List.map_cons, List.map_nil, hx]
  go_simp
/-- append: what it answers lies where the first one lay, or in a block of its own. -/
theorem exec_app {w : World} (ρ : Operand → Value) (s x : Operand) (t : TypeId) (base : Nat)
    (v vb : Value) (l lb : List UInt8) (hown : Owns w base v l) (hb : Bs w vb lb) (hs : ρ s = v) (hx : ρ x = vb) (hlen : l.length + lb.length ≤ 2147483647) (hbase : base ≤ w.heap.size) :
    ∃ v' w', (execOp ρ (mkOp (.call { callee := .builtin .append, args := #[s, x], argTypes := #[22, 22] }) t)).run Try.prog w = .ok (.value v') w' ∧ Owns w' base v' (l ++ lb) ∧ w.grownBy w' v.ownBlock ∧ (v'.ownBlock = v.ownBlock ∨ ∀ b, v'.ownBlock = some b → w.heap.size ≤ b) := by
  obtain ⟨i0, hi, hz0, hz1, hz2⟩ := info_parts Try.info5
  obtain ⟨ad, cap, rfl, h1, h2, h3, h4⟩ := hb
  cases ad with
  | none =>
    have hc := h3 rfl
    obtain rfl : lb = [] := List.eq_nil_of_length_eq_zero (by omega)
    subst hc
    have hrun := run_append_owned_none (P := Try.prog) (w := w) base 22 t 5 i0 1 Try.underlying22 hi v l.length (u8s l) hown
    refine ⟨v, w, ?_, by simpa using hown, ⟨rfl, rfl, rfl, Nat.le_refl _, fun _ _ _ => rfl⟩, .inl rfl⟩
    simp [execOp, mkOp, resolve, invoke, builtin, hs, hx, hrun, Result.andThen]
  | some ad =>
    have hnews : ∀ j u, (u8s lb)[j]? = some u → w.cell? (ad.add j) = some u := by
      intro j u hj
      have hj' : j < lb.length := by have := (List.getElem?_eq_some_iff.1 hj).1; simpa [u8s] using this
      rw [(h4 _ rfl j hj').2, ← hj]
      simp [u8s, hj']
    have hone : ∀ u ∈ u8s lb, u.oneCell' = true := by
      intro u hu
      simp only [u8s, List.mem_map] at hu
      obtain ⟨b, _, rfl⟩ := hu
      rfl
    have key : ∀ base', w.ownsRow base' 5 1 v l.length (u8s l) → base' ≤ w.heap.size → ∃ v' w', (Builtin.append_ #[22, 22] t #[v, .slice (some ad) lb.length cap]).run Try.prog w = .ok v' w' ∧ w'.ownsRow base' 5 1 v' (l.length + lb.length) (u8s l ++ u8s lb) ∧ w.grownBy w' v.ownBlock := fun base' ho hb' => by
      obtain ⟨v', w', hrun, g1, g2, _⟩ := run_append_own (P := Try.prog) w base' 22 t 5 i0 (.int .u8 0) 1 1 Try.underlying22 hi hz0 hz1 hz2 rfl (by decide) v l.length (u8s l) ho ad lb.length cap (u8s lb) (by simp [u8s]) hnews hone (by unfold maxLen; omega) (by omega) hb'
      exact ⟨v', w', hrun, g1, g2⟩
    obtain ⟨v', w', hrun, g1, g2⟩ := key base hown hbase
    refine ⟨v', w', ?_, ?_, g2, ?_⟩
    · simp [execOp, mkOp, resolve, invoke, builtin, hs, hx, hrun, Result.andThen]
    · unfold Owns
      rw [u8s_append, List.length_append]
      exact g1
    · have hown2 := hown
      obtain ⟨hl0, ho⟩ := hown2
      rcases ho with ⟨rfl, hn0⟩ | ⟨g, cap0, cur, rfl, hbg, hg, hnc, hcm, hcs, htake⟩
      · right
        obtain ⟨v2, w2, hrun2, k1, _⟩ := key w.heap.size (by
          have : l = [] := List.eq_nil_of_length_eq_zero hn0
          subst this
          exact World.ownsRow_nil _ _ _ _) (Nat.le_refl _)
        rw [hrun] at hrun2
        injection hrun2 with e1 e2
        subst e1; subst e2
        exact fun b hb => (World.ownsRow.lt k1 b hb).1
      · by_cases hroom : l.length + lb.length ≤ cap0
        · left
          have hr := run_append_room (P := Try.prog) w 22 t 5 i0 Try.underlying22 hi g l.length cap0 cur hg ad lb.length cap (u8s lb) (by rw [u8s_length, hz1, Nat.mul_one]) hnews hone hroom (by rw [hz1, u8s_length, hcs]; omega)
          rw [hrun] at hr
          injection hr with e1 e2
          subst e1
          rfl
        · right
          have holds : ∀ j u, (u8s l)[j]? = some u → w.cell? ((⟨g, 0, none⟩ : Addr).add j) = some u := World.ownsRow.cells hown (g := g) rfl
          have hr := run_append_grow (P := Try.prog) w 22 t 5 i0 (.int .u8 0) Try.underlying22 hi hz0 ⟨g, 0, none⟩ l.length cap0 (u8s l) (by rw [u8s_length, hz1, Nat.mul_one]) holds ad lb.length cap (u8s lb) (by rw [u8s_length, hz1, Nat.mul_one]) hnews (by omega) (by omega) (growslice_fits (by omega) (by rw [hz2]; omega))
          rw [hrun] at hr
          injection hr with e1 e2
          subst e1
          intro b hb
          have : w.heap.size = b := Option.some.inj hb
          omega

theorem Keep.nil {w w' : World} (h : Keep [] w w') : Below w.heap.size w w' := ⟨h.os, h.tape, h.output, h.size, fun k hk => h.block k hk rfl⟩
theorem exec_make32 (a : Act) (t : TypeId) (w : World) : (execOp a.eval (mkOp (.makeSlice 22 (.const (.int .i64 32)) (.const (.int .i64 32))) t)).run Try.prog w = .ok (.value (.slice (some ⟨w.heap.size, 0, none⟩) 32 32)) (w.alloc (.cells (madeCells #[.int .u8 0] 32) 5)) := by
  have h : (Instr.makeSlice 22 (.int .i64 32) (.int .i64 32)).run Try.prog w = .ok (.slice (some ⟨w.heap.size, 0, none⟩) 32 32) (w.alloc (.cells (madeCells #[.int .u8 0] 32) 5)) := run_make_row' (P := Try.prog) 22 5 (.int .u8 0) 1 Try.underlying22 Try.info5 rfl .i64 .i64 32 (by omega) (by omega) w
  have e : a.eval (.const (.int .i64 32)) = .int .i64 32 := rfl
  simp [execOp, mkOp, e, h, Result.andThen]
section
variable {P : Program} {ops : Array Oper} {Q : Exit → Act → World → Prop}
theorem wanted_of {o : Oper} {a : Act} {j d : Nat} {b : Bool} (hg : o.guard = some (j, b)) (hj : (ops[j]?).bind (·.dst) = some d) (he : a.eval (.tmp d) = .bool b) : Region.wanted o (yielded ops a.tmps) = true := by
  have hy : yielded ops a.tmps j = some b := by
    unfold yielded
    rw [hj, Option.bind_some]
    have h1 : a.tmps.getD d undef = .bool b := he
    rw [Array.getD_eq_getD_getElem?] at h1
    cases hx : a.tmps[d]? with
    | none => rw [hx] at h1; cases h1
    | some v =>
      rw [hx] at h1
      have h2 : v = .bool b := h1
      rw [h2]
  simp [Region.wanted, hg, hy]
theorem wanted_all {o : Oper} {a : Act} (hg : o.guard = none) : Region.wanted o (yielded ops a.tmps) = true := by simp [Region.wanted, hg]
theorem wanted_not {o : Oper} {a : Act} {j d : Nat} {b c : Bool} (hg : o.guard = some (j, b)) (hj : (ops[j]?).bind (·.dst) = some d) (he : a.eval (.tmp d) = .bool c) (hbc : (c == b) = false := by rfl) : Region.wanted o (yielded ops a.tmps) = false := by
  have hy : yielded ops a.tmps j = some c := by
    unfold yielded
    rw [hj, Option.bind_some]
    have h1 : a.tmps.getD d undef = .bool c := he
    rw [Array.getD_eq_getD_getElem?] at h1
    cases hx : a.tmps[d]? with
    | none => rw [hx] at h1; cases h1
    | some v =>
      rw [hx] at h1
      have h2 : v = .bool c := h1
      rw [h2]
  simp only [Region.wanted, hg, hy]
  cases b <;> cases c <;> simp_all
/-- What is not wanted. -/
theorem po_skip {bs : List Nat} {w0 : World} {i : Nat} {a : Act} {w : World} {o : Oper} {it : List PI} {olds : List Old} {N : Nat} {m : List Bool} {g : Nat → Value} {p : Nat} {ds : List (Option Nat)} (d : Nat) (hwf : poWf it olds = true) (hJ : JG it olds N m g w) (hit : it.getD p .nil = .val undef) (hE : Keep bs w0 w)
    (ho : ops[i]? = some o) (hd : o.dst = some d) (hds : ds.getD p none = some d) (hw : Region.wanted o (yielded ops a.tmps) = false) :
    wpOp P ops Q i (fun a' w' => Keep bs w0 w' ∧ ∃ v, a' = a.put (ds.getD p none) v ∧ JG it olds N (m.set p true) (upd g p v) w') a w := by
  refine wpOp_step ho fun K' hK => ?_
  rw [if_neg (by rw [hw]; decide)]
  exact hK _ _ ⟨hE, undef, by rw [hd, hds], hJ.val hwf hit (Below.refl _ _)⟩
/-- A call that answers bytes of its own. -/
theorem po_owns {bs : List Nat} {w0 : World} {i : Nat} {a : Act} {w : World} {o : Oper} {fn : Func} {it : List PI} {olds : List Old} {N : Nat} {m : List Bool} {g : Nat → Value} {p : Nat} {ds : List (Option Nat)} (d f : Nat) (xs : Array Operand) (ts : Array TypeId) (args : Array Value) {l : List UInt8} {u : Nat} (hwf : poWf it olds = true) (hJ : JG it olds N m g w) (hit : it.getD p .nil = .own l u) (hE : Keep bs w0 w)
    (hc : Calls P f args w fun e w' => ∃ v, e = .returned v ∧ Owns w' w.heap.size v l ∧ Below w.heap.size w w') (ho : ops[i]? = some o) (hd : o.dst = some d) (hds : ds.getD p none = some d) (hop : o.op = .call { callee := .value (.func f), args := xs, argTypes := ts })
    (hw : Region.wanted o (yielded ops a.tmps) = true) (hf : P.funcs[f]? = some fn) (hn : (fn.name == "runtime.NumGoroutine") = false) (hb : fn.body.isNone = false) (hargs : xs.map a.eval = args) :
    wpOp P ops Q i (fun a' w' => Keep bs w0 w' ∧ ∃ v, a' = a.put (ds.getD p none) v ∧ JG it olds N (m.set p true) (upd g p v) w') a w := by
  refine wpOp_step ho fun K' hK => ?_
  rw [if_pos hw]
  unfold Oper.wp
  have he : a.eval (.func f) = .func (.func f) #[] #[] := rfl
  have hx : (execOp a.eval o).run P w = .ok (.enter f args) w := by simp [execOp, hop, resolve, he, Deferred.ofValue, invoke, hargs, run_enter hf hn hb]
  rw [hx]
  refine hc.mono fun e w' hT => ?_
  obtain ⟨v, rfl, h1, hb⟩ := hT
  exact hK _ _ ⟨hE.trans (Keep.of hb), v, by rw [hd, hds], hJ.owns hwf hit hb h1⟩
/-- What lays bytes of one's own otherwise (make, an empty literal). -/
theorem po_made {bs : List Nat} {w0 : World} {i : Nat} {a : Act} {w w' : World} {o : Oper} {it : List PI} {olds : List Old} {N : Nat} {m : List Bool} {g : Nat → Value} {p : Nat} {ds : List (Option Nat)} (d : Nat) (op : Op) (t : TypeId) {v : Value} {l : List UInt8} {u : Nat} (hwf : poWf it olds = true) (hJ : JG it olds N m g w) (hit : it.getD p .nil = .own l u) (hE : Keep bs w0 w)
    (ho : ops[i]? = some o) (hd : o.dst = some d) (hds : ds.getD p none = some d) (hop : o.op = op) (ht : o.type = t) (hw : Region.wanted o (yielded ops a.tmps) = true) (hx : (execOp a.eval (mkOp op t)).run P w = .ok (.value v) w') (hb : Below w.heap.size w w') (h1 : Owns w' w.heap.size v l) :
    wpOp P ops Q i (fun a' w' => Keep bs w0 w' ∧ ∃ v, a' = a.put (ds.getD p none) v ∧ JG it olds N (m.set p true) (upd g p v) w') a w := by
  refine wpOp_step ho fun K' hK => ?_
  rw [if_pos hw]
  unfold Oper.wp
  rw [exec_mkOp, hop, ht, hx]
  exact hK _ _ ⟨hE.trans (Keep.of hb), v, by rw [hd, hds], hJ.owns hwf hit hb h1⟩
/-- What an item owns, that no other one has appended to. -/
theorem JG.own {it : List PI} {olds : List Old} {N : Nat} {m : List Bool} {g : Nat → Value} {w : World} (h : JG it olds N m g w) {p : Nat} (hp : m.getD p false = true) {l : List UInt8} {u : Nat} (hit : it.getD p .nil = .own l u) (hu : m.getD u false = false) : Owns w N (g p) l := by
  have hf := h.items p hp
  rw [hit] at hf
  exact hf hu
end
/-- append to an item's own. -/
theorem po_app {ops : Array Oper} {Q : Exit → Act → World → Prop} {bs : List Nat} {w0 : World} {i : Nat} {a : Act} {w : World} {o : Oper} {it : List PI} {olds : List Old} {m : List Bool} {g : Nat → Value} {p : Nat} {ds : List (Option Nat)} (d r : Nat) (s x : Operand) {l0 lb : List UInt8} {u : Nat} (hwf : poWf it olds = true) (hp : p < m.length) (hmp : m.getD p true = false) (hJ : JG it olds w0.heap.size m g w) (hit : it.getD p .nil = .own (l0 ++ lb) u) (hr : it.getD r .nil = .own l0 p) (hmr : m.getD r false = true)
    (holds : ∀ i, (h : i < olds.length) → olds[i].b < w0.heap.size) (hE : Keep bs w0 w) {vb : Value} (hB : Bs w vb lb) (hlen : l0.length + lb.length ≤ 2147483647)
    (ho : ops[i]? = some o) (hd : o.dst = some d) (hds : ds.getD p none = some d) (hop : o.op = .call { callee := .builtin .append, args := #[s, x], argTypes := #[22, 22] }) (hw : Region.wanted o (yielded ops a.tmps) = true) (hs : a.eval s = g r) (hx : a.eval x = vb) :
    wpOp Try.prog ops Q i (fun a' w' => Keep bs w0 w' ∧ ∃ v, a' = a.put (ds.getD p none) v ∧ JG it olds w0.heap.size (m.set p true) (upd g p v) w') a w := by
  have hmp' : m.getD p false = false := by
    rw [List.getD_eq_getElem?_getD, List.getElem?_eq_getElem hp] at hmp ⊢
    exact hmp
  have hor := hJ.own hmr hr hmp'
  obtain ⟨v', w', hrun, g1, g2, g3⟩ := exec_app a.eval s x o.type w0.heap.size (g r) vb l0 lb hor hB hs hx hlen hE.size
  refine wpOp_step ho fun K' hK => ?_
  rw [if_pos hw]
  unfold Oper.wp
  rw [exec_mkOp, hop, hrun]
  refine hK _ _ ⟨?_, v', by rw [hd, hds], hJ.app hwf hp hit hr hmr hmp' holds g2 g1 g3⟩
  cases hx : (g r).ownBlock with
  | none =>
    rw [hx] at g2
    exact hE.trans ⟨g2.os, g2.tape, g2.output, g2.size, fun k hk _ => g2.block k hk (by simp)⟩
  | some b =>
    rw [hx] at g2
    exact hE.of_grown g2 (.inl (World.ownsRow.lt hor b hx).1)
/-! ### Bytes of one's own, one at a time -/
theorem Owns.rowOf {w : World} {base g n cap : Nat} {l : List UInt8} (h : Owns w base (.slice (some ⟨g, 0, none⟩) n cap) l) : ∃ f, w.rowIs g 5 cap f := by
  obtain ⟨_, h2⟩ := h
  rcases h2 with ⟨h2, _⟩ | ⟨g', cap', cur, h2, _, h4, h5, _, h7, _⟩
  · cases h2
  · injection h2 with e1 e2 e3
    injection e1 with e1
    injection e1 with e1
    subst e1; subst e3
    refine ⟨fun i => cur.getD i undef, cur, h4, by rw [h7, Nat.mul_one], fun i hi => ?_⟩
    show cur[i]? = some (cur.getD i undef)
    rw [Array.getD_eq_getD_getElem?, Array.getElem?_eq_getElem (by omega)]
    rfl
theorem Owns.cellAt {w : World} {base g n cap : Nat} {l : List UInt8} (h : Owns w base (.slice (some ⟨g, 0, none⟩) n cap) l) (hn : n = l.length) (j : Nat) (hj : j < l.length) : w.cell? ⟨g, j, none⟩ = some (.int .u8 ((l[j].toNat : Nat) : Int)) := by
  subst hn
  have := World.ownsRow.cellAt h j (by omega)
  rw [this]
  simp [u8s, hj]
theorem wpList_store_byte {ops : Array Oper} {rest : List Oper} {o : Oper} {a : Act} {w : World} {Q : Exit → Act → World → Prop} (hgd : o.guard = none) (x y : Operand) (ho : o.op = .store 5 x y) {base g n cap : Nat} (j b : Nat) {l : List UInt8} (hown : Owns w base (.slice (some ⟨g, 0, none⟩) n cap) l) (hn : n = l.length) (hnc : n ≤ cap) (hj : j < l.length)
    (hx : a.eval x = .pointer (some ⟨g, j, none⟩)) (hy : a.eval y = .int .u8 (b : Int)) (hb : b < 256) (h : ∀ w', Owns w' base (.slice (some ⟨g, 0, none⟩) n cap) (l.set j (UInt8.ofNat b)) → w.grownBy w' (some g) → wpList Try.prog ops Q rest (a.put o.dst undef) w') : wpList Try.prog ops Q (o :: rest) a w := by
  obtain ⟨f, hr⟩ := hown.rowOf
  have hx' := exec_store_cell (P := Try.prog) a.eval 5 x y o.type hr hx hy (by kernel_rfl) rfl rfl (by omega)
  have e : ((UInt8.ofNat b).toNat : Int) = (b : Int) := by rw [UInt8.toNat_ofNat_of_lt' (show b < 256 from hb)]
  have h1 := Owns.set (j := j) hown hn (UInt8.ofNat b)
  rw [e] at h1
  exact wpList_plain hgd fun _ hK => by
    unfold Oper.wp
    rw [exec_mkOp, ho, hx']
    exact hK _ _ (h _ h1 (grownBy_set _ _ _ _))
theorem wpList_load_byte {ops : Array Oper} {rest : List Oper} {o : Oper} {a : Act} {w : World} {Q : Exit → Act → World → Prop} (hgd : o.guard = none) (x : Operand) (ho : o.op = .load 5 x) {base g n cap : Nat} (j b : Nat) {l : List UInt8} (hown : Owns w base (.slice (some ⟨g, 0, none⟩) n cap) l) (hn : n = l.length) (hj : j < l.length)
    (hx : a.eval x = .pointer (some ⟨g, j, none⟩)) (hb : (l[j].toNat : Nat) = b) (h : wpList Try.prog ops Q rest (a.put o.dst (.int .u8 (b : Int))) w) : wpList Try.prog ops Q (o :: rest) a w := by
  have hc := hown.cellAt hn j hj
  rw [hb] at hc
  refine wpList_value hgd _ ?_ h
  rw [exec_mkOp, ho]
  exact exec_load_cell a.eval 5 x o.type hx (by kernel_rfl) hc
end Go.Proofs.Ytncdlaidmiokiaa
