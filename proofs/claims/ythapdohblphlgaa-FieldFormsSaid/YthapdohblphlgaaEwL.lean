/- What the laws of chapter 5 ask: few, is, awake. -/
import Derived.Test.YthapdohblphlgaaEwK
import Derived.Test.YthapdohblphlgaaFeL
import Derived.Test.YthapdohblphlgaaFeJ
import Derived.Test.YthapdohblphlgaaLint
import Derived.Test.YthapdohblphlgaaFlip
namespace Go.Proofs.Ythapdohblphlgaa
open Go.RowKit Go.Deep

theorem few5_any (v1 v2 : Value) (l1 l2 : List UInt8) (w : World) (h1 : Bs w v1 l1) (h2 : Bs w v2 l2) : Calls Try.prog 11 #[v1, v2] w fun e w' => e = .returned (.bool (decide (l1.length ≤ 100 ∧ l2.length ≤ 100))) ∧ w' = w := by
  obtain ⟨a1, n1, c1, rfl, e1, f1, g1, hB1⟩ := h1.shape
  obtain ⟨a2, n2, c2, rfl, e2, f2, g2, hB2⟩ := h2.shape
  rw [e1, e2]
  clear e1 e2 hB1 hB2 h1 h2
  by_cases d1 : n1 ≤ 100
  · have i1 : (n1 : Int) ≤ 100 := by omega
    by_cases d2 : n2 ≤ 100
    · have i2 : (n2 : Int) ≤ 100 := by omega
      rw [decide_eq_true ⟨d1, d2⟩]
      clear d1 d2
      go_enter Try.func11, Try.ntmps11
      go_wp2
      go_ret
      exact ⟨rfl, rfl⟩
    · have i2 : ¬ (n2 : Int) ≤ 100 := by omega
      rw [decide_eq_false (fun h => d2 h.2)]
      clear d1 d2
      go_enter Try.func11, Try.ntmps11
      go_wp2
      go_ret
      exact ⟨rfl, rfl⟩
  · have i1 : ¬ (n1 : Int) ≤ 100 := by omega
    rw [decide_eq_false (fun h => d1 h.1)]
    clear d1
    go_enter Try.func11, Try.ntmps11
    go_wp2
    go_ret
    exact ⟨rfl, rfl⟩

set_option maxHeartbeats 2000000 in
theorem is5_any (A : Nat) (w : World) : Calls Try.prog 17 #[.agg (arrOf 4 (ewF A)), .agg (arrOf 16 (feF A))] w fun e w' => e = .returned (.bool true) ∧ Below w.heap.size w w' := by
  have hA := ((rowIs_arr w 4 (ewF A) 28).alloc (.cells (arrOf 16 (feF A)) 31)).drew
  have hC := (rowIs_arr (w.alloc (.cells (arrOf 4 (ewF A)) 28)) 16 (feF A) 31).drew
  have B := (((Below.refl w.heap.size w).alloc (Nat.le_refl _) (.cells (arrOf 4 (ewF A)) 28)).alloc (by simp) (.cells (arrOf 16 (feF A)) 31)).drew
  rw [World.size_alloc] at hC
  go_enter Try.func17, Try.ntmps17
  go_wp2
  refine wp_region_lint (.rd 0 (.rd 3 (.wr 1 (.rd 2 (.wr 4 (.rd 5 (.rd 6 (.rd 7 .done)))))))) (by kernel_rfl) (by kernel_rfl) (by decide) (by kernel_rfl) (fun d _ _ _ _ h => by cases d <;> exact h) ?_
  refine lint_pure 5 (Op.load 28 (Operand.tmp 2)) 28 (.agg (arrOf 4 fun i => ewF A (0 + i))) rfl rfl rfl rfl rfl (fun w0 hb0 => by exact exec_load_arr _ _ _ _ rfl arrE (hA.of_block (hb0.block _ hA.lt)) (by omega)) ?_
  simp only [Act.put, List.setIfInBounds_toArray, List.set_cons_zero, List.set_cons_succ, Nat.zero_add]
  refine lint_pure 8 (Op.load 31 (Operand.tmp 3)) 31 (.agg (arrOf 16 fun i => feF A (0 + i))) rfl rfl rfl rfl rfl (fun w0 hb0 => by exact exec_load_arr _ _ _ _ rfl arrFe (hC.of_block (hb0.block _ hC.lt)) (by omega)) ?_
  simp only [Act.put, List.setIfInBounds_toArray, List.set_cons_zero, List.set_cons_succ, Nat.zero_add]
  refine stp_fn 6 35 #[Operand.tmp 5] #[28] _ (bytes_any A _) rfl rfl rfl rfl Try.func35 (by kernel_rfl) (by kernel_rfl) (by go_simp) ?_
  rintro e w5 ⟨v5, rfl, hO5, b5⟩
  replace B := B.trans (Below.mono b5 B.size)
  (try replace HB1 := Bs.below HB1 b5 (Nat.le_refl _))
  (try replace HB2 := Bs.below HB2 b5 (Nat.le_refl _))
  have HB1 := hO5.bs
  clear hO5
  refine ⟨_, rfl, b5, ?_⟩
  simp only [Act.put, List.setIfInBounds_toArray, List.set_cons_zero, List.set_cons_succ, Nat.zero_add]
  refine lint_conv 7 (Operand.tmp 6) _ _ rfl rfl rfl rfl rfl HB1 ?_
  simp only [Act.put, List.setIfInBounds_toArray, List.set_cons_zero, List.set_cons_succ, Nat.zero_add]
  refine stp_fn 9 41 #[Operand.tmp 8] #[31] _ (refBytes_any A _) rfl rfl rfl rfl Try.func41 (by kernel_rfl) (by kernel_rfl) (by go_simp) ?_
  rintro e w6 ⟨v6, rfl, hO6, b6⟩
  replace B := B.trans (Below.mono b6 B.size)
  (try replace HB1 := Bs.below HB1 b6 (Nat.le_refl _))
  (try replace HB2 := Bs.below HB2 b6 (Nat.le_refl _))
  have HB2 := hO6.bs
  clear hO6
  refine ⟨_, rfl, b6, ?_⟩
  simp only [Act.put, List.setIfInBounds_toArray, List.set_cons_zero, List.set_cons_succ, Nat.zero_add]
  refine lint_conv 10 (Operand.tmp 9) _ _ rfl rfl rfl rfl rfl HB2 ?_
  simp only [Act.put, List.setIfInBounds_toArray, List.set_cons_zero, List.set_cons_succ, Nat.zero_add]
  refine lint_pure 11 (Op.binOp BinOp.eql 9 (Operand.tmp 7) (Operand.tmp 10) 9) 4 _ rfl rfl rfl rfl rfl (fun w0 hb0 => by unfold mkOp; go_simp; all_goals (with_reducible rfl)) ?_
  simp only [Act.put, List.setIfInBounds_toArray, List.set_cons_zero, List.set_cons_succ, Nat.zero_add]
  refine lint_pure 4 (Op.assign (Operand.tmp 11)) 4 _ rfl rfl rfl rfl rfl (fun w0 hb0 => by unfold mkOp; go_simp; all_goals (with_reducible rfl)) ?_
  simp only [Act.put, List.setIfInBounds_toArray, List.set_cons_zero, List.set_cons_succ, Nat.zero_add]
  refine lint_end ?_
  go_wp2
  go_ret
  exact ⟨rfl, B⟩

theorem refInv5_any (A : Nat) (w : World) (hA : A < p25) : Calls Try.prog 34 #[.agg (arrOf 16 (feF A))] w fun e w' => e = .returned (.agg (arrOf 16 (feF (invP A)))) ∧ Below w.heap.size w w' := refInv_any A w hA
theorem refAdd5_any (A B : Nat) (w : World) (hA : A < p25) (hB : B < p25) : Calls Try.prog 21 #[.agg (arrOf 16 (feF A)), .agg (arrOf 16 (feF B))] w fun e w' => e = .returned (.agg (arrOf 16 (feF (addP A B)))) ∧ Below w.heap.size w w' := refAdd_any A B w hA hB
theorem refMul5_any (A B : Nat) (w : World) (hA : A < p25) (hB : B < p25) : Calls Try.prog 25 #[.agg (arrOf 16 (feF A)), .agg (arrOf 16 (feF B))] w fun e w' => e = .returned (.agg (arrOf 16 (feF (mulP A B)))) ∧ Below w.heap.size w w' := refMul_any A B w hA hB
theorem refNeg5_any (A : Nat) (w : World) (hA : A < p25) : Calls Try.prog 27 #[.agg (arrOf 16 (feF A))] w fun e w' => e = .returned (.agg (arrOf 16 (feF (oppP A)))) ∧ Below w.heap.size w w' := refNeg_any A w hA
section
variable {P : Program} {ops : Array Oper} {Q : Exit → Act → World → Prop}
theorem stp_val {i : Nat} {r : Stp} {a : Act} {w : World} {o : Oper} {fn : Func} (d : Nat) (x : Operand) (f : Nat) (xs : Array Operand) (ts : Array TypeId) (args : Array Value) {R : Ending → World → Prop} (hc : Calls P f args w R)
    (ho : ops[i]? = some o) (hd : o.dst = some d) (hop : o.op = .call { callee := .value x, args := xs, argTypes := ts }) (hx : a.eval x = .func (.func f) #[] #[])
    (hw : Region.wanted o (yielded ops a.tmps) = true) (hf : P.funcs[f]? = some fn) (hn : (fn.name == "runtime.NumGoroutine") = false) (hb : fn.body.isNone = false) (hargs : xs.map a.eval = args)
    (h : ∀ e w', R e w' → ∃ v, e = .returned v ∧ Below w.heap.size w w' ∧ LinT P ops Q r (a.put (some d) v) w') : wpOp P ops Q i (fun a' w' => Below w.heap.size w w' ∧ LinT P ops Q r a' w') a w := by
  refine wpOp_step ho fun K' hK => ?_
  rw [if_pos hw]
  unfold Oper.wp
  have hx : (execOp a.eval o).run P w = .ok (.enter f args) w := by simp [execOp, hop, resolve, hx, Deferred.ofValue, invoke, hargs, run_enter hf hn hb]
  rw [hx]
  refine hc.mono fun e w' hT => ?_
  obtain ⟨v, rfl, h1, h2⟩ := h e w' hT
  exact hK _ _ ⟨h1, by rw [hd]; exact h2⟩
end
theorem same5_yes (A C : Nat) (w : World) (hA : A < p25) (hC : C < p25) (h : A = C) : Calls Try.prog 28 #[.agg (arrOf 4 (ewF A)), .agg (arrOf 4 (ewF C))] w fun e w' => e = .returned (.bool true) ∧ Below w.heap.size w w' := by
  have g := same_any A C w hA hC
  rwa [decide_eq_true h] at g
theorem same5_no (A C : Nat) (w : World) (hA : A < p25) (hC : C < p25) (h : A ≠ C) : Calls Try.prog 28 #[.agg (arrOf 4 (ewF A)), .agg (arrOf 4 (ewF C))] w fun e w' => e = .returned (.bool false) ∧ Below w.heap.size w w' := by
  have g := same_any A C w hA hC
  rwa [decide_eq_false h] at g
theorem odd5_yes (A : Nat) (w : World) (h : A % 2 = 1) : Calls Try.prog 29 #[.agg (arrOf 4 (ewF A))] w fun e w' => e = .returned (.bool true) ∧ Below w.heap.size w w' := by
  have g := odd_any A w
  rwa [decide_eq_true h] at g
theorem odd5_no (A : Nat) (w : World) (h : ¬ A % 2 = 1) : Calls Try.prog 29 #[.agg (arrOf 4 (ewF A))] w fun e w' => e = .returned (.bool false) ∧ Below w.heap.size w w' := by
  have g := odd_any A w
  rwa [decide_eq_false h] at g
theorem pick5_yes (A C : Nat) (w : World) : Calls Try.prog 30 #[.bool true, .agg (arrOf 4 (ewF A)), .agg (arrOf 4 (ewF C))] w fun e w' => e = .returned (.agg (arrOf 4 (ewF A))) ∧ Below w.heap.size w w' := pick_any true A C w
theorem pick5_no (A C : Nat) (w : World) : Calls Try.prog 30 #[.bool false, .agg (arrOf 4 (ewF A)), .agg (arrOf 4 (ewF C))] w fun e w' => e = .returned (.agg (arrOf 4 (ewF C))) ∧ Below w.heap.size w w' := pick_any false A C w
theorem of5_own (v : Value) (A : Nat) (w : World) (h : Bs w v (litB A 32)) (hA : A < p25) : Calls Try.prog 13 #[v] w fun e w' => e = .returned (.agg (arrOf 4 (ewF A))) ∧ Below w.heap.size w w' := by
  have g := of_any v (litB A 32) w h
  rwa [ofL_own A hA] at g
theorem exec_str_yes {w : World} (ρ : Operand → Value) (x y : Operand) (t : TypeId) {l m : List UInt8} (h : l = m) (hx : ρ x = .string ⟨l.toArray⟩) (hy : ρ y = .string ⟨m.toArray⟩) :
    (execOp ρ (mkOp (.binOp .eql 9 x y 9) t)).run Try.prog w = .ok (.value (.bool true)) w := by
  subst h
  simp only [execOp, mkOp, hx, hy]
  all_goals go_simp
theorem exec_str_no {w : World} (ρ : Operand → Value) (x y : Operand) (t : TypeId) {l m : List UInt8} (h : l ≠ m) (hx : ρ x = .string ⟨l.toArray⟩) (hy : ρ y = .string ⟨m.toArray⟩) :
    (execOp ρ (mkOp (.binOp .eql 9 x y 9) t)).run Try.prog w = .ok (.value (.bool false)) w := by
  simp only [execOp, mkOp, hx, hy]
  go_simp
  all_goals simp [h]
section
variable {P : Program} {ops : Array Oper} {Q : Exit → Act → World → Prop} {a : Act} {w : World} {rest : List Oper} {o : Oper}
theorem wpList_given (hw : Region.wanted o (yielded ops a.tmps) = true) (h : ∀ K : Act → World → Prop, (∀ a w, wpList P ops Q rest a w → K a w) → o.wp P a w K Q) : wpList P ops Q (o :: rest) a w :=
  wpList_step fun K hK => by rw [if_pos hw]; exact h K hK
theorem wpList_load_given (hw : Region.wanted o (yielded ops a.tmps) = true) (ty : TypeId) (x : Operand) (ho : o.op = .load ty x) (k : Nat) (ht : IsArr P ty k) {b m off : Nat} {t : TypeId} {f : Nat → Value}
    (hr : w.rowIs b t m f) (hx : a.eval x = .pointer (some ⟨b, off, none⟩)) (hk : off + k ≤ m) (h : wpList P ops Q rest (a.put o.dst (.agg (arrOf k fun i => f (off + i)))) w) : wpList P ops Q (o :: rest) a w :=
  wpList_given hw fun _ hK => by
    unfold Oper.wp execOp
    simp only [ho, hx, Instr.loadAt, Instr.sureAddr, Sem.run_bind, Sem.run_pure, Result.andThen_ok, run_load_arr hr hk ht]
    exact hK _ _ h
theorem wpList_value_given (hw : Region.wanted o (yielded ops a.tmps) = true) {w' : World} (v : Value) (hx : (execOp a.eval o).run P w = .ok (.value v) w') (h : wpList P ops Q rest (a.put o.dst v) w') : wpList P ops Q (o :: rest) a w :=
  wpList_given hw fun _ hK => by
    unfold Oper.wp
    rw [hx]
    exact hK _ _ h
end
theorem strict_one : strictL [1] = none := by
  unfold strictL
  rw [if_neg (by simp)]
theorem two_inv : mulP (invP 2) 2 = 1 := by
  rw [mulP_comm]
  exact mul_invP 2 p25_two (by decide)
theorem invP_lt' (a : Nat) : invP a < p25 := mod_p_lt _
theorem one_lt : 1 < p25 := by decide +kernel
set_option maxHeartbeats 2000000 in
theorem awake5_any (w : World) : Calls Try.prog 12 #[] w fun e w' => e = .returned (.bool true) ∧ Below w.heap.size w w' := by
  have hB : Bs (w.alloc (.cells #[.int .u8 1] 5)) (.slice (some ⟨w.heap.size, 0, none⟩) 1 1) [1] := Bs.one w 1
  have hb0 := (Below.refl w.heap.size w).alloc (Nat.le_refl _) (.cells #[.int .u8 1] 5)
  have HGS : Hid (∀ wq : World, Below w.heap.size w wq → w.heap.size ≤ wq.heap.size) := Lib.hid fun wq h => h.size
  have HS := Lib.hid fun v w h => strict_any v [1] w h
  rw [strict_one] at HS
  have HM := Lib.hid fun w => mul_any (invP 2) 2 w (invP_lt 2) p25_two
  rw [two_inv] at HM
  have HE1 := Lib.hid fun w => same_any 1 1 w one_lt one_lt
  have HE2 := Lib.hid fun w => same_any 1 2 w one_lt p25_two
  rw [show decide (1 = 1) = true from rfl] at HE1
  rw [show decide (1 = 2) = false from rfl] at HE2
  have HI := Lib.hid fun w => inv_any 2 w p25_two
  go_enter Try.func12, Try.ntmps12
  go_wp2_with (first
    | (go_at_call 15; refine (HS.out _ _ hB).mono ?_; rintro e w1 ⟨rfl, hb1⟩
       have B1 := hb0.trans (hb1.mono (HGS.out _ hb0))
       have hX1 := rowIs_arr w1 4 (u64f fun _ => 0) 28
       have B2 := B1.alloc (HGS.out _ B1) (.cells (arrOf 4 (u64f fun _ => 0)) 28)
       clear hB hb0 hb1)
    | refine wpList_alloc_arr rfl 28 rfl (arrOf 4 (u64f fun _ => 0)) zeroE ?_
    | (refine wpList_store_arr rfl 28 (.tmp 1) (.tmp 6) rfl 4 arrE hX1 rfl rfl (by omega) (fun _ _ => rfl) ?_; intro w3 hr3 hg3 hs3
       have B3 := B2.grown hg3 (HGS.out _ B2) (by intro k hk; cases hk; exact HGS.out _ B1)
       clear hr3 hg3 hs3 hX1 B1 B2)
    | (go_at_call 18
       first
         | (have hgo := B3; refine (small_any 2 _ (by decide)).mono ?_; rintro e w4 ⟨rfl, hb4⟩; have B4' := B3.trans (hb4.mono (HGS.out _ B3)); clear B3 hb4 hgo)
         | (have hgo := B5; refine (small_any 2 _ (by decide)).mono ?_; rintro e w6 ⟨rfl, hb6⟩; have B6 := B5.trans (hb6.mono (HGS.out _ B5)); clear B5 hb6 hgo)
         | (have hgo := B7; refine (small_any 1 _ (by decide)).mono ?_; rintro e w8 ⟨rfl, hb8⟩; have B8 := B7.trans (hb8.mono (HGS.out _ B7)); clear B7 hb8 hgo)
         | (have hgo := B9; refine (small_any 1 _ (by decide)).mono ?_; rintro e wa ⟨rfl, hba⟩; have Ba := B9.trans (hba.mono (HGS.out _ B9)); clear B9 hba hgo)
         | (have hgo := Ba; refine (small_any 2 _ (by decide)).mono ?_; rintro e wb ⟨rfl, hbb⟩; have Bb := Ba.trans (hbb.mono (HGS.out _ Ba)); clear Ba hbb hgo))
    | (go_at_call 33; refine (HI.out _).mono ?_; rintro e w5 ⟨rfl, hb5⟩; have B5 := B4'.trans (hb5.mono (HGS.out _ B4')); clear B4' hb5)
    | (go_at_call 24; refine (HM.out _).mono ?_; rintro e w7 ⟨rfl, hb7⟩; have B7 := B6.trans (hb7.mono (HGS.out _ B6)); clear B6 hb7)
    | (go_at_call 28
       first
         | (have hgo := B8; refine (HE1.out _).mono ?_; rintro e w9 ⟨rfl, hb9⟩; have B9 := B8.trans (hb9.mono (HGS.out _ B8)); clear B8 hb9 hgo)
         | (have hgo := Bb; refine (HE2.out _).mono ?_; rintro e wc ⟨rfl, hbc⟩; have Bc := Bb.trans (hbc.mono (HGS.out _ Bb)); clear Bb hbc hgo)))
  go_ret
  exact ⟨rfl, Bc⟩
end Go.Proofs.Ythapdohblphlgaa
