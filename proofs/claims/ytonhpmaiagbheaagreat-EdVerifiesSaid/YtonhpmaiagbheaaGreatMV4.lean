/- Texts joined: what they are for stands ahead of each. -/
import Derived.Test.YtonhpmaiagbheaaGreatMV3
import Derived.Lib.BitFns
import Derived.Lib.ItoaNum
import Derived.Lib.SlBytesConst
set_option linter.unusedSimpArgs false
set_option linter.unusedVariables false

namespace Go.Proofs.YtonhpmaiagbheaaGreat
open Go.RowKit Go.Deep
def strictSN (l : List UInt8) : Option Nat := if l.length = 32 ∧ numL l 32 < ordL then some (numL l 32) else none
theorem wide_32 (l : List UInt8) (h : l.length = 32) : numL l 64 = numL l 32 := numL_wanting l 32 (by omega) 32
theorem litB_wide (l : List UInt8) (h : l.length = 32) : litB (numL l 64 % ordL) 32 = l ↔ numL l 32 < ordL := by
 rw [wide_32 l h]
 constructor
 · intro e
   have h1 := numL_litB (numL l 32 % ordL) 32 32 (Nat.le_refl _)
   rw [e, Nat.mod_eq_of_lt (Nat.lt_trans (Nat.mod_lt _ ordL_pos) ordL_lt)] at h1
   rw [h1]
   exact Nat.mod_lt _ ordL_pos
 · intro e
   rw [Nat.mod_eq_of_lt e]
   exact litB_numL l 32 h
theorem aggSc (F G : Nat → Value) : arrOf 32 (fun i => putN F 0 32 G (0 + i)) = arrOf 32 G := arrOf_congr fun i hi => by
 unfold putN
 rw [if_pos (by omega)]
 simp only [Nat.zero_add, Nat.sub_zero]
theorem bF_zeros : arrOf 32 (fun _ => Value.int .u8 0) = arrOf 32 (bF 32 0) := arrOf_congr fun i _ => (bF_zero 32 i).symm
set_option maxHeartbeats 2000000 in
theorem refStrictSc_any (v : Value) (l : List UInt8) (w : World) (hv : Bs w v l) : Calls Tryz.prog 46 #[v] w fun e w' =>
   e = .returned (.tuple #[.agg (arrOf 32 (bF 32 ((strictSN l).getD 0))), .int .i64 (if (strictSN l).isSome then 0 else 2)]) ∧ Below w.heap.size w w' := by
 have hr := rowIs_arr w 32 (fun _ => .int .u8 0) 67
 have hb0 := (Below.refl w.heap.size w).alloc (Nat.le_refl _) (.cells (arrOf 32 fun _ => .int .u8 0) 67)
 obtain ⟨a0, n0, c0, rfl, e0, f0, g0, hB0⟩ := hv.shape
 have H0 := Lib.hid hB0
 have HGS : Hid (∀ wq : World, Below w.heap.size w wq → w.heap.size ≤ wq.heap.size) := Lib.hid fun wq h => h.size
 clear hv hB0
 have B : Below w.heap.size w (w.alloc (.cells (arrOf 32 fun _ => .int .u8 0) 67)).drew := hb0.drew
 have rR := World.rowIs.drew hr
 clear hr hb0
 by_cases d0 : l.length = 32
 · have hn0 : n0 = 32 := by omega
   subst hn0
   have HW := Lib.hid fun w (h : Bs w (.slice a0 32 c0) l) => refWide_any _ l w h
   have hlw := litB_wide l d0
   obtain ⟨V, hV⟩ := nat_var (numL l 64 % ordL)
   rw [← hV] at HW hlw
   by_cases hs : numL l 32 < ordL
   · have hsn : strictSN l = some V := by
       unfold strictSN
       rw [if_pos ⟨d0, hs⟩, hV, wide_32 l d0, Nat.mod_eq_of_lt hs]
     rw [hsn]
     have HEQ : Hid (litB V 32 = l) := Lib.hid (hlw.2 hs)
     clear hsn hlw hs hV d0 e0
     go_enter Tryz.func46, Tryz.ntmps46
     go_wp2_with (refine wpList_alloc_arr rfl 67 rfl (arrOf 32 fun _ => .int .u8 0) zeroSc ?_)
     refine wp_region_lint (.rd 0 (.rd 1 (.rd 2 (.rd 3 (.rd 4 (.rd 8 (.rd 9 (.wr 5 (.wr 6 (.rd 7 (.rd 10 (.rd 11 .done)))))))))))) (by kernel_rfl) (by kernel_rfl) (by decide) (by kernel_rfl) (fun d _ _ _ _ h => by cases d <;> exact h) ?_
     refine lint_pure 4 (Op.move (Operand.tmp 0)) 22 _ rfl rfl rfl rfl rfl (fun w0 hb0 => by unfold mkOp; go_simp; all_goals (with_reducible rfl)) ?_
     simp only [Act.put, List.setIfInBounds_toArray, List.set_cons_zero, List.set_cons_succ, Nat.zero_add]
     refine lint_pure 5 (Op.call { callee := Callee.builtin Builtin.len, args := #[Operand.tmp 4], argTypes := #[22] }) 3 _ rfl rfl rfl rfl rfl (fun w0 hb0 => by unfold mkOp; go_simp; all_goals (with_reducible rfl)) ?_
     simp only [Act.put, List.setIfInBounds_toArray, List.set_cons_zero, List.set_cons_succ, Nat.zero_add]
     refine lint_pure 6 (Op.binOp BinOp.neq 3 (Operand.tmp 5) (Operand.const (Value.int IntKind.i64 32)) 3) 4 _ rfl rfl rfl rfl rfl (fun w0 hb0 => by unfold mkOp; go_simp; all_goals (with_reducible rfl)) ?_
     simp only [Act.put, List.setIfInBounds_toArray, List.set_cons_zero, List.set_cons_succ, Nat.zero_add]
     refine lint_pure 7 (Op.move (Operand.tmp 6)) 4 _ rfl rfl rfl rfl rfl (fun w0 hb0 => by unfold mkOp; go_simp; all_goals (with_reducible rfl)) ?_
     simp only [Act.put, List.setIfInBounds_toArray, List.set_cons_zero, List.set_cons_succ, Nat.zero_add]
     refine lint_pure 8 (Op.move (Operand.tmp 0)) 22 _ rfl rfl rfl rfl rfl (fun w0 hb0 => by unfold mkOp; go_simp; all_goals (with_reducible rfl)) ?_
     simp only [Act.put, List.setIfInBounds_toArray, List.set_cons_zero, List.set_cons_succ, Nat.zero_add]
     refine lint_pure 12 (Op.move (Operand.tmp 0)) 22 _ rfl rfl rfl rfl rfl (fun w0 hb0 => by unfold mkOp; go_simp; all_goals (with_reducible rfl)) ?_
     simp only [Act.put, List.setIfInBounds_toArray, List.set_cons_zero, List.set_cons_succ, Nat.zero_add]
     refine lint_conv 13 (Operand.tmp 12) _ _ rfl rfl rfl rfl rfl (H0.out.below B (Nat.le_refl _)) ?_
     simp only [Act.put, List.setIfInBounds_toArray, List.set_cons_zero, List.set_cons_succ, Nat.zero_add]
     refine stp_fn 9 32 #[Operand.tmp 8] #[22] _ (HW.out _ (H0.out.below B (Nat.le_refl _))) rfl rfl rfl rfl Tryz.func32 (by kernel_rfl) (by kernel_rfl) (by go_simp) ?_
     rintro e w9 ⟨rfl, b9⟩
     replace B := B.trans (b9.mono (HGS.out _ B))
     replace rR := World.rowIs.of_block rR (b9.block _ (World.rowIs.lt rR))
     refine ⟨_, rfl, b9, ?_⟩
     simp only [Act.put, List.setIfInBounds_toArray, List.set_cons_zero, List.set_cons_succ, Nat.zero_add]
     refine stp_fn 10 38 #[Operand.tmp 9] #[67] _ (refScBytes_any V _) rfl rfl rfl rfl Tryz.func38 (by kernel_rfl) (by kernel_rfl) (by go_simp) ?_
     rintro e w10 ⟨v10, rfl, hO10, b10⟩
     replace B := B.trans (b10.mono (HGS.out _ B))
     replace rR := World.rowIs.of_block rR (b10.block _ (World.rowIs.lt rR))
     have hB10 := hO10.bs
     refine ⟨_, rfl, b10, ?_⟩
     simp only [Act.put, List.setIfInBounds_toArray, List.set_cons_zero, List.set_cons_succ, Nat.zero_add]
     refine lint_conv 11 (Operand.tmp 10) _ _ rfl rfl rfl rfl rfl hB10 ?_
     simp only [Act.put, List.setIfInBounds_toArray, List.set_cons_zero, List.set_cons_succ, Nat.zero_add]
     refine lint_pure 14 (Op.binOp BinOp.neq 9 (Operand.tmp 11) (Operand.tmp 13) 9) 4 (.bool false) rfl rfl rfl rfl rfl (fun w0 hb0 => by exact (exec_str_neq _ _ _ _ rfl rfl).trans (by rw [decide_eq_true HEQ.out]; rfl)) ?_
     simp only [Act.put, List.setIfInBounds_toArray, List.set_cons_zero, List.set_cons_succ, Nat.zero_add]
     refine lint_pure 15 (Op.pick (Operand.tmp 7) (Operand.const (Value.bool true)) (Operand.tmp 14)) 4 _ rfl rfl rfl rfl rfl (fun w0 hb0 => by unfold mkOp; go_simp; all_goals (with_reducible rfl)) ?_
     simp only [Act.put, List.setIfInBounds_toArray, List.set_cons_zero, List.set_cons_succ, Nat.zero_add]
     refine lint_end ?_
     have kR := rR
     have kb := B
     clear rR B hO10 hB10
     go_wp2_with (first
       | (go_at_call 32; refine (HW.out _ (H0.out.below kb (Nat.le_refl _))).mono ?_; rintro e w11 ⟨rfl, hb11⟩
          have kR2 := kR.of_block (hb11.block _ kR.lt)
          have kb2 := kb.trans (hb11.mono (HGS.out _ kb))
          clear kR kb hb11)
       | (refine wpList_store_arr rfl 67 (.tmp 2) (.tmp 18) rfl 32 arrSc kR2 rfl rfl (by omega) (fun _ _ => rfl) ?_; intro wd hrd hgd hsd))
     refine ret_cell_arr_tmp rfl arrSc hrd rfl rfl (by omega) rfl ⟨?_, kb2.grown hgd (HGS.out _ kb2) (by intro k hk; cases hk; exact Nat.le_refl _)⟩
     rw [aggSc]
     rfl
   · have hsn : strictSN l = none := by
       unfold strictSN
       rw [if_neg (fun h => hs h.2)]
     rw [hsn]
     have HEQ : Hid (¬ litB V 32 = l) := Lib.hid fun h => hs (hlw.1 h)
     clear hsn hlw hs hV d0 e0
     go_enter Tryz.func46, Tryz.ntmps46
     go_wp2_with (refine wpList_alloc_arr rfl 67 rfl (arrOf 32 fun _ => .int .u8 0) zeroSc ?_)
     refine wp_region_lint (.rd 0 (.rd 1 (.rd 2 (.rd 3 (.rd 4 (.rd 8 (.rd 9 (.wr 5 (.wr 6 (.rd 7 (.rd 10 (.rd 11 .done)))))))))))) (by kernel_rfl) (by kernel_rfl) (by decide) (by kernel_rfl) (fun d _ _ _ _ h => by cases d <;> exact h) ?_
     refine lint_pure 4 (Op.move (Operand.tmp 0)) 22 _ rfl rfl rfl rfl rfl (fun w0 hb0 => by unfold mkOp; go_simp; all_goals (with_reducible rfl)) ?_
     simp only [Act.put, List.setIfInBounds_toArray, List.set_cons_zero, List.set_cons_succ, Nat.zero_add]
     refine lint_pure 5 (Op.call { callee := Callee.builtin Builtin.len, args := #[Operand.tmp 4], argTypes := #[22] }) 3 _ rfl rfl rfl rfl rfl (fun w0 hb0 => by unfold mkOp; go_simp; all_goals (with_reducible rfl)) ?_
     simp only [Act.put, List.setIfInBounds_toArray, List.set_cons_zero, List.set_cons_succ, Nat.zero_add]
     refine lint_pure 6 (Op.binOp BinOp.neq 3 (Operand.tmp 5) (Operand.const (Value.int IntKind.i64 32)) 3) 4 _ rfl rfl rfl rfl rfl (fun w0 hb0 => by unfold mkOp; go_simp; all_goals (with_reducible rfl)) ?_
     simp only [Act.put, List.setIfInBounds_toArray, List.set_cons_zero, List.set_cons_succ, Nat.zero_add]
     refine lint_pure 7 (Op.move (Operand.tmp 6)) 4 _ rfl rfl rfl rfl rfl (fun w0 hb0 => by unfold mkOp; go_simp; all_goals (with_reducible rfl)) ?_
     simp only [Act.put, List.setIfInBounds_toArray, List.set_cons_zero, List.set_cons_succ, Nat.zero_add]
     refine lint_pure 8 (Op.move (Operand.tmp 0)) 22 _ rfl rfl rfl rfl rfl (fun w0 hb0 => by unfold mkOp; go_simp; all_goals (with_reducible rfl)) ?_
     simp only [Act.put, List.setIfInBounds_toArray, List.set_cons_zero, List.set_cons_succ, Nat.zero_add]
     refine lint_pure 12 (Op.move (Operand.tmp 0)) 22 _ rfl rfl rfl rfl rfl (fun w0 hb0 => by unfold mkOp; go_simp; all_goals (with_reducible rfl)) ?_
     simp only [Act.put, List.setIfInBounds_toArray, List.set_cons_zero, List.set_cons_succ, Nat.zero_add]
     refine lint_conv 13 (Operand.tmp 12) _ _ rfl rfl rfl rfl rfl (H0.out.below B (Nat.le_refl _)) ?_
     simp only [Act.put, List.setIfInBounds_toArray, List.set_cons_zero, List.set_cons_succ, Nat.zero_add]
     refine stp_fn 9 32 #[Operand.tmp 8] #[22] _ (HW.out _ (H0.out.below B (Nat.le_refl _))) rfl rfl rfl rfl Tryz.func32 (by kernel_rfl) (by kernel_rfl) (by go_simp) ?_
     rintro e w9 ⟨rfl, b9⟩
     replace B := B.trans (b9.mono (HGS.out _ B))
     replace rR := World.rowIs.of_block rR (b9.block _ (World.rowIs.lt rR))
     refine ⟨_, rfl, b9, ?_⟩
     simp only [Act.put, List.setIfInBounds_toArray, List.set_cons_zero, List.set_cons_succ, Nat.zero_add]
     refine stp_fn 10 38 #[Operand.tmp 9] #[67] _ (refScBytes_any V _) rfl rfl rfl rfl Tryz.func38 (by kernel_rfl) (by kernel_rfl) (by go_simp) ?_
     rintro e w10 ⟨v10, rfl, hO10, b10⟩
     replace B := B.trans (b10.mono (HGS.out _ B))
     replace rR := World.rowIs.of_block rR (b10.block _ (World.rowIs.lt rR))
     have hB10 := hO10.bs
     refine ⟨_, rfl, b10, ?_⟩
     simp only [Act.put, List.setIfInBounds_toArray, List.set_cons_zero, List.set_cons_succ, Nat.zero_add]
     refine lint_conv 11 (Operand.tmp 10) _ _ rfl rfl rfl rfl rfl hB10 ?_
     simp only [Act.put, List.setIfInBounds_toArray, List.set_cons_zero, List.set_cons_succ, Nat.zero_add]
     refine lint_pure 14 (Op.binOp BinOp.neq 9 (Operand.tmp 11) (Operand.tmp 13) 9) 4 (.bool true) rfl rfl rfl rfl rfl (fun w0 hb0 => by exact (exec_str_neq _ _ _ _ rfl rfl).trans (by rw [decide_eq_false HEQ.out]; rfl)) ?_
     simp only [Act.put, List.setIfInBounds_toArray, List.set_cons_zero, List.set_cons_succ, Nat.zero_add]
     refine lint_pure 15 (Op.pick (Operand.tmp 7) (Operand.const (Value.bool true)) (Operand.tmp 14)) 4 _ rfl rfl rfl rfl rfl (fun w0 hb0 => by unfold mkOp; go_simp; all_goals (with_reducible rfl)) ?_
     simp only [Act.put, List.setIfInBounds_toArray, List.set_cons_zero, List.set_cons_succ, Nat.zero_add]
     refine lint_end ?_
     have kR := rR
     have kb := B
     clear rR B hO10 hB10
     go_wp2_with (first
       | (refine wpList_build_arr rfl 67 _ rfl (arrOf 32 fun _ => .int .u8 0) (by kernel_rfl) ?_)
       | (refine wpList_store_arr rfl 67 (.tmp 2) (.tmp 16) rfl 32 arrSc kR rfl rfl (by omega) (fun _ _ => rfl) ?_; intro wd hrd hgd hsd))
     refine ret_cell_arr_tmp rfl arrSc hrd rfl rfl (by omega) rfl ⟨?_, kb.grown hgd (HGS.out _ kb) (by intro k hk; cases hk; exact Nat.le_refl _)⟩
     rw [aggSc, bF_zeros]
     rfl
 · have hsn : strictSN l = none := by
     unfold strictSN
     rw [if_neg (fun h => d0 h.1)]
   rw [hsn]
   have hn0 : ¬ (n0 : Int) = 32 := by omega
   clear hsn d0 e0
   go_enter Tryz.func46, Tryz.ntmps46
   go_wp2_with (refine wpList_alloc_arr rfl 67 rfl (arrOf 32 fun _ => .int .u8 0) zeroSc ?_)
   refine wp_region_lint (.rd 0 (.rd 1 (.rd 2 (.rd 3 (.rd 4 (.rd 8 (.rd 9 (.wr 5 (.wr 6 (.rd 7 (.rd 10 (.rd 11 .done)))))))))))) (by kernel_rfl) (by kernel_rfl) (by decide) (by kernel_rfl) (fun d _ _ _ _ h => by cases d <;> exact h) ?_
   refine lint_pure 4 (Op.move (Operand.tmp 0)) 22 _ rfl rfl rfl rfl rfl (fun w0 hb0 => by unfold mkOp; go_simp; all_goals (with_reducible rfl)) ?_
   simp only [Act.put, List.setIfInBounds_toArray, List.set_cons_zero, List.set_cons_succ, Nat.zero_add]
   refine lint_pure 5 (Op.call { callee := Callee.builtin Builtin.len, args := #[Operand.tmp 4], argTypes := #[22] }) 3 _ rfl rfl rfl rfl rfl (fun w0 hb0 => by unfold mkOp; go_simp; all_goals (with_reducible rfl)) ?_
   simp only [Act.put, List.setIfInBounds_toArray, List.set_cons_zero, List.set_cons_succ, Nat.zero_add]
   refine lint_pure 6 (Op.binOp BinOp.neq 3 (Operand.tmp 5) (Operand.const (Value.int IntKind.i64 32)) 3) 4 (.bool true) rfl rfl rfl rfl rfl (fun w0 hb0 => by unfold mkOp; go_simp; all_goals (with_reducible rfl)) ?_
   simp only [Act.put, List.setIfInBounds_toArray, List.set_cons_zero, List.set_cons_succ, Nat.zero_add]
   refine lint_pure 7 (Op.move (Operand.tmp 6)) 4 _ rfl rfl rfl rfl rfl (fun w0 hb0 => by unfold mkOp; go_simp; all_goals (with_reducible rfl)) ?_
   simp only [Act.put, List.setIfInBounds_toArray, List.set_cons_zero, List.set_cons_succ, Nat.zero_add]
   refine lint_none 8 rfl rfl rfl ?_
   simp only [Act.put, List.setIfInBounds_toArray, List.set_cons_zero, List.set_cons_succ, Nat.zero_add]
   refine lint_none 12 rfl rfl rfl ?_
   simp only [Act.put, List.setIfInBounds_toArray, List.set_cons_zero, List.set_cons_succ, Nat.zero_add]
   refine lint_none 13 rfl rfl rfl ?_
   simp only [Act.put, List.setIfInBounds_toArray, List.set_cons_zero, List.set_cons_succ, Nat.zero_add]
   refine stp_none 9 rfl rfl rfl ?_
   simp only [Act.put, List.setIfInBounds_toArray, List.set_cons_zero, List.set_cons_succ, Nat.zero_add]
   refine stp_none 10 rfl rfl rfl ?_
   simp only [Act.put, List.setIfInBounds_toArray, List.set_cons_zero, List.set_cons_succ, Nat.zero_add]
   refine lint_none 11 rfl rfl rfl ?_
   simp only [Act.put, List.setIfInBounds_toArray, List.set_cons_zero, List.set_cons_succ, Nat.zero_add]
   refine lint_none 14 rfl rfl rfl ?_
   simp only [Act.put, List.setIfInBounds_toArray, List.set_cons_zero, List.set_cons_succ, Nat.zero_add]
   refine lint_pure 15 (Op.pick (Operand.tmp 7) (Operand.const (Value.bool true)) (Operand.tmp 14)) 4 _ rfl rfl rfl rfl rfl (fun w0 hb0 => by unfold mkOp; go_simp; all_goals (with_reducible rfl)) ?_
   simp only [Act.put, List.setIfInBounds_toArray, List.set_cons_zero, List.set_cons_succ, Nat.zero_add]
   refine lint_end ?_
   have kR := rR
   have kb := B
   clear rR B
   go_wp2_with (first
     | (refine wpList_build_arr rfl 67 _ rfl (arrOf 32 fun _ => .int .u8 0) (by kernel_rfl) ?_)
     | (refine wpList_store_arr rfl 67 (.tmp 2) (.tmp 16) rfl 32 arrSc kR rfl rfl (by omega) (fun _ _ => rfl) ?_; intro wd hrd hgd hsd))
   refine ret_cell_arr_tmp rfl arrSc hrd rfl rfl (by omega) rfl ⟨?_, kb.grown hgd (HGS.out _ kb) (by intro k hk; cases hk; exact Nat.le_refl _)⟩
   rw [aggSc, bF_zeros]
   rfl
def ptT (t : Nat × Nat × Nat) : Nat → Value := ptF t.1 t.2.1 t.2.2
def LtT (t : Nat × Nat × Nat) : Prop := t.1 < p25 ∧ t.2.1 < p25 ∧ t.2.2 < p25
def bT : Nat × Nat × Nat := (ptB.1, ptB.2, 1)
def dT (l : List UInt8) : Nat × Nat × Nat := ((decP l).1, (decP l).2, 1)
theorem LtT.mul (t : Nat × Nat × Nat) (V : Nat) : LtT (pmul dP t V) := pmulS_lt dP t V 256
theorem LtT.add (t u : Nat × Nat × Nat) : LtT (padd dP t u) := padd_lt dP t u
theorem LtT.base : LtT bT := ⟨ptB_on.1, ptB_on.2.1, one_ltp⟩
theorem LtT.dec (l : List UInt8) : LtT (dT l) := by
 unfold dT decP
 cases h : decN l with
 | none => exact ⟨p25_pos, one_ltp, one_ltp⟩
 | some P =>
   have g := (decN_some h).2.1
   exact ⟨g.1, g.2.1, one_ltp⟩
theorem tMult_any (t : Nat × Nat × Nat) (V : Nat) (w : World) (h : LtT t) : Calls Tryz.prog 31 #[.agg (arrOf 48 (ptT t)), .agg (arrOf 32 (bF 32 V))] w fun e w' => e = .returned (.agg (arrOf 48 (ptT (pmul dP t V)))) ∧ Below w.heap.size w w' := refMultPt_any t.1 t.2.1 t.2.2 V w h.1 h.2.1 h.2.2
theorem tAdd_any (t u : Nat × Nat × Nat) (w : World) (h : LtT t) (k : LtT u) : Calls Tryz.prog 48 #[.agg (arrOf 48 (ptT t)), .agg (arrOf 48 (ptT u))] w fun e w' => e = .returned (.agg (arrOf 48 (ptT (padd dP t u)))) ∧ Below w.heap.size w w' := refAddPt_any t.1 t.2.1 t.2.2 u.1 u.2.1 u.2.2 w h.1 h.2.1 h.2.2 k.1 k.2.1 k.2.2
theorem tSame_any (t u : Nat × Nat × Nat) (w : World) (h : LtT t) (k : LtT u) : Calls Tryz.prog 47 #[.agg (arrOf 48 (ptT t)), .agg (arrOf 48 (ptT u))] w fun e w' => e = .returned (.bool (pSame t u)) ∧ Below w.heap.size w w' := refSame_any t.1 t.2.1 t.2.2 u.1 u.2.1 u.2.2 w h.1 h.2.1 h.2.2 k.1 k.2.1 k.2.2
theorem tSmall_any (t : Nat × Nat × Nat) (w : World) (h : LtT t) : Calls Tryz.prog 45 #[.agg (arrOf 48 (ptT t))] w fun e w' => e = .returned (.bool (pSmall t)) ∧ Below w.heap.size w w' := refSmall8_any t.1 t.2.1 t.2.2 w h.1 h.2.1 h.2.2
theorem tBase_any (w : World) : Calls Tryz.prog 30 #[] w fun e w' => e = .returned (.agg (arrOf 48 (ptT bT))) ∧ Below w.heap.size w w' := refBase_any w
theorem tDecode_any (v : Value) (l : List UInt8) (w : World) (h : Bs w v l) : Calls Tryz.prog 44 #[v] w fun e w' => e = .returned (.tuple #[.agg (arrOf 48 (ptT (dT l))), .int .i64 (decE l)]) ∧ Below w.heap.size w w' := refDecode_any v l w h
def RT (P : Nat × Nat) (t : Nat × Nat × Nat) : Prop := onE P ∧ LtT t ∧ RepN P t
theorem RT.base : RT ptB bT := ⟨ptB_on, LtT.base, repP_aff ptB⟩
theorem RT.zero : RT ptO (0, 1, 1) := ⟨ptO_on, ⟨p25_pos, one_ltp, one_ltp⟩, repP_zero⟩
theorem RT.mul {P : Nat × Nat} {t : Nat × Nat × Nat} (h : RT P t) {V : Nat} (hV : V < 2 ^ 256) : RT (mulE V P) (pmul dP t V) := ⟨mulE_on h.1 V, LtT.mul _ _, repN_mul h.1 h.2.2 hV⟩
theorem RT.add {P Q : Nat × Nat} {t u : Nat × Nat × Nat} (h : RT P t) (k : RT Q u) : RT (addE P Q) (padd dP t u) := ⟨addE_on h.1 k.1, LtT.add _ _, repN_add h.1 k.1 h.2.2 k.2.2⟩
theorem RT.dec (l : List UInt8) : RT (decP l) (dT l) := by
 refine ⟨?_, LtT.dec l, repP_aff (decP l)⟩
 unfold decP
 cases h : decN l with
 | none => exact ptO_on
 | some P => exact (decN_some h).2.1
theorem RT.same {P Q : Nat × Nat} {t u : Nat × Nat × Nat} (h : RT P t) (k : RT Q u) : pSame t u = decide (P = Q) := by
 have g := repN_same h.1 k.1 h.2.2 k.2.2
 unfold pSame
 by_cases e : P = Q
 · obtain ⟨g1, g2⟩ := g.1 e
   rw [decide_eq_true g1, decide_eq_true g2, decide_eq_true e]
   rfl
 · rw [decide_eq_false e]
   by_cases g1 : mulP t.1 u.2.2 = mulP u.1 t.2.2
   · have g2 : ¬ mulP t.2.1 u.2.2 = mulP u.2.1 t.2.2 := fun g2 => e (g.2 ⟨g1, g2⟩)
     rw [decide_eq_false g2, Bool.and_false]
   · rw [decide_eq_false g1, Bool.false_and]
theorem mulE_eight {P : Nat × Nat} (h : onE P) : mulE 8 P = addE (addE (addE P P) (addE P P)) (addE (addE P P) (addE P P)) := by
 have h2 : mulE 2 P = addE P P := by rw [show 2 = 1 + 1 from rfl, mulE_add h, mulE_one h]
 rw [show 8 = 2 * 2 * 2 from rfl, mulE_mul h, mulE_mul h]
 have k2 : ∀ {Q : Nat × Nat}, onE Q → mulE 2 Q = addE Q Q := fun {Q} hq => by rw [show 2 = 1 + 1 from rfl, mulE_add hq, mulE_one hq]
 rw [h2, k2 (addE_on h h), k2 (addE_on (addE_on h h) (addE_on h h))]
theorem RT.small {P : Nat × Nat} {t : Nat × Nat × Nat} (h : RT P t) : pSmall t = decide (mulE 8 P = ptO) := by
 rw [mulE_eight h.1]
 exact ((h.add h).add (h.add h) |>.add ((h.add h).add (h.add h))).same RT.zero
theorem RT.enc {P : Nat × Nat} {t : Nat × Nat × Nat} (h : RT P t) : encA t = encN P := encA_aff h.1 h.2.1.2.2 h.2.2
theorem ordL_256 : ordL < 2 ^ 256 := by decide +kernel
end Go.Proofs.YtonhpmaiagbheaaGreat
namespace Go.Proofs.YtonhpmaiagbheaaGreat
theorem d_un : Z ((dP : Int) * 121666 + 121665) := by
 have h1 := Z_oppP 121665
 have hne := small_ne 121666 (by decide) (by decide)
 have h2 := Z_invP (a := 121666) (Nat.lt_trans (show 121666 < 1000000 by decide) (by decide +kernel)) hne
 have h3 := Z_mulP (oppP 121665) (invP 121666)
 have e : (mulP (oppP 121665) (invP 121666) : Nat) = dP := rfl
 rw [e] at h3
 generalize ((oppP 121665 : Nat) : Int) = o at *
 generalize ((invP 121666 : Nat) : Int) = i at *
 generalize ((dP : Nat) : Int) = d at *
 exact Z.lin3 121666 o 1 h3 h2 h1 (by grind)
theorem repP_scale {P : Nat × Nat} {X Y W X' Y' W' u : Int} (h : RepP P X Y W) (hu : ¬ Z u) (hX : Z (X' - u * X)) (hY : Z (Y' - u * Y)) (hW : Z (W' - u * W)) : RepP P X' Y' W' := by
 obtain ⟨n, a, b⟩ := h
 unfold RepP
 generalize (P.1 : Int) = x at *
 generalize (P.2 : Int) = y at *
 refine ⟨fun hz => Z.not_mul hu n (Z.lin2 1 (-1) hz hW (by grind)), ?_, ?_⟩
 · exact Z.lin3 1 u (-x) hX a hW (by grind)
 · exact Z.lin3 1 u (-y) hY b hW (by grind)
def qX (a b : Nat × Nat × Nat) : Nat := mulP a.1 b.1
def qY (a b : Nat × Nat × Nat) : Nat := mulP a.2.1 b.2.1
def qC (a b : Nat × Nat × Nat) : Nat := subP p25 (subP p25 (mulP (addP a.1 a.2.1) (addP b.1 b.2.1)) (qX a b)) (qY a b)
def qS (a b : Nat × Nat × Nat) : Nat := mulP (mulP a.2.2 b.2.2) 121666
def qO (a b : Nat × Nat × Nat) : Nat := mulP (qS a b) (mulP a.2.2 b.2.2)
def qN (a b : Nat × Nat × Nat) : Nat := mulP (mulP (qX a b) (qY a b)) 121665
def qA (a b : Nat × Nat × Nat) : Nat := subP p25 (qO a b) (qN a b)
def qB (a b : Nat × Nat × Nat) : Nat := addP (qO a b) (qN a b)
def qadd (a b : Nat × Nat × Nat) : Nat × Nat × Nat :=
 (mulP (mulP (qS a b) (qC a b)) (qB a b), mulP (mulP (qS a b) (addP (qY a b) (qX a b))) (qA a b), mulP (qA a b) (qB a b))
theorem poly_q (X1 Y1 X2 Y2 d z zz m f g h s o n a b c x y X3 Y3 W3 S V T : Int) (hd : Z (d * 121666 + 121665))
   (hm : Z (m - X1 * X2 * (Y1 * Y2))) (hzz : Z (zz - z * z)) (hx : Z (x - X1 * X2)) (hy : Z (y - Y1 * Y2))
   (hf : Z (f - (zz - d * m))) (hg : Z (g - (zz + d * m))) (hh : Z (h - (X1 * Y2 + X2 * Y1)))
   (hs : Z (s - z * 121666)) (ho : Z (o - s * z)) (hn : Z (n - x * y * 121665)) (ha : Z (a - (o - n))) (hb : Z (b - (o + n)))
   (hc : Z (c - ((X1 + Y1) * (X2 + Y2) - x - y)))
   (hX : Z (X3 - z * f * h)) (hY : Z (Y3 - z * g * (Y1 * Y2 + X1 * X2))) (hW : Z (W3 - f * g))
   (hS : Z (S - s * c * b)) (hV : Z (V - s * (y + x) * a)) (hT : Z (T - a * b)) :
   Z (S - 121666 * 121666 * X3) ∧ Z (V - 121666 * 121666 * Y3) ∧ Z (T - 121666 * 121666 * W3) := by
 have kc : Z (c - h) := Z.lin4 1 (-1) (-1) (-1) hc hx hy hh (by grind)
 have kxy : Z (x * y - m) := Z.lin3 y (X1 * X2) (-1) hx hy hm (by grind)
 have ko : Z (o - 121666 * zz) := Z.lin3 1 z (-121666) ho hs hzz (by grind)
 have kn : Z (n - m * 121665) := Z.lin2 1 121665 hn kxy (by grind)
 have kdm : Z (121666 * (d * m) + 121665 * m) := Z.lin1 m hd (by grind)
 have kb : Z (b - 121666 * f) := by
   have e := Z.lin4 1 1 1 (-121666) hb ko kn hf (show (b - 121666 * f + (121666 * (d * m) + 121665 * m) * (-1) : Int) = _ by grind)
   exact Z.lin2 1 1 e kdm (by grind)
 have ka : Z (a - 121666 * g) := by
   have e := Z.lin4 1 1 (-1) (-121666) ha ko kn hg (show (a - 121666 * g + (121666 * (d * m) + 121665 * m) : Int) = _ by grind)
   exact Z.lin2 1 (-1) e kdm (by grind)
 have ksb : Z (s * b - 121666 * 121666 * (z * f)) := Z.lin2 b (z * 121666) hs kb (by grind)
 have ksa : Z (s * a - 121666 * 121666 * (z * g)) := Z.lin2 a (z * 121666) hs ka (by grind)
 have kv : Z (y + x - (Y1 * Y2 + X1 * X2)) := Z.lin2 1 1 hx hy (by grind)
 refine ⟨?_, ?_, ?_⟩
 · exact Z.lin4 1 c (121666 * 121666 * (z * f)) (-(121666 * 121666)) hS ksb kc hX (by grind)
 · exact Z.lin4 1 (y + x) (121666 * 121666 * (z * g)) (-(121666 * 121666)) hV ksa kv hY (by grind)
 · exact Z.lin4 1 b (121666 * g) (-(121666 * 121666)) hT ka kb hW (by grind)
theorem under_ne : ¬ Z (121666 * 121666 : Int) := Z.not_mul (small_ne 121666 (by decide) (by decide)) (small_ne 121666 (by decide) (by decide))
theorem repN_qadd {P Q : Nat × Nat} (hP : onE P) (hQ : onE Q) {a b : Nat × Nat × Nat} (h1 : RepN P a) (h2 : RepN Q b) : RepN (addE P Q) (qadd a b) := by
 have h := repN_add hP hQ h1 h2
 have kz := Z_mulP a.2.2 b.2.2
 have km := (Z_mulP (mulP a.1 b.1) (mulP a.2.1 b.2.1)).trans ((Z_mulP a.1 b.1).mulc (Z_mulP a.2.1 b.2.1))
 have kzz := Z_mulP (pZ a b) (pZ a b)
 have ke := Z_mulP dP (mulP (mulP a.1 b.1) (mulP a.2.1 b.2.1))
 have kf := (Z_subP (mulP (pZ a b) (pZ a b)) (pE dP a b)).trans ((Z.rfl' _).subc ke)
 have kg := (Z_addP (mulP (pZ a b) (pZ a b)) (pE dP a b)).trans ((Z.rfl' _).addc ke)
 have kh := (Z_addP (mulP a.1 b.2.1) (mulP b.1 a.2.1)).trans ((Z_mulP a.1 b.2.1).addc (Z_mulP b.1 a.2.1))
 have kX := (Z_mulP (mulP (pZ a b) (pF dP a b)) (pH a b)).trans ((Z_mulP (pZ a b) (pF dP a b)).mulc (Z.rfl' _))
 have kY := (Z_mulP (mulP (pZ a b) (pG dP a b)) (addP (mulP a.2.1 b.2.1) (mulP a.1 b.1))).trans ((Z_mulP (pZ a b) (pG dP a b)).mulc ((Z_addP (mulP a.2.1 b.2.1) (mulP a.1 b.1)).trans ((Z_mulP a.2.1 b.2.1).addc (Z_mulP a.1 b.1))))
 have kW := Z_mulP (pF dP a b) (pG dP a b)
 have kx := Z_mulP a.1 b.1
 have ky := Z_mulP a.2.1 b.2.1
 have ks := Z_mulP (pZ a b) 121666
 have ko := Z_mulP (qS a b) (pZ a b)
 have kn := (Z_mulP (mulP (qX a b) (qY a b)) 121665).trans ((Z_mulP (qX a b) (qY a b)).mulc (Z.rfl' _))
 have ka := Z_subP (qO a b) (qN a b)
 have kb := Z_addP (qO a b) (qN a b)
 have kc := (Z_subP (subP p25 (mulP (addP a.1 a.2.1) (addP b.1 b.2.1)) (qX a b)) (qY a b)).trans (((Z_subP (mulP (addP a.1 a.2.1) (addP b.1 b.2.1)) (qX a b)).trans (((Z_mulP (addP a.1 a.2.1) (addP b.1 b.2.1)).trans ((Z_addP a.1 a.2.1).mulc (Z_addP b.1 b.2.1))).subc (Z.rfl' _))).subc (Z.rfl' _))
 have kS := (Z_mulP (mulP (qS a b) (qC a b)) (qB a b)).trans ((Z_mulP (qS a b) (qC a b)).mulc (Z.rfl' _))
 have kV := (Z_mulP (mulP (qS a b) (addP (qY a b) (qX a b))) (qA a b)).trans (((Z_mulP (qS a b) (addP (qY a b) (qX a b))).trans ((Z.rfl' _).mulc (Z_addP (qY a b) (qX a b)))).mulc (Z.rfl' _))
 have kT := Z_mulP (qA a b) (qB a b)
 obtain ⟨g1, g2, g3⟩ := poly_q _ _ _ _ _ _ _ _ _ _ _ _ _ _ _ _ _ _ _ _ _ _ _ _ _ d_un km kzz kx ky kf kg kh ks ko kn ka kb kc kX kY kW kS kV kT
 exact repP_scale h under_ne g1 g2 g3
theorem qadd_lt (a b : Nat × Nat × Nat) : LtT (qadd a b) := ⟨mulP_lt _ _, mulP_lt _ _, mulP_lt _ _⟩
def fullT (t : Nat × Nat × Nat) : Nat × Nat × Nat := if t.2.2 = 0 then (0, 1, 1) else t
theorem fullT_no {t : Nat × Nat × Nat} (h : t.2.2 ≠ 0) : fullT t = t := if_neg h
theorem fullT_yes {t : Nat × Nat × Nat} (h : t.2.2 = 0) : fullT t = (0, 1, 1) := if_pos h
theorem LtT.zero : LtT (0, 1, 1) := ⟨p25_pos, one_ltp, one_ltp⟩
theorem LtT.none : LtT (0, 0, 0) := ⟨p25_pos, p25_pos, p25_pos⟩
theorem LtT.full {t : Nat × Nat × Nat} (h : LtT t) : LtT (fullT t) := by
 unfold fullT
 split
 · exact LtT.zero
 · exact h
def qAdd (t u : Nat × Nat × Nat) : Nat × Nat × Nat := qadd (fullT t) (fullT u)
def qSame (t u : Nat × Nat × Nat) : Bool := pSame (fullT t) (fullT u)
theorem LtT.qAdd (t u : Nat × Nat × Nat) : LtT (qAdd t u) := qadd_lt _ _
def RQ (P : Nat × Nat) (t : Nat × Nat × Nat) : Prop := LtT t ∧ RT P (fullT t)
theorem RQ.of {P : Nat × Nat} {t : Nat × Nat × Nat} (h : RT P t) : RQ P t := by
 refine ⟨h.2.1, ?_⟩
 rw [fullT_no]
 · exact h
 · intro e
   refine h.2.2.1 ?_
   rw [e]
   exact Z.zero
theorem RQ.none : RQ ptO (0, 0, 0) := ⟨LtT.none, RT.zero⟩
theorem RQ.base : RQ ptB bT := RQ.of RT.base
theorem RQ.add {P Q : Nat × Nat} {t u : Nat × Nat × Nat} (h : RQ P t) (k : RQ Q u) : RQ (addE P Q) (qAdd t u) := RQ.of ⟨addE_on h.2.1 k.2.1, qadd_lt _ _, repN_qadd h.2.1 k.2.1 h.2.2.2 k.2.2.2⟩
theorem RT.only {P : Nat × Nat} (h : RT P (0, 1, 1)) : P = ptO := by
 have g := h.same RT.zero
 have e : pSame (0, 1, 1) (0, 1, 1) = true := by unfold pSame; simp
 rw [e] at g
 exact of_decide_eq_true g.symm
theorem RQ.same {P Q : Nat × Nat} {t u : Nat × Nat × Nat} (h : RQ P t) (k : RQ Q u) : qSame t u = decide (P = Q) := h.2.same k.2
theorem RQ.on {P : Nat × Nat} {t : Nat × Nat × Nat} (h : RQ P t) : onE P := h.2.1
def qmulS (a : Nat × Nat × Nat) (K n : Nat) : Nat → Nat × Nat × Nat
 | 0 => (0, 0, 0)
 | i + 1 => if K / 2 ^ (n - (i + 1)) % 2 = 1 then qAdd (qAdd (qmulS a K n i) (qmulS a K n i)) a else qAdd (qmulS a K n i) (qmulS a K n i)
def qOft (a : Nat × Nat × Nat) (K n : Nat) : Nat × Nat × Nat := qmulS a K n n
theorem LtT.mulS (a : Nat × Nat × Nat) (K n : Nat) : ∀ i, LtT (qmulS a K n i)
 | 0 => LtT.none
 | i + 1 => by
   unfold qmulS
   split
   · exact LtT.qAdd _ _
   · exact LtT.qAdd _ _
theorem LtT.oft (a : Nat × Nat × Nat) (K n : Nat) : LtT (qOft a K n) := LtT.mulS a K n n
theorem RQ.mulS {P : Nat × Nat} {a : Nat × Nat × Nat} (h : RQ P a) {K n : Nat} (hK : K < 2 ^ n) : ∀ i, i ≤ n → RQ (mulE (K / 2 ^ (n - i)) P) (qmulS a K n i)
 | 0, _ => by
   rw [Nat.sub_zero, Nat.div_eq_of_lt hK]
   exact RQ.none
 | i + 1, hi => by
   have ih := RQ.mulS h hK i (by omega)
   have hd := ih.add ih
   rw [← mulE_add h.on] at hd
   have e : K / 2 ^ (n - (i + 1)) = K / 2 ^ (n - i) + K / 2 ^ (n - i) + K / 2 ^ (n - (i + 1)) % 2 := by
     rw [show n - i = (n - (i + 1)) + 1 by omega, Nat.pow_succ, ← Nat.div_div_eq_div_mul]
     omega
   rw [e]
   unfold qmulS
   by_cases hb : K / 2 ^ (n - (i + 1)) % 2 = 1
   · rw [if_pos hb, hb]
     exact hd.add h
   · rw [if_neg hb, show K / 2 ^ (n - (i + 1)) % 2 = 0 by omega, Nat.add_zero]
     exact hd
theorem RQ.oft {P : Nat × Nat} {a : Nat × Nat × Nat} (h : RQ P a) {K n : Nat} (hK : K < 2 ^ n) : RQ (mulE K P) (qOft a K n) := by
 have h2 := RQ.mulS h hK n (Nat.le_refl _)
 rwa [Nat.sub_self, Nat.pow_zero, Nat.div_one] at h2
def qMul (a : Nat × Nat × Nat) (K : Nat) : Nat × Nat × Nat := qOft a K 253
theorem ordL_253 : ordL < 2 ^ 253 := by decide +kernel
theorem RQ.mul {P : Nat × Nat} {a : Nat × Nat × Nat} (h : RQ P a) {K : Nat} (hK : K < ordL) : RQ (mulE K P) (qMul a K) := h.oft (Nat.lt_trans hK ordL_253)
def encQ (t : Nat × Nat × Nat) : Nat := encA (fullT t)
theorem RQ.enc {P : Nat × Nat} {t : Nat × Nat × Nat} (h : RQ P t) : encQ t = encN P := h.2.enc
def eT (l : List UInt8) : Nat × Nat × Nat := match decN l with
 | none => (0, 0, 0)
 | some P => (P.1, P.2, 1)
theorem RQ.dec (l : List UInt8) : RQ (decP l) (eT l) := by
 unfold eT decP
 cases h : decN l with
 | none => exact RQ.none
 | some P =>
   have g := RT.dec l
   unfold decP dT decP at g
   rw [h] at g
   exact RQ.of g
theorem LtT.read (l : List UInt8) : LtT (eT l) := (RQ.dec l).1
def besS (Y : Nat) : Nat := mulP (mulP (subP p25 (mulP Y Y) 1) 121666) (invP (subP p25 121666 (mulP (mulP Y Y) 121665)))
theorem poly_bes (y yy d v s t i b n w : Int) (hd : Z (d * 121666 + 121665)) (hyy : Z (yy - y * y)) (hv : Z (v - (d * (y * y) + 1))) (hs : Z (s * v - (y * y - 1)))
   (ht : Z (t - (121666 - yy * 121665))) (hi : Z (t * i - 1)) (hw : Z (w - (yy - 1) * 121666)) (hb : Z (b - w * i)) (ht0 : ¬ Z t) (hv0 : ¬ Z v) : Z (b - s) := by
 have kt : Z (t - 121666 * v) := Z.lin4 1 (-121665) (-121666) (-(y * y)) ht hyy hv hd (by grind)
 have kbt : Z (b * t - w) := Z.lin2 t w hb hi (by grind)
 refine Z.cancel (a := t) ?_ ht0
 have kst : Z (s * t - 121666 * (y * y - 1)) := Z.lin2 s 121666 kt hs (by grind)
 exact Z.lin4 1 (-1) 1 121666 kbt kst hw hyy (by grind)
theorem besS_eq {Y : Nat} (hY : Y < p25) : besS Y = decS Y := by
 have hs := decS_Z Y
 have hv : ¬ Z ((dP : Int) * ((Y : Int) * Y) + 1) := by
   have h1 := v_ne Y
   have h2 := (Z_addP (mulP dP (mulP Y Y)) 1).trans (((Z_mulP dP (mulP Y Y)).trans ((Z.rfl' _).mulc (Z_mulP Y Y))).addc (Z.rfl' _))
   exact fun h => h1 (Z.lin2 1 1 h2 h (by grind))
 have ht := (Z_subP 121666 (mulP (mulP Y Y) 121665)).trans ((Z.rfl' _).subc (Z_mulP (mulP Y Y) 121665))
 have hyy := Z_mulP Y Y
 have ht0 : ¬ Z ((subP p25 121666 (mulP (mulP Y Y) 121665) : Nat) : Int) := by
   have hd := d_un
   have hu := small_ne 121666 (by decide) (by decide)
   have n := Z.not_mul hu hv
   intro h
   refine n ?_
   generalize ((subP p25 121666 (mulP (mulP Y Y) 121665) : Nat) : Int) = t at *
   generalize ((mulP Y Y : Nat) : Int) = yy at *
   generalize ((dP : Nat) : Int) = d at *
   generalize (Y : Int) = y at *
   exact Z.lin4 1 (-1) (121665) (y * y) h ht hyy hd (by grind)
 have hi := Z_invP (subP_lt 121666 (mulP (mulP Y Y) 121665)) ht0
 have hw := (Z_mulP (subP p25 (mulP Y Y) 1) 121666).trans ((Z_subP (mulP Y Y) 1).mulc (Z.rfl' _))
 have hb := Z_mulP (mulP (subP p25 (mulP Y Y) 1) 121666) (invP (subP p25 121666 (mulP (mulP Y Y) 121665)))
 exact Z.eq (mulP_lt _ _) (decS_lt Y) (poly_bes _ _ _ _ _ _ _ _ 0 _ d_un hyy (Z.zero.lin1 0 (by grind)) hs ht hi hw hb ht0 hv)
theorem bes_root {Y : Nat} (hY : Y < p25) : rootL p25 t25 (besS Y) = decX Y := by
 rw [besS_eq hY]
 rfl
end Go.Proofs.YtonhpmaiagbheaaGreat
namespace Go.Proofs.YtonhpmaiagbheaaGreat
open Go.RowKit Go.Deep
def qF (x y z : Nat) : Nat → Value := fun i => if i < 4 then ewF x i else if i < 8 then ewF y (i - 4) else ewF z (i - 8)
theorem qF_x (x y z i : Nat) (h : i < 4) : qF x y z (0 + i) = ewF x i := by
 unfold qF
 rw [Nat.zero_add, if_pos h]
theorem qF_y (x y z i : Nat) (h : i < 4) : qF x y z (4 + i) = ewF y i := by
 unfold qF
 rw [if_neg (by omega), if_pos (by omega), Nat.add_sub_cancel_left]
theorem qF_z (x y z i : Nat) (h : i < 4) : qF x y z (8 + i) = ewF z i := by
 unfold qF
 rw [if_neg (by omega), if_neg (by omega), Nat.add_sub_cancel_left]
theorem qF_one (x y z j : Nat) : (qF x y z j).oneCell' = true := by
 unfold qF
 split
 · rfl
 · split <;> rfl
theorem arrQ : IsArr Tryz.prog 53 12 := ⟨by kernel_rfl, by kernel_rfl⟩
theorem zeroQ : (Tryz.prog.info? 53).map (fun i => i.zero) = some (some (.agg (arrOf 12 (u64f fun _ => 0)))) := by kernel_rfl
theorem builtQ (x y z : Nat) : Tryz.prog.built 53 [(0, .agg (arrOf 4 (ewF x))), (1, .agg (arrOf 4 (ewF y))), (2, .agg (arrOf 4 (ewF z)))] = some (arrOf 12 (qF x y z)) := by kernel_rfl
theorem builtQ2 (y z : Nat) : Tryz.prog.built 53 [(1, .agg (arrOf 4 (ewF y))), (2, .agg (arrOf 4 (ewF z)))] = some (arrOf 12 (qF 0 y z)) := by kernel_rfl
theorem builtQ0 : Tryz.prog.built 53 [] = some (arrOf 12 (qF 0 0 0)) := by kernel_rfl
theorem builtE0 : Tryz.prog.built 51 [] = some (arrOf 4 (ewF 0)) := by kernel_rfl
theorem sameB_any (A C : Nat) (b : Bool) (w : World) (hA : A < p25) (hC : C < p25) (h : decide (A = C) = b) : Calls Tryz.prog 88 #[.agg (arrOf 4 (ewF A)), .agg (arrOf 4 (ewF C))] w fun e w' => e = .returned (.bool b) ∧ Below w.heap.size w w' := by
 have g := same_any A C w hA hC
 rwa [h] at g
set_option maxHeartbeats 4000000 in
set_option maxRecDepth 10000 in
theorem full_yes (X Y Z : Nat) (w : World) (HZ0 : decide (Z = 0) = true) (HX : X < p25) (HY : Y < p25) (HZ : Z < p25) : Calls Tryz.prog 60 #[.agg (arrOf 12 (qF X Y Z))] w fun e w' => e = .returned (.agg (arrOf 12 (qF 0 1 1))) ∧ Below w.heap.size w w' := by
 have Bw0 := Below.refl w.heap.size w
 have HGS : Hid (∀ wq : World, Below w.heap.size w wq → w.heap.size ≤ wq.heap.size) := Lib.hid fun wq h => h.size
 replace HX := Lib.hid HX
 replace HY := Lib.hid HY
 replace HZ := Lib.hid HZ
 replace HZ0 := Lib.hid HZ0
 go_enter Tryz.func60, Tryz.ntmps60
 go_wp2_with (first
   | (have hgo := Bw0; clear hgo
      refine wpList_box_row rfl 53 (.tmp 0) rfl 12 (qF X Y Z) rfl ?_
      intro b_t1 w1 lk r_t1 kk
      have l_t1 := zrl HGS Bw0 lk
      have Bw1 := zbt HGS Bw0 kk
      clear Bw0 kk lk)
   | (have hgo := Bw1; clear hgo
      refine wpList_alloc_row rfl 53 rfl 12 (u64f fun _ => 0) zeroQ ?_
      intro b_t2 w2 lk r_t2 kk
      have n_t1_t2 := zrn r_t1 lk
      have l_t2 := zrl HGS Bw1 lk
      replace r_t1 := zrb r_t1 kk
      have Bw2 := zbt HGS Bw1 kk
      clear Bw1 kk lk)
   | (have hgo := Bw2; clear hgo
      refine wpList_load_as rfl 51 (.tmp 3) rfl 4 (ewF Z) arrE r_t1 rfl (by omega) (fun i hi => qF_z _ _ _ i hi) ?_
      have Bw3 := Bw2
      clear Bw2)
   | (have hgo := Bw3; clear hgo
      refine wpList_build_arr rfl 51 #[] rfl (arrOf 4 (ewF 0)) ?_ ?_
      · simp only [List.map_toArray, List.map_cons, List.map_nil]; exact builtE0
      have Bw4 := Bw3
      clear Bw3)
   | (have hgo := Bw4; clear hgo
      go_at_call 88
      refine (sameB_any Z 0 true _ HZ.out p25_pos HZ0.out).mono ?_
      rintro e w6 ⟨rfl, kk⟩
      replace r_t1 := zrb r_t1 kk
      replace r_t2 := zrb r_t2 kk
      have Bw5 := zbt HGS Bw4 kk
      clear Bw4 kk)
   | (have hgo := Bw5; clear hgo
      go_at_call 57
      refine (small_any 1 _ (by decide)).mono ?_
      rintro e w7 ⟨rfl, kk⟩
      replace r_t1 := zrb r_t1 kk
      replace r_t2 := zrb r_t2 kk
      have Bw6 := zbt HGS Bw5 kk
      clear Bw5 kk)
   | (have hgo := Bw6; clear hgo
      go_at_call 57
      refine (small_any 1 _ (by decide)).mono ?_
      rintro e w8 ⟨rfl, kk⟩
      replace r_t1 := zrb r_t1 kk
      replace r_t2 := zrb r_t2 kk
      have Bw7 := zbt HGS Bw6 kk
      clear Bw6 kk)
   | (have hgo := Bw7; clear hgo
      refine wpList_build_arr rfl 53 #[(1, Operand.tmp 7), (2, Operand.tmp 8)] rfl (arrOf 12 (qF 0 1 1)) ?_ ?_
      · simp only [List.map_toArray, List.map_cons, List.map_nil]; exact builtQ2 _ _
      have Bw8 := Bw7
      clear Bw7)
   | (have hgo := Bw8; clear hgo
      refine wpList_store_as rfl 53 (.tmp 2) (.tmp 9) rfl 12 (qF 0 1 1) arrQ r_t2 rfl rfl (by omega) (fun j _ => qF_one _ _ _ j) (fun i hi => putN_whole hi) ?_
      intro w10 q gk
      replace r_t1 := gb_rowIs r_t1 gk n_t1_t2
      replace r_t2 := q
      have Bw9 := zbg HGS Bw8 gk l_t2
      clear Bw8 gk q))
 exact ret_cell_as _ rfl arrQ r_t2 rfl (by omega) (fun _ _ => rfl) rfl ⟨rfl, Bw9⟩
set_option maxHeartbeats 4000000 in
set_option maxRecDepth 10000 in
theorem full_no (X Y Z : Nat) (w : World) (HZ0 : decide (Z = 0) = false) (HX : X < p25) (HY : Y < p25) (HZ : Z < p25) : Calls Tryz.prog 60 #[.agg (arrOf 12 (qF X Y Z))] w fun e w' => e = .returned (.agg (arrOf 12 (qF X Y Z))) ∧ Below w.heap.size w w' := by
 have Bw0 := Below.refl w.heap.size w
 have HGS : Hid (∀ wq : World, Below w.heap.size w wq → w.heap.size ≤ wq.heap.size) := Lib.hid fun wq h => h.size
 replace HX := Lib.hid HX
 replace HY := Lib.hid HY
 replace HZ := Lib.hid HZ
 replace HZ0 := Lib.hid HZ0
 go_enter Tryz.func60, Tryz.ntmps60
 go_wp2_with (first
   | (have hgo := Bw0; clear hgo
      refine wpList_box_row rfl 53 (.tmp 0) rfl 12 (qF X Y Z) rfl ?_
      intro b_t1 w1 lk r_t1 kk
      have l_t1 := zrl HGS Bw0 lk
      have Bw1 := zbt HGS Bw0 kk
      clear Bw0 kk lk)
   | (have hgo := Bw1; clear hgo
      refine wpList_alloc_row rfl 53 rfl 12 (u64f fun _ => 0) zeroQ ?_
      intro b_t2 w2 lk r_t2 kk
      have n_t1_t2 := zrn r_t1 lk
      have l_t2 := zrl HGS Bw1 lk
      replace r_t1 := zrb r_t1 kk
      have Bw2 := zbt HGS Bw1 kk
      clear Bw1 kk lk)
   | (have hgo := Bw2; clear hgo
      refine wpList_load_as rfl 51 (.tmp 3) rfl 4 (ewF Z) arrE r_t1 rfl (by omega) (fun i hi => qF_z _ _ _ i hi) ?_
      have Bw3 := Bw2
      clear Bw2)
   | (have hgo := Bw3; clear hgo
      refine wpList_build_arr rfl 51 #[] rfl (arrOf 4 (ewF 0)) ?_ ?_
      · simp only [List.map_toArray, List.map_cons, List.map_nil]; exact builtE0
      have Bw4 := Bw3
      clear Bw3)
   | (have hgo := Bw4; clear hgo
      go_at_call 88
      refine (sameB_any Z 0 false _ HZ.out p25_pos HZ0.out).mono ?_
      rintro e w6 ⟨rfl, kk⟩
      replace r_t1 := zrb r_t1 kk
      replace r_t2 := zrb r_t2 kk
      have Bw5 := zbt HGS Bw4 kk
      clear Bw4 kk)
   | (have hgo := Bw5; clear hgo
      refine wpList_load_as rfl 53 (.tmp 1) rfl 12 (qF X Y Z) arrQ r_t1 rfl (by omega) (fun i hi => by rw [Nat.zero_add]) ?_
      have Bw6 := Bw5
      clear Bw5)
   | (have hgo := Bw6; clear hgo
      refine wpList_store_as rfl 53 (.tmp 2) (.tmp 10) rfl 12 (qF X Y Z) arrQ r_t2 rfl rfl (by omega) (fun j _ => qF_one _ _ _ j) (fun i hi => putN_whole hi) ?_
      intro w8 q gk
      replace r_t1 := gb_rowIs r_t1 gk n_t1_t2
      replace r_t2 := q
      have Bw7 := zbg HGS Bw6 gk l_t2
      clear Bw6 gk q))
 exact ret_cell_as _ rfl arrQ r_t2 rfl (by omega) (fun _ _ => rfl) rfl ⟨rfl, Bw7⟩
theorem full_v {x y z : Nat} (X Y Z : Nat) (w : World) (h : fullT (X, Y, Z) = (x, y, z)) (HX : X < p25) (HY : Y < p25) (HZ : Z < p25) : Calls Tryz.prog 60 #[.agg (arrOf 12 (qF X Y Z))] w fun e w' => e = .returned (.agg (arrOf 12 (qF x y z))) ∧ Below w.heap.size w w' := by
 by_cases hz : Z = 0
 · rw [fullT_yes (t := (X, Y, Z)) hz] at h
   cases h
   exact full_yes X Y Z w (decide_eq_true hz) HX HY HZ
 · rw [fullT_no (t := (X, Y, Z)) hz] at h
   cases h
   exact full_no _ _ _ w (decide_eq_false hz) HX HY HZ
theorem full_vlt {X Y Z : Nat} {x y z : Nat} (h : fullT (X, Y, Z) = (x, y, z)) (HX : X < p25) (HY : Y < p25) (HZ : Z < p25) : x < p25 ∧ y < p25 ∧ z < p25 := by
 have g := LtT.full (t := (X, Y, Z)) ⟨HX, HY, HZ⟩
 rw [h] at g
 exact g
set_option maxHeartbeats 4000000 in
set_option maxRecDepth 10000 in
theorem qAdd_any (X Y Z V Q T : Nat) (w : World) (HX : X < p25) (HY : Y < p25) (HZ : Z < p25) (HV : V < p25) (HQ : Q < p25) (HT : T < p25) : Calls Tryz.prog 43 #[.agg (arrOf 12 (qF X Y Z)), .agg (arrOf 12 (qF V Q T))] w fun e w' => e = .returned (.agg (arrOf 12 (qF (qAdd (X, Y, Z) (V, Q, T)).1 (qAdd (X, Y, Z) (V, Q, T)).2.1 (qAdd (X, Y, Z) (V, Q, T)).2.2))) ∧ Below w.heap.size w w' := by
 have Bw0 := Below.refl w.heap.size w
 have HGS : Hid (∀ wq : World, Below w.heap.size w wq → w.heap.size ≤ wq.heap.size) := Lib.hid fun wq h => h.size
 replace HX := Lib.hid HX
 replace HY := Lib.hid HY
 replace HZ := Lib.hid HZ
 replace HV := Lib.hid HV
 replace HQ := Lib.hid HQ
 replace HT := Lib.hid HT
 rcases hA : fullT (X, Y, Z) with ⟨x1, y1, z1⟩
 obtain ⟨hx1, hy1, hz1⟩ := (full_vlt hA HX.out HY.out HZ.out)
 have Hx1 := Lib.hid hx1
 have Hy1 := Lib.hid hy1
 have Hz1 := Lib.hid hz1
 clear hx1 hy1 hz1
 rcases hB : fullT (V, Q, T) with ⟨x2, y2, z2⟩
 obtain ⟨hx2, hy2, hz2⟩ := (full_vlt hB HV.out HQ.out HT.out)
 have Hx2 := Lib.hid hx2
 have Hy2 := Lib.hid hy2
 have Hz2 := Lib.hid hz2
 clear hx2 hy2 hz2
 replace hA := Lib.hid hA
 replace hB := Lib.hid hB
 go_enter Tryz.func43, Tryz.ntmps43
 go_wp2_with (first
   | (have hgo := Bw0; clear hgo
      refine wpList_box_row rfl 53 (.tmp 0) rfl 12 (qF X Y Z) rfl ?_
      intro b_t2 w1 lk r_t2 kk
      have l_t2 := zrl HGS Bw0 lk
      have Bw1 := zbt HGS Bw0 kk
      clear Bw0 kk lk)
   | (have hgo := Bw1; clear hgo
      refine wpList_box_row rfl 53 (.tmp 1) rfl 12 (qF V Q T) rfl ?_
      intro b_t3 w2 lk r_t3 kk
      have n_t2_t3 := zrn r_t2 lk
      have l_t3 := zrl HGS Bw1 lk
      replace r_t2 := zrb r_t2 kk
      have Bw2 := zbt HGS Bw1 kk
      clear Bw1 kk lk)
   | (have hgo := Bw2; clear hgo
      refine wpList_alloc_row rfl 53 rfl 12 (u64f fun _ => 0) zeroQ ?_
      intro b_t4 w3 lk r_t4 kk
      have n_t2_t4 := zrn r_t2 lk
      have n_t3_t4 := zrn r_t3 lk
      have l_t4 := zrl HGS Bw2 lk
      replace r_t2 := zrb r_t2 kk
      replace r_t3 := zrb r_t3 kk
      have Bw3 := zbt HGS Bw2 kk
      clear Bw2 kk lk))
 have Bw4 := Bw3.drew
 replace r_t2 := World.rowIs.drew r_t2
 replace r_t3 := World.rowIs.drew r_t3
 replace r_t4 := World.rowIs.drew r_t4
 clear Bw3
 refine zpo [b_t2, b_t3] .done #[false, false, false, false, false, false] [0, 1, 2, 3, 4, 5] [some 14, some 15, some 16, some 17, none, none] [[], [0], [], [1, 2], [0, 1, 3], [0, 1, 2, 3, 4]] [(0, []), (1, [0]), (2, []), (3, [2, 1]), (4, [1, 3, 0, 1]), (5, [3, 4, 0, 1, 2, 3, 4])] 0 ?_
 refine lintz_leaf ?_
 refine po_start [.val (.agg (arrOf 12 (qF X Y Z))), .val (.agg (arrOf 12 (qF x1 y1 z1))), .val (.agg (arrOf 12 (qF V Q T))), .val (.agg (arrOf 12 (qF x2 y2 z2))), .nil, .nil] [⟨b_t2, 53, 12, (qF X Y Z), 4, (qF x1 y1 z1)⟩, ⟨b_t3, 53, 12, (qF V Q T), 5, (qF x2 y2 z2)⟩] (po_olds2 r_t2 r_t3) (fun HWF m gz wa p az hp hm hmp hcl hdn hE hJ hS hO => ?_) (fun gz wa hE hJ => ?_)
 · rcases (show p = 0 ∨ p = 1 ∨ p = 2 ∨ p = 3 ∨ p = 4 ∨ p = 5 by have h9 : p < 6 := hp; omega) with rfl | rfl | rfl | rfl | rfl | rfl
   · have ro : wa.rowIs b_t2 53 12 (qF X Y Z) := hJ.old0 0 (show 0 < 2 by decide) (po_notyet (s := 4) hcl hmp (by rw [hm]; exact hp) (by decide))
     exact po_p _ HWF hJ hE rfl rfl rfl rfl rfl rfl rfl (exec_load_as _ _ _ _ (qF X Y Z) (hO 2 rfl) arrQ ro (by omega) (fun i hi => by rw [Nat.zero_add]))
   · exact po_k HWF hJ hE (full_v X Y Z _ hA.out HX.out HY.out HZ.out) rfl rfl rfl rfl rfl rfl (ar1 (po_e hS hdn hJ 0 14 rfl rfl rfl rfl))
   · have ro : wa.rowIs b_t3 53 12 (qF V Q T) := hJ.old0 1 (show 1 < 2 by decide) (po_notyet (s := 5) hcl hmp (by rw [hm]; exact hp) (by decide))
     exact po_p _ HWF hJ hE rfl rfl rfl rfl rfl rfl rfl (exec_load_as _ _ _ _ (qF V Q T) (hO 3 rfl) arrQ ro (by omega) (fun i hi => by rw [Nat.zero_add]))
   · exact po_k HWF hJ hE (full_v V Q T _ hB.out HV.out HQ.out HT.out) rfl rfl rfl rfl rfl rfl (ar1 (po_e hS hdn hJ 2 16 rfl rfl rfl rfl))
   · exact po_storeOld 0 (.tmp 2) (.tmp 15) 53 b_t2 12 _ (by rw [hm]; exact hp) hmp hJ rfl (show 0 < 2 by decide) rfl rfl rfl rfl rfl (World.rowIs.lt r_t2) (by simp) (by kernel_rfl) (po_ne2a (show 5 ≠ 4 by decide) (Ne.symm n_t2_t3)) hE rfl rfl rfl rfl rfl (hO 2 rfl) (po_e hS hdn hJ 1 15 rfl rfl rfl rfl) arrQ (fun j _ => qF_one _ _ _ j)
   · exact po_storeOld 1 (.tmp 3) (.tmp 17) 53 b_t3 12 _ (by rw [hm]; exact hp) hmp hJ rfl (show 1 < 2 by decide) rfl rfl rfl rfl rfl (World.rowIs.lt r_t3) (by simp) (by kernel_rfl) (po_ne2b (show 4 ≠ 5 by decide) n_t2_t3) hE rfl rfl rfl rfl rfl (hO 3 rfl) (po_e hS hdn hJ 3 17 rfl rfl rfl rfl) arrQ (fun j _ => qF_one _ _ _ j)
 · rw [putO_true _ _ _ _ _ rfl]
   simp only [putA, Nat.zero_add, Nat.reduceAdd]
   rw [hJ.tt 0 rfl, hJ.tt 1 rfl, hJ.tt 2 rfl, hJ.tt 3 rfl]
   simp only [Act.put, zA, zB, zC]
   refine po_end ?_
   replace r_t2 : wa.rowIs b_t2 53 12 (qF x1 y1 z1) := hJ.old 0 (show 0 < 2 by decide) (show 4 < 6 by decide)
   replace r_t3 : wa.rowIs b_t3 53 12 (qF x2 y2 z2) := hJ.old 1 (show 1 < 2 by decide) (show 5 < 6 by decide)
   replace r_t4 := Keep.row hE r_t4 (cont2 (Ne.symm n_t2_t4) (Ne.symm n_t3_t4))
   have Bw5 := hE.below Bw4 (HGS.out _ Bw4) (keep_all2 l_t2 l_t3)
   clear Bw4 hE hJ 
   go_wp2
   have Bw6 := Bw5.drew
   replace r_t2 := World.rowIs.drew r_t2
   replace r_t3 := World.rowIs.drew r_t3
   replace r_t4 := World.rowIs.drew r_t4
   clear Bw5
   refine zpo [] (.rd 0 (.rd 1 (.rd 2 (.rd 3 (.rd 5 (.rd 6 (.rd 7 (.rd 8 (.rd 10 (.rd 11 (.rd 12 (.rd 13 .done)))))))))))) #[true, true, true, true, false, true, true, true, true, false, true, true, true, true, false, false, false, false, false, false, false] [4, 9, 14, 15, 16, 17, 18, 19, 20] [some 22, some 27, some 32, some 5, some 6, some 7, none, none, none] [[], [0], [1], [], [], [], [0, 2, 3, 4, 5], [0, 1, 3, 4, 5, 6], [0, 1, 2, 3, 4, 5, 6, 7]] [(0, []), (1, [0]), (2, []), (3, [2]), (4, [1, 3]), (5, []), (6, [5]), (7, []), (8, [7]), (9, [6, 8, 4]), (10, []), (11, [10]), (12, []), (13, [12]), (14, [11, 13, 9]), (15, []), (16, []), (17, []), (18, [15, 4, 14, 0, 1, 2, 3, 4, 15, 16, 17]), (19, [16, 9, 18, 0, 1, 2, 3, 4, 5, 6, 7, 8, 9, 15, 16, 17, 18]), (20, [17, 14, 19, 0, 1, 2, 3, 4, 5, 6, 7, 8, 9, 10, 11, 12, 13, 14, 15, 16, 17, 18, 19])] 15855 ?_
   refine lintz_pure 18 _ _ (.pointer (some ⟨b_t2, 0, none⟩)) rfl rfl rfl rfl rfl (fun w0 hb => by unfold mkOp; go_simp; all_goals (with_reducible rfl)) ?_
   simp only [Act.put, zA, zB, zC]
   refine zld (ewF x1) arrE r_t2 rfl (fun i hi => qF_x _ _ _ i hi) rfl rfl rfl rfl rfl (by omega) ?_
   simp only [Act.put, zA, zB, zC]
   refine lintz_pure 20 _ _ (.pointer (some ⟨b_t3, 0, none⟩)) rfl rfl rfl rfl rfl (fun w0 hb => by unfold mkOp; go_simp; all_goals (with_reducible rfl)) ?_
   simp only [Act.put, zA, zB, zC]
   refine zld (ewF x2) arrE r_t3 rfl (fun i hi => qF_x _ _ _ i hi) rfl rfl rfl rfl rfl (by omega) ?_
   simp only [Act.put, zA, zB, zC]
   refine lintz_pure 23 _ _ (.pointer (some ⟨b_t2, 4, none⟩)) rfl rfl rfl rfl rfl (fun w0 hb => by unfold mkOp; go_simp; all_goals (with_reducible rfl)) ?_
   simp only [Act.put, zA, zB, zC]
   refine zld (ewF y1) arrE r_t2 rfl (fun i hi => qF_y _ _ _ i hi) rfl rfl rfl rfl rfl (by omega) ?_
   simp only [Act.put, zA, zB, zC]
   refine lintz_pure 25 _ _ (.pointer (some ⟨b_t3, 4, none⟩)) rfl rfl rfl rfl rfl (fun w0 hb => by unfold mkOp; go_simp; all_goals (with_reducible rfl)) ?_
   simp only [Act.put, zA, zB, zC]
   refine zld (ewF y2) arrE r_t3 rfl (fun i hi => qF_y _ _ _ i hi) rfl rfl rfl rfl rfl (by omega) ?_
   simp only [Act.put, zA, zB, zC]
   refine lintz_pure 28 _ _ (.pointer (some ⟨b_t2, 8, none⟩)) rfl rfl rfl rfl rfl (fun w0 hb => by unfold mkOp; go_simp; all_goals (with_reducible rfl)) ?_
   simp only [Act.put, zA, zB, zC]
   refine zld (ewF z1) arrE r_t2 rfl (fun i hi => qF_z _ _ _ i hi) rfl rfl rfl rfl rfl (by omega) ?_
   simp only [Act.put, zA, zB, zC]
   refine lintz_pure 30 _ _ (.pointer (some ⟨b_t3, 8, none⟩)) rfl rfl rfl rfl rfl (fun w0 hb => by unfold mkOp; go_simp; all_goals (with_reducible rfl)) ?_
   simp only [Act.put, zA, zB, zC]
   refine zld (ewF z2) arrE r_t3 rfl (fun i hi => qF_z _ _ _ i hi) rfl rfl rfl rfl rfl (by omega) ?_
   simp only [Act.put, zA, zB, zC]
   refine lintz_leaf ?_
   refine po_start [.val (.agg (arrOf 4 (ewF (mulP x1 x2)))), .val (.agg (arrOf 4 (ewF (mulP y1 y2)))), .val (.agg (arrOf 4 (ewF (mulP z1 z2)))), .row 51 4 (u64f fun _ => 0) 6 (ewF (mulP x1 x2)), .row 51 4 (u64f fun _ => 0) 7 (ewF (mulP y1 y2)), .row 51 4 (u64f fun _ => 0) 8 (ewF (mulP z1 z2)), .nil, .nil, .nil] [] (fun i hi => absurd hi (Nat.not_lt_zero _)) (fun HWF m gz wa p az hp hm hmp hcl hdn hE hJ hS hO => ?_) (fun gz wa hE hJ => ?_)
   · rcases (show p = 0 ∨ p = 1 ∨ p = 2 ∨ p = 3 ∨ p = 4 ∨ p = 5 ∨ p = 6 ∨ p = 7 ∨ p = 8 by have h9 : p < 9 := hp; omega) with rfl | rfl | rfl | rfl | rfl | rfl | rfl | rfl | rfl
     · have e19 : az.eval (.tmp 19) = .agg (arrOf 4 (ewF x1)) := hO 19 rfl
       have e21 : az.eval (.tmp 21) = .agg (arrOf 4 (ewF x2)) := hO 21 rfl
       exact po_k HWF hJ hE (mul_any x1 x2 _ Hx1.out Hx2.out) rfl rfl rfl rfl rfl rfl (ar2 e19 e21)
     · have e24 : az.eval (.tmp 24) = .agg (arrOf 4 (ewF y1)) := hO 24 rfl
       have e26 : az.eval (.tmp 26) = .agg (arrOf 4 (ewF y2)) := hO 26 rfl
       exact po_k HWF hJ hE (mul_any y1 y2 _ Hy1.out Hy2.out) rfl rfl rfl rfl rfl rfl (ar2 e24 e26)
     · have e29 : az.eval (.tmp 29) = .agg (arrOf 4 (ewF z1)) := hO 29 rfl
       have e31 : az.eval (.tmp 31) = .agg (arrOf 4 (ewF z2)) := hO 31 rfl
       exact po_k HWF hJ hE (mul_any z1 z2 _ Hz1.out Hz2.out) rfl rfl rfl rfl rfl rfl (ar2 e29 e31)
     · exact po_alloc 5 _ 51 4 (u64f fun _ => 0) _ _ HWF hJ rfl (po_notyet hcl hmp (by rw [hm]; exact hp) (by decide)) hE rfl rfl rfl rfl rfl rfl zeroE
     · exact po_alloc 6 _ 51 4 (u64f fun _ => 0) _ _ HWF hJ rfl (po_notyet hcl hmp (by rw [hm]; exact hp) (by decide)) hE rfl rfl rfl rfl rfl rfl zeroE
     · exact po_alloc 7 _ 51 4 (u64f fun _ => 0) _ _ HWF hJ rfl (po_notyet hcl hmp (by rw [hm]; exact hp) (by decide)) hE rfl rfl rfl rfl rfl rfl zeroE
     · exact po_sr 3 hm hp hmp hdn hJ hE rfl rfl rfl rfl rfl rfl rfl rfl (po_e0 hS hdn 3 5 rfl rfl rfl) (po_e hS hdn hJ 0 22 rfl rfl rfl rfl) arrE (fun _ _ => rfl)
     · exact po_sr 4 hm hp hmp hdn hJ hE rfl rfl rfl rfl rfl rfl rfl rfl (po_e0 hS hdn 4 6 rfl rfl rfl) (po_e hS hdn hJ 1 27 rfl rfl rfl rfl) arrE (fun _ _ => rfl)
     · exact po_sr 5 hm hp hmp hdn hJ hE rfl rfl rfl rfl rfl rfl rfl rfl (po_e0 hS hdn 5 7 rfl rfl rfl) (po_e hS hdn hJ 2 32 rfl rfl rfl rfl) arrE (fun _ _ => rfl)
   · obtain ⟨b_t5, p_t5, lk_t5, r_t5, d_t5⟩ := hJ.row 3 (by decide) rfl (by decide)
     obtain ⟨b_t6, p_t6, lk_t6, r_t6, d_t6⟩ := hJ.row 4 (by decide) rfl (by decide)
     obtain ⟨b_t7, p_t7, lk_t7, r_t7, d_t7⟩ := hJ.row 5 (by decide) rfl (by decide)
     rw [putO_true _ _ _ _ _ rfl]
     simp only [putA, Nat.zero_add, Nat.reduceAdd]
     rw [hJ.tt 0 rfl, hJ.tt 1 rfl, hJ.tt 2 rfl, p_t5, p_t6, p_t7]
     simp only [Act.put, zA, zB, zC]
     refine po_end ?_
     have n_t2_t5 := zrn r_t2 lk_t5
     have n_t3_t5 := zrn r_t3 lk_t5
     have n_t4_t5 := zrn r_t4 lk_t5
     have l_t5 := zrl HGS Bw6 lk_t5
     have n_t2_t6 := zrn r_t2 lk_t6
     have n_t3_t6 := zrn r_t3 lk_t6
     have n_t4_t6 := zrn r_t4 lk_t6
     have l_t6 := zrl HGS Bw6 lk_t6
     have n_t2_t7 := zrn r_t2 lk_t7
     have n_t3_t7 := zrn r_t3 lk_t7
     have n_t4_t7 := zrn r_t4 lk_t7
     have l_t7 := zrl HGS Bw6 lk_t7
     have n_t5_t6 : b_t5 ≠ b_t6 := ptr_ne (by rw [← p_t5, ← p_t6]; exact d_t6 3 (by decide) (by decide) rfl)
     have n_t5_t7 : b_t5 ≠ b_t7 := ptr_ne (by rw [← p_t5, ← p_t7]; exact d_t7 3 (by decide) (by decide) rfl)
     have n_t6_t7 : b_t6 ≠ b_t7 := ptr_ne (by rw [← p_t6, ← p_t7]; exact d_t7 4 (by decide) (by decide) rfl)
     replace r_t2 := Keep.row hE r_t2 rfl
     replace r_t3 := Keep.row hE r_t3 rfl
     replace r_t4 := Keep.row hE r_t4 rfl
     have Bw7 := hE.below Bw6 (HGS.out _ Bw6) rfl
     clear Bw6 hE hJ p_t5 lk_t5 d_t5 p_t6 lk_t6 d_t6 p_t7 lk_t7 d_t7
     obtain ⟨m5, e_m5⟩ := nat_var (mulP x1 x2)
     rw [← e_m5] at r_t5
     have Hm5 : Hid (m5 < p25) := Lib.hid (by rw [e_m5]; exact (mulP_lt _ _))
     replace e_m5 := Lib.hid e_m5
     obtain ⟨m6, e_m6⟩ := nat_var (mulP y1 y2)
     rw [← e_m6] at r_t6
     have Hm6 : Hid (m6 < p25) := Lib.hid (by rw [e_m6]; exact (mulP_lt _ _))
     replace e_m6 := Lib.hid e_m6
     obtain ⟨m7, e_m7⟩ := nat_var (mulP z1 z2)
     rw [← e_m7] at r_t7
     have Hm7 : Hid (m7 < p25) := Lib.hid (by rw [e_m7]; exact (mulP_lt _ _))
     replace e_m7 := Lib.hid e_m7
     go_wp2
     have Bw8 := Bw7.drew
     replace r_t2 := World.rowIs.drew r_t2
     replace r_t3 := World.rowIs.drew r_t3
     replace r_t4 := World.rowIs.drew r_t4
     replace r_t5 := World.rowIs.drew r_t5
     replace r_t6 := World.rowIs.drew r_t6
     replace r_t7 := World.rowIs.drew r_t7
     clear Bw7
     refine zpo [] (.rd 0 (.rd 1 (.rd 2 (.rd 3 (.rd 5 (.rd 6 (.rd 7 (.rd 8 (.rd 11 (.rd 13 .done)))))))))) #[true, true, true, true, false, true, true, true, true, false, false, true, false, true, false, false, false] [4, 9, 10, 12, 14, 15, 16] [some 37, some 42, some 43, some 45, some 47, some 8, none] [[], [0], [0, 1], [2], [3], [], [0, 1, 2, 3, 4, 5]] [(0, []), (1, [0]), (2, []), (3, [2]), (4, [1, 3]), (5, []), (6, [5]), (7, []), (8, [7]), (9, [6, 8, 4]), (10, [4, 9, 9]), (11, []), (12, [10, 11, 10]), (13, []), (14, [12, 13, 12]), (15, []), (16, [15, 14, 14, 0, 1, 2, 3, 4, 5, 6, 7, 8, 9, 10, 11, 12, 13, 14, 15])] 10735 ?_
     refine lintz_pure 33 _ _ (.pointer (some ⟨b_t2, 0, none⟩)) rfl rfl rfl rfl rfl (fun w0 hb => by unfold mkOp; go_simp; all_goals (with_reducible rfl)) ?_
     simp only [Act.put, zA, zB, zC]
     refine zld (ewF x1) arrE r_t2 rfl (fun i hi => qF_x _ _ _ i hi) rfl rfl rfl rfl rfl (by omega) ?_
     simp only [Act.put, zA, zB, zC]
     refine lintz_pure 35 _ _ (.pointer (some ⟨b_t2, 4, none⟩)) rfl rfl rfl rfl rfl (fun w0 hb => by unfold mkOp; go_simp; all_goals (with_reducible rfl)) ?_
     simp only [Act.put, zA, zB, zC]
     refine zld (ewF y1) arrE r_t2 rfl (fun i hi => qF_y _ _ _ i hi) rfl rfl rfl rfl rfl (by omega) ?_
     simp only [Act.put, zA, zB, zC]
     refine lintz_pure 38 _ _ (.pointer (some ⟨b_t3, 0, none⟩)) rfl rfl rfl rfl rfl (fun w0 hb => by unfold mkOp; go_simp; all_goals (with_reducible rfl)) ?_
     simp only [Act.put, zA, zB, zC]
     refine zld (ewF x2) arrE r_t3 rfl (fun i hi => qF_x _ _ _ i hi) rfl rfl rfl rfl rfl (by omega) ?_
     simp only [Act.put, zA, zB, zC]
     refine lintz_pure 40 _ _ (.pointer (some ⟨b_t3, 4, none⟩)) rfl rfl rfl rfl rfl (fun w0 hb => by unfold mkOp; go_simp; all_goals (with_reducible rfl)) ?_
     simp only [Act.put, zA, zB, zC]
     refine zld (ewF y2) arrE r_t3 rfl (fun i hi => qF_y _ _ _ i hi) rfl rfl rfl rfl rfl (by omega) ?_
     refine zld (ewF m5) arrE r_t5 rfl (fun i hi => by rw [Nat.zero_add]) rfl rfl rfl rfl rfl (by omega) ?_
     refine zld (ewF m6) arrE r_t6 rfl (fun i hi => by rw [Nat.zero_add]) rfl rfl rfl rfl rfl (by omega) ?_
     simp only [Act.put, zA, zB, zC]
     refine lintz_leaf ?_
     refine po_start [.val (.agg (arrOf 4 (ewF (addP x1 y1)))), .val (.agg (arrOf 4 (ewF (addP x2 y2)))), .val (.agg (arrOf 4 (ewF (mulP (addP x1 y1) (addP x2 y2))))), .val (.agg (arrOf 4 (ewF (subP p25 (mulP (addP x1 y1) (addP x2 y2)) m5)))), .val (.agg (arrOf 4 (ewF (subP p25 (subP p25 (mulP (addP x1 y1) (addP x2 y2)) m5) m6)))), .row 51 4 (u64f fun _ => 0) 6 (ewF (subP p25 (subP p25 (mulP (addP x1 y1) (addP x2 y2)) m5) m6)), .nil] [] (fun i hi => absurd hi (Nat.not_lt_zero _)) (fun HWF m gz wa p az hp hm hmp hcl hdn hE hJ hS hO => ?_) (fun gz wa hE hJ => ?_)
     · rcases (show p = 0 ∨ p = 1 ∨ p = 2 ∨ p = 3 ∨ p = 4 ∨ p = 5 ∨ p = 6 by have h9 : p < 7 := hp; omega) with rfl | rfl | rfl | rfl | rfl | rfl | rfl
       · have e34 : az.eval (.tmp 34) = .agg (arrOf 4 (ewF x1)) := hO 34 rfl
         have e36 : az.eval (.tmp 36) = .agg (arrOf 4 (ewF y1)) := hO 36 rfl
         exact po_k HWF hJ hE (add_any x1 y1 _ Hx1.out Hy1.out) rfl rfl rfl rfl rfl rfl (ar2 e34 e36)
       · have e39 : az.eval (.tmp 39) = .agg (arrOf 4 (ewF x2)) := hO 39 rfl
         have e41 : az.eval (.tmp 41) = .agg (arrOf 4 (ewF y2)) := hO 41 rfl
         exact po_k HWF hJ hE (add_any x2 y2 _ Hx2.out Hy2.out) rfl rfl rfl rfl rfl rfl (ar2 e39 e41)
       · exact po_k HWF hJ hE (mul_any (addP x1 y1) (addP x2 y2) _ (addP_lt _ _) (addP_lt _ _)) rfl rfl rfl rfl rfl rfl (ar2 (po_e hS hdn hJ 0 37 rfl rfl rfl rfl) (po_e hS hdn hJ 1 42 rfl rfl rfl rfl))
       · have e44 : az.eval (.tmp 44) = .agg (arrOf 4 (ewF m5)) := hO 44 rfl
         exact po_k HWF hJ hE (sub_any (mulP (addP x1 y1) (addP x2 y2)) m5 _ (mulP_lt _ _) Hm5.out) rfl rfl rfl rfl rfl rfl (ar2 (po_e hS hdn hJ 2 43 rfl rfl rfl rfl) e44)
       · have e46 : az.eval (.tmp 46) = .agg (arrOf 4 (ewF m6)) := hO 46 rfl
         exact po_k HWF hJ hE (sub_any (subP p25 (mulP (addP x1 y1) (addP x2 y2)) m5) m6 _ (subP_lt _ _) Hm6.out) rfl rfl rfl rfl rfl rfl (ar2 (po_e hS hdn hJ 3 45 rfl rfl rfl rfl) e46)
       · exact po_alloc 8 _ 51 4 (u64f fun _ => 0) _ _ HWF hJ rfl (po_notyet hcl hmp (by rw [hm]; exact hp) (by decide)) hE rfl rfl rfl rfl rfl rfl zeroE
       · exact po_sr 5 hm hp hmp hdn hJ hE rfl rfl rfl rfl rfl rfl rfl rfl (po_e0 hS hdn 5 8 rfl rfl rfl) (po_e hS hdn hJ 4 47 rfl rfl rfl rfl) arrE (fun _ _ => rfl)
     · obtain ⟨b_t8, p_t8, lk_t8, r_t8, d_t8⟩ := hJ.row 5 (by decide) rfl (by decide)
       rw [putO_true _ _ _ _ _ rfl]
       simp only [putA, Nat.zero_add, Nat.reduceAdd]
       rw [hJ.tt 0 rfl, hJ.tt 1 rfl, hJ.tt 2 rfl, hJ.tt 3 rfl, hJ.tt 4 rfl, p_t8]
       simp only [Act.put, zA, zB, zC]
       refine po_end ?_
       have n_t2_t8 := zrn r_t2 lk_t8
       have n_t3_t8 := zrn r_t3 lk_t8
       have n_t4_t8 := zrn r_t4 lk_t8
       have n_t5_t8 := zrn r_t5 lk_t8
       have n_t6_t8 := zrn r_t6 lk_t8
       have n_t7_t8 := zrn r_t7 lk_t8
       have l_t8 := zrl HGS Bw8 lk_t8
       replace r_t2 := Keep.row hE r_t2 rfl
       replace r_t3 := Keep.row hE r_t3 rfl
       replace r_t4 := Keep.row hE r_t4 rfl
       replace r_t5 := Keep.row hE r_t5 rfl
       replace r_t6 := Keep.row hE r_t6 rfl
       replace r_t7 := Keep.row hE r_t7 rfl
       have Bw9 := hE.below Bw8 (HGS.out _ Bw8) rfl
       clear Bw8 hE hJ p_t8 lk_t8 d_t8
       obtain ⟨m8, e_m8⟩ := nat_var (subP p25 (subP p25 (mulP (addP x1 y1) (addP x2 y2)) m5) m6)
       rw [← e_m8] at r_t8
       have Hm8 : Hid (m8 < p25) := Lib.hid (by rw [e_m8]; exact (subP_lt _ _))
       replace e_m8 := Lib.hid e_m8
       go_wp2
       have Bw10 := Bw9.drew
       replace r_t2 := World.rowIs.drew r_t2
       replace r_t3 := World.rowIs.drew r_t3
       replace r_t4 := World.rowIs.drew r_t4
       replace r_t5 := World.rowIs.drew r_t5
       replace r_t6 := World.rowIs.drew r_t6
       replace r_t7 := World.rowIs.drew r_t7
       replace r_t8 := World.rowIs.drew r_t8
       clear Bw9
       refine zpo [] (.rd 0 .done) #[true, false, false, false, false] [1, 2, 3, 4] [some 49, some 50, some 9, none] [[], [0], [], [0, 1, 2]] [(0, []), (1, []), (2, [0, 1, 1]), (3, []), (4, [3, 2, 2, 0, 1, 2, 3])] 1 ?_
       refine zld (ewF m7) arrE r_t7 rfl (fun i hi => by rw [Nat.zero_add]) rfl rfl rfl rfl rfl (by omega) ?_
       simp only [Act.put, zA, zB, zC]
       refine lintz_leaf ?_
       refine po_start [.val (.agg (arrOf 4 (ewF 121666))), .val (.agg (arrOf 4 (ewF (mulP m7 121666)))), .row 51 4 (u64f fun _ => 0) 3 (ewF (mulP m7 121666)), .nil] [] (fun i hi => absurd hi (Nat.not_lt_zero _)) (fun HWF m gz wa p az hp hm hmp hcl hdn hE hJ hS hO => ?_) (fun gz wa hE hJ => ?_)
       · rcases (show p = 0 ∨ p = 1 ∨ p = 2 ∨ p = 3 by have h9 : p < 4 := hp; omega) with rfl | rfl | rfl | rfl
         · exact po_k HWF hJ hE (small_any 121666 _ (by decide)) rfl rfl rfl rfl rfl rfl (ar1 rfl)
         · have e48 : az.eval (.tmp 48) = .agg (arrOf 4 (ewF m7)) := hO 48 rfl
           exact po_k HWF hJ hE (mul_any m7 121666 _ Hm7.out (by decide +kernel)) rfl rfl rfl rfl rfl rfl (ar2 e48 (po_e hS hdn hJ 0 49 rfl rfl rfl rfl))
         · exact po_alloc 9 _ 51 4 (u64f fun _ => 0) _ _ HWF hJ rfl (po_notyet hcl hmp (by rw [hm]; exact hp) (by decide)) hE rfl rfl rfl rfl rfl rfl zeroE
         · exact po_sr 2 hm hp hmp hdn hJ hE rfl rfl rfl rfl rfl rfl rfl rfl (po_e0 hS hdn 2 9 rfl rfl rfl) (po_e hS hdn hJ 1 50 rfl rfl rfl rfl) arrE (fun _ _ => rfl)
       · obtain ⟨b_t9, p_t9, lk_t9, r_t9, d_t9⟩ := hJ.row 2 (by decide) rfl (by decide)
         rw [putO_true _ _ _ _ _ rfl]
         simp only [putA, Nat.zero_add, Nat.reduceAdd]
         rw [hJ.tt 0 rfl, hJ.tt 1 rfl, p_t9]
         simp only [Act.put, zA, zB, zC]
         refine po_end ?_
         have n_t2_t9 := zrn r_t2 lk_t9
         have n_t3_t9 := zrn r_t3 lk_t9
         have n_t4_t9 := zrn r_t4 lk_t9
         have n_t5_t9 := zrn r_t5 lk_t9
         have n_t6_t9 := zrn r_t6 lk_t9
         have n_t7_t9 := zrn r_t7 lk_t9
         have n_t8_t9 := zrn r_t8 lk_t9
         have l_t9 := zrl HGS Bw10 lk_t9
         replace r_t2 := Keep.row hE r_t2 rfl
         replace r_t3 := Keep.row hE r_t3 rfl
         replace r_t4 := Keep.row hE r_t4 rfl
         replace r_t5 := Keep.row hE r_t5 rfl
         replace r_t6 := Keep.row hE r_t6 rfl
         replace r_t7 := Keep.row hE r_t7 rfl
         replace r_t8 := Keep.row hE r_t8 rfl
         have Bw11 := hE.below Bw10 (HGS.out _ Bw10) rfl
         clear Bw10 hE hJ p_t9 lk_t9 d_t9
         obtain ⟨m9, e_m9⟩ := nat_var (mulP m7 121666)
         rw [← e_m9] at r_t9
         have Hm9 : Hid (m9 < p25) := Lib.hid (by rw [e_m9]; exact (mulP_lt _ _))
         replace e_m9 := Lib.hid e_m9
         go_wp2
         have Bw12 := Bw11.drew
         replace r_t2 := World.rowIs.drew r_t2
         replace r_t3 := World.rowIs.drew r_t3
         replace r_t4 := World.rowIs.drew r_t4
         replace r_t5 := World.rowIs.drew r_t5
         replace r_t6 := World.rowIs.drew r_t6
         replace r_t7 := World.rowIs.drew r_t7
         replace r_t8 := World.rowIs.drew r_t8
         replace r_t9 := World.rowIs.drew r_t9
         clear Bw11
         refine zpo [] (.rd 0 (.rd 1 (.rd 3 (.rd 4 .done)))) #[true, true, false, true, true, false, false, false, false, false, false, false] [2, 5, 6, 7, 8, 9, 10, 11] [some 53, some 56, some 57, some 58, some 10, some 11, none, none] [[], [0], [1], [1, 2], [], [], [0, 3, 4, 5], [0, 1, 2, 3, 4, 5, 6]] [(0, []), (1, []), (2, [0, 1]), (3, []), (4, []), (5, [3, 4, 2]), (6, [5]), (7, [5, 6, 6]), (8, []), (9, []), (10, [8, 2, 7, 0, 1, 2, 8, 9]), (11, [9, 7, 10, 0, 1, 2, 3, 4, 5, 6, 7, 8, 9, 10])] 27 ?_
         refine zld (ewF m9) arrE r_t9 rfl (fun i hi => by rw [Nat.zero_add]) rfl rfl rfl rfl rfl (by omega) ?_
         simp only [Act.put, zA, zB, zC]
         refine zld (ewF m7) arrE r_t7 rfl (fun i hi => by rw [Nat.zero_add]) rfl rfl rfl rfl rfl (by omega) ?_
         refine zld (ewF m5) arrE r_t5 rfl (fun i hi => by rw [Nat.zero_add]) rfl rfl rfl rfl rfl (by omega) ?_
         refine zld (ewF m6) arrE r_t6 rfl (fun i hi => by rw [Nat.zero_add]) rfl rfl rfl rfl rfl (by omega) ?_
         simp only [Act.put, zA, zB, zC]
         refine lintz_leaf ?_
         refine po_start [.val (.agg (arrOf 4 (ewF (mulP m9 m7)))), .val (.agg (arrOf 4 (ewF (mulP m5 m6)))), .val (.agg (arrOf 4 (ewF 121665))), .val (.agg (arrOf 4 (ewF (mulP (mulP m5 m6) 121665)))), .row 51 4 (u64f fun _ => 0) 6 (ewF (mulP m9 m7)), .row 51 4 (u64f fun _ => 0) 7 (ewF (mulP (mulP m5 m6) 121665)), .nil, .nil] [] (fun i hi => absurd hi (Nat.not_lt_zero _)) (fun HWF m gz wa p az hp hm hmp hcl hdn hE hJ hS hO => ?_) (fun gz wa hE hJ => ?_)
         · rcases (show p = 0 ∨ p = 1 ∨ p = 2 ∨ p = 3 ∨ p = 4 ∨ p = 5 ∨ p = 6 ∨ p = 7 by have h9 : p < 8 := hp; omega) with rfl | rfl | rfl | rfl | rfl | rfl | rfl | rfl
           · have e51 : az.eval (.tmp 51) = .agg (arrOf 4 (ewF m9)) := hO 51 rfl
             have e52 : az.eval (.tmp 52) = .agg (arrOf 4 (ewF m7)) := hO 52 rfl
             exact po_k HWF hJ hE (mul_any m9 m7 _ Hm9.out Hm7.out) rfl rfl rfl rfl rfl rfl (ar2 e51 e52)
           · have e54 : az.eval (.tmp 54) = .agg (arrOf 4 (ewF m5)) := hO 54 rfl
             have e55 : az.eval (.tmp 55) = .agg (arrOf 4 (ewF m6)) := hO 55 rfl
             exact po_k HWF hJ hE (mul_any m5 m6 _ Hm5.out Hm6.out) rfl rfl rfl rfl rfl rfl (ar2 e54 e55)
           · exact po_k HWF hJ hE (small_any 121665 _ (by decide)) rfl rfl rfl rfl rfl rfl (ar1 rfl)
           · exact po_k HWF hJ hE (mul_any (mulP m5 m6) 121665 _ (mulP_lt _ _) (by decide +kernel)) rfl rfl rfl rfl rfl rfl (ar2 (po_e hS hdn hJ 1 56 rfl rfl rfl rfl) (po_e hS hdn hJ 2 57 rfl rfl rfl rfl))
           · exact po_alloc 10 _ 51 4 (u64f fun _ => 0) _ _ HWF hJ rfl (po_notyet hcl hmp (by rw [hm]; exact hp) (by decide)) hE rfl rfl rfl rfl rfl rfl zeroE
           · exact po_alloc 11 _ 51 4 (u64f fun _ => 0) _ _ HWF hJ rfl (po_notyet hcl hmp (by rw [hm]; exact hp) (by decide)) hE rfl rfl rfl rfl rfl rfl zeroE
           · exact po_sr 4 hm hp hmp hdn hJ hE rfl rfl rfl rfl rfl rfl rfl rfl (po_e0 hS hdn 4 10 rfl rfl rfl) (po_e hS hdn hJ 0 53 rfl rfl rfl rfl) arrE (fun _ _ => rfl)
           · exact po_sr 5 hm hp hmp hdn hJ hE rfl rfl rfl rfl rfl rfl rfl rfl (po_e0 hS hdn 5 11 rfl rfl rfl) (po_e hS hdn hJ 3 58 rfl rfl rfl rfl) arrE (fun _ _ => rfl)
         · obtain ⟨b_t10, p_t10, lk_t10, r_t10, d_t10⟩ := hJ.row 4 (by decide) rfl (by decide)
           obtain ⟨b_t11, p_t11, lk_t11, r_t11, d_t11⟩ := hJ.row 5 (by decide) rfl (by decide)
           rw [putO_true _ _ _ _ _ rfl]
           simp only [putA, Nat.zero_add, Nat.reduceAdd]
           rw [hJ.tt 0 rfl, hJ.tt 1 rfl, hJ.tt 2 rfl, hJ.tt 3 rfl, p_t10, p_t11]
           simp only [Act.put, zA, zB, zC]
           refine po_end ?_
           have n_t2_t10 := zrn r_t2 lk_t10
           have n_t3_t10 := zrn r_t3 lk_t10
           have n_t4_t10 := zrn r_t4 lk_t10
           have n_t5_t10 := zrn r_t5 lk_t10
           have n_t6_t10 := zrn r_t6 lk_t10
           have n_t7_t10 := zrn r_t7 lk_t10
           have n_t8_t10 := zrn r_t8 lk_t10
           have n_t9_t10 := zrn r_t9 lk_t10
           have l_t10 := zrl HGS Bw12 lk_t10
           have n_t2_t11 := zrn r_t2 lk_t11
           have n_t3_t11 := zrn r_t3 lk_t11
           have n_t4_t11 := zrn r_t4 lk_t11
           have n_t5_t11 := zrn r_t5 lk_t11
           have n_t6_t11 := zrn r_t6 lk_t11
           have n_t7_t11 := zrn r_t7 lk_t11
           have n_t8_t11 := zrn r_t8 lk_t11
           have n_t9_t11 := zrn r_t9 lk_t11
           have l_t11 := zrl HGS Bw12 lk_t11
           have n_t10_t11 : b_t10 ≠ b_t11 := ptr_ne (by rw [← p_t10, ← p_t11]; exact d_t11 4 (by decide) (by decide) rfl)
           replace r_t2 := Keep.row hE r_t2 rfl
           replace r_t3 := Keep.row hE r_t3 rfl
           replace r_t4 := Keep.row hE r_t4 rfl
           replace r_t5 := Keep.row hE r_t5 rfl
           replace r_t6 := Keep.row hE r_t6 rfl
           replace r_t7 := Keep.row hE r_t7 rfl
           replace r_t8 := Keep.row hE r_t8 rfl
           replace r_t9 := Keep.row hE r_t9 rfl
           have Bw13 := hE.below Bw12 (HGS.out _ Bw12) rfl
           clear Bw12 hE hJ p_t10 lk_t10 d_t10 p_t11 lk_t11 d_t11
           obtain ⟨m10, e_m10⟩ := nat_var (mulP m9 m7)
           rw [← e_m10] at r_t10
           have Hm10 : Hid (m10 < p25) := Lib.hid (by rw [e_m10]; exact (mulP_lt _ _))
           replace e_m10 := Lib.hid e_m10
           obtain ⟨m11, e_m11⟩ := nat_var (mulP (mulP m5 m6) 121665)
           rw [← e_m11] at r_t11
           have Hm11 : Hid (m11 < p25) := Lib.hid (by rw [e_m11]; exact (mulP_lt _ _))
           replace e_m11 := Lib.hid e_m11
           go_wp2
           have Bw14 := Bw13.drew
           replace r_t2 := World.rowIs.drew r_t2
           replace r_t3 := World.rowIs.drew r_t3
           replace r_t4 := World.rowIs.drew r_t4
           replace r_t5 := World.rowIs.drew r_t5
           replace r_t6 := World.rowIs.drew r_t6
           replace r_t7 := World.rowIs.drew r_t7
           replace r_t8 := World.rowIs.drew r_t8
           replace r_t9 := World.rowIs.drew r_t9
           replace r_t10 := World.rowIs.drew r_t10
           replace r_t11 := World.rowIs.drew r_t11
           clear Bw13
           refine zpo [] (.rd 0 (.rd 1 (.rd 3 (.rd 4 .done)))) #[true, true, false, true, true, false, false, false, false, false] [2, 5, 6, 7, 8, 9] [some 61, some 64, some 12, some 13, none, none] [[], [0], [], [], [0, 1, 2, 3], [0, 1, 2, 3, 4]] [(0, []), (1, []), (2, [0, 1]), (3, []), (4, []), (5, [3, 4, 2]), (6, []), (7, []), (8, [6, 2, 5, 0, 1, 2, 6, 7]), (9, [7, 5, 8, 0, 1, 2, 3, 4, 5, 6, 7, 8])] 27 ?_
           refine zld (ewF m10) arrE r_t10 rfl (fun i hi => by rw [Nat.zero_add]) rfl rfl rfl rfl rfl (by omega) ?_
           simp only [Act.put, zA, zB, zC]
           refine zld (ewF m11) arrE r_t11 rfl (fun i hi => by rw [Nat.zero_add]) rfl rfl rfl rfl rfl (by omega) ?_
           refine zld (ewF m10) arrE r_t10 rfl (fun i hi => by rw [Nat.zero_add]) rfl rfl rfl rfl rfl (by omega) ?_
           refine zld (ewF m11) arrE r_t11 rfl (fun i hi => by rw [Nat.zero_add]) rfl rfl rfl rfl rfl (by omega) ?_
           simp only [Act.put, zA, zB, zC]
           refine lintz_leaf ?_
           refine po_start [.val (.agg (arrOf 4 (ewF (subP p25 m10 m11)))), .val (.agg (arrOf 4 (ewF (addP m10 m11)))), .row 51 4 (u64f fun _ => 0) 4 (ewF (subP p25 m10 m11)), .row 51 4 (u64f fun _ => 0) 5 (ewF (addP m10 m11)), .nil, .nil] [] (fun i hi => absurd hi (Nat.not_lt_zero _)) (fun HWF m gz wa p az hp hm hmp hcl hdn hE hJ hS hO => ?_) (fun gz wa hE hJ => ?_)
           · rcases (show p = 0 ∨ p = 1 ∨ p = 2 ∨ p = 3 ∨ p = 4 ∨ p = 5 by have h9 : p < 6 := hp; omega) with rfl | rfl | rfl | rfl | rfl | rfl
             · have e59 : az.eval (.tmp 59) = .agg (arrOf 4 (ewF m10)) := hO 59 rfl
               have e60 : az.eval (.tmp 60) = .agg (arrOf 4 (ewF m11)) := hO 60 rfl
               exact po_k HWF hJ hE (sub_any m10 m11 _ Hm10.out Hm11.out) rfl rfl rfl rfl rfl rfl (ar2 e59 e60)
             · have e62 : az.eval (.tmp 62) = .agg (arrOf 4 (ewF m10)) := hO 62 rfl
               have e63 : az.eval (.tmp 63) = .agg (arrOf 4 (ewF m11)) := hO 63 rfl
               exact po_k HWF hJ hE (add_any m10 m11 _ Hm10.out Hm11.out) rfl rfl rfl rfl rfl rfl (ar2 e62 e63)
             · exact po_alloc 12 _ 51 4 (u64f fun _ => 0) _ _ HWF hJ rfl (po_notyet hcl hmp (by rw [hm]; exact hp) (by decide)) hE rfl rfl rfl rfl rfl rfl zeroE
             · exact po_alloc 13 _ 51 4 (u64f fun _ => 0) _ _ HWF hJ rfl (po_notyet hcl hmp (by rw [hm]; exact hp) (by decide)) hE rfl rfl rfl rfl rfl rfl zeroE
             · exact po_sr 2 hm hp hmp hdn hJ hE rfl rfl rfl rfl rfl rfl rfl rfl (po_e0 hS hdn 2 12 rfl rfl rfl) (po_e hS hdn hJ 0 61 rfl rfl rfl rfl) arrE (fun _ _ => rfl)
             · exact po_sr 3 hm hp hmp hdn hJ hE rfl rfl rfl rfl rfl rfl rfl rfl (po_e0 hS hdn 3 13 rfl rfl rfl) (po_e hS hdn hJ 1 64 rfl rfl rfl rfl) arrE (fun _ _ => rfl)
           · obtain ⟨b_t12, p_t12, lk_t12, r_t12, d_t12⟩ := hJ.row 2 (by decide) rfl (by decide)
             obtain ⟨b_t13, p_t13, lk_t13, r_t13, d_t13⟩ := hJ.row 3 (by decide) rfl (by decide)
             rw [putO_true _ _ _ _ _ rfl]
             simp only [putA, Nat.zero_add, Nat.reduceAdd]
             rw [hJ.tt 0 rfl, hJ.tt 1 rfl, p_t12, p_t13]
             simp only [Act.put, zA, zB, zC]
             refine po_end ?_
             have n_t2_t12 := zrn r_t2 lk_t12
             have n_t3_t12 := zrn r_t3 lk_t12
             have n_t4_t12 := zrn r_t4 lk_t12
             have n_t5_t12 := zrn r_t5 lk_t12
             have n_t6_t12 := zrn r_t6 lk_t12
             have n_t7_t12 := zrn r_t7 lk_t12
             have n_t8_t12 := zrn r_t8 lk_t12
             have n_t9_t12 := zrn r_t9 lk_t12
             have n_t10_t12 := zrn r_t10 lk_t12
             have n_t11_t12 := zrn r_t11 lk_t12
             have l_t12 := zrl HGS Bw14 lk_t12
             have n_t2_t13 := zrn r_t2 lk_t13
             have n_t3_t13 := zrn r_t3 lk_t13
             have n_t4_t13 := zrn r_t4 lk_t13
             have n_t5_t13 := zrn r_t5 lk_t13
             have n_t6_t13 := zrn r_t6 lk_t13
             have n_t7_t13 := zrn r_t7 lk_t13
             have n_t8_t13 := zrn r_t8 lk_t13
             have n_t9_t13 := zrn r_t9 lk_t13
             have n_t10_t13 := zrn r_t10 lk_t13
             have n_t11_t13 := zrn r_t11 lk_t13
             have l_t13 := zrl HGS Bw14 lk_t13
             have n_t12_t13 : b_t12 ≠ b_t13 := ptr_ne (by rw [← p_t12, ← p_t13]; exact d_t13 2 (by decide) (by decide) rfl)
             replace r_t2 := Keep.row hE r_t2 rfl
             replace r_t3 := Keep.row hE r_t3 rfl
             replace r_t4 := Keep.row hE r_t4 rfl
             replace r_t5 := Keep.row hE r_t5 rfl
             replace r_t6 := Keep.row hE r_t6 rfl
             replace r_t7 := Keep.row hE r_t7 rfl
             replace r_t8 := Keep.row hE r_t8 rfl
             replace r_t9 := Keep.row hE r_t9 rfl
             replace r_t10 := Keep.row hE r_t10 rfl
             replace r_t11 := Keep.row hE r_t11 rfl
             have Bw15 := hE.below Bw14 (HGS.out _ Bw14) rfl
             clear Bw14 hE hJ p_t12 lk_t12 d_t12 p_t13 lk_t13 d_t13
             obtain ⟨m12, e_m12⟩ := nat_var (subP p25 m10 m11)
             rw [← e_m12] at r_t12
             have Hm12 : Hid (m12 < p25) := Lib.hid (by rw [e_m12]; exact (subP_lt _ _))
             replace e_m12 := Lib.hid e_m12
             obtain ⟨m13, e_m13⟩ := nat_var (addP m10 m11)
             rw [← e_m13] at r_t13
             have Hm13 : Hid (m13 < p25) := Lib.hid (by rw [e_m13]; exact (addP_lt _ _))
             replace e_m13 := Lib.hid e_m13
             go_wp2
             have Bw16 := Bw15.drew
             replace r_t2 := World.rowIs.drew r_t2
             replace r_t3 := World.rowIs.drew r_t3
             replace r_t4 := World.rowIs.drew r_t4
             replace r_t5 := World.rowIs.drew r_t5
             replace r_t6 := World.rowIs.drew r_t6
             replace r_t7 := World.rowIs.drew r_t7
             replace r_t8 := World.rowIs.drew r_t8
             replace r_t9 := World.rowIs.drew r_t9
             replace r_t10 := World.rowIs.drew r_t10
             replace r_t11 := World.rowIs.drew r_t11
             replace r_t12 := World.rowIs.drew r_t12
             replace r_t13 := World.rowIs.drew r_t13
             clear Bw15
             refine zpo [b_t4] (.rd 0 (.rd 1 (.rd 3 (.rd 5 (.rd 6 (.rd 7 (.rd 10 (.rd 12 (.rd 13 .done))))))))) #[true, true, false, true, false, true, true, true, false, false, true, false, true, true, false, false, false] [2, 4, 8, 9, 11, 14, 15, 16] [some 67, some 69, some 73, some 74, some 76, some 79, some 80, none] [[], [0], [1], [2], [3], [4], [1, 4, 5], [0, 1, 2, 3, 4, 5, 6]] [(0, []), (1, []), (2, [0, 1]), (3, []), (4, [2, 3, 2]), (5, []), (6, []), (7, []), (8, [6, 7, 4]), (9, [5, 8, 8]), (10, []), (11, [9, 10, 9]), (12, []), (13, []), (14, [12, 13, 11]), (15, [4, 11, 14]), (16, [15, 14, 0, 1, 2, 3, 4, 5, 6, 7, 8, 9, 10, 11, 12, 13, 14, 15])] 13547 ?_
             refine zld (ewF m9) arrE r_t9 (cont1 (Ne.symm n_t4_t9)) (fun i hi => by rw [Nat.zero_add]) rfl rfl rfl rfl rfl (by omega) ?_
             refine zld (ewF m8) arrE r_t8 (cont1 (Ne.symm n_t4_t8)) (fun i hi => by rw [Nat.zero_add]) rfl rfl rfl rfl rfl (by omega) ?_
             refine zld (ewF m13) arrE r_t13 (cont1 (Ne.symm n_t4_t13)) (fun i hi => by rw [Nat.zero_add]) rfl rfl rfl rfl rfl (by omega) ?_
             simp only [Act.put, zA, zB, zC]
             refine zld (ewF m9) arrE r_t9 (cont1 (Ne.symm n_t4_t9)) (fun i hi => by rw [Nat.zero_add]) rfl rfl rfl rfl rfl (by omega) ?_
             refine zld (ewF m6) arrE r_t6 (cont1 (Ne.symm n_t4_t6)) (fun i hi => by rw [Nat.zero_add]) rfl rfl rfl rfl rfl (by omega) ?_
             refine zld (ewF m5) arrE r_t5 (cont1 (Ne.symm n_t4_t5)) (fun i hi => by rw [Nat.zero_add]) rfl rfl rfl rfl rfl (by omega) ?_
             simp only [Act.put, zA, zB, zC]
             refine zld (ewF m12) arrE r_t12 (cont1 (Ne.symm n_t4_t12)) (fun i hi => by rw [Nat.zero_add]) rfl rfl rfl rfl rfl (by omega) ?_
             refine zld (ewF m12) arrE r_t12 (cont1 (Ne.symm n_t4_t12)) (fun i hi => by rw [Nat.zero_add]) rfl rfl rfl rfl rfl (by omega) ?_
             refine zld (ewF m13) arrE r_t13 (cont1 (Ne.symm n_t4_t13)) (fun i hi => by rw [Nat.zero_add]) rfl rfl rfl rfl rfl (by omega) ?_
             simp only [Act.put, zA, zB, zC]
             refine lintz_leaf ?_
             refine po_start [.val (.agg (arrOf 4 (ewF (mulP m9 m8)))), .val (.agg (arrOf 4 (ewF (mulP (mulP m9 m8) m13)))), .val (.agg (arrOf 4 (ewF (addP m6 m5)))), .val (.agg (arrOf 4 (ewF (mulP m9 (addP m6 m5))))), .val (.agg (arrOf 4 (ewF (mulP (mulP m9 (addP m6 m5)) m12)))), .val (.agg (arrOf 4 (ewF (mulP m12 m13)))), .val (.agg (arrOf 12 (qF (mulP (mulP m9 m8) m13) (mulP (mulP m9 (addP m6 m5)) m12) (mulP m12 m13)))), .nil] [⟨b_t4, 53, 12, (u64f fun _ => 0), 7, (qF (mulP (mulP m9 m8) m13) (mulP (mulP m9 (addP m6 m5)) m12) (mulP m12 m13))⟩] (fun i hi => by obtain rfl : i = 0 := by { have h9 : i < 1 := hi; omega }; exact r_t4) (fun HWF m gz wa p az hp hm hmp hcl hdn hE hJ hS hO => ?_) (fun gz wa hE hJ => ?_)
             · rcases (show p = 0 ∨ p = 1 ∨ p = 2 ∨ p = 3 ∨ p = 4 ∨ p = 5 ∨ p = 6 ∨ p = 7 by have h9 : p < 8 := hp; omega) with rfl | rfl | rfl | rfl | rfl | rfl | rfl | rfl
               · have e65 : az.eval (.tmp 65) = .agg (arrOf 4 (ewF m9)) := hO 65 rfl
                 have e66 : az.eval (.tmp 66) = .agg (arrOf 4 (ewF m8)) := hO 66 rfl
                 exact po_k HWF hJ hE (mul_any m9 m8 _ Hm9.out Hm8.out) rfl rfl rfl rfl rfl rfl (ar2 e65 e66)
               · have e68 : az.eval (.tmp 68) = .agg (arrOf 4 (ewF m13)) := hO 68 rfl
                 exact po_k HWF hJ hE (mul_any (mulP m9 m8) m13 _ (mulP_lt _ _) Hm13.out) rfl rfl rfl rfl rfl rfl (ar2 (po_e hS hdn hJ 0 67 rfl rfl rfl rfl) e68)
               · have e71 : az.eval (.tmp 71) = .agg (arrOf 4 (ewF m6)) := hO 71 rfl
                 have e72 : az.eval (.tmp 72) = .agg (arrOf 4 (ewF m5)) := hO 72 rfl
                 exact po_k HWF hJ hE (add_any m6 m5 _ Hm6.out Hm5.out) rfl rfl rfl rfl rfl rfl (ar2 e71 e72)
               · have e70 : az.eval (.tmp 70) = .agg (arrOf 4 (ewF m9)) := hO 70 rfl
                 exact po_k HWF hJ hE (mul_any m9 (addP m6 m5) _ Hm9.out (addP_lt _ _)) rfl rfl rfl rfl rfl rfl (ar2 e70 (po_e hS hdn hJ 2 73 rfl rfl rfl rfl))
               · have e75 : az.eval (.tmp 75) = .agg (arrOf 4 (ewF m12)) := hO 75 rfl
                 exact po_k HWF hJ hE (mul_any (mulP m9 (addP m6 m5)) m12 _ (mulP_lt _ _) Hm12.out) rfl rfl rfl rfl rfl rfl (ar2 (po_e hS hdn hJ 3 74 rfl rfl rfl rfl) e75)
               · have e77 : az.eval (.tmp 77) = .agg (arrOf 4 (ewF m12)) := hO 77 rfl
                 have e78 : az.eval (.tmp 78) = .agg (arrOf 4 (ewF m13)) := hO 78 rfl
                 exact po_k HWF hJ hE (mul_any m12 m13 _ Hm12.out Hm13.out) rfl rfl rfl rfl rfl rfl (ar2 e77 e78)
               · have e69 := po_e hS hdn hJ 1 69 rfl rfl rfl rfl
                 have e76 := po_e hS hdn hJ 4 76 rfl rfl rfl rfl
                 have e79 := po_e hS hdn hJ 5 79 rfl rfl rfl rfl
                 exact po_p _ HWF hJ hE rfl rfl rfl rfl rfl rfl rfl (exec_build_as _ _ _ (by simp only [List.map_toArray, List.map_cons, List.map_nil, e69, e76, e79]; exact builtQ _ _ _))
               · exact po_storeOld 0 (.tmp 4) (.tmp 80) 53 b_t4 12 _ (by rw [hm]; exact hp) hmp hJ rfl (show 0 < 1 by decide) rfl rfl rfl rfl rfl (World.rowIs.lt r_t4) (by simp) (by kernel_rfl) po_ne1 hE rfl rfl rfl rfl rfl (hO 4 rfl) (po_e hS hdn hJ 6 80 rfl rfl rfl rfl) arrQ (fun j _ => qF_one _ _ _ j)
             · rw [putO_true _ _ _ _ _ rfl]
               simp only [putA, Nat.zero_add, Nat.reduceAdd]
               rw [hJ.tt 0 rfl, hJ.tt 1 rfl, hJ.tt 2 rfl, hJ.tt 3 rfl, hJ.tt 4 rfl, hJ.tt 5 rfl, hJ.tt 6 rfl]
               simp only [Act.put, zA, zB, zC]
               refine po_end ?_
               replace r_t2 := Keep.row hE r_t2 (cont1 n_t2_t4)
               replace r_t3 := Keep.row hE r_t3 (cont1 n_t3_t4)
               replace r_t4 : wa.rowIs b_t4 53 12 (qF (mulP (mulP m9 m8) m13) (mulP (mulP m9 (addP m6 m5)) m12) (mulP m12 m13)) := hJ.old 0 (show 0 < 1 by decide) (show 7 < 8 by decide)
               replace r_t5 := Keep.row hE r_t5 (cont1 (Ne.symm n_t4_t5))
               replace r_t6 := Keep.row hE r_t6 (cont1 (Ne.symm n_t4_t6))
               replace r_t7 := Keep.row hE r_t7 (cont1 (Ne.symm n_t4_t7))
               replace r_t8 := Keep.row hE r_t8 (cont1 (Ne.symm n_t4_t8))
               replace r_t9 := Keep.row hE r_t9 (cont1 (Ne.symm n_t4_t9))
               replace r_t10 := Keep.row hE r_t10 (cont1 (Ne.symm n_t4_t10))
               replace r_t11 := Keep.row hE r_t11 (cont1 (Ne.symm n_t4_t11))
               replace r_t12 := Keep.row hE r_t12 (cont1 (Ne.symm n_t4_t12))
               replace r_t13 := Keep.row hE r_t13 (cont1 (Ne.symm n_t4_t13))
               have Bw17 := hE.below Bw16 (HGS.out _ Bw16) (keep_all1 l_t4)
               clear Bw16 hE hJ 
               go_wp2
               exact ret_cell_as _ rfl arrQ r_t4 rfl (by omega) (fun _ _ => rfl) rfl ⟨by unfold qAdd; rw [hA.out, hB.out, e_m13.out, e_m12.out, e_m11.out, e_m10.out, e_m9.out, e_m8.out, e_m7.out, e_m6.out, e_m5.out]; rfl, Bw17⟩
set_option maxHeartbeats 4000000 in
set_option maxRecDepth 10000 in
theorem qSame_any (X Y Z V Q T : Nat) (w : World) (HX : X < p25) (HY : Y < p25) (HZ : Z < p25) (HV : V < p25) (HQ : Q < p25) (HT : T < p25) : Calls Tryz.prog 42 #[.agg (arrOf 12 (qF X Y Z)), .agg (arrOf 12 (qF V Q T))] w fun e w' => e = .returned (.bool (qSame (X, Y, Z) (V, Q, T))) ∧ Below w.heap.size w w' := by
 have Bw0 := Below.refl w.heap.size w
 have HGS : Hid (∀ wq : World, Below w.heap.size w wq → w.heap.size ≤ wq.heap.size) := Lib.hid fun wq h => h.size
 replace HX := Lib.hid HX
 replace HY := Lib.hid HY
 replace HZ := Lib.hid HZ
 replace HV := Lib.hid HV
 replace HQ := Lib.hid HQ
 replace HT := Lib.hid HT
 rcases hA : fullT (X, Y, Z) with ⟨x1, y1, z1⟩
 obtain ⟨hx1, hy1, hz1⟩ := (full_vlt hA HX.out HY.out HZ.out)
 have Hx1 := Lib.hid hx1
 have Hy1 := Lib.hid hy1
 have Hz1 := Lib.hid hz1
 clear hx1 hy1 hz1
 rcases hB : fullT (V, Q, T) with ⟨x2, y2, z2⟩
 obtain ⟨hx2, hy2, hz2⟩ := (full_vlt hB HV.out HQ.out HT.out)
 have Hx2 := Lib.hid hx2
 have Hy2 := Lib.hid hy2
 have Hz2 := Lib.hid hz2
 clear hx2 hy2 hz2
 replace hA := Lib.hid hA
 replace hB := Lib.hid hB
 have HG : Hid (qSame (X, Y, Z) (V, Q, T) = (decide (mulP x1 z2 = mulP x2 z1) && decide (mulP y1 z2 = mulP y2 z1))) := Lib.hid (by unfold qSame pSame; rw [hA.out, hB.out])
 rw [HG.out]
 clear HG
 by_cases h1 : mulP x1 z2 = mulP x2 z1
 · have H1 := Lib.hid (decide_eq_true h1)
   by_cases h2 : mulP y1 z2 = mulP y2 z1
   · have H2 := Lib.hid (decide_eq_true h2)
     rw [H1.out, H2.out]
     clear h1 h2
     go_enter Tryz.func42, Tryz.ntmps42
     go_wp2_with (first
       | (have hgo := Bw0; clear hgo
          refine wpList_box_row rfl 53 (.tmp 0) rfl 12 (qF X Y Z) rfl ?_
          intro b_t2 w1 lk r_t2 kk
          have l_t2 := zrl HGS Bw0 lk
          have Bw1 := zbt HGS Bw0 kk
          clear Bw0 kk lk)
       | (have hgo := Bw1; clear hgo
          refine wpList_box_row rfl 53 (.tmp 1) rfl 12 (qF V Q T) rfl ?_
          intro b_t3 w2 lk r_t3 kk
          have n_t2_t3 := zrn r_t2 lk
          have l_t3 := zrl HGS Bw1 lk
          replace r_t2 := zrb r_t2 kk
          have Bw2 := zbt HGS Bw1 kk
          clear Bw1 kk lk))
     have Bw3 := Bw2.drew
     replace r_t2 := World.rowIs.drew r_t2
     replace r_t3 := World.rowIs.drew r_t3
     clear Bw2
     refine zpo [b_t2, b_t3] .done #[false, false, false, false, false, false] [0, 1, 2, 3, 4, 5] [some 5, some 6, some 7, some 8, none, none] [[], [0], [], [1, 2], [0, 1, 3], [0, 1, 2, 3, 4]] [(0, []), (1, [0]), (2, []), (3, [2, 1]), (4, [1, 3, 0, 1]), (5, [3, 4, 0, 1, 2, 3, 4])] 0 ?_
     refine lintz_leaf ?_
     refine po_start [.val (.agg (arrOf 12 (qF X Y Z))), .val (.agg (arrOf 12 (qF x1 y1 z1))), .val (.agg (arrOf 12 (qF V Q T))), .val (.agg (arrOf 12 (qF x2 y2 z2))), .nil, .nil] [⟨b_t2, 53, 12, (qF X Y Z), 4, (qF x1 y1 z1)⟩, ⟨b_t3, 53, 12, (qF V Q T), 5, (qF x2 y2 z2)⟩] (po_olds2 r_t2 r_t3) (fun HWF m gz wa p az hp hm hmp hcl hdn hE hJ hS hO => ?_) (fun gz wa hE hJ => ?_)
     · rcases (show p = 0 ∨ p = 1 ∨ p = 2 ∨ p = 3 ∨ p = 4 ∨ p = 5 by have h9 : p < 6 := hp; omega) with rfl | rfl | rfl | rfl | rfl | rfl
       · have ro : wa.rowIs b_t2 53 12 (qF X Y Z) := hJ.old0 0 (show 0 < 2 by decide) (po_notyet (s := 4) hcl hmp (by rw [hm]; exact hp) (by decide))
         exact po_p _ HWF hJ hE rfl rfl rfl rfl rfl rfl rfl (exec_load_as _ _ _ _ (qF X Y Z) (hO 2 rfl) arrQ ro (by omega) (fun i hi => by rw [Nat.zero_add]))
       · exact po_k HWF hJ hE (full_v X Y Z _ hA.out HX.out HY.out HZ.out) rfl rfl rfl rfl rfl rfl (ar1 (po_e hS hdn hJ 0 5 rfl rfl rfl rfl))
       · have ro : wa.rowIs b_t3 53 12 (qF V Q T) := hJ.old0 1 (show 1 < 2 by decide) (po_notyet (s := 5) hcl hmp (by rw [hm]; exact hp) (by decide))
         exact po_p _ HWF hJ hE rfl rfl rfl rfl rfl rfl rfl (exec_load_as _ _ _ _ (qF V Q T) (hO 3 rfl) arrQ ro (by omega) (fun i hi => by rw [Nat.zero_add]))
       · exact po_k HWF hJ hE (full_v V Q T _ hB.out HV.out HQ.out HT.out) rfl rfl rfl rfl rfl rfl (ar1 (po_e hS hdn hJ 2 7 rfl rfl rfl rfl))
       · exact po_storeOld 0 (.tmp 2) (.tmp 6) 53 b_t2 12 _ (by rw [hm]; exact hp) hmp hJ rfl (show 0 < 2 by decide) rfl rfl rfl rfl rfl (World.rowIs.lt r_t2) (by simp) (by kernel_rfl) (po_ne2a (show 5 ≠ 4 by decide) (Ne.symm n_t2_t3)) hE rfl rfl rfl rfl rfl (hO 2 rfl) (po_e hS hdn hJ 1 6 rfl rfl rfl rfl) arrQ (fun j _ => qF_one _ _ _ j)
       · exact po_storeOld 1 (.tmp 3) (.tmp 8) 53 b_t3 12 _ (by rw [hm]; exact hp) hmp hJ rfl (show 1 < 2 by decide) rfl rfl rfl rfl rfl (World.rowIs.lt r_t3) (by simp) (by kernel_rfl) (po_ne2b (show 4 ≠ 5 by decide) n_t2_t3) hE rfl rfl rfl rfl rfl (hO 3 rfl) (po_e hS hdn hJ 3 8 rfl rfl rfl rfl) arrQ (fun j _ => qF_one _ _ _ j)
     · rw [putO_true _ _ _ _ _ rfl]
       simp only [putA, Nat.zero_add, Nat.reduceAdd]
       rw [hJ.tt 0 rfl, hJ.tt 1 rfl, hJ.tt 2 rfl, hJ.tt 3 rfl]
       simp only [Act.put, zA, zB, zC]
       refine po_end ?_
       replace r_t2 : wa.rowIs b_t2 53 12 (qF x1 y1 z1) := hJ.old 0 (show 0 < 2 by decide) (show 4 < 6 by decide)
       replace r_t3 : wa.rowIs b_t3 53 12 (qF x2 y2 z2) := hJ.old 1 (show 1 < 2 by decide) (show 5 < 6 by decide)
       have Bw4 := hE.below Bw3 (HGS.out _ Bw3) (keep_all2 l_t2 l_t3)
       clear Bw3 hE hJ 
       go_wp2
       have Bw5 := Bw4.drew
       replace r_t2 := World.rowIs.drew r_t2
       replace r_t3 := World.rowIs.drew r_t3
       clear Bw4
       refine zpo [] (.rd 0 (.rd 1 (.rd 2 (.rd 3 (.rd 5 (.rd 6 (.rd 7 (.rd 8 .done)))))))) #[true, true, true, true, false, true, true, true, true, false, false, false, false, false, false, false, false, false, false, false, false, false, false, false, false] [4, 9, 10, 11, 12, 13, 14, 15, 16, 17, 18, 19, 20, 21, 22, 23, 24] [some 13, some 18, some 19, some 20, some 21, some 22, some 23, some 24, some 25, some 26, some 27, some 28, some 29, some 30, some 31, some 32, some 4] [[], [0], [0, 1], [2], [3], [3, 4], [3], [3, 6], [3, 5, 7], [3], [3, 9], [3], [3, 11], [3, 8, 10, 12], [3, 8, 13], [3, 14], [0, 1, 2, 3, 4, 5, 6, 7, 8, 9, 10, 11, 12, 13, 14, 15]] [(0, []), (1, [0]), (2, []), (3, [2]), (4, [1, 3]), (5, []), (6, [5]), (7, []), (8, [7]), (9, [6, 8, 4]), (10, [4, 9, 9]), (11, [10, 10]), (12, [11]), (13, [12, 11]), (14, [11]), (15, [14, 11]), (16, [13, 15, 11, 11]), (17, [11]), (18, [17, 11]), (19, [11]), (20, [19, 11]), (21, [18, 20, 16, 11]), (22, [16, 21, 21, 11]), (23, [11, 22]), (24, [23, 22, 0, 1, 2, 3, 4, 5, 6, 7, 8, 9, 10, 11, 12, 13, 14, 15, 16, 17, 18, 19, 20, 21, 22, 23])] 495 ?_
       refine lintz_pure 9 _ _ (.pointer (some ⟨b_t2, 0, none⟩)) rfl rfl rfl rfl rfl (fun w0 hb => by unfold mkOp; go_simp; all_goals (with_reducible rfl)) ?_
       simp only [Act.put, zA, zB, zC]
       refine zld (ewF x1) arrE r_t2 rfl (fun i hi => qF_x _ _ _ i hi) rfl rfl rfl rfl rfl (by omega) ?_
       simp only [Act.put, zA, zB, zC]
       refine lintz_pure 11 _ _ (.pointer (some ⟨b_t3, 8, none⟩)) rfl rfl rfl rfl rfl (fun w0 hb => by unfold mkOp; go_simp; all_goals (with_reducible rfl)) ?_
       simp only [Act.put, zA, zB, zC]
       refine zld (ewF z2) arrE r_t3 rfl (fun i hi => qF_z _ _ _ i hi) rfl rfl rfl rfl rfl (by omega) ?_
       simp only [Act.put, zA, zB, zC]
       refine lintz_pure 14 _ _ (.pointer (some ⟨b_t3, 0, none⟩)) rfl rfl rfl rfl rfl (fun w0 hb => by unfold mkOp; go_simp; all_goals (with_reducible rfl)) ?_
       simp only [Act.put, zA, zB, zC]
       refine zld (ewF x2) arrE r_t3 rfl (fun i hi => qF_x _ _ _ i hi) rfl rfl rfl rfl rfl (by omega) ?_
       simp only [Act.put, zA, zB, zC]
       refine lintz_pure 16 _ _ (.pointer (some ⟨b_t2, 8, none⟩)) rfl rfl rfl rfl rfl (fun w0 hb => by unfold mkOp; go_simp; all_goals (with_reducible rfl)) ?_
       simp only [Act.put, zA, zB, zC]
       refine zld (ewF z1) arrE r_t2 rfl (fun i hi => qF_z _ _ _ i hi) rfl rfl rfl rfl rfl (by omega) ?_
       simp only [Act.put, zA, zB, zC]
       refine lintz_leaf ?_
       refine po_start [.val (.agg (arrOf 4 (ewF (mulP x1 z2)))), .val (.agg (arrOf 4 (ewF (mulP x2 z1)))), .val (.bool true), .val (.bool true), .val (.pointer (some ⟨b_t2, 4, none⟩)), .val (.agg (arrOf 4 (ewF y1))), .val (.pointer (some ⟨b_t3, 8, none⟩)), .val (.agg (arrOf 4 (ewF z2))), .val (.agg (arrOf 4 (ewF (mulP y1 z2)))), .val (.pointer (some ⟨b_t3, 4, none⟩)), .val (.agg (arrOf 4 (ewF y2))), .val (.pointer (some ⟨b_t2, 8, none⟩)), .val (.agg (arrOf 4 (ewF z1))), .val (.agg (arrOf 4 (ewF (mulP y2 z1)))), .val (.bool true), .val (.bool true), .val (.bool true)] [] (fun i hi => absurd hi (Nat.not_lt_zero _)) (fun HWF m gz wa p az hp hm hmp hcl hdn hE hJ hS hO => ?_) (fun gz wa hE hJ => ?_)
       · rcases (show p = 0 ∨ p = 1 ∨ p = 2 ∨ p = 3 ∨ p = 4 ∨ p = 5 ∨ p = 6 ∨ p = 7 ∨ p = 8 ∨ p = 9 ∨ p = 10 ∨ p = 11 ∨ p = 12 ∨ p = 13 ∨ p = 14 ∨ p = 15 ∨ p = 16 by have h9 : p < 17 := hp; omega) with rfl | rfl | rfl | rfl | rfl | rfl | rfl | rfl | rfl | rfl | rfl | rfl | rfl | rfl | rfl | rfl | rfl
         · have e10 : az.eval (.tmp 10) = .agg (arrOf 4 (ewF x1)) := hO 10 rfl
           have e12 : az.eval (.tmp 12) = .agg (arrOf 4 (ewF z2)) := hO 12 rfl
           exact po_k HWF hJ hE (mul_any x1 z2 _ Hx1.out Hz2.out) rfl rfl rfl rfl rfl rfl (ar2 e10 e12)
         · have e15 : az.eval (.tmp 15) = .agg (arrOf 4 (ewF x2)) := hO 15 rfl
           have e17 : az.eval (.tmp 17) = .agg (arrOf 4 (ewF z1)) := hO 17 rfl
           exact po_k HWF hJ hE (mul_any x2 z1 _ Hx2.out Hz1.out) rfl rfl rfl rfl rfl rfl (ar2 e15 e17)
         · exact po_k HWF hJ hE (sameB_any (mulP x1 z2) (mulP x2 z1) true _ (mulP_lt _ _) (mulP_lt _ _) H1.out) rfl rfl rfl rfl rfl rfl (ar2 (po_e hS hdn hJ 0 13 rfl rfl rfl rfl) (po_e hS hdn hJ 1 18 rfl rfl rfl rfl))
         · exact po_p _ HWF hJ hE rfl rfl rfl rfl rfl rfl rfl (x_move (po_e hS hdn hJ 2 19 rfl rfl rfl rfl))
         · have e20 := po_e hS hdn hJ 3 20 rfl rfl rfl rfl
           have e2 : az.eval (.tmp 2) = .pointer (some ⟨b_t2, 0, none⟩) := hO 2 rfl
           exact po_p (Op.fieldAddr 53 (Operand.tmp 2) 1) HWF hJ hE rfl rfl rfl rfl rfl rfl (wanted_of rfl rfl e20) (by first | (simp only [execOp, mkOp, eval_const, e2]; done) | (simp only [execOp, mkOp, eval_const, e2]; go_simp))
         · exact po_p _ HWF hJ hE rfl rfl rfl rfl rfl rfl (wanted_of rfl rfl (po_e hS hdn hJ 3 20 rfl rfl rfl rfl)) (exec_load_as _ _ _ _ (ewF y1) (po_e hS hdn hJ 4 21 rfl rfl rfl rfl) arrE (Keep.row hE r_t2 rfl) (by omega) (fun i hi => qF_y _ _ _ i hi))
         · have e20 := po_e hS hdn hJ 3 20 rfl rfl rfl rfl
           have e3 : az.eval (.tmp 3) = .pointer (some ⟨b_t3, 0, none⟩) := hO 3 rfl
           exact po_p (Op.fieldAddr 53 (Operand.tmp 3) 2) HWF hJ hE rfl rfl rfl rfl rfl rfl (wanted_of rfl rfl e20) (by first | (simp only [execOp, mkOp, eval_const, e3]; done) | (simp only [execOp, mkOp, eval_const, e3]; go_simp))
         · exact po_p _ HWF hJ hE rfl rfl rfl rfl rfl rfl (wanted_of rfl rfl (po_e hS hdn hJ 3 20 rfl rfl rfl rfl)) (exec_load_as _ _ _ _ (ewF z2) (po_e hS hdn hJ 6 23 rfl rfl rfl rfl) arrE (Keep.row hE r_t3 rfl) (by omega) (fun i hi => qF_z _ _ _ i hi))
         · exact po_k HWF hJ hE (mul_any y1 z2 _ Hy1.out Hz2.out) rfl rfl rfl rfl rfl (wanted_of rfl rfl (po_e hS hdn hJ 3 20 rfl rfl rfl rfl)) (ar2 (po_e hS hdn hJ 5 22 rfl rfl rfl rfl) (po_e hS hdn hJ 7 24 rfl rfl rfl rfl))
         · have e20 := po_e hS hdn hJ 3 20 rfl rfl rfl rfl
           have e3 : az.eval (.tmp 3) = .pointer (some ⟨b_t3, 0, none⟩) := hO 3 rfl
           exact po_p (Op.fieldAddr 53 (Operand.tmp 3) 1) HWF hJ hE rfl rfl rfl rfl rfl rfl (wanted_of rfl rfl e20) (by first | (simp only [execOp, mkOp, eval_const, e3]; done) | (simp only [execOp, mkOp, eval_const, e3]; go_simp))
         · exact po_p _ HWF hJ hE rfl rfl rfl rfl rfl rfl (wanted_of rfl rfl (po_e hS hdn hJ 3 20 rfl rfl rfl rfl)) (exec_load_as _ _ _ _ (ewF y2) (po_e hS hdn hJ 9 26 rfl rfl rfl rfl) arrE (Keep.row hE r_t3 rfl) (by omega) (fun i hi => qF_y _ _ _ i hi))
         · have e20 := po_e hS hdn hJ 3 20 rfl rfl rfl rfl
           have e2 : az.eval (.tmp 2) = .pointer (some ⟨b_t2, 0, none⟩) := hO 2 rfl
           exact po_p (Op.fieldAddr 53 (Operand.tmp 2) 2) HWF hJ hE rfl rfl rfl rfl rfl rfl (wanted_of rfl rfl e20) (by first | (simp only [execOp, mkOp, eval_const, e2]; done) | (simp only [execOp, mkOp, eval_const, e2]; go_simp))
         · exact po_p _ HWF hJ hE rfl rfl rfl rfl rfl rfl (wanted_of rfl rfl (po_e hS hdn hJ 3 20 rfl rfl rfl rfl)) (exec_load_as _ _ _ _ (ewF z1) (po_e hS hdn hJ 11 28 rfl rfl rfl rfl) arrE (Keep.row hE r_t2 rfl) (by omega) (fun i hi => qF_z _ _ _ i hi))
         · exact po_k HWF hJ hE (mul_any y2 z1 _ Hy2.out Hz1.out) rfl rfl rfl rfl rfl (wanted_of rfl rfl (po_e hS hdn hJ 3 20 rfl rfl rfl rfl)) (ar2 (po_e hS hdn hJ 10 27 rfl rfl rfl rfl) (po_e hS hdn hJ 12 29 rfl rfl rfl rfl))
         · exact po_k HWF hJ hE (sameB_any (mulP y1 z2) (mulP y2 z1) true _ (mulP_lt _ _) (mulP_lt _ _) H2.out) rfl rfl rfl rfl rfl (wanted_of rfl rfl (po_e hS hdn hJ 3 20 rfl rfl rfl rfl)) (ar2 (po_e hS hdn hJ 8 25 rfl rfl rfl rfl) (po_e hS hdn hJ 13 30 rfl rfl rfl rfl))
         · have e20 := po_e hS hdn hJ 3 20 rfl rfl rfl rfl
           have e31 := po_e hS hdn hJ 14 31 rfl rfl rfl rfl
           exact po_p (Op.pick (Operand.tmp 20) (Operand.tmp 31) (Operand.const (Value.bool false))) HWF hJ hE rfl rfl rfl rfl rfl rfl rfl (by first | (simp only [execOp, mkOp, eval_const, e20, e31]; done) | (simp only [execOp, mkOp, eval_const, e20, e31]; go_simp))
         · exact po_p _ HWF hJ hE rfl rfl rfl rfl rfl rfl rfl (x_assign (po_e hS hdn hJ 15 32 rfl rfl rfl rfl))
       · rw [putO_true _ _ _ _ _ rfl]
         simp only [putA, Nat.zero_add, Nat.reduceAdd]
         rw [hJ.tt 0 rfl, hJ.tt 1 rfl, hJ.tt 2 rfl, hJ.tt 3 rfl, hJ.tt 4 rfl, hJ.tt 5 rfl, hJ.tt 6 rfl, hJ.tt 7 rfl, hJ.tt 8 rfl, hJ.tt 9 rfl, hJ.tt 10 rfl, hJ.tt 11 rfl, hJ.tt 12 rfl, hJ.tt 13 rfl, hJ.tt 14 rfl, hJ.tt 15 rfl, hJ.tt 16 rfl]
         simp only [Act.put, zA, zB, zC]
         refine po_end ?_
         replace r_t2 := Keep.row hE r_t2 rfl
         replace r_t3 := Keep.row hE r_t3 rfl
         have Bw6 := hE.below Bw5 (HGS.out _ Bw5) rfl
         clear Bw5 hE hJ 
         go_wp2
         go_ret
         exact ⟨rfl, Bw6⟩
   · have H2 := Lib.hid (decide_eq_false h2)
     rw [H1.out, H2.out]
     clear h1 h2
     go_enter Tryz.func42, Tryz.ntmps42
     go_wp2_with (first
       | (have hgo := Bw0; clear hgo
          refine wpList_box_row rfl 53 (.tmp 0) rfl 12 (qF X Y Z) rfl ?_
          intro b_t2 w1 lk r_t2 kk
          have l_t2 := zrl HGS Bw0 lk
          have Bw1 := zbt HGS Bw0 kk
          clear Bw0 kk lk)
       | (have hgo := Bw1; clear hgo
          refine wpList_box_row rfl 53 (.tmp 1) rfl 12 (qF V Q T) rfl ?_
          intro b_t3 w2 lk r_t3 kk
          have n_t2_t3 := zrn r_t2 lk
          have l_t3 := zrl HGS Bw1 lk
          replace r_t2 := zrb r_t2 kk
          have Bw2 := zbt HGS Bw1 kk
          clear Bw1 kk lk))
     have Bw3 := Bw2.drew
     replace r_t2 := World.rowIs.drew r_t2
     replace r_t3 := World.rowIs.drew r_t3
     clear Bw2
     refine zpo [b_t2, b_t3] .done #[false, false, false, false, false, false] [0, 1, 2, 3, 4, 5] [some 5, some 6, some 7, some 8, none, none] [[], [0], [], [1, 2], [0, 1, 3], [0, 1, 2, 3, 4]] [(0, []), (1, [0]), (2, []), (3, [2, 1]), (4, [1, 3, 0, 1]), (5, [3, 4, 0, 1, 2, 3, 4])] 0 ?_
     refine lintz_leaf ?_
     refine po_start [.val (.agg (arrOf 12 (qF X Y Z))), .val (.agg (arrOf 12 (qF x1 y1 z1))), .val (.agg (arrOf 12 (qF V Q T))), .val (.agg (arrOf 12 (qF x2 y2 z2))), .nil, .nil] [⟨b_t2, 53, 12, (qF X Y Z), 4, (qF x1 y1 z1)⟩, ⟨b_t3, 53, 12, (qF V Q T), 5, (qF x2 y2 z2)⟩] (po_olds2 r_t2 r_t3) (fun HWF m gz wa p az hp hm hmp hcl hdn hE hJ hS hO => ?_) (fun gz wa hE hJ => ?_)
     · rcases (show p = 0 ∨ p = 1 ∨ p = 2 ∨ p = 3 ∨ p = 4 ∨ p = 5 by have h9 : p < 6 := hp; omega) with rfl | rfl | rfl | rfl | rfl | rfl
       · have ro : wa.rowIs b_t2 53 12 (qF X Y Z) := hJ.old0 0 (show 0 < 2 by decide) (po_notyet (s := 4) hcl hmp (by rw [hm]; exact hp) (by decide))
         exact po_p _ HWF hJ hE rfl rfl rfl rfl rfl rfl rfl (exec_load_as _ _ _ _ (qF X Y Z) (hO 2 rfl) arrQ ro (by omega) (fun i hi => by rw [Nat.zero_add]))
       · exact po_k HWF hJ hE (full_v X Y Z _ hA.out HX.out HY.out HZ.out) rfl rfl rfl rfl rfl rfl (ar1 (po_e hS hdn hJ 0 5 rfl rfl rfl rfl))
       · have ro : wa.rowIs b_t3 53 12 (qF V Q T) := hJ.old0 1 (show 1 < 2 by decide) (po_notyet (s := 5) hcl hmp (by rw [hm]; exact hp) (by decide))
         exact po_p _ HWF hJ hE rfl rfl rfl rfl rfl rfl rfl (exec_load_as _ _ _ _ (qF V Q T) (hO 3 rfl) arrQ ro (by omega) (fun i hi => by rw [Nat.zero_add]))
       · exact po_k HWF hJ hE (full_v V Q T _ hB.out HV.out HQ.out HT.out) rfl rfl rfl rfl rfl rfl (ar1 (po_e hS hdn hJ 2 7 rfl rfl rfl rfl))
       · exact po_storeOld 0 (.tmp 2) (.tmp 6) 53 b_t2 12 _ (by rw [hm]; exact hp) hmp hJ rfl (show 0 < 2 by decide) rfl rfl rfl rfl rfl (World.rowIs.lt r_t2) (by simp) (by kernel_rfl) (po_ne2a (show 5 ≠ 4 by decide) (Ne.symm n_t2_t3)) hE rfl rfl rfl rfl rfl (hO 2 rfl) (po_e hS hdn hJ 1 6 rfl rfl rfl rfl) arrQ (fun j _ => qF_one _ _ _ j)
       · exact po_storeOld 1 (.tmp 3) (.tmp 8) 53 b_t3 12 _ (by rw [hm]; exact hp) hmp hJ rfl (show 1 < 2 by decide) rfl rfl rfl rfl rfl (World.rowIs.lt r_t3) (by simp) (by kernel_rfl) (po_ne2b (show 4 ≠ 5 by decide) n_t2_t3) hE rfl rfl rfl rfl rfl (hO 3 rfl) (po_e hS hdn hJ 3 8 rfl rfl rfl rfl) arrQ (fun j _ => qF_one _ _ _ j)
     · rw [putO_true _ _ _ _ _ rfl]
       simp only [putA, Nat.zero_add, Nat.reduceAdd]
       rw [hJ.tt 0 rfl, hJ.tt 1 rfl, hJ.tt 2 rfl, hJ.tt 3 rfl]
       simp only [Act.put, zA, zB, zC]
       refine po_end ?_
       replace r_t2 : wa.rowIs b_t2 53 12 (qF x1 y1 z1) := hJ.old 0 (show 0 < 2 by decide) (show 4 < 6 by decide)
       replace r_t3 : wa.rowIs b_t3 53 12 (qF x2 y2 z2) := hJ.old 1 (show 1 < 2 by decide) (show 5 < 6 by decide)
       have Bw4 := hE.below Bw3 (HGS.out _ Bw3) (keep_all2 l_t2 l_t3)
       clear Bw3 hE hJ 
       go_wp2
       have Bw5 := Bw4.drew
       replace r_t2 := World.rowIs.drew r_t2
       replace r_t3 := World.rowIs.drew r_t3
       clear Bw4
       refine zpo [] (.rd 0 (.rd 1 (.rd 2 (.rd 3 (.rd 5 (.rd 6 (.rd 7 (.rd 8 .done)))))))) #[true, true, true, true, false, true, true, true, true, false, false, false, false, false, false, false, false, false, false, false, false, false, false, false, false] [4, 9, 10, 11, 12, 13, 14, 15, 16, 17, 18, 19, 20, 21, 22, 23, 24] [some 13, some 18, some 19, some 20, some 21, some 22, some 23, some 24, some 25, some 26, some 27, some 28, some 29, some 30, some 31, some 32, some 4] [[], [0], [0, 1], [2], [3], [3, 4], [3], [3, 6], [3, 5, 7], [3], [3, 9], [3], [3, 11], [3, 8, 10, 12], [3, 8, 13], [3, 14], [0, 1, 2, 3, 4, 5, 6, 7, 8, 9, 10, 11, 12, 13, 14, 15]] [(0, []), (1, [0]), (2, []), (3, [2]), (4, [1, 3]), (5, []), (6, [5]), (7, []), (8, [7]), (9, [6, 8, 4]), (10, [4, 9, 9]), (11, [10, 10]), (12, [11]), (13, [12, 11]), (14, [11]), (15, [14, 11]), (16, [13, 15, 11, 11]), (17, [11]), (18, [17, 11]), (19, [11]), (20, [19, 11]), (21, [18, 20, 16, 11]), (22, [16, 21, 21, 11]), (23, [11, 22]), (24, [23, 22, 0, 1, 2, 3, 4, 5, 6, 7, 8, 9, 10, 11, 12, 13, 14, 15, 16, 17, 18, 19, 20, 21, 22, 23])] 495 ?_
       refine lintz_pure 9 _ _ (.pointer (some ⟨b_t2, 0, none⟩)) rfl rfl rfl rfl rfl (fun w0 hb => by unfold mkOp; go_simp; all_goals (with_reducible rfl)) ?_
       simp only [Act.put, zA, zB, zC]
       refine zld (ewF x1) arrE r_t2 rfl (fun i hi => qF_x _ _ _ i hi) rfl rfl rfl rfl rfl (by omega) ?_
       simp only [Act.put, zA, zB, zC]
       refine lintz_pure 11 _ _ (.pointer (some ⟨b_t3, 8, none⟩)) rfl rfl rfl rfl rfl (fun w0 hb => by unfold mkOp; go_simp; all_goals (with_reducible rfl)) ?_
       simp only [Act.put, zA, zB, zC]
       refine zld (ewF z2) arrE r_t3 rfl (fun i hi => qF_z _ _ _ i hi) rfl rfl rfl rfl rfl (by omega) ?_
       simp only [Act.put, zA, zB, zC]
       refine lintz_pure 14 _ _ (.pointer (some ⟨b_t3, 0, none⟩)) rfl rfl rfl rfl rfl (fun w0 hb => by unfold mkOp; go_simp; all_goals (with_reducible rfl)) ?_
       simp only [Act.put, zA, zB, zC]
       refine zld (ewF x2) arrE r_t3 rfl (fun i hi => qF_x _ _ _ i hi) rfl rfl rfl rfl rfl (by omega) ?_
       simp only [Act.put, zA, zB, zC]
       refine lintz_pure 16 _ _ (.pointer (some ⟨b_t2, 8, none⟩)) rfl rfl rfl rfl rfl (fun w0 hb => by unfold mkOp; go_simp; all_goals (with_reducible rfl)) ?_
       simp only [Act.put, zA, zB, zC]
       refine zld (ewF z1) arrE r_t2 rfl (fun i hi => qF_z _ _ _ i hi) rfl rfl rfl rfl rfl (by omega) ?_
       simp only [Act.put, zA, zB, zC]
       refine lintz_leaf ?_
       refine po_start [.val (.agg (arrOf 4 (ewF (mulP x1 z2)))), .val (.agg (arrOf 4 (ewF (mulP x2 z1)))), .val (.bool true), .val (.bool true), .val (.pointer (some ⟨b_t2, 4, none⟩)), .val (.agg (arrOf 4 (ewF y1))), .val (.pointer (some ⟨b_t3, 8, none⟩)), .val (.agg (arrOf 4 (ewF z2))), .val (.agg (arrOf 4 (ewF (mulP y1 z2)))), .val (.pointer (some ⟨b_t3, 4, none⟩)), .val (.agg (arrOf 4 (ewF y2))), .val (.pointer (some ⟨b_t2, 8, none⟩)), .val (.agg (arrOf 4 (ewF z1))), .val (.agg (arrOf 4 (ewF (mulP y2 z1)))), .val (.bool false), .val (.bool false), .val (.bool false)] [] (fun i hi => absurd hi (Nat.not_lt_zero _)) (fun HWF m gz wa p az hp hm hmp hcl hdn hE hJ hS hO => ?_) (fun gz wa hE hJ => ?_)
       · rcases (show p = 0 ∨ p = 1 ∨ p = 2 ∨ p = 3 ∨ p = 4 ∨ p = 5 ∨ p = 6 ∨ p = 7 ∨ p = 8 ∨ p = 9 ∨ p = 10 ∨ p = 11 ∨ p = 12 ∨ p = 13 ∨ p = 14 ∨ p = 15 ∨ p = 16 by have h9 : p < 17 := hp; omega) with rfl | rfl | rfl | rfl | rfl | rfl | rfl | rfl | rfl | rfl | rfl | rfl | rfl | rfl | rfl | rfl | rfl
         · have e10 : az.eval (.tmp 10) = .agg (arrOf 4 (ewF x1)) := hO 10 rfl
           have e12 : az.eval (.tmp 12) = .agg (arrOf 4 (ewF z2)) := hO 12 rfl
           exact po_k HWF hJ hE (mul_any x1 z2 _ Hx1.out Hz2.out) rfl rfl rfl rfl rfl rfl (ar2 e10 e12)
         · have e15 : az.eval (.tmp 15) = .agg (arrOf 4 (ewF x2)) := hO 15 rfl
           have e17 : az.eval (.tmp 17) = .agg (arrOf 4 (ewF z1)) := hO 17 rfl
           exact po_k HWF hJ hE (mul_any x2 z1 _ Hx2.out Hz1.out) rfl rfl rfl rfl rfl rfl (ar2 e15 e17)
         · exact po_k HWF hJ hE (sameB_any (mulP x1 z2) (mulP x2 z1) true _ (mulP_lt _ _) (mulP_lt _ _) H1.out) rfl rfl rfl rfl rfl rfl (ar2 (po_e hS hdn hJ 0 13 rfl rfl rfl rfl) (po_e hS hdn hJ 1 18 rfl rfl rfl rfl))
         · exact po_p _ HWF hJ hE rfl rfl rfl rfl rfl rfl rfl (x_move (po_e hS hdn hJ 2 19 rfl rfl rfl rfl))
         · have e20 := po_e hS hdn hJ 3 20 rfl rfl rfl rfl
           have e2 : az.eval (.tmp 2) = .pointer (some ⟨b_t2, 0, none⟩) := hO 2 rfl
           exact po_p (Op.fieldAddr 53 (Operand.tmp 2) 1) HWF hJ hE rfl rfl rfl rfl rfl rfl (wanted_of rfl rfl e20) (by first | (simp only [execOp, mkOp, eval_const, e2]; done) | (simp only [execOp, mkOp, eval_const, e2]; go_simp))
         · exact po_p _ HWF hJ hE rfl rfl rfl rfl rfl rfl (wanted_of rfl rfl (po_e hS hdn hJ 3 20 rfl rfl rfl rfl)) (exec_load_as _ _ _ _ (ewF y1) (po_e hS hdn hJ 4 21 rfl rfl rfl rfl) arrE (Keep.row hE r_t2 rfl) (by omega) (fun i hi => qF_y _ _ _ i hi))
         · have e20 := po_e hS hdn hJ 3 20 rfl rfl rfl rfl
           have e3 : az.eval (.tmp 3) = .pointer (some ⟨b_t3, 0, none⟩) := hO 3 rfl
           exact po_p (Op.fieldAddr 53 (Operand.tmp 3) 2) HWF hJ hE rfl rfl rfl rfl rfl rfl (wanted_of rfl rfl e20) (by first | (simp only [execOp, mkOp, eval_const, e3]; done) | (simp only [execOp, mkOp, eval_const, e3]; go_simp))
         · exact po_p _ HWF hJ hE rfl rfl rfl rfl rfl rfl (wanted_of rfl rfl (po_e hS hdn hJ 3 20 rfl rfl rfl rfl)) (exec_load_as _ _ _ _ (ewF z2) (po_e hS hdn hJ 6 23 rfl rfl rfl rfl) arrE (Keep.row hE r_t3 rfl) (by omega) (fun i hi => qF_z _ _ _ i hi))
         · exact po_k HWF hJ hE (mul_any y1 z2 _ Hy1.out Hz2.out) rfl rfl rfl rfl rfl (wanted_of rfl rfl (po_e hS hdn hJ 3 20 rfl rfl rfl rfl)) (ar2 (po_e hS hdn hJ 5 22 rfl rfl rfl rfl) (po_e hS hdn hJ 7 24 rfl rfl rfl rfl))
         · have e20 := po_e hS hdn hJ 3 20 rfl rfl rfl rfl
           have e3 : az.eval (.tmp 3) = .pointer (some ⟨b_t3, 0, none⟩) := hO 3 rfl
           exact po_p (Op.fieldAddr 53 (Operand.tmp 3) 1) HWF hJ hE rfl rfl rfl rfl rfl rfl (wanted_of rfl rfl e20) (by first | (simp only [execOp, mkOp, eval_const, e3]; done) | (simp only [execOp, mkOp, eval_const, e3]; go_simp))
         · exact po_p _ HWF hJ hE rfl rfl rfl rfl rfl rfl (wanted_of rfl rfl (po_e hS hdn hJ 3 20 rfl rfl rfl rfl)) (exec_load_as _ _ _ _ (ewF y2) (po_e hS hdn hJ 9 26 rfl rfl rfl rfl) arrE (Keep.row hE r_t3 rfl) (by omega) (fun i hi => qF_y _ _ _ i hi))
         · have e20 := po_e hS hdn hJ 3 20 rfl rfl rfl rfl
           have e2 : az.eval (.tmp 2) = .pointer (some ⟨b_t2, 0, none⟩) := hO 2 rfl
           exact po_p (Op.fieldAddr 53 (Operand.tmp 2) 2) HWF hJ hE rfl rfl rfl rfl rfl rfl (wanted_of rfl rfl e20) (by first | (simp only [execOp, mkOp, eval_const, e2]; done) | (simp only [execOp, mkOp, eval_const, e2]; go_simp))
         · exact po_p _ HWF hJ hE rfl rfl rfl rfl rfl rfl (wanted_of rfl rfl (po_e hS hdn hJ 3 20 rfl rfl rfl rfl)) (exec_load_as _ _ _ _ (ewF z1) (po_e hS hdn hJ 11 28 rfl rfl rfl rfl) arrE (Keep.row hE r_t2 rfl) (by omega) (fun i hi => qF_z _ _ _ i hi))
         · exact po_k HWF hJ hE (mul_any y2 z1 _ Hy2.out Hz1.out) rfl rfl rfl rfl rfl (wanted_of rfl rfl (po_e hS hdn hJ 3 20 rfl rfl rfl rfl)) (ar2 (po_e hS hdn hJ 10 27 rfl rfl rfl rfl) (po_e hS hdn hJ 12 29 rfl rfl rfl rfl))
         · exact po_k HWF hJ hE (sameB_any (mulP y1 z2) (mulP y2 z1) false _ (mulP_lt _ _) (mulP_lt _ _) H2.out) rfl rfl rfl rfl rfl (wanted_of rfl rfl (po_e hS hdn hJ 3 20 rfl rfl rfl rfl)) (ar2 (po_e hS hdn hJ 8 25 rfl rfl rfl rfl) (po_e hS hdn hJ 13 30 rfl rfl rfl rfl))
         · have e20 := po_e hS hdn hJ 3 20 rfl rfl rfl rfl
           have e31 := po_e hS hdn hJ 14 31 rfl rfl rfl rfl
           exact po_p (Op.pick (Operand.tmp 20) (Operand.tmp 31) (Operand.const (Value.bool false))) HWF hJ hE rfl rfl rfl rfl rfl rfl rfl (by first | (simp only [execOp, mkOp, eval_const, e20, e31]; done) | (simp only [execOp, mkOp, eval_const, e20, e31]; go_simp))
         · exact po_p _ HWF hJ hE rfl rfl rfl rfl rfl rfl rfl (x_assign (po_e hS hdn hJ 15 32 rfl rfl rfl rfl))
       · rw [putO_true _ _ _ _ _ rfl]
         simp only [putA, Nat.zero_add, Nat.reduceAdd]
         rw [hJ.tt 0 rfl, hJ.tt 1 rfl, hJ.tt 2 rfl, hJ.tt 3 rfl, hJ.tt 4 rfl, hJ.tt 5 rfl, hJ.tt 6 rfl, hJ.tt 7 rfl, hJ.tt 8 rfl, hJ.tt 9 rfl, hJ.tt 10 rfl, hJ.tt 11 rfl, hJ.tt 12 rfl, hJ.tt 13 rfl, hJ.tt 14 rfl, hJ.tt 15 rfl, hJ.tt 16 rfl]
         simp only [Act.put, zA, zB, zC]
         refine po_end ?_
         replace r_t2 := Keep.row hE r_t2 rfl
         replace r_t3 := Keep.row hE r_t3 rfl
         have Bw6 := hE.below Bw5 (HGS.out _ Bw5) rfl
         clear Bw5 hE hJ 
         go_wp2
         go_ret
         exact ⟨rfl, Bw6⟩
 · have H1 := Lib.hid (decide_eq_false h1)
   rw [H1.out]
   clear h1
   go_enter Tryz.func42, Tryz.ntmps42
   go_wp2_with (first
     | (have hgo := Bw0; clear hgo
        refine wpList_box_row rfl 53 (.tmp 0) rfl 12 (qF X Y Z) rfl ?_
        intro b_t2 w1 lk r_t2 kk
        have l_t2 := zrl HGS Bw0 lk
        have Bw1 := zbt HGS Bw0 kk
        clear Bw0 kk lk)
     | (have hgo := Bw1; clear hgo
        refine wpList_box_row rfl 53 (.tmp 1) rfl 12 (qF V Q T) rfl ?_
        intro b_t3 w2 lk r_t3 kk
        have n_t2_t3 := zrn r_t2 lk
        have l_t3 := zrl HGS Bw1 lk
        replace r_t2 := zrb r_t2 kk
        have Bw2 := zbt HGS Bw1 kk
        clear Bw1 kk lk))
   have Bw3 := Bw2.drew
   replace r_t2 := World.rowIs.drew r_t2
   replace r_t3 := World.rowIs.drew r_t3
   clear Bw2
   refine zpo [b_t2, b_t3] .done #[false, false, false, false, false, false] [0, 1, 2, 3, 4, 5] [some 5, some 6, some 7, some 8, none, none] [[], [0], [], [1, 2], [0, 1, 3], [0, 1, 2, 3, 4]] [(0, []), (1, [0]), (2, []), (3, [2, 1]), (4, [1, 3, 0, 1]), (5, [3, 4, 0, 1, 2, 3, 4])] 0 ?_
   refine lintz_leaf ?_
   refine po_start [.val (.agg (arrOf 12 (qF X Y Z))), .val (.agg (arrOf 12 (qF x1 y1 z1))), .val (.agg (arrOf 12 (qF V Q T))), .val (.agg (arrOf 12 (qF x2 y2 z2))), .nil, .nil] [⟨b_t2, 53, 12, (qF X Y Z), 4, (qF x1 y1 z1)⟩, ⟨b_t3, 53, 12, (qF V Q T), 5, (qF x2 y2 z2)⟩] (po_olds2 r_t2 r_t3) (fun HWF m gz wa p az hp hm hmp hcl hdn hE hJ hS hO => ?_) (fun gz wa hE hJ => ?_)
   · rcases (show p = 0 ∨ p = 1 ∨ p = 2 ∨ p = 3 ∨ p = 4 ∨ p = 5 by have h9 : p < 6 := hp; omega) with rfl | rfl | rfl | rfl | rfl | rfl
     · have ro : wa.rowIs b_t2 53 12 (qF X Y Z) := hJ.old0 0 (show 0 < 2 by decide) (po_notyet (s := 4) hcl hmp (by rw [hm]; exact hp) (by decide))
       exact po_p _ HWF hJ hE rfl rfl rfl rfl rfl rfl rfl (exec_load_as _ _ _ _ (qF X Y Z) (hO 2 rfl) arrQ ro (by omega) (fun i hi => by rw [Nat.zero_add]))
     · exact po_k HWF hJ hE (full_v X Y Z _ hA.out HX.out HY.out HZ.out) rfl rfl rfl rfl rfl rfl (ar1 (po_e hS hdn hJ 0 5 rfl rfl rfl rfl))
     · have ro : wa.rowIs b_t3 53 12 (qF V Q T) := hJ.old0 1 (show 1 < 2 by decide) (po_notyet (s := 5) hcl hmp (by rw [hm]; exact hp) (by decide))
       exact po_p _ HWF hJ hE rfl rfl rfl rfl rfl rfl rfl (exec_load_as _ _ _ _ (qF V Q T) (hO 3 rfl) arrQ ro (by omega) (fun i hi => by rw [Nat.zero_add]))
     · exact po_k HWF hJ hE (full_v V Q T _ hB.out HV.out HQ.out HT.out) rfl rfl rfl rfl rfl rfl (ar1 (po_e hS hdn hJ 2 7 rfl rfl rfl rfl))
     · exact po_storeOld 0 (.tmp 2) (.tmp 6) 53 b_t2 12 _ (by rw [hm]; exact hp) hmp hJ rfl (show 0 < 2 by decide) rfl rfl rfl rfl rfl (World.rowIs.lt r_t2) (by simp) (by kernel_rfl) (po_ne2a (show 5 ≠ 4 by decide) (Ne.symm n_t2_t3)) hE rfl rfl rfl rfl rfl (hO 2 rfl) (po_e hS hdn hJ 1 6 rfl rfl rfl rfl) arrQ (fun j _ => qF_one _ _ _ j)
     · exact po_storeOld 1 (.tmp 3) (.tmp 8) 53 b_t3 12 _ (by rw [hm]; exact hp) hmp hJ rfl (show 1 < 2 by decide) rfl rfl rfl rfl rfl (World.rowIs.lt r_t3) (by simp) (by kernel_rfl) (po_ne2b (show 4 ≠ 5 by decide) n_t2_t3) hE rfl rfl rfl rfl rfl (hO 3 rfl) (po_e hS hdn hJ 3 8 rfl rfl rfl rfl) arrQ (fun j _ => qF_one _ _ _ j)
   · rw [putO_true _ _ _ _ _ rfl]
     simp only [putA, Nat.zero_add, Nat.reduceAdd]
     rw [hJ.tt 0 rfl, hJ.tt 1 rfl, hJ.tt 2 rfl, hJ.tt 3 rfl]
     simp only [Act.put, zA, zB, zC]
     refine po_end ?_
     replace r_t2 : wa.rowIs b_t2 53 12 (qF x1 y1 z1) := hJ.old 0 (show 0 < 2 by decide) (show 4 < 6 by decide)
     replace r_t3 : wa.rowIs b_t3 53 12 (qF x2 y2 z2) := hJ.old 1 (show 1 < 2 by decide) (show 5 < 6 by decide)
     have Bw4 := hE.below Bw3 (HGS.out _ Bw3) (keep_all2 l_t2 l_t3)
     clear Bw3 hE hJ 
     go_wp2
     have Bw5 := Bw4.drew
     replace r_t2 := World.rowIs.drew r_t2
     replace r_t3 := World.rowIs.drew r_t3
     clear Bw4
     refine zpo [] (.rd 0 (.rd 1 (.rd 2 (.rd 3 (.rd 5 (.rd 6 (.rd 7 (.rd 8 .done)))))))) #[true, true, true, true, false, true, true, true, true, false, false, false, false, false, false, false, false, false, false, false, false, false, false, false, false] [4, 9, 10, 11, 12, 13, 14, 15, 16, 17, 18, 19, 20, 21, 22, 23, 24] [some 13, some 18, some 19, some 20, some 21, some 22, some 23, some 24, some 25, some 26, some 27, some 28, some 29, some 30, some 31, some 32, some 4] [[], [0], [0, 1], [2], [3], [3, 4], [3], [3, 6], [3, 5, 7], [3], [3, 9], [3], [3, 11], [3, 8, 10, 12], [3, 8, 13], [3, 14], [0, 1, 2, 3, 4, 5, 6, 7, 8, 9, 10, 11, 12, 13, 14, 15]] [(0, []), (1, [0]), (2, []), (3, [2]), (4, [1, 3]), (5, []), (6, [5]), (7, []), (8, [7]), (9, [6, 8, 4]), (10, [4, 9, 9]), (11, [10, 10]), (12, [11]), (13, [12, 11]), (14, [11]), (15, [14, 11]), (16, [13, 15, 11, 11]), (17, [11]), (18, [17, 11]), (19, [11]), (20, [19, 11]), (21, [18, 20, 16, 11]), (22, [16, 21, 21, 11]), (23, [11, 22]), (24, [23, 22, 0, 1, 2, 3, 4, 5, 6, 7, 8, 9, 10, 11, 12, 13, 14, 15, 16, 17, 18, 19, 20, 21, 22, 23])] 495 ?_
     refine lintz_pure 9 _ _ (.pointer (some ⟨b_t2, 0, none⟩)) rfl rfl rfl rfl rfl (fun w0 hb => by unfold mkOp; go_simp; all_goals (with_reducible rfl)) ?_
     simp only [Act.put, zA, zB, zC]
     refine zld (ewF x1) arrE r_t2 rfl (fun i hi => qF_x _ _ _ i hi) rfl rfl rfl rfl rfl (by omega) ?_
     simp only [Act.put, zA, zB, zC]
     refine lintz_pure 11 _ _ (.pointer (some ⟨b_t3, 8, none⟩)) rfl rfl rfl rfl rfl (fun w0 hb => by unfold mkOp; go_simp; all_goals (with_reducible rfl)) ?_
     simp only [Act.put, zA, zB, zC]
     refine zld (ewF z2) arrE r_t3 rfl (fun i hi => qF_z _ _ _ i hi) rfl rfl rfl rfl rfl (by omega) ?_
     simp only [Act.put, zA, zB, zC]
     refine lintz_pure 14 _ _ (.pointer (some ⟨b_t3, 0, none⟩)) rfl rfl rfl rfl rfl (fun w0 hb => by unfold mkOp; go_simp; all_goals (with_reducible rfl)) ?_
     simp only [Act.put, zA, zB, zC]
     refine zld (ewF x2) arrE r_t3 rfl (fun i hi => qF_x _ _ _ i hi) rfl rfl rfl rfl rfl (by omega) ?_
     simp only [Act.put, zA, zB, zC]
     refine lintz_pure 16 _ _ (.pointer (some ⟨b_t2, 8, none⟩)) rfl rfl rfl rfl rfl (fun w0 hb => by unfold mkOp; go_simp; all_goals (with_reducible rfl)) ?_
     simp only [Act.put, zA, zB, zC]
     refine zld (ewF z1) arrE r_t2 rfl (fun i hi => qF_z _ _ _ i hi) rfl rfl rfl rfl rfl (by omega) ?_
     simp only [Act.put, zA, zB, zC]
     refine lintz_leaf ?_
     refine po_start [.val (.agg (arrOf 4 (ewF (mulP x1 z2)))), .val (.agg (arrOf 4 (ewF (mulP x2 z1)))), .val (.bool false), .val (.bool false), .val (undef), .val (undef), .val (undef), .val (undef), .val (undef), .val (undef), .val (undef), .val (undef), .val (undef), .val (undef), .val (undef), .val (.bool false), .val (.bool false)] [] (fun i hi => absurd hi (Nat.not_lt_zero _)) (fun HWF m gz wa p az hp hm hmp hcl hdn hE hJ hS hO => ?_) (fun gz wa hE hJ => ?_)
     · rcases (show p = 0 ∨ p = 1 ∨ p = 2 ∨ p = 3 ∨ p = 4 ∨ p = 5 ∨ p = 6 ∨ p = 7 ∨ p = 8 ∨ p = 9 ∨ p = 10 ∨ p = 11 ∨ p = 12 ∨ p = 13 ∨ p = 14 ∨ p = 15 ∨ p = 16 by have h9 : p < 17 := hp; omega) with rfl | rfl | rfl | rfl | rfl | rfl | rfl | rfl | rfl | rfl | rfl | rfl | rfl | rfl | rfl | rfl | rfl
       · have e10 : az.eval (.tmp 10) = .agg (arrOf 4 (ewF x1)) := hO 10 rfl
         have e12 : az.eval (.tmp 12) = .agg (arrOf 4 (ewF z2)) := hO 12 rfl
         exact po_k HWF hJ hE (mul_any x1 z2 _ Hx1.out Hz2.out) rfl rfl rfl rfl rfl rfl (ar2 e10 e12)
       · have e15 : az.eval (.tmp 15) = .agg (arrOf 4 (ewF x2)) := hO 15 rfl
         have e17 : az.eval (.tmp 17) = .agg (arrOf 4 (ewF z1)) := hO 17 rfl
         exact po_k HWF hJ hE (mul_any x2 z1 _ Hx2.out Hz1.out) rfl rfl rfl rfl rfl rfl (ar2 e15 e17)
       · exact po_k HWF hJ hE (sameB_any (mulP x1 z2) (mulP x2 z1) false _ (mulP_lt _ _) (mulP_lt _ _) H1.out) rfl rfl rfl rfl rfl rfl (ar2 (po_e hS hdn hJ 0 13 rfl rfl rfl rfl) (po_e hS hdn hJ 1 18 rfl rfl rfl rfl))
       · exact po_p _ HWF hJ hE rfl rfl rfl rfl rfl rfl rfl (x_move (po_e hS hdn hJ 2 19 rfl rfl rfl rfl))
       · exact po_skip 21 HWF hJ rfl hE rfl rfl rfl (wanted_not rfl rfl (po_e hS hdn hJ 3 20 rfl rfl rfl rfl))
       · exact po_skip 22 HWF hJ rfl hE rfl rfl rfl (wanted_not rfl rfl (po_e hS hdn hJ 3 20 rfl rfl rfl rfl))
       · exact po_skip 23 HWF hJ rfl hE rfl rfl rfl (wanted_not rfl rfl (po_e hS hdn hJ 3 20 rfl rfl rfl rfl))
       · exact po_skip 24 HWF hJ rfl hE rfl rfl rfl (wanted_not rfl rfl (po_e hS hdn hJ 3 20 rfl rfl rfl rfl))
       · exact po_skip 25 HWF hJ rfl hE rfl rfl rfl (wanted_not rfl rfl (po_e hS hdn hJ 3 20 rfl rfl rfl rfl))
       · exact po_skip 26 HWF hJ rfl hE rfl rfl rfl (wanted_not rfl rfl (po_e hS hdn hJ 3 20 rfl rfl rfl rfl))
       · exact po_skip 27 HWF hJ rfl hE rfl rfl rfl (wanted_not rfl rfl (po_e hS hdn hJ 3 20 rfl rfl rfl rfl))
       · exact po_skip 28 HWF hJ rfl hE rfl rfl rfl (wanted_not rfl rfl (po_e hS hdn hJ 3 20 rfl rfl rfl rfl))
       · exact po_skip 29 HWF hJ rfl hE rfl rfl rfl (wanted_not rfl rfl (po_e hS hdn hJ 3 20 rfl rfl rfl rfl))
       · exact po_skip 30 HWF hJ rfl hE rfl rfl rfl (wanted_not rfl rfl (po_e hS hdn hJ 3 20 rfl rfl rfl rfl))
       · exact po_skip 31 HWF hJ rfl hE rfl rfl rfl (wanted_not rfl rfl (po_e hS hdn hJ 3 20 rfl rfl rfl rfl))
       · have e20 := po_e hS hdn hJ 3 20 rfl rfl rfl rfl
         have e31 := po_e hS hdn hJ 14 31 rfl rfl rfl rfl
         exact po_p (Op.pick (Operand.tmp 20) (Operand.tmp 31) (Operand.const (Value.bool false))) HWF hJ hE rfl rfl rfl rfl rfl rfl rfl (by first | (simp only [execOp, mkOp, eval_const, e20, e31]; done) | (simp only [execOp, mkOp, eval_const, e20, e31]; go_simp))
       · exact po_p _ HWF hJ hE rfl rfl rfl rfl rfl rfl rfl (x_assign (po_e hS hdn hJ 15 32 rfl rfl rfl rfl))
     · rw [putO_true _ _ _ _ _ rfl]
       simp only [putA, Nat.zero_add, Nat.reduceAdd]
       rw [hJ.tt 0 rfl, hJ.tt 1 rfl, hJ.tt 2 rfl, hJ.tt 3 rfl, hJ.tt 4 rfl, hJ.tt 5 rfl, hJ.tt 6 rfl, hJ.tt 7 rfl, hJ.tt 8 rfl, hJ.tt 9 rfl, hJ.tt 10 rfl, hJ.tt 11 rfl, hJ.tt 12 rfl, hJ.tt 13 rfl, hJ.tt 14 rfl, hJ.tt 15 rfl, hJ.tt 16 rfl]
       simp only [Act.put, zA, zB, zC]
       refine po_end ?_
       replace r_t2 := Keep.row hE r_t2 rfl
       replace r_t3 := Keep.row hE r_t3 rfl
       have Bw6 := hE.below Bw5 (HGS.out _ Bw5) rfl
       clear Bw5 hE hJ 
       go_wp2
       go_ret
       exact ⟨rfl, Bw6⟩
theorem lenN_lt (K : Nat) (h : K < 2 ^ 64) : K < 2 ^ Lib.bitLen K := by
 by_cases h0 : K = 0
 · subst h0
   exact Nat.pow_pos (by decide)
 · exact (Lib.bitLenAux_bounds 64 K h h0).2.2
theorem lenN_le (K : Nat) (h : K < 2 ^ 32) : Lib.bitLen K ≤ 32 := Lib.bitLen_le K 32 (by decide) h
theorem tab8_of (q : Nat) (h : q < Lib.len8tab.size) : wrap64 ((Lib.len8tab[q]'h).toNat : Int) = (Lib.bitLen q : Int) := by
 have hq : q < 256 := Lib.len8tab_size ▸ h
 have e := Lib.len8_eq ⟨q, hq⟩
 have l := Lib.bitLen_le8 ⟨q, hq⟩
 dsimp only at e l
 unfold Lib.len8 at e
 rw [Int.toNat_natCast, getElem?_pos Lib.len8tab q h, Option.getD_some] at e
 rw [e]
 unfold wrap64
 omega
set_option maxHeartbeats 4000000 in
set_option maxRecDepth 100000 in
theorem len64_any (K : Nat) (w : World) (h : K < 4294967296) : Calls Tryz.prog 122 #[.int .u64 (K : Int)] w fun e w' => e = .returned (.int .i64 ((Lib.bitLen K : Nat) : Int)) ∧ w' = w := by
 obtain ⟨x, hx⟩ : ∃ x : Int, x = (K : Int) := ⟨_, rfl⟩
 have h0 : 0 ≤ x := by omega
 have h1 : x ≤ 4294967295 := by omega
 rw [← hx]
 have HK := Lib.hid hx
 have H32 := Lib.hid h
 clear hx h
 go_enter Tryz.func122, Tryz.ntmps122
 go_wp2
 all_goals first
 | (exfalso
    have hz := Lib.len8tab_size
    omega)
 | skip
 all_goals (
   go_ret
   refine ⟨congrArg Ending.returned (congrArg (Value.int IntKind.i64) ?_), rfl⟩
   have hx := HK.out
   have h := H32.out
   rw [tab8_of]
   have hb : Lib.bitLen K < 33 := Nat.lt_succ_of_le (lenN_le K h)
   have hs : ∀ m, m = K / 16777216 ∨ m = K / 65536 ∨ m = K / 256 ∨ m = K → Lib.bitLen m < 33 := fun m hm => Nat.lt_succ_of_le (lenN_le m (by omega))
   have h24 := fun hk => Lib.bitLen_shift24 K hk (by omega)
   have h16 := fun hk => Lib.bitLen_shift16 K hk (by omega)
   have h8 := fun hk => Lib.bitLen_shift8 K hk (by omega)
   first
   | (have e : (x / 65536 / 256).toNat = K / 16777216 := by omega
      have l := hs _ (Or.inl rfl)
      have s := h24 (by omega)
      rw [e]
      clear hs h24 h16 h8
      unfold wrap64
      omega)
   | (have e : (x / 65536).toNat = K / 65536 := by omega
      have l := hs _ (Or.inr (Or.inl rfl))
      have s := h16 (by omega)
      rw [e]
      clear hs h24 h16 h8
      unfold wrap64
      omega)
   | (have e : (x / 256).toNat = K / 256 := by omega
      have l := hs _ (Or.inr (Or.inr (Or.inl rfl)))
      have s := h8 (by omega)
      rw [e]
      clear hs h24 h16 h8
      unfold wrap64
      omega)
   | (have e : x.toNat = K := by omega
      rw [e]
      clear hs h24 h16 h8
      unfold wrap64
      omega))
theorem ordL_B4 : ordL < B4 := by decide +kernel
theorem two_L_B4 : 2 * ordL < B4 := by decide +kernel
theorem arrS : IsArr Tryz.prog 48 4 := ⟨by kernel_rfl, by kernel_rfl⟩
theorem zeroS : (Tryz.prog.info? 48).map (fun i => i.zero) = some (some (.agg (arrOf 4 (u64f fun _ => 0)))) := by kernel_rfl
theorem builtS (F : Nat → Value) : Tryz.prog.built 48 [(0, .agg (arrOf 4 F))] = some (arrOf 4 F) := by kernel_rfl
theorem builtOrd : Tryz.prog.built 46 [(0, .int .u64 6346243789798364141), (1, .int .u64 1503914060200516822), (2, .int .u64 0), (3, .int .u64 1152921504606846976)] = some (arrOf 4 (ewF ordL)) := by kernel_rfl
theorem wd_over (A t j : Nat) (hj : j < 4) : wd (A + t * B4) j = wd A j := by
 unfold wd
 have e : t * B4 = 18446744073709551616 ^ j * (18446744073709551616 * (18446744073709551616 ^ (3 - j) * t)) := by
   rw [B4_eq, show 4 = j + 1 + (3 - j) by omega, Nat.pow_add, Nat.pow_succ]
   ac_rfl
 rw [e, Nat.add_mul_div_left _ _ (powW_pos j), Nat.add_mul_mod_self_left]
theorem wd_less (A C D t j : Nat) (h : D + C = A + t * B4) (hj : j < 4) : (wd A j + 18446744073709551616 - wd C j - addW D C j) % 18446744073709551616 = wd D j ∧ (if wd A j < wd C j + addW D C j then 1 else 0) = addW D C (j + 1) := by
 have h1 := wd_sub D C (D + C) j rfl
 rw [h, wd_over A t j hj] at h1
 exact h1
set_option maxHeartbeats 2000000 in
theorem difference_any (A C D t : Nat) (w : World) (hA : A < B4) (hC : C < B4) (hD : D < B4) (h : D + C = A + t * B4) : Calls Tryz.prog 111 #[.agg (arrOf 4 (ewF A)), .agg (arrOf 4 (ewF C))] w fun e w' => e = .returned (.tuple #[.agg (arrOf 4 (ewF D)), .int .u64 (t : Int)]) ∧ Below w.heap.size w w' := by
 obtain ⟨w3, hw3, hrA, hrC, hrR, hbel, hsz⟩ := rowsW3 w (ewF A) (ewF C) 46
 have HSUB := Lib.hid fun j (hj : j < 4) => wd_less A C D t j h hj
 have HEND : Hid (addW D C 4 = t) := Lib.hid (by
   rw [addW_end D C hD hC, h, Nat.add_mul_div_right _ _ B4_pos, Nat.div_eq_of_lt hA, Nat.zero_add])
 clear hA hC hD h
 go_enter Tryz.func111, Tryz.ntmps111
 go_wp2_with (refine wpList_alloc_arr rfl 46 rfl (arrOf 4 (u64f fun _ => 0)) zeroW ?_)
 rw [← hw3]
 clear hw3
 generalize hg0 : w.heap.size = g0 at *
 generalize hg2 : g0 + 1 + 1 = g2 at *
 generalize hg1 : g0 + 1 = g1 at *
 have n02 : g0 ≠ g2 := by omega
 have n12 : g1 ≠ g2 := by omega
 have l2 : g0 ≤ g2 := by omega
 have HG := Lib.hid hg0
 clear hg1 hg2 hg0 hsz
 go_loopw [5, 7] (fun cv i wr => ∃ j : Nat, j ≤ 4 ∧ i = .int .i64 j ∧ cv = .int .u64 ((addW D C j : Nat) : Int) ∧ wr.rowIs g0 46 4 (ewF A) ∧ wr.rowIs g1 46 4 (ewF C) ∧ wr.rowIs g2 46 4 (u64f fun i => if i < j then wd D i else 0) ∧ Below g0 w wr) (fun _ i _ => 4 - (intOf i).toNat)
 case atStart => exact ⟨0, Nat.zero_le _, rfl, by rw [addW_zero]; rfl, hrA, hrC, hrR.congr fun i _ => rfl, hbel⟩
 case round =>
   clear hrA hrC hrR hbel
   obtain ⟨j, hj, rfl, rfl, hA, hC, hR, hbel⟩ := hrel
   by_cases hlt : j < 4
   · have HXA : Hid (∀ w' : World, w'.rowIs g0 46 4 (ewF A) → w'.cell? ⟨g0, j, none⟩ = some (.int .u64 ((wd A j : Nat) : Int))) := Lib.hid fun w' h => h.cell hlt
     have HYC : Hid (∀ w' : World, w'.rowIs g1 46 4 (ewF C) → w'.cell? ⟨g1, j, none⟩ = some (.int .u64 ((wd C j : Nat) : Int))) := Lib.hid fun w' h => h.cell hlt
     have hstep := HSUB.out j hlt
     have hfr := hR.drew.frozen j
     have hcR := hR.drew.cell (i := j) hlt
     have hjI : 0 ≤ (j : Int) ∧ (j : Int) < 4 := by omega
     have hset : (wr.drew.setCell ⟨g2, j, none⟩ (.int .u64 ((wd D j : Nat) : Int))).rowIs g2 46 4 (u64f fun i => if i < j + 1 then wd D i else 0) := row_set_drew hR _ _ _ (fun i hi => by
       by_cases e : i = j
       · subst e; rw [if_pos (Nat.lt_succ_self i), if_pos rfl]
       · rw [if_neg e]
         by_cases h2 : i < j
         · rw [if_pos h2, if_pos (by omega)]
         · rw [if_neg h2, if_neg (by omega)])
     have HSET := Lib.hid hset
     have hrun := sub64_run (wd A j) (wd C j) (addW D C j) (addW_le D C j)
     rw [hstep.1, hstep.2] at hrun
     have HRUN := Lib.hid hrun
     generalize wd D j = s at *
     generalize hc2 : addW D C (j + 1) = c2 at *
     have HC2 := Lib.hid hc2
     generalize addW D C j = c at *
     generalize wd A j = x at *
     generalize wd C j = y at *
     clear hset hstep hrun hlt hc2
     replace hA := hA.drew
     replace hC := hC.drew
     go_wp2
     refine wp_region_lins [(0, some [13]), (1, some [13]), (2, some [13]), (3, some [8, 13]), (4, some [13]), (5, some [13]), (6, some [8, 13]), (7, some [8, 13]), (8, none), (9, some [13]), (10, some [13]), (11, some []), (12, some [13]), (13, none), (14, some [])] (fun c w' => c = 8 → w'.rowIs g0 46 4 (ewF A) ∧ w'.rowIs g1 46 4 (ewF C)) (by kernel_rfl) (by kernel_rfl) (by decide) (by kernel_rfl) (fun d _ _ _ _ h => by cases d <;> exact h) (fun c hc _ => ⟨hA, hC⟩) ?_
     refine lins_read 11 (Op.move (Operand.tmp 6)) 3 _ rfl rfl rfl rfl rfl (fun w0 hw0 => by unfold mkOp; go_simp; all_goals (with_reducible rfl)) ?_
     simp only [Act.put, List.setIfInBounds_toArray, List.set_cons_zero, List.set_cons_succ]
     refine lins_read 12 (Op.move (Operand.tmp 6)) 3 _ rfl rfl rfl rfl rfl (fun w0 hw0 => by unfold mkOp; go_simp; all_goals (with_reducible rfl)) ?_
     simp only [Act.put, List.setIfInBounds_toArray, List.set_cons_zero, List.set_cons_succ]
     refine lins_read 13 (Op.indexAddr 46 (Operand.tmp 2) (Operand.tmp 12)) 0 _ rfl rfl rfl rfl rfl (fun w0 hw0 => by unfold mkOp; go_simp; all_goals (with_reducible rfl)) ?_
     simp only [Act.put, List.setIfInBounds_toArray, List.set_cons_zero, List.set_cons_succ]
     refine lins_read 14 (Op.load 45 (Operand.tmp 13)) 45 (.int .u64 (x : Int)) rfl rfl rfl rfl rfl (fun w0 hw0 => by have hc0 := HXA.out w0 (hw0 8 (by simp) rfl).1; unfold mkOp; go_simp; all_goals (with_reducible rfl)) ?_
     simp only [Act.put, List.setIfInBounds_toArray, List.set_cons_zero, List.set_cons_succ]
     refine lins_read 15 (Op.move (Operand.tmp 6)) 3 _ rfl rfl rfl rfl rfl (fun w0 hw0 => by unfold mkOp; go_simp; all_goals (with_reducible rfl)) ?_
     simp only [Act.put, List.setIfInBounds_toArray, List.set_cons_zero, List.set_cons_succ]
     refine lins_read 16 (Op.indexAddr 46 (Operand.tmp 3) (Operand.tmp 15)) 0 _ rfl rfl rfl rfl rfl (fun w0 hw0 => by unfold mkOp; go_simp; all_goals (with_reducible rfl)) ?_
     simp only [Act.put, List.setIfInBounds_toArray, List.set_cons_zero, List.set_cons_succ]
     refine lins_read 17 (Op.load 45 (Operand.tmp 16)) 45 (.int .u64 (y : Int)) rfl rfl rfl rfl rfl (fun w0 hw0 => by have hc0 := HYC.out w0 (hw0 8 (by simp) rfl).2; unfold mkOp; go_simp; all_goals (with_reducible rfl)) ?_
     simp only [Act.put, List.setIfInBounds_toArray, List.set_cons_zero, List.set_cons_succ]
     refine lins_read 18 (Op.move (Operand.tmp 5)) 45 _ rfl rfl rfl rfl rfl (fun w0 hw0 => by unfold mkOp; go_simp; all_goals (with_reducible rfl)) ?_
     simp only [Act.put, List.setIfInBounds_toArray, List.set_cons_zero, List.set_cons_succ]
     refine lins_made (some 19) (Op.call { callee := Callee.value (Operand.func 121), args := #[Operand.tmp 14, Operand.tmp 17, Operand.tmp 18], argTypes := #[45, 45, 45] }) 98 (.tuple #[.int .u64 (s : Int), .int .u64 (c2 : Int)]) (_) rfl rfl rfl rfl rfl (by exact exec_entry _ _ _ _ _ _ _ _ rfl (by go_simp) (HRUN.out _)) (fun _ _ => True) (fun c hc => ⟨trivial, fun w7 _ h => by subst h; simp [writers] at hc⟩) ?_
     simp only [Act.put, List.setIfInBounds_toArray, List.set_cons_zero, List.set_cons_succ]
     refine lins_read 10 (Op.move (Operand.tmp 19)) 98 _ rfl rfl rfl rfl rfl (fun w0 hw0 => by unfold mkOp; go_simp; all_goals (with_reducible rfl)) ?_
     simp only [Act.put, List.setIfInBounds_toArray, List.set_cons_zero, List.set_cons_succ]
     refine lins_read 20 (Op.extract (Operand.tmp 10) 0) 45 _ rfl rfl rfl rfl rfl (fun w0 hw0 => by unfold mkOp; go_simp; all_goals (with_reducible rfl)) ?_
     simp only [Act.put, List.setIfInBounds_toArray, List.set_cons_zero, List.set_cons_succ]
     refine lins_read 21 (Op.extract (Operand.tmp 10) 1) 45 _ rfl rfl rfl rfl rfl (fun w0 hw0 => by unfold mkOp; go_simp; all_goals (with_reducible rfl)) ?_
     simp only [Act.put, List.setIfInBounds_toArray, List.set_cons_zero, List.set_cons_succ]
     refine lins_read 22 (Op.indexAddr 46 (Operand.tmp 4) (Operand.tmp 11)) 0 _ rfl rfl rfl rfl rfl (fun w0 hw0 => by unfold mkOp; go_simp; all_goals (with_reducible rfl)) ?_
     simp only [Act.put, List.setIfInBounds_toArray, List.set_cons_zero, List.set_cons_succ]
     refine lins_store (Op.store 45 (Operand.tmp 22) (Operand.tmp 20)) 0 (_) rfl rfl rfl rfl rfl (by unfold mkOp; go_simp; all_goals (with_reducible rfl)) (fun _ _ => True) (fun c hc => by cases hc) ?_
     try simp only [Act.put, List.setIfInBounds_toArray, List.set_cons_zero, List.set_cons_succ]
     refine lins_read 5 (Op.assign (Operand.tmp 21)) 45 _ rfl rfl rfl rfl rfl (fun w0 hw0 => by unfold mkOp; go_simp; all_goals (with_reducible rfl)) ?_
     simp only [Act.put, List.setIfInBounds_toArray, List.set_cons_zero, List.set_cons_succ]
     refine lins_end ?_
     go_wp2
     go_roundw
     case rel => exact ⟨j + 1, by omega, by go_num, by rw [HC2.out], hA.setOther n02 _, hC.setOther n12 _, HSET.out, hbel.drew.setCell (show g0 ≤ (⟨g2, j, none⟩ : Addr).block from l2) _⟩
     case measure => simp [intOf]; omega
   · obtain rfl : j = 4 := by omega
     rw [HEND.out]
     have hR' : wr.rowIs g2 46 4 (ewF D) := hR.congr fun i hi => by dsimp only [ewF, u64f]; rw [if_pos hi]
     have hgs : g0 ≤ wr.heap.size := by rw [← HG.out]; exact hbel.size
     clear hR
     go_wp2_with (first
       | (refine wpList_load_arr rfl 46 (.tmp 4) rfl 4 arrW hR' rfl (by omega) ?_; simp only [Nat.zero_add])
       | (refine wpList_store_arr rfl 46 (.tmp 4) (.tmp 24) rfl 4 arrW hR' rfl rfl (by omega) (fun _ _ => rfl) ?_; intro w6 hr6 hg6 hs6))
     refine ret_cell_arr_tmp rfl arrW hr6 rfl rfl (by omega) rfl ⟨?_, by rw [HG.out]; exact hbel.grown hg6 hgs (by intro k hk; cases hk; exact l2)⟩
     rw [agg_putW]
     rfl
def oppL (A : Nat) : Nat := (ordL - A) % ordL
theorem oppL_lt (A : Nat) : oppL A < ordL := Nat.mod_lt _ ordL_pos
set_option maxHeartbeats 4000000 in
set_option maxRecDepth 10000 in
theorem order_any (w : World) : Calls Tryz.prog 112 #[] w fun e w' => e = .returned (.agg (arrOf 4 (ewF ordL))) ∧ Below w.heap.size w w' := by
 have Bw0 := Below.refl w.heap.size w
 have HGS : Hid (∀ wq : World, Below w.heap.size w wq → w.heap.size ≤ wq.heap.size) := Lib.hid fun wq h => h.size
 go_enter Tryz.func112, Tryz.ntmps112
 go_wp2_with (first
   | (have hgo := Bw0; clear hgo
      refine wpList_alloc_row rfl 46 rfl 4 (u64f fun _ => 0) zeroW ?_
      intro b_t0 w1 lk r_t0 kk
      have l_t0 := zrl HGS Bw0 lk
      have Bw1 := zbt HGS Bw0 kk
      clear Bw0 kk lk)
   | (have hgo := Bw1; clear hgo
      refine wpList_build_arr rfl 46 _ rfl (arrOf 4 (ewF ordL)) (by simp only [List.map_toArray, List.map_cons, List.map_nil]; exact builtOrd) ?_
      have Bw2 := Bw1
      clear Bw1)
   | (have hgo := Bw2; clear hgo
      refine wpList_store_as rfl 46 (.tmp 0) (.tmp 1) rfl 4 (ewF ordL) arrW r_t0 rfl rfl (by omega) (fun _ _ => rfl) (fun i hi => putN_whole hi) ?_
      intro w3 q gk
      replace r_t0 := q
      have Bw3 := zbg HGS Bw2 gk l_t0
      clear Bw2 gk q))
 exact ret_cell_as _ rfl arrW r_t0 rfl (by omega) (fun _ _ => rfl) rfl ⟨rfl, Bw3⟩
set_option maxHeartbeats 4000000 in
set_option maxRecDepth 10000 in
theorem lowered_any (V : Nat) (w : World) (hV : V < 2 * ordL) : Calls Tryz.prog 66 #[.agg (arrOf 4 (ewF V))] w fun e w' => e = .returned (.agg (arrOf 4 (ewF (V % ordL)))) ∧ Below w.heap.size w w' := by
 have Bw0 := Below.refl w.heap.size w
 have HGS : Hid (∀ wq : World, Below w.heap.size w wq → w.heap.size ≤ wq.heap.size) := Lib.hid fun wq h => h.size
 have hVB := Nat.lt_trans hV two_L_B4
 by_cases hl : V < ordL
 · have hdif := fun w => difference_any V ordL (V + B4 - ordL) 1 w hVB ordL_B4 (by have := ordL_B4; have := B4_pos; omega) (by have := ordL_B4; omega)
   have HRES : Hid (V % ordL = V) := Lib.hid (Nat.mod_eq_of_lt hl)
   obtain ⟨D, hD⟩ := nat_var (V + B4 - ordL)
   rw [← hD, show ((1 : Nat) : Int) = 1 from rfl] at hdif
   have HDIF := Lib.hid hdif
   clear hdif hD hl hVB hV
   go_enter Tryz.func66, Tryz.ntmps66
   go_wp2_with (first
     | (have hgo := Bw0; clear hgo
        refine wpList_box_row rfl 46 (.tmp 0) rfl 4 (ewF V) rfl ?_
        intro b_t1 w1 lk r_t1 kk
        have l_t1 := zrl HGS Bw0 lk
        have Bw1 := zbt HGS Bw0 kk
        clear Bw0 kk lk)
     | (have hgo := Bw1; clear hgo
        refine wpList_alloc_row rfl 48 rfl 4 (u64f fun _ => 0) zeroS ?_
        intro b_t2 w2 lk r_t2 kk
        have n_t1_t2 := zrn r_t1 lk
        have l_t2 := zrl HGS Bw1 lk
        replace r_t1 := zrb r_t1 kk
        have Bw2 := zbt HGS Bw1 kk
        clear Bw1 kk lk))
   have Bw3 := Bw2.drew
   replace r_t1 := World.rowIs.drew r_t1
   replace r_t2 := World.rowIs.drew r_t2
   clear Bw2
   refine zpo [] (.rd 0 .done) #[true, false, false, false, false, false, false, false, false] [1, 2, 3, 4, 5, 6, 7, 8] [some 7, some 8, some 5, some 9, some 10, some 3, none, some 4] [[], [0], [1], [2], [2], [], [0, 1, 2, 3, 5], [0, 1, 2, 3, 4, 5, 6]] [(0, []), (1, []), (2, [0, 1, 1]), (3, [2]), (4, [3]), (5, [3]), (6, []), (7, [6, 4, 2, 0, 1, 2, 3, 4, 6]), (8, [5, 7, 0, 1, 2, 3, 4, 5, 6, 7])] 1 ?_
   refine zld (ewF V) arrW r_t1 rfl (fun i hi => by rw [Nat.zero_add]) rfl rfl rfl rfl rfl (by omega) ?_
   simp only [Act.put, zA, zB, zC]
   refine lintz_leaf ?_
   refine po_start [.val (.agg (arrOf 4 (ewF ordL))), .val (.tuple #[.agg (arrOf 4 (ewF D)), (.int .u64 1)]), .val (.tuple #[.agg (arrOf 4 (ewF D)), (.int .u64 1)]), .val (.agg (arrOf 4 (ewF D))), .val ((.int .u64 1)), .row 46 4 (u64f fun _ => 0) 6 (ewF D), .nil, .val ((.int .u64 1))] [] (fun i hi => absurd hi (Nat.not_lt_zero _)) (fun HWF m gz wa p az hp hm hmp hcl hdn hE hJ hS hO => ?_) (fun gz wa hE hJ => ?_)
   · rcases (show p = 0 ∨ p = 1 ∨ p = 2 ∨ p = 3 ∨ p = 4 ∨ p = 5 ∨ p = 6 ∨ p = 7 by have h9 : p < 8 := hp; omega) with rfl | rfl | rfl | rfl | rfl | rfl | rfl | rfl
     · exact po_k HWF hJ hE (order_any _) rfl rfl rfl rfl rfl rfl (ar0)
     · have e6 : az.eval (.tmp 6) = .agg (arrOf 4 (ewF V)) := hO 6 rfl
       exact po_k HWF hJ hE (HDIF.out _) rfl rfl rfl rfl rfl rfl (ar2 e6 (po_e hS hdn hJ 0 7 rfl rfl rfl rfl))
     · exact po_p _ HWF hJ hE rfl rfl rfl rfl rfl rfl rfl (x_move (po_e hS hdn hJ 1 8 rfl rfl rfl rfl))
     · have e5 := po_e hS hdn hJ 2 5 rfl rfl rfl rfl
       exact po_p (Op.extract (Operand.tmp 5) 0) HWF hJ hE rfl rfl rfl rfl rfl rfl rfl (by first | (simp only [execOp, mkOp, eval_const, e5]; done) | (simp only [execOp, mkOp, eval_const, e5]; go_simp))
     · have e5 := po_e hS hdn hJ 2 5 rfl rfl rfl rfl
       exact po_p (Op.extract (Operand.tmp 5) 1) HWF hJ hE rfl rfl rfl rfl rfl rfl rfl (by first | (simp only [execOp, mkOp, eval_const, e5]; done) | (simp only [execOp, mkOp, eval_const, e5]; go_simp))
     · exact po_alloc 3 _ 46 4 (u64f fun _ => 0) _ _ HWF hJ rfl (po_notyet hcl hmp (by rw [hm]; exact hp) (by decide)) hE rfl rfl rfl rfl rfl rfl zeroW
     · exact po_sr 5 hm hp hmp hdn hJ hE rfl rfl rfl rfl rfl rfl rfl rfl (po_e0 hS hdn 5 3 rfl rfl rfl) (po_e hS hdn hJ 3 9 rfl rfl rfl rfl) arrW (fun _ _ => rfl)
     · exact po_p _ HWF hJ hE rfl rfl rfl rfl rfl rfl rfl (x_assign (po_e hS hdn hJ 4 10 rfl rfl rfl rfl))
   · obtain ⟨b_t3, p_t3, lk_t3, r_t3, d_t3⟩ := hJ.row 5 (by decide) rfl (by decide)
     rw [putO_true _ _ _ _ _ rfl]
     simp only [putA, Nat.zero_add, Nat.reduceAdd]
     rw [hJ.tt 0 rfl, hJ.tt 1 rfl, hJ.tt 2 rfl, hJ.tt 3 rfl, hJ.tt 4 rfl, p_t3, hJ.tt 7 rfl]
     simp only [Act.put, zA, zB, zC]
     refine po_end ?_
     have n_t1_t3 := zrn r_t1 lk_t3
     have n_t2_t3 := zrn r_t2 lk_t3
     have l_t3 := zrl HGS Bw3 lk_t3
     replace r_t1 := Keep.row hE r_t1 rfl
     replace r_t2 := Keep.row hE r_t2 rfl
     have Bw4 := hE.below Bw3 (HGS.out _ Bw3) rfl
     clear Bw3 hE hJ p_t3 lk_t3 d_t3
     go_wp2_with (first
       | (have hgo := Bw4; clear hgo
          refine wpList_load_as rfl 46 (.tmp 1) rfl 4 (ewF V) arrW r_t1 rfl (by omega) (fun i hi => by rw [Nat.zero_add]) ?_
          have Bw5 := Bw4
          clear Bw4)
       | (have hgo := Bw5; clear hgo
          refine wpList_build_arr rfl 48 #[(0, Operand.tmp 13)] rfl (arrOf 4 (ewF V)) ?_ ?_
          · simp only [List.map_toArray, List.map_cons, List.map_nil]; exact builtS _
          have Bw6 := Bw5
          clear Bw5)
       | (have hgo := Bw6; clear hgo
          refine wpList_store_as rfl 48 (.tmp 2) (.tmp 14) rfl 4 (ewF V) arrS r_t2 rfl rfl (by omega) (fun _ _ => rfl) (fun i hi => putN_whole hi) ?_
          intro w7 q gk
          replace r_t1 := gb_rowIs r_t1 gk n_t1_t2
          replace r_t3 := gb_rowIs r_t3 gk (Ne.symm n_t2_t3)
          replace r_t2 := q
          have Bw7 := zbg HGS Bw6 gk l_t2
          clear Bw6 gk q))
     exact ret_cell_as _ rfl arrS r_t2 rfl (by omega) (fun _ _ => rfl) rfl ⟨by rw [HRES.out], Bw7⟩
 · have hdif := fun w => difference_any V ordL (V - ordL) 0 w hVB ordL_B4 (Nat.lt_of_le_of_lt (Nat.sub_le _ _) hVB) (by omega)
   have HRES : Hid (V % ordL = V - ordL) := Lib.hid (by rw [Nat.mod_eq_sub_mod (by omega), Nat.mod_eq_of_lt (by omega)])
   obtain ⟨D, hD⟩ := nat_var (V - ordL)
   rw [← hD] at HRES
   rw [← hD, show ((0 : Nat) : Int) = 0 from rfl] at hdif
   have HDIF := Lib.hid hdif
   clear hdif hD hl hVB hV
   go_enter Tryz.func66, Tryz.ntmps66
   go_wp2_with (first
     | (have hgo := Bw0; clear hgo
        refine wpList_box_row rfl 46 (.tmp 0) rfl 4 (ewF V) rfl ?_
        intro b_t1 w1 lk r_t1 kk
        have l_t1 := zrl HGS Bw0 lk
        have Bw1 := zbt HGS Bw0 kk
        clear Bw0 kk lk)
     | (have hgo := Bw1; clear hgo
        refine wpList_alloc_row rfl 48 rfl 4 (u64f fun _ => 0) zeroS ?_
        intro b_t2 w2 lk r_t2 kk
        have n_t1_t2 := zrn r_t1 lk
        have l_t2 := zrl HGS Bw1 lk
        replace r_t1 := zrb r_t1 kk
        have Bw2 := zbt HGS Bw1 kk
        clear Bw1 kk lk))
   have Bw3 := Bw2.drew
   replace r_t1 := World.rowIs.drew r_t1
   replace r_t2 := World.rowIs.drew r_t2
   clear Bw2
   refine zpo [] (.rd 0 .done) #[true, false, false, false, false, false, false, false, false] [1, 2, 3, 4, 5, 6, 7, 8] [some 7, some 8, some 5, some 9, some 10, some 3, none, some 4] [[], [0], [1], [2], [2], [], [0, 1, 2, 3, 5], [0, 1, 2, 3, 4, 5, 6]] [(0, []), (1, []), (2, [0, 1, 1]), (3, [2]), (4, [3]), (5, [3]), (6, []), (7, [6, 4, 2, 0, 1, 2, 3, 4, 6]), (8, [5, 7, 0, 1, 2, 3, 4, 5, 6, 7])] 1 ?_
   refine zld (ewF V) arrW r_t1 rfl (fun i hi => by rw [Nat.zero_add]) rfl rfl rfl rfl rfl (by omega) ?_
   simp only [Act.put, zA, zB, zC]
   refine lintz_leaf ?_
   refine po_start [.val (.agg (arrOf 4 (ewF ordL))), .val (.tuple #[.agg (arrOf 4 (ewF D)), (.int .u64 0)]), .val (.tuple #[.agg (arrOf 4 (ewF D)), (.int .u64 0)]), .val (.agg (arrOf 4 (ewF D))), .val ((.int .u64 0)), .row 46 4 (u64f fun _ => 0) 6 (ewF D), .nil, .val ((.int .u64 0))] [] (fun i hi => absurd hi (Nat.not_lt_zero _)) (fun HWF m gz wa p az hp hm hmp hcl hdn hE hJ hS hO => ?_) (fun gz wa hE hJ => ?_)
   · rcases (show p = 0 ∨ p = 1 ∨ p = 2 ∨ p = 3 ∨ p = 4 ∨ p = 5 ∨ p = 6 ∨ p = 7 by have h9 : p < 8 := hp; omega) with rfl | rfl | rfl | rfl | rfl | rfl | rfl | rfl
     · exact po_k HWF hJ hE (order_any _) rfl rfl rfl rfl rfl rfl (ar0)
     · have e6 : az.eval (.tmp 6) = .agg (arrOf 4 (ewF V)) := hO 6 rfl
       exact po_k HWF hJ hE (HDIF.out _) rfl rfl rfl rfl rfl rfl (ar2 e6 (po_e hS hdn hJ 0 7 rfl rfl rfl rfl))
     · exact po_p _ HWF hJ hE rfl rfl rfl rfl rfl rfl rfl (x_move (po_e hS hdn hJ 1 8 rfl rfl rfl rfl))
     · have e5 := po_e hS hdn hJ 2 5 rfl rfl rfl rfl
       exact po_p (Op.extract (Operand.tmp 5) 0) HWF hJ hE rfl rfl rfl rfl rfl rfl rfl (by first | (simp only [execOp, mkOp, eval_const, e5]; done) | (simp only [execOp, mkOp, eval_const, e5]; go_simp))
     · have e5 := po_e hS hdn hJ 2 5 rfl rfl rfl rfl
       exact po_p (Op.extract (Operand.tmp 5) 1) HWF hJ hE rfl rfl rfl rfl rfl rfl rfl (by first | (simp only [execOp, mkOp, eval_const, e5]; done) | (simp only [execOp, mkOp, eval_const, e5]; go_simp))
     · exact po_alloc 3 _ 46 4 (u64f fun _ => 0) _ _ HWF hJ rfl (po_notyet hcl hmp (by rw [hm]; exact hp) (by decide)) hE rfl rfl rfl rfl rfl rfl zeroW
     · exact po_sr 5 hm hp hmp hdn hJ hE rfl rfl rfl rfl rfl rfl rfl rfl (po_e0 hS hdn 5 3 rfl rfl rfl) (po_e hS hdn hJ 3 9 rfl rfl rfl rfl) arrW (fun _ _ => rfl)
     · exact po_p _ HWF hJ hE rfl rfl rfl rfl rfl rfl rfl (x_assign (po_e hS hdn hJ 4 10 rfl rfl rfl rfl))
   · obtain ⟨b_t3, p_t3, lk_t3, r_t3, d_t3⟩ := hJ.row 5 (by decide) rfl (by decide)
     rw [putO_true _ _ _ _ _ rfl]
     simp only [putA, Nat.zero_add, Nat.reduceAdd]
     rw [hJ.tt 0 rfl, hJ.tt 1 rfl, hJ.tt 2 rfl, hJ.tt 3 rfl, hJ.tt 4 rfl, p_t3, hJ.tt 7 rfl]
     simp only [Act.put, zA, zB, zC]
     refine po_end ?_
     have n_t1_t3 := zrn r_t1 lk_t3
     have n_t2_t3 := zrn r_t2 lk_t3
     have l_t3 := zrl HGS Bw3 lk_t3
     replace r_t1 := Keep.row hE r_t1 rfl
     replace r_t2 := Keep.row hE r_t2 rfl
     have Bw4 := hE.below Bw3 (HGS.out _ Bw3) rfl
     clear Bw3 hE hJ p_t3 lk_t3 d_t3
     go_wp2_with (first
       | (have hgo := Bw4; clear hgo
          refine wpList_load_as rfl 46 (.tmp 3) rfl 4 (ewF D) arrW r_t3 rfl (by omega) (fun i hi => by rw [Nat.zero_add]) ?_
          have Bw5 := Bw4
          clear Bw4)
       | (have hgo := Bw5; clear hgo
          refine wpList_build_arr rfl 48 #[(0, Operand.tmp 15)] rfl (arrOf 4 (ewF D)) ?_ ?_
          · simp only [List.map_toArray, List.map_cons, List.map_nil]; exact builtS _
          have Bw6 := Bw5
          clear Bw5)
       | (have hgo := Bw6; clear hgo
          refine wpList_store_as rfl 48 (.tmp 2) (.tmp 16) rfl 4 (ewF D) arrS r_t2 rfl rfl (by omega) (fun _ _ => rfl) (fun i hi => putN_whole hi) ?_
          intro w7 q gk
          replace r_t1 := gb_rowIs r_t1 gk n_t1_t2
          replace r_t3 := gb_rowIs r_t3 gk (Ne.symm n_t2_t3)
          replace r_t2 := q
          have Bw7 := zbg HGS Bw6 gk l_t2
          clear Bw6 gk q))
     exact ret_cell_as _ rfl arrS r_t2 rfl (by omega) (fun _ _ => rfl) rfl ⟨by rw [HRES.out], Bw7⟩
set_option maxHeartbeats 4000000 in
set_option maxRecDepth 10000 in
theorem sNeg_any (A : Nat) (w : World) (hA : A < ordL) : Calls Tryz.prog 113 #[.agg (arrOf 4 (ewF A))] w fun e w' => e = .returned (.agg (arrOf 4 (ewF (oppL A)))) ∧ Below w.heap.size w w' := by
 have Bw0 := Below.refl w.heap.size w
 have HGS : Hid (∀ wq : World, Below w.heap.size w wq → w.heap.size ≤ wq.heap.size) := Lib.hid fun wq h => h.size
 have hdif := fun w => difference_any ordL A (ordL - A) 0 w ordL_B4 (Nat.lt_trans hA ordL_B4) (Nat.lt_of_le_of_lt (Nat.sub_le _ _) ordL_B4) (by omega)
 have hlow := fun w => lowered_any (ordL - A) w (by have := ordL_pos; omega)
 have HRES : Hid ((ordL - A) % ordL = oppL A) := Lib.hid rfl
 obtain ⟨D, hD⟩ := nat_var (ordL - A)
 rw [← hD, show ((0 : Nat) : Int) = 0 from rfl] at hdif
 rw [← hD] at hlow HRES
 have HDIF := Lib.hid hdif
 have HLOW := Lib.hid hlow
 clear hdif hlow hD hA
 go_enter Tryz.func113, Tryz.ntmps113
 go_wp2_with (first
   | (have hgo := Bw0; clear hgo
      refine wpList_box_row rfl 48 (.tmp 0) rfl 4 (ewF A) rfl ?_
      intro b_t1 w1 lk r_t1 kk
      have l_t1 := zrl HGS Bw0 lk
      have Bw1 := zbt HGS Bw0 kk
      clear Bw0 kk lk)
   | (have hgo := Bw1; clear hgo
      refine wpList_alloc_row rfl 48 rfl 4 (u64f fun _ => 0) zeroS ?_
      intro b_t2 w2 lk r_t2 kk
      have n_t1_t2 := zrn r_t1 lk
      have l_t2 := zrl HGS Bw1 lk
      replace r_t1 := zrb r_t1 kk
      have Bw2 := zbt HGS Bw1 kk
      clear Bw1 kk lk))
 have Bw3 := Bw2.drew
 replace r_t1 := World.rowIs.drew r_t1
 replace r_t2 := World.rowIs.drew r_t2
 clear Bw2
 refine zpo [] (.rd 1 (.rd 2 .done)) #[false, true, true, false, false, false, false, false, false, false] [0, 3, 4, 5, 6, 7, 8, 9] [some 6, some 9, some 5, some 10, some 11, some 3, none, some 4] [[], [0], [1], [2], [2], [], [0, 1, 2, 3, 5], [0, 1, 2, 3, 4, 5, 6]] [(0, []), (1, []), (2, [1]), (3, [0, 2, 0]), (4, [3]), (5, [4]), (6, [4]), (7, []), (8, [7, 5, 3, 0, 1, 2, 3, 4, 5, 7]), (9, [6, 8, 0, 1, 2, 3, 4, 5, 6, 7, 8])] 6 ?_
 refine lintz_pure 7 _ _ (.pointer (some ⟨b_t1, 0, none⟩)) rfl rfl rfl rfl rfl (fun w0 hb => by unfold mkOp; go_simp; all_goals (with_reducible rfl)) ?_
 simp only [Act.put, zA, zB, zC]
 refine zld (ewF A) arrW r_t1 rfl (fun i hi => by rw [Nat.zero_add]) rfl rfl rfl rfl rfl (by omega) ?_
 simp only [Act.put, zA, zB, zC]
 refine lintz_leaf ?_
 refine po_start [.val (.agg (arrOf 4 (ewF ordL))), .val (.tuple #[.agg (arrOf 4 (ewF D)), (.int .u64 0)]), .val (.tuple #[.agg (arrOf 4 (ewF D)), (.int .u64 0)]), .val (.agg (arrOf 4 (ewF D))), .val ((.int .u64 0)), .row 46 4 (u64f fun _ => 0) 6 (ewF D), .nil, .val ((.int .u64 0))] [] (fun i hi => absurd hi (Nat.not_lt_zero _)) (fun HWF m gz wa p az hp hm hmp hcl hdn hE hJ hS hO => ?_) (fun gz wa hE hJ => ?_)
 · rcases (show p = 0 ∨ p = 1 ∨ p = 2 ∨ p = 3 ∨ p = 4 ∨ p = 5 ∨ p = 6 ∨ p = 7 by have h9 : p < 8 := hp; omega) with rfl | rfl | rfl | rfl | rfl | rfl | rfl | rfl
   · exact po_k HWF hJ hE (order_any _) rfl rfl rfl rfl rfl rfl (ar0)
   · have e8 : az.eval (.tmp 8) = .agg (arrOf 4 (ewF A)) := hO 8 rfl
     exact po_k HWF hJ hE (HDIF.out _) rfl rfl rfl rfl rfl rfl (ar2 (po_e hS hdn hJ 0 6 rfl rfl rfl rfl) e8)
   · exact po_p _ HWF hJ hE rfl rfl rfl rfl rfl rfl rfl (x_move (po_e hS hdn hJ 1 9 rfl rfl rfl rfl))
   · have e5 := po_e hS hdn hJ 2 5 rfl rfl rfl rfl
     exact po_p (Op.extract (Operand.tmp 5) 0) HWF hJ hE rfl rfl rfl rfl rfl rfl rfl (by first | (simp only [execOp, mkOp, eval_const, e5]; done) | (simp only [execOp, mkOp, eval_const, e5]; go_simp))
   · have e5 := po_e hS hdn hJ 2 5 rfl rfl rfl rfl
     exact po_p (Op.extract (Operand.tmp 5) 1) HWF hJ hE rfl rfl rfl rfl rfl rfl rfl (by first | (simp only [execOp, mkOp, eval_const, e5]; done) | (simp only [execOp, mkOp, eval_const, e5]; go_simp))
   · exact po_alloc 3 _ 46 4 (u64f fun _ => 0) _ _ HWF hJ rfl (po_notyet hcl hmp (by rw [hm]; exact hp) (by decide)) hE rfl rfl rfl rfl rfl rfl zeroW
   · exact po_sr 5 hm hp hmp hdn hJ hE rfl rfl rfl rfl rfl rfl rfl rfl (po_e0 hS hdn 5 3 rfl rfl rfl) (po_e hS hdn hJ 3 10 rfl rfl rfl rfl) arrW (fun _ _ => rfl)
   · exact po_p _ HWF hJ hE rfl rfl rfl rfl rfl rfl rfl (x_assign (po_e hS hdn hJ 4 11 rfl rfl rfl rfl))
 · obtain ⟨b_t3, p_t3, lk_t3, r_t3, d_t3⟩ := hJ.row 5 (by decide) rfl (by decide)
   rw [putO_true _ _ _ _ _ rfl]
   simp only [putA, Nat.zero_add, Nat.reduceAdd]
   rw [hJ.tt 0 rfl, hJ.tt 1 rfl, hJ.tt 2 rfl, hJ.tt 3 rfl, hJ.tt 4 rfl, p_t3, hJ.tt 7 rfl]
   simp only [Act.put, zA, zB, zC]
   refine po_end ?_
   have n_t1_t3 := zrn r_t1 lk_t3
   have n_t2_t3 := zrn r_t2 lk_t3
   have l_t3 := zrl HGS Bw3 lk_t3
   replace r_t1 := Keep.row hE r_t1 rfl
   replace r_t2 := Keep.row hE r_t2 rfl
   have Bw4 := hE.below Bw3 (HGS.out _ Bw3) rfl
   clear Bw3 hE hJ p_t3 lk_t3 d_t3
   go_wp2_with (first
     | (have hgo := Bw4; clear hgo
        refine wpList_load_as rfl 46 (.tmp 3) rfl 4 (ewF D) arrW r_t3 rfl (by omega) (fun i hi => by rw [Nat.zero_add]) ?_
        have Bw5 := Bw4
        clear Bw4)
     | (have hgo := Bw5; clear hgo
        go_at_call 66
        refine (HLOW.out _).mono ?_
        rintro e w4 ⟨rfl, kk⟩
        replace r_t1 := zrb r_t1 kk
        replace r_t2 := zrb r_t2 kk
        replace r_t3 := zrb r_t3 kk
        have Bw6 := zbt HGS Bw5 kk
        clear Bw5 kk)
     | (have hgo := Bw6; clear hgo
        refine wpList_store_as rfl 48 (.tmp 2) (.tmp 13) rfl 4 (ewF (D % ordL)) arrS r_t2 rfl rfl (by omega) (fun _ _ => rfl) (fun i hi => putN_whole hi) ?_
        intro w5 q gk
        replace r_t1 := gb_rowIs r_t1 gk n_t1_t2
        replace r_t3 := gb_rowIs r_t3 gk (Ne.symm n_t2_t3)
        replace r_t2 := q
        have Bw7 := zbg HGS Bw6 gk l_t2
        clear Bw6 gk q))
   exact ret_cell_as _ rfl arrS r_t2 rfl (by omega) (fun _ _ => rfl) rfl ⟨by rw [HRES.out], Bw7⟩
set_option maxHeartbeats 4000000 in
set_option maxRecDepth 10000 in
theorem sAdd_any (A C : Nat) (w : World) (hA : A < ordL) (hC : C < ordL) : Calls Tryz.prog 26 #[.agg (arrOf 4 (ewF A)), .agg (arrOf 4 (ewF C))] w fun e w' => e = .returned (.agg (arrOf 4 (ewF ((A + C) % ordL)))) ∧ Below w.heap.size w w' := by
 have Bw0 := Below.refl w.heap.size w
 have HGS : Hid (∀ wq : World, Below w.heap.size w wq → w.heap.size ≤ wq.heap.size) := Lib.hid fun wq h => h.size
 have hlow := fun w => lowered_any (A + C) w (by omega)
 have HLOW := Lib.hid hlow
 clear hlow hA hC
 go_enter Tryz.func26, Tryz.ntmps26
 go_wp2_with (first
   | (have hgo := Bw0; clear hgo
      refine wpList_box_row rfl 48 (.tmp 0) rfl 4 (ewF A) rfl ?_
      intro b_t2 w1 lk r_t2 kk
      have l_t2 := zrl HGS Bw0 lk
      have Bw1 := zbt HGS Bw0 kk
      clear Bw0 kk lk)
   | (have hgo := Bw1; clear hgo
      refine wpList_box_row rfl 48 (.tmp 1) rfl 4 (ewF C) rfl ?_
      intro b_t3 w2 lk r_t3 kk
      have n_t2_t3 := zrn r_t2 lk
      have l_t3 := zrl HGS Bw1 lk
      replace r_t2 := zrb r_t2 kk
      have Bw2 := zbt HGS Bw1 kk
      clear Bw1 kk lk)
   | (have hgo := Bw2; clear hgo
      refine wpList_alloc_row rfl 48 rfl 4 (u64f fun _ => 0) zeroS ?_
      intro b_t4 w3 lk r_t4 kk
      have n_t2_t4 := zrn r_t2 lk
      have n_t3_t4 := zrn r_t3 lk
      have l_t4 := zrl HGS Bw2 lk
      replace r_t2 := zrb r_t2 kk
      replace r_t3 := zrb r_t3 kk
      have Bw3 := zbt HGS Bw2 kk
      clear Bw2 kk lk)
   | (have hgo := Bw3; clear hgo
      refine wpList_load_as rfl 46 (.tmp 9) rfl 4 (ewF A) arrW r_t2 rfl (by omega) (fun i hi => by rw [Nat.zero_add]) ?_
      have Bw4 := Bw3
      clear Bw3)
   | (have hgo := Bw4; clear hgo
      refine wpList_alloc_row rfl 46 rfl 4 (u64f fun _ => 0) zeroW ?_
      intro b_t5 w6 lk r_t5 kk
      have n_t2_t5 := zrn r_t2 lk
      have n_t3_t5 := zrn r_t3 lk
      have n_t4_t5 := zrn r_t4 lk
      have l_t5 := zrl HGS Bw4 lk
      replace r_t2 := zrb r_t2 kk
      replace r_t3 := zrb r_t3 kk
      replace r_t4 := zrb r_t4 kk
      have Bw5 := zbt HGS Bw4 kk
      clear Bw4 kk lk)
   | (have hgo := Bw5; clear hgo
      refine wpList_store_as rfl 46 (.tmp 5) (.tmp 10) rfl 4 (ewF A) arrW r_t5 rfl rfl (by omega) (fun _ _ => rfl) (fun i hi => putN_whole hi) ?_
      intro w7 q gk
      replace r_t2 := gb_rowIs r_t2 gk n_t2_t5
      replace r_t3 := gb_rowIs r_t3 gk n_t3_t5
      replace r_t4 := gb_rowIs r_t4 gk n_t4_t5
      replace r_t5 := q
      have Bw6 := zbg HGS Bw5 gk l_t5
      clear Bw5 gk q)
   | (have hgo := Bw6; clear hgo
      refine wpList_load_as rfl 46 (.tmp 11) rfl 4 (ewF C) arrW r_t3 rfl (by omega) (fun i hi => by rw [Nat.zero_add]) ?_
      have Bw7 := Bw6
      clear Bw6))
 go_loopw [6, 13] (fun cv iv wr => ∃ j : Nat, j ≤ 4 ∧ iv = .int .i64 (j : Int) ∧ cv = .int .u64 ((addW A C j : Nat) : Int) ∧ wr.rowIs b_t5 46 4 (u64f fun i => if i < j then wd (A + C) i else wd A i) ∧ wr.rowIs b_t4 48 4 (u64f fun _ => 0) ∧ Below w.heap.size w wr) (fun _ iv _ => 4 - (intOf iv).toNat)
 case atStart => exact ⟨0, Nat.zero_le _, rfl, by rw [addW_zero]; rfl, r_t5.congr fun i _ => rfl, r_t4, Bw7⟩
 case round =>
 clear r_t2 r_t3 r_t5 r_t4 n_t2_t5 n_t2_t3 n_t2_t4 n_t3_t4 n_t3_t5 l_t2 l_t3 Bw7
 obtain ⟨j, hj, rfl, rfl, r_t5, r_t4, B⟩ := hrel
 by_cases hlt : j < 4
 · have hjI : 0 ≤ (j : Int) ∧ (j : Int) < 4 := by omega
   obtain ⟨y, hy⟩ := nat_var (wd C j)
   have HY := Lib.hid hy.symm
   have hstep := wd_sum A C j
   have hfr := r_t5.frozen j
   have hcL : wr.cell? ⟨b_t5, j, none⟩ = some (.int .u64 ((wd A j : Nat) : Int)) := by
     have h0 := r_t5.cell (i := j) hlt
     rw [h0]
     show some (Value.int .u64 (((if j < j then wd (A + C) j else wd A j) : Nat) : Int)) = _
     rw [if_neg (Nat.lt_irrefl j)]
   have HSET : Hid ((wr.setCell ⟨b_t5, j, none⟩ (.int .u64 ((wd (A + C) j : Nat) : Int))).rowIs b_t5 46 4 (u64f fun i => if i < j + 1 then wd (A + C) i else wd A i)) := Lib.hid (row_set r_t5 _ _ _ (fun i hi => by
     by_cases e : i = j
     · subst e; rw [if_pos (Nat.lt_succ_self i), if_pos rfl]
     · rw [if_neg e]
       by_cases h2 : i < j
       · rw [if_pos h2, if_pos (by omega)]
       · rw [if_neg h2, if_neg (by omega)]))
   have hrun := add64_run (wd A j) (wd C j) (addW A C j) (addW_le A C j)
   rw [hstep.1, hstep.2, ← hy] at hrun
   have HC2 := Lib.hid (rfl : addW A C (j + 1) = addW A C (j + 1))
   obtain ⟨c2, hc2⟩ := nat_var (addW A C (j + 1))
   rw [← hc2] at hrun
   replace HC2 := Lib.hid hc2
   generalize wd (A + C) j = s at *
   generalize addW A C j = c at *
   generalize wd A j = x at *
   clear hstep hc2 hy
   go_wp2_with (first
     | refine wpList_indexW rfl (.tmp 12) (.tmp 13) rfl (wd C) y HY.out rfl rfl hlt ?_
     | simp only [hrun])
   go_roundw
   case rel => exact ⟨j + 1, by omega, by go_num, by rw [HC2.out], HSET.out, r_t4.setOther (show b_t4 ≠ (⟨b_t5, j, none⟩ : Addr).block from n_t4_t5) _, B.setCell (show w.heap.size ≤ (⟨b_t5, j, none⟩ : Addr).block from l_t5) _⟩
   case measure => simp [intOf]; omega
 · obtain rfl : j = 4 := by omega
   replace r_t5 : wr.rowIs b_t5 46 4 (ewF (A + C)) := r_t5.congr fun i hi => by dsimp only [ewF, u64f]; rw [if_pos hi]
   have Bw0 := B
   clear B
   go_wp2_with (first
     | (have hgo := Bw0; clear hgo
        refine wpList_load_as rfl 46 (.tmp 5) rfl 4 (ewF (A + C)) arrW r_t5 rfl (by omega) (fun i hi => by rw [Nat.zero_add]) ?_
        have Bw1 := Bw0
        clear Bw0)
     | (have hgo := Bw1; clear hgo
        go_at_call 66
        refine (HLOW.out _).mono ?_
        rintro e w502 ⟨rfl, kk⟩
        replace r_t4 := zrb r_t4 kk
        replace r_t5 := zrb r_t5 kk
        have Bw2 := zbt HGS Bw1 kk
        clear Bw1 kk)
     | (have hgo := Bw2; clear hgo
        refine wpList_store_as rfl 48 (.tmp 4) (.tmp 30) rfl 4 (ewF ((A + C) % ordL)) arrS r_t4 rfl rfl (by omega) (fun _ _ => rfl) (fun i hi => putN_whole hi) ?_
        intro w503 q gk
        replace r_t5 := gb_rowIs r_t5 gk (Ne.symm n_t4_t5)
        replace r_t4 := q
        have Bw3 := zbg HGS Bw2 gk l_t4
        clear Bw2 gk q))
   exact ret_cell_as _ rfl arrS r_t4 rfl (by omega) (fun _ _ => rfl) rfl ⟨rfl, Bw3⟩
theorem mulW_outN (A C : Nat) (f : Nat → Nat) (i c n : Nat) (hi : i + n < 8) (hC : C < 18446744073709551616 ^ n) (h : valW f 8 + c * 18446744073709551616 ^ (i + n) = mulW A C i n) (h0 : f (i + n) = 0) : valW (setAt f (i + n) c) 8 = mulW A C (i + 1) 0 := by
 have h1 := valW_setAt f (i + n) c 8 hi
 rw [h0, Nat.zero_mul, Nat.add_zero] at h1
 rw [h1, h]
 unfold mulW
 rw [valW_all _ _ hC]
 show _ = (valW (wd A) i + wd A i * 18446744073709551616 ^ i) * C + _ * 0
 rw [Nat.add_mul, Nat.mul_zero, Nat.add_zero]
theorem mulW_allN (A C n : Nat) (hA : A < 18446744073709551616 ^ n) : mulW A C n 0 = A * C := by
 unfold mulW
 rw [valW_all _ _ hA]
 show A * C + _ * 0 = _
 rw [Nat.mul_zero, Nat.add_zero]
set_option maxHeartbeats 4000000 in
set_option maxRecDepth 10000 in
theorem times_any (A C na nb ga gb : Nat) (ta tb : TypeId) (w : World) (hn : na + nb ≤ 8) (hA : A < 18446744073709551616 ^ na) (hC : C < 18446744073709551616 ^ nb) (ra : w.rowIs ga ta na (ewF A)) (rb : w.rowIs gb tb nb (ewF C)) : Calls Tryz.prog 68 #[.slice (some ⟨ga, 0, none⟩) na na, .slice (some ⟨gb, 0, none⟩) nb nb] w fun e w' => e = .returned (.agg (arrOf 8 (ewF (A * C)))) ∧ Below w.heap.size w w' := by
 have Bw0 := Below.refl w.heap.size w
 have HGS : Hid (∀ wq : World, Below w.heap.size w wq → w.heap.size ≤ wq.heap.size) := Lib.hid fun wq h => h.size
 have HALL := Lib.hid (mulW_allN A C na hA)
 have HC := Lib.hid hC
 have Hn := Lib.hid hn
 have hna : na < 9 := by omega
 have hnb : nb < 9 := by omega
 have HLA := Lib.hid ra.lt
 have HLB := Lib.hid rb.lt
 clear hA hC
 go_enter Tryz.func68, Tryz.ntmps68
 go_wp2_with (first
   | (have hgo := Bw0; clear hgo
      refine wpList_alloc_row rfl 83 rfl 8 (u64f fun _ => 0) zeroW8 ?_
      intro b_t4 w1 lk r_t4 kk
      have l_t4 := Nat.le_trans (HGS.out _ Bw0) lk
      have Bw1 := Bw0.trans (kk.mono (HGS.out _ Bw0))
      replace ra := World.rowIs.of_block ra (kk.block _ HLA.out)
      replace rb := World.rowIs.of_block rb (kk.block _ HLB.out)
      have nat4 : ga ≠ b_t4 := Nat.ne_of_lt (Nat.lt_of_lt_of_le HLA.out lk)
      have nbt4 : gb ≠ b_t4 := Nat.ne_of_lt (Nat.lt_of_lt_of_le HLB.out lk)
      clear Bw0 kk lk))
 go_loopw [17] (fun ii wr => ∃ (i : Nat) (f : Nat → Nat), i ≤ na ∧ ii = .int .i64 (i : Int) ∧ wr.rowIs b_t4 83 8 (u64f f) ∧ Hid (valW f 8 = mulW A C i 0) ∧ Hid (∀ j, f j < 18446744073709551616) ∧ Hid (∀ j, i + nb ≤ j → f j = 0) ∧ wr.rowIs ga ta na (ewF A) ∧ wr.rowIs gb tb nb (ewF C) ∧ Below w.heap.size w wr) (fun ii _ => na - (intOf ii).toNat)
 case atStart => exact ⟨0, fun _ => 0, Nat.zero_le _, rfl, r_t4, Lib.hid (by rw [mulW_zero]; decide), Lib.hid (fun _ => (by decide : (0 : Nat) < 18446744073709551616)), Lib.hid (fun j _ => rfl), ra, rb, Bw1⟩
 case round =>
 clear r_t4 ra rb Bw1
 obtain ⟨i, f, hi, rfl, r_t4, HV, HBD, HZ, ra, rb, B⟩ := hrel
 by_cases hlt : i < na
 · have hiI : 0 ≤ (i : Int) ∧ (i : Int) < (na : Int) := by omega
   obtain ⟨x, hx⟩ := nat_var (wd A i)
   have hcx : wr.cell? ⟨ga, i, none⟩ = some (.int .u64 (x : Int)) := by rw [hx]; exact ra.cell hlt
   have HXL : Hid (x < 18446744073709551616) := Lib.hid (by rw [hx]; exact wd_lt A i)
   have HX := Lib.hid hx.symm
   clear hx
   go_wp2
   go_loopw [7, 24] (fun cv kk wr => ∃ (k c : Nat) (f : Nat → Nat), k ≤ nb ∧ kk = .int .i64 (k : Int) ∧ cv = .int .u64 (c : Int) ∧ Hid (c < 18446744073709551616) ∧ wr.rowIs b_t4 83 8 (u64f f) ∧ Hid (valW f 8 + c * 18446744073709551616 ^ (i + k) = mulW A C i k) ∧ Hid (∀ j, f j < 18446744073709551616) ∧ Hid (∀ j, i + nb ≤ j → f j = 0) ∧ wr.rowIs ga ta na (ewF A) ∧ wr.rowIs gb tb nb (ewF C) ∧ Below w.heap.size w wr) (fun _ kk _ => nb - (intOf kk).toNat)
   case atStart => exact ⟨0, 0, f, Nat.zero_le _, rfl, rfl, Lib.hid (by decide), r_t4, Lib.hid (by rw [Nat.zero_mul, Nat.add_zero]; exact HV.out), HBD, HZ, ra, rb, B⟩
   case round =>
     clear r_t4 HV HBD HZ ra rb B hcx
     obtain ⟨k, c, f, hk, rfl, rfl, HCL, r_t4, HV, HBD, HZ, ra, rb, B⟩ := hrel
     by_cases hlk : k < nb
     · have hkI : 0 ≤ (k : Int) ∧ (k : Int) < (nb : Int) := by omega
       have hik : i + k < 8 := by omega
       obtain ⟨y, hy⟩ := nat_var (wd C k)
       have hcy : wr.cell? ⟨gb, k, none⟩ = some (.int .u64 (y : Int)) := by rw [hy]; exact rb.cell hlk
       have hyl : y < 18446744073709551616 := by rw [hy]; exact wd_lt C k
       have hcW : wr.cell? ⟨b_t4, i + k, none⟩ = some (.int .u64 ((f (i + k) : Nat) : Int)) := r_t4.cell hik
       have hfr := r_t4.frozen (i + k)
       have hm := mul64_any x y HXL.out hyl
       have hall := product_le x y (f (i + k)) c HXL.out hyl (HBD.out _) HCL.out
       have hset := fun lo : Nat => row_set r_t4 (i + k) lo (setAt f (i + k) lo) (fun _ _ => rfl)
       have hin := fun lo hi => mulW_in A C f i k c lo hi hik HV.out
       rw [HX.out, ← hy] at hin
       have hw1 : IntKind.i64.wrap ((i : Int) + (k : Int)) = ((i + k : Nat) : Int) := by rw [IntWalk.i64_in _ (by omega)]; omega
       have hikI : 0 ≤ ((i + k : Nat) : Int) ∧ ((i + k : Nat) : Int) < 8 := by omega
       have hbd := fun lo (h : lo < 18446744073709551616) => setAt_lt f (i + k) lo HBD.out h
       have hz := fun lo => setAt_zero f (i + k) lo (i + nb) (i + nb) HZ.out (Nat.le_refl _) (by omega)
       have hul := HBD.out (i + k)
       have hcl := HCL.out
       generalize f (i + k) = u at *
       generalize x * y = xy at *
       obtain ⟨h0, hh0⟩ := nat_var (xy / 18446744073709551616)
       obtain ⟨l0, hl0⟩ := nat_var (xy % 18446744073709551616)
       rw [← hh0, ← hl0] at hm
       obtain ⟨l1, hl1⟩ := nat_var ((l0 + c) % 18446744073709551616)
       obtain ⟨c1, hc1⟩ := nat_var ((l0 + c) / 18446744073709551616)
       obtain ⟨l2, hl2⟩ := nat_var ((l1 + u) % 18446744073709551616)
       obtain ⟨c2, hc2⟩ := nat_var ((l1 + u) / 18446744073709551616)
       have r1 := add64_run l0 c 0 (by omega)
       have r2 := add64_run l1 u 0 (by omega)
       rw [Nat.add_zero, ← hl1, ← hc1, show ((0 : Nat) : Int) = 0 from rfl] at r1
       rw [Nat.add_zero, ← hl2, ← hc2, show ((0 : Nat) : Int) = 0 from rfl] at r2
       have w1 : IntKind.u64.wrap ((h0 : Int) + (c1 : Int)) = ((h0 + c1 : Nat) : Int) := by rw [IntWalk.u64_in _ ⟨by omega, by omega⟩]; omega
       have w2 : IntKind.u64.wrap (((h0 + c1 : Nat) : Int) + (c2 : Int)) = ((h0 + c1 + c2 : Nat) : Int) := by rw [IntWalk.u64_in _ ⟨by omega, by omega⟩]; omega
       have hHI : h0 + c1 + c2 < 18446744073709551616 := by omega
       have hLO : l2 < 18446744073709551616 := by omega
       have HIN := Lib.hid (hin l2 (h0 + c1 + c2) (by omega))
       have HSET := Lib.hid (hset l2)
       have HBD2 := Lib.hid (hbd l2 hLO)
       have HZ2 := Lib.hid (hz l2)
       generalize h0 + c1 + c2 = hi2 at *
       generalize h0 + c1 = hi1 at *
       have HHI := Lib.hid hHI
       have HM := Lib.hid hm
       generalize setAt f (i + k) l2 = fn at *
       generalize hik2 : i + k = ik at *
       clear hin hset hbd hz hm hh0 hl0 hl1 hc1 hl2 hc2 hHI hLO hall hyl hy hik hik2 HV HBD HZ hul hcl
       go_wp2_with (first
         | (go_at_call 114; refine (HM.out _).mono ?_; rintro e w' ⟨rfl, rfl⟩)
         | simp only [r1]
         | simp only [r2])
       go_roundw
       case rel => exact ⟨k + 1, hi2, fn, by omega, by go_num, rfl, HHI, HSET.out, HIN, HBD2, HZ2, ra.setOther (show ga ≠ (⟨b_t4, ik, none⟩ : Addr).block from nat4) _, rb.setOther (show gb ≠ (⟨b_t4, ik, none⟩ : Addr).block from nbt4) _, B.setCell (show w.heap.size ≤ (⟨b_t4, ik, none⟩ : Addr).block from l_t4) _⟩
       case measure => simp [intOf]; omega
     · obtain rfl : k = nb := by omega
       have hik : i + k < 8 := by omega
       have hcW : wr.cell? ⟨b_t4, i + k, none⟩ = some (.int .u64 ((f (i + k) : Nat) : Int)) := r_t4.cell hik
       have hfr := r_t4.frozen (i + k)
       have HSET := Lib.hid (row_set r_t4 (i + k) c (setAt f (i + k) c) (fun _ _ => rfl))
       have HOUT := Lib.hid (mulW_outN A C f i c k hik HC.out HV.out (HZ.out _ (Nat.le_refl _)))
       have HBD2 := Lib.hid (setAt_lt f (i + k) c HBD.out HCL.out)
       have HZ2 := Lib.hid (setAt_zero f (i + k) c (i + k) (i + 1 + k) HZ.out (by omega) (by omega))
       have hw1 : IntKind.i64.wrap ((i : Int) + (k : Int)) = ((i + k : Nat) : Int) := by rw [IntWalk.i64_in _ (by omega)]; omega
       have hikI : 0 ≤ ((i + k : Nat) : Int) ∧ ((i + k : Nat) : Int) < 8 := by omega
       generalize setAt f (i + k) c = fn at *
       generalize f (i + k) = u at *
       generalize hik2 : i + k = ik at *
       clear HV HBD HZ
       go_wp2
       go_roundw
       case rel => exact ⟨i + 1, fn, by omega, by go_num, HSET.out, HOUT, HBD2, HZ2, ra.setOther (show ga ≠ (⟨b_t4, ik, none⟩ : Addr).block from nat4) _, rb.setOther (show gb ≠ (⟨b_t4, ik, none⟩ : Addr).block from nbt4) _, B.setCell (show w.heap.size ≤ (⟨b_t4, ik, none⟩ : Addr).block from l_t4) _⟩
       case measure => simp [intOf]; omega
 · obtain rfl : i = na := by omega
   have HVAL : Hid (A * C = valW f 8) := Lib.hid (HV.out.trans HALL.out).symm
   replace r_t4 : wr.rowIs b_t4 83 8 (ewF (A * C)) := r_t4.congr fun j hj => by unfold ewF u64f; rw [HVAL.out, wd_valW f HBD.out j 8 hj]
   have Bw0 := B
   clear B HV HBD HZ ra rb
   go_wp2_with (first
     | (have hgo := Bw0; clear hgo
        refine wpList_load_as rfl 83 (.tmp 4) rfl 8 (ewF (A * C)) arrW8 r_t4 rfl (by omega) (fun i hi => by rw [Nat.zero_add]) ?_
        have Bw1 := Bw0
        clear Bw0)
     | (have hgo := Bw1; clear hgo
        refine wpList_store_as rfl 83 (.tmp 4) (.tmp 69) rfl 8 (ewF (A * C)) arrW8 r_t4 rfl rfl (by omega) (fun _ _ => rfl) (fun i hi => putN_whole hi) ?_
        intro w502 q gk
        replace r_t4 := q
        have Bw2 := Bw1.grown gk (HGS.out _ Bw1) (by intro k hk; cases hk; exact l_t4)
        clear Bw1 gk q))
   exact ret_cell_as _ rfl arrW8 r_t4 rfl (by omega) (fun _ _ => rfl) rfl ⟨rfl, Bw2⟩
end Go.Proofs.YtonhpmaiagbheaaGreat
namespace Go.Proofs.YtonhpmaiagbheaaGreat
open Go.RowKit Go.Deep
section
variable {P : Program} {ops : Array Oper} {rest : List Oper} {o : Oper} {a : Act} {w : World} {Q : Exit → Act → World → Prop}
theorem wpList_load_at (hgd : o.guard = none) (ty : TypeId) (x : Operand) (ho : o.op = .load ty x) {b m i : Nat} {t : TypeId} {f : Nat → Value} (v : Value) (hr : w.rowIs b t m f) (hx : a.eval x = .pointer (some ⟨b, i, none⟩)) (hi : i < m) (hv : f i = v)
   (hu : (P.underlying ty).map (fun d => match d with | .struct _ | .array _ _ => true | _ => false) = some false) (h : wpList P ops Q rest (a.put o.dst v) w) : wpList P ops Q (o :: rest) a w := by
 have hc := hr.cell hi
 rw [hv] at hc
 refine wpList_value hgd _ ?_ h
 rw [exec_mkOp, ho]
 exact exec_load_cell a.eval ty x o.type hx hu hc
theorem wpList_store_at (hgd : o.guard = none) (ty : TypeId) (x y : Operand) (ho : o.op = .store ty x y) {b m i v : Nat} {t : TypeId} {f : Nat → Nat} (g : Nat → Nat) (hr : w.rowIs b t m (u64f f)) (hx : a.eval x = .pointer (some ⟨b, i, none⟩)) (hy : a.eval y = .int .u64 (v : Int)) (hi : i < m)
   (hs : (P.info? ty).map (fun i => i.size) = some 1) (hg : ∀ j, j < m → g j = if j = i then v else f j) (h : ∀ w', w'.rowIs b t m (u64f g) → w.grownBy w' (some b) → wpList P ops Q rest (a.put o.dst undef) w') : wpList P ops Q (o :: rest) a w := by
 have hx' := exec_store_cell (P := P) a.eval ty x y o.type hr hx hy hs rfl rfl hi
 exact wpList_plain hgd fun _ hK => by
   unfold Oper.wp
   rw [exec_mkOp, ho, hx']
   exact hK _ _ (h _ (row_set hr i v g hg) (grownBy_set _ _ _ _))
end
def s252 : Nat := 7237005577332262213973186563042994240829374041602535252466099000494570602496
def excL : Nat := 27742317777372353535851937790883648493
theorem s252_W : s252 = 18446744073709551616 ^ 3 * 1152921504606846976 := by decide +kernel
theorem s252_pos : 0 < s252 := by decide +kernel
theorem ordL_parts : ordL = s252 + excL := by decide +kernel
theorem excL_lt : excL < s252 := by decide +kernel
theorem excL_W : excL < 18446744073709551616 ^ 2 := by decide +kernel
theorem arrW5 : IsArr Tryz.prog 137 5 := ⟨by kernel_rfl, by kernel_rfl⟩
theorem zeroW5 : (Tryz.prog.info? 137).map (fun i => i.zero) = some (some (.agg (arrOf 5 (u64f fun _ => 0)))) := by kernel_rfl
def f4 (x0 x1 x2 x3 : Nat) : Nat → Nat := fun i => if i = 0 then x0 else if i = 1 then x1 else if i = 2 then x2 else x3
theorem builtF4 (x0 x1 x2 x3 : Nat) : Tryz.prog.built 46 [(0, .int .u64 (x0 : Int)), (1, .int .u64 (x1 : Int)), (2, .int .u64 (x2 : Int)), (3, .int .u64 (x3 : Int))] = some (arrOf 4 (u64f (f4 x0 x1 x2 x3))) := by kernel_rfl
theorem builtF5 (x0 : Nat) : Tryz.prog.built 137 [(0, .int .u64 (x0 : Int))] = some (arrOf 5 (u64f fun i => if i = 0 then x0 else 0)) := by kernel_rfl
theorem wd_low252 (V j : Nat) (h : j < 4) : wd (V % s252) j = if j = 3 then wd V 3 % 1152921504606846976 else wd V j := by
 unfold wd
 by_cases e : j = 3
 · subst e
   rw [if_pos rfl, s252_W, Nat.mod_mul_right_div_self]
   omega
 · rw [if_neg e]
   have e2 : s252 = 18446744073709551616 ^ j * (18446744073709551616 * (18446744073709551616 ^ (2 - j) * 1152921504606846976)) := by
     rw [s252_W, show 3 = j + 1 + (2 - j) by omega, Nat.pow_add, Nat.pow_succ]
     ac_rfl
   rw [e2, Nat.mod_mul_right_div_self, Nat.mod_mul_right_mod]
theorem low_cells (V : Nat) : Tryz.prog.built 46 [(0, .int .u64 ((wd V 0 : Nat) : Int)), (1, .int .u64 ((wd V 1 : Nat) : Int)), (2, .int .u64 ((wd V 2 : Nat) : Int)), (3, .int .u64 ((wd V 3 % 1152921504606846976 : Nat) : Int))] = some (arrOf 4 (ewF (V % s252))) := by
 rw [builtF4]
 congr 1
 refine arrOf_congr fun i hi => ?_
 unfold ewF u64f
 rw [wd_low252 V i hi]
 unfold f4
 rcases (show i = 0 ∨ i = 1 ∨ i = 2 ∨ i = 3 by omega) with rfl | rfl | rfl | rfl <;> rfl
theorem wd_high252 (V j : Nat) : wd (V / s252) j = wd V (3 + j) / 1152921504606846976 + wd V (4 + j) * 16 % 18446744073709551616 := by
 unfold wd
 have e1 : V / s252 / 18446744073709551616 ^ j = V / 18446744073709551616 ^ (3 + j) / 1152921504606846976 := by
   rw [s252_W, Nat.div_div_eq_div_mul, Nat.div_div_eq_div_mul, Nat.pow_add]
   congr 1
   ac_rfl
 have e2 : V / 18446744073709551616 ^ (4 + j) = V / 18446744073709551616 ^ (3 + j) / 18446744073709551616 := by
   rw [Nat.div_div_eq_div_mul, ← Nat.pow_succ, show 4 + j = (3 + j).succ by omega]
 rw [e1, e2]
 generalize V / 18446744073709551616 ^ (3 + j) = U
 omega
theorem high_last (V : Nat) (h : V < 18446744073709551616 ^ 8) : wd (V / s252) 4 = wd V 7 / 1152921504606846976 := by
 rw [wd_high252]
 have e : wd V (4 + 4) = 0 := by
   unfold wd
   rw [Nat.div_eq_of_lt h]
 rw [e]
 show wd V 7 / 1152921504606846976 + 0 * 16 % 18446744073709551616 = _
 omega
theorem high252_lt (V : Nat) (h : V < 18446744073709551616 ^ 8) : V / s252 < 18446744073709551616 ^ 5 := by
 rw [Nat.div_lt_iff_lt_mul s252_pos]
 refine Nat.lt_of_lt_of_le h ?_
 decide +kernel
def hiF (V i : Nat) : Nat → Nat := fun j => if j < i then wd (V / s252) j else if j = i then wd V (3 + i) / 1152921504606846976 else 0
theorem hiF_end (V j : Nat) (h : V < 18446744073709551616 ^ 8) (hj : j < 5) : hiF V 4 j = wd (V / s252) j := by
 unfold hiF
 by_cases e : j < 4
 · rw [if_pos e]
 · rw [if_neg e, if_pos (by omega), show j = 4 by omega, high_last V h]
def hiG (V i : Nat) : Nat → Nat := fun j => if j = i then wd (V / s252) i else hiF V i j
theorem hiG_next (V i j : Nat) : hiF V (i + 1) j = if j = i + 1 then wd V (4 + i) / 1152921504606846976 else hiG V i j := by
 unfold hiG hiF
 by_cases h1 : j = i + 1
 · rw [if_neg (by omega), if_pos h1, if_pos h1, show 3 + (i + 1) = 4 + i by omega]
 · by_cases h2 : j = i
   · subst h2
     rw [if_pos (by omega), if_neg h1, if_pos rfl]
   · by_cases h3 : j < i
     · rw [if_pos (by omega), if_neg h1, if_neg h2, if_pos h3]
     · rw [if_neg (by omega), if_neg h1, if_neg h1, if_neg h2, if_neg h3, if_neg h2]
theorem builtHi (V h3 : Nat) (h : h3 = wd V 3 / 1152921504606846976) : Tryz.prog.built 137 [(0, .int .u64 (h3 : Int))] = some (arrOf 5 (u64f (hiF V 0))) := by
 rw [builtF5, h]
 congr 1
theorem less_by (V : Nat) (h : V / s252 ≠ 0) : V / s252 * excL < V := by
 have h1 : V / s252 * excL < V / s252 * s252 := Nat.mul_lt_mul_of_pos_left excL_lt (Nat.pos_of_ne_zero h)
 exact Nat.lt_of_lt_of_le h1 (Nat.div_mul_le_self V s252)
theorem reduced_eq (V : Nat) : (V % s252 + oppL (V / s252 * excL % ordL)) % ordL = V % ordL := by
 have h1 : s252 * (V / s252) + V % s252 = V := Nat.div_add_mod V s252
 have h2 : ordL * (V / s252 * excL / ordL) + V / s252 * excL % ordL = V / s252 * excL := Nat.div_add_mod _ _
 have h3 : V / s252 * excL % ordL < ordL := Nat.mod_lt _ ordL_pos
 unfold oppL
 rw [Nat.add_mod_mod]
 generalize V / s252 * excL % ordL = r at *
 have h4 : ordL * (V / s252) = s252 * (V / s252) + V / s252 * excL := by rw [ordL_parts, Nat.add_mul, Nat.mul_comm excL]
 have h5 : V % s252 + (ordL - r) + ordL * (V / s252) = V + ordL * (V / s252 * excL / ordL + 1) := by
   rw [Nat.mul_succ]
   generalize ordL * (V / s252 * excL / ordL) = t1 at *
   generalize V / s252 * excL = t2 at *
   generalize ordL * (V / s252) = t3 at *
   generalize s252 * (V / s252) = t4 at *
   omega
 have h6 := congrArg (· % ordL) h5
 rwa [Nat.add_mul_mod_self_left, Nat.add_mul_mod_self_left] at h6
theorem eq5 (w : World) (A : Nat) (hA : A < 18446744073709551616 ^ 5) : (binOp .eql 137 (.agg (arrOf 5 (ewF A))) (.agg (arrOf 5 (ewF 0)))).run Tryz.prog w = .ok (.bool (decide (A = 0))) w := by
 have h2 := run_eql_arr2 (P := Tryz.prog) w 137 45 5 .u64 (fun j => ((wd A j : Nat) : Int)) (fun j => ((wd 0 j : Nat) : Int)) (by kernel_rfl) (by kernel_rfl) (by kernel_rfl)
 refine h2.trans ?_
 have e : (∀ j, j < 5 → ((wd A j : Nat) : Int) = ((wd 0 j : Nat) : Int)) ↔ A = 0 := by
   constructor
   · intro h
     have h1 := valW_congr 5 (f := wd A) (g := wd 0) (fun j hj => by have := h j hj; omega)
     rwa [valW_all _ 5 hA, valW_all 0 5 (by decide)] at h1
   · intro h j _; rw [h]
 by_cases e0 : A = 0
 · rw [decide_eq_true e0, decide_eq_true (e.2 e0)]
 · rw [decide_eq_false e0, decide_eq_false (fun h => e0 (e.1 h))]
theorem exc_cells : (#[.int .u64 6346243789798364141, .int .u64 1503914060200516822] : Array Value) = arrOf 2 (ewF excL) := by kernel_rfl
theorem exec_exc (ρ : Operand → Value) (t : TypeId) (w : World) (h0 : ρ (.const (.int .u64 6346243789798364141)) = .int .u64 6346243789798364141) (h1 : ρ (.const (.int .u64 1503914060200516822)) = .int .u64 1503914060200516822) :
   (execOp ρ (mkOp (.buildSlice 103 2 #[(0, .const (.int .u64 6346243789798364141)), (1, .const (.int .u64 1503914060200516822))]) t)).run Tryz.prog w = .ok (.value (.slice (some ⟨w.heap.size, 0, none⟩) 2 2)) (w.alloc (.cells (arrOf 2 (ewF excL)) 45)) := by
 rw [← exc_cells]
 simp only [execOp, mkOp, List.map_toArray, List.map_cons, List.map_nil, h0, h1]
 go_simp
set_option maxHeartbeats 4000000 in
set_option maxRecDepth 10000 in
theorem reduced_upto (n : Nat) : ∀ V, V < n → V < 18446744073709551616 ^ 8 → ∀ w : World, Calls Tryz.prog 67 #[.agg (arrOf 8 (ewF V))] w fun e w' => e = .returned (.agg (arrOf 4 (ewF (V % ordL)))) ∧ Below w.heap.size w w' := by
 induction n with
 | zero => intro V h; exact absurd h (Nat.not_lt_zero V)
 | succ n ih =>
   intro V hVn hV w
   have Bw0 := Below.refl w.heap.size w
   have HGS : Hid (∀ wq : World, Below w.heap.size w wq → w.heap.size ≤ wq.heap.size) := Lib.hid fun wq h => h.size
   have HV := Lib.hid hV
   obtain ⟨m3, hm3⟩ := nat_var (wd V 3 % 1152921504606846976)
   obtain ⟨h3, hh3⟩ := nat_var (wd V 3 / 1152921504606846976)
   have hmask : bits .and .u64 ((wd V 3 : Nat) : Int) 1152921504606846975 = (m3 : Int) := by rw [hm3]; exact mask64 (wd V 3) 60 (wd_lt V 3) (by decide) 1152921504606846975 rfl
   have hshr : ((wd V 3 : Nat) : Int) / 1152921504606846976 = (h3 : Int) := by rw [hh3]; omega
   have hlow := low_cells V
   rw [← hm3] at hlow
   have HLOW := Lib.hid hlow
   have HHI := Lib.hid (builtHi V h3 hh3)
   have HRED : Hid (V / s252 ≠ 0 → ∀ w : World, Calls Tryz.prog 67 #[.agg (arrOf 8 (ewF (V / s252 * excL)))] w fun e w' => e = .returned (.agg (arrOf 4 (ewF (V / s252 * excL % ordL)))) ∧ Below w.heap.size w w') := Lib.hid fun h0 => ih _ (by have := less_by V h0; omega) (Nat.lt_trans (less_by V h0) hV)
   clear ih hV hVn hm3 hh3 hlow
   go_enter Tryz.func67, Tryz.ntmps67
   go_wp2_with (first
     | (have hgo := Bw0; clear hgo
        refine wpList_box_row rfl 83 (.tmp 0) rfl 8 (ewF V) rfl ?_
        intro b_t1 w1 lk r_t1 kk
        have l_t1 := zrl HGS Bw0 lk
        have Bw1 := zbt HGS Bw0 kk
        clear Bw0 kk lk)
     | (have hgo := Bw1; clear hgo
        refine wpList_alloc_row rfl 48 rfl 4 (u64f fun _ => 0) zeroS ?_
        intro b_t2 w2 lk r_t2 kk
        have n_t1_t2 := zrn r_t1 lk
        have l_t2 := zrl HGS Bw1 lk
        replace r_t1 := zrb r_t1 kk
        have Bw2 := zbt HGS Bw1 kk
        clear Bw1 kk lk)
     | (have hgo := Bw2; clear hgo
        refine wpList_load_at rfl 45 (.tmp 7) rfl (.int .u64 ((wd V 0 : Nat) : Int)) (i := 0) r_t1 rfl (by omega) rfl (by kernel_rfl) ?_
        have Bw3 := Bw2
        clear Bw2)
     | (have hgo := Bw3; clear hgo
        refine wpList_load_at rfl 45 (.tmp 9) rfl (.int .u64 ((wd V 1 : Nat) : Int)) (i := 1) r_t1 rfl (by omega) rfl (by kernel_rfl) ?_
        have Bw4 := Bw3
        clear Bw3)
     | (have hgo := Bw4; clear hgo
        refine wpList_load_at rfl 45 (.tmp 11) rfl (.int .u64 ((wd V 2 : Nat) : Int)) (i := 2) r_t1 rfl (by omega) rfl (by kernel_rfl) ?_
        have Bw5 := Bw4
        clear Bw4)
     | (have hgo := Bw5; clear hgo
        refine wpList_load_at rfl 45 (.tmp 13) rfl (.int .u64 ((wd V 3 : Nat) : Int)) (i := 3) r_t1 rfl (by omega) rfl (by kernel_rfl) ?_
        have Bw6 := Bw5
        clear Bw5)
     | (have hgo := Bw6; clear hgo
        refine wpList_build_arr rfl 46 _ rfl (arrOf 4 (ewF (V % s252))) (by simp only [List.map_toArray, List.map_cons, List.map_nil]; exact HLOW.out) ?_
        have Bw7 := Bw6
        clear Bw6)
     | (have hgo := Bw7; clear hgo
        refine wpList_build_arr rfl 48 #[(0, Operand.tmp 16)] rfl (arrOf 4 (ewF (V % s252))) ?_ ?_
        · simp only [List.map_toArray, List.map_cons, List.map_nil]; exact builtS _
        have Bw8 := Bw7
        clear Bw7)
     | (have hgo := Bw8; clear hgo
        refine wpList_alloc_row rfl 48 rfl 4 (u64f fun _ => 0) zeroS ?_
        intro b_t3 w14 lk r_t3 kk
        have n_t1_t3 := zrn r_t1 lk
        have n_t2_t3 := zrn r_t2 lk
        have l_t3 := zrl HGS Bw8 lk
        replace r_t1 := zrb r_t1 kk
        replace r_t2 := zrb r_t2 kk
        have Bw9 := zbt HGS Bw8 kk
        clear Bw8 kk lk)
     | (have hgo := Bw9; clear hgo
        refine wpList_store_as rfl 48 (.tmp 3) (.tmp 17) rfl 4 (ewF (V % s252)) arrS r_t3 rfl rfl (by omega) (fun _ _ => rfl) (fun i hi => putN_whole hi) ?_
        intro w15 q gk
        replace r_t1 := gb_rowIs r_t1 gk n_t1_t3
        replace r_t2 := gb_rowIs r_t2 gk n_t2_t3
        replace r_t3 := q
        have Bw10 := zbg HGS Bw9 gk l_t3
        clear Bw9 gk q)
     | (have hgo := Bw10; clear hgo
        refine wpList_load_at rfl 45 (.tmp 18) rfl (.int .u64 ((wd V 3 : Nat) : Int)) (i := 3) r_t1 rfl (by omega) rfl (by kernel_rfl) ?_
        have Bw11 := Bw10
        clear Bw10)
     | (have hgo := Bw11; clear hgo
        refine wpList_build_arr rfl 137 _ rfl (arrOf 5 (u64f (hiF V 0))) (by simp only [List.map_toArray, List.map_cons, List.map_nil]; exact HHI.out) ?_
        have Bw12 := Bw11
        clear Bw11)
     | (have hgo := Bw12; clear hgo
        refine wpList_alloc_row rfl 137 rfl 5 (u64f fun _ => 0) zeroW5 ?_
        intro b_t4 w20 lk r_t4 kk
        have n_t1_t4 := zrn r_t1 lk
        have n_t2_t4 := zrn r_t2 lk
        have n_t3_t4 := zrn r_t3 lk
        have l_t4 := zrl HGS Bw12 lk
        replace r_t1 := zrb r_t1 kk
        replace r_t2 := zrb r_t2 kk
        replace r_t3 := zrb r_t3 kk
        have Bw13 := zbt HGS Bw12 kk
        clear Bw12 kk lk)
     | (have hgo := Bw13; clear hgo
        refine wpList_store_as rfl 137 (.tmp 4) (.tmp 21) rfl 5 (u64f (hiF V 0)) arrW5 r_t4 rfl rfl (by omega) (fun _ _ => rfl) (fun i hi => putN_whole hi) ?_
        intro w21 q gk
        replace r_t1 := gb_rowIs r_t1 gk n_t1_t4
        replace r_t2 := gb_rowIs r_t2 gk n_t2_t4
        replace r_t3 := gb_rowIs r_t3 gk n_t3_t4
        replace r_t4 := q
        have Bw14 := zbg HGS Bw13 gk l_t4
        clear Bw13 gk q)
     | (have hgo := Bw14; clear hgo
        refine wpList_op rfl (.slice 83 (.tmp 1) (some (.const (.int .i64 4))) none none) 103 (.slice (some ⟨b_t1, 4, none⟩) 4 4) rfl rfl (exec_sliceFromArr _ _ 45 _ _ _ 4 4 4 (n := 8) (by kernel_rfl) (by kernel_rfl) rfl rfl (by omega) rfl rfl) ?_
        have Bw15 := Bw14
        clear Bw14))
   clear hmask hshr
   go_loopw [24] (fun ii wr => ∃ i : Nat, i ≤ 4 ∧ ii = .int .i64 (i : Int) ∧ wr.rowIs b_t1 83 8 (ewF V) ∧ wr.rowIs b_t4 137 5 (u64f (hiF V i)) ∧ wr.rowIs b_t3 48 4 (ewF (V % s252)) ∧ wr.rowIs b_t2 48 4 (u64f fun _ => 0) ∧ Below w.heap.size w wr) (fun ii _ => 4 - (intOf ii).toNat)
   case atStart => exact ⟨0, Nat.zero_le _, rfl, r_t1, r_t4, r_t3, r_t2, Bw15⟩
   case round =>
   clear r_t1 r_t2 r_t3 r_t4 Bw15
   obtain ⟨i, hi, rfl, r_t1, r_t4, r_t3, r_t2, B⟩ := hrel
   by_cases hlt : i < 4
   · have hiI : 0 ≤ (i : Int) ∧ (i : Int) < 4 := by omega
     have hi5 : (i : Int) < 5 := by omega
     have hi6 : 0 ≤ ((i + 1 : Nat) : Int) ∧ ((i + 1 : Nat) : Int) < 5 := by omega
     have hii : IntKind.i64.wrap ((i : Int) + 1) = ((i + 1 : Nat) : Int) := by rw [IntWalk.i64_in _ (by omega)]; omega
     obtain ⟨x, hx⟩ := nat_var (wd V (4 + i))
     have hxl : x < 18446744073709551616 := by rw [hx]; exact wd_lt _ _
     obtain ⟨c, hc⟩ := nat_var (wd V (3 + i) / 1152921504606846976)
     have hcl : c < 16 := by have := wd_lt V (3 + i); omega
     obtain ⟨q, hq⟩ := nat_var (x % 1152921504606846976)
     obtain ⟨xs, hxs⟩ := nat_var (2 ^ 4 * q)
     obtain ⟨u, hu⟩ := nat_var (wd (V / s252) i)
     obtain ⟨z, hz⟩ := nat_var (x / 1152921504606846976)
     have hor := or_add64' 4 q c (by omega) (by omega)
     have huv : 2 ^ 4 * q + c = u := by rw [hu, wd_high252, ← hx, ← hc, hq]; omega
     rw [huv, ← hxs] at hor
     have hshl : IntKind.u64.wrap ((x : Int) * 16) = (xs : Int) := by rw [IntKind.wrap_u64]; omega
     have hshl' : IntKind.u64.wrap ((x : Int) * 2 ^ 4) = (xs : Int) := by rw [IntKind.wrap_u64]; omega
     have hshr : (x : Int) / 1152921504606846976 = (z : Int) := by omega
     have HCF : Hid (hiF V i i = c) := Lib.hid (by unfold hiF; rw [if_neg (Nat.lt_irrefl i), if_pos rfl, hc])
     have HXF : Hid (wd V (4 + i) = x) := Lib.hid hx.symm
     have HG1 : Hid (∀ j, j < 5 → hiG V i j = if j = i then u else hiF V i j) := Lib.hid (fun j _ => by unfold hiG; rw [hu])
     have HG2 : Hid (∀ j, j < 5 → hiF V (i + 1) j = if j = i + 1 then z else hiG V i j) := Lib.hid (fun j _ => by rw [hz, hx]; exact hiG_next V i j)
     clear hx hxl hc hcl hq hxs hu hz huv
     have Bw0 := B
     clear B
     go_wp2_with (first
       | refine wpList_load_at rfl 45 (.tmp 27) rfl (.int .u64 (x : Int)) (i := 4 + i) r_t1 (by go_simp) (by omega) (by show Value.int .u64 ((wd V (4 + i) : Nat) : Int) = _; rw [HXF.out]) (by kernel_rfl) ?_
       | refine wpList_load_at rfl 45 (.tmp 30) rfl (.int .u64 (c : Int)) (i := i) r_t4 (by go_simp) (by omega) (by show Value.int .u64 ((hiF V i i : Nat) : Int) = _; rw [HCF.out]) (by kernel_rfl) ?_
       | (refine wpList_store_at rfl 45 (.tmp 35) (.tmp 34) rfl (v := u) (i := i) (hiG V i) r_t4 (by go_simp) (by go_simp) (by omega) (by kernel_rfl) HG1.out ?_
          intro w1 q4 gk
          replace r_t1 := gb_rowIs r_t1 gk n_t1_t4
          replace r_t3 := gb_rowIs r_t3 gk n_t3_t4
          replace r_t2 := gb_rowIs r_t2 gk n_t2_t4
          have Bw1 := Bw0.grown gk (HGS.out _ Bw0) (by intro k hk; cases hk; exact l_t4)
          clear r_t4 gk Bw0)
       | (refine wpList_store_at rfl 45 (.tmp 40) (.tmp 39) rfl (v := z) (i := i + 1) (hiF V (i + 1)) q4 (by go_simp) (by go_simp) (by omega) (by kernel_rfl) HG2.out ?_
          intro w2 r_t4 gk
          replace r_t1 := gb_rowIs r_t1 gk n_t1_t4
          replace r_t3 := gb_rowIs r_t3 gk n_t3_t4
          replace r_t2 := gb_rowIs r_t2 gk n_t2_t4
          have Bw2 := Bw1.grown gk (HGS.out _ Bw1) (by intro k hk; cases hk; exact l_t4)
          clear q4 gk Bw1))
     go_roundw
     case rel => exact ⟨i + 1, by omega, by go_num, r_t1, r_t4, r_t3, r_t2, Bw2⟩
     case measure => simp [intOf]; omega
   · obtain rfl : i = 4 := by omega
     replace r_t4 : wr.rowIs b_t4 137 5 (ewF (V / s252)) := r_t4.congr fun i hi => by unfold ewF u64f; rw [hiF_end V i HV.out hi]
     have HQ := Lib.hid fun w x y => run_eqGuard_agg (P := Tryz.prog) w .eql 137 x y (arrOf 5 (ewF (V / s252))) (arrOf 5 (ewF 0)) (by kernel_rfl)
     have hE := fun w => eq5 w (V / s252) (high252_lt V HV.out)
     have HRES := Lib.hid (reduced_eq V)
     have HHL := Lib.hid (high252_lt V HV.out)
     have Bw0 := B
     clear B HLOW HHI
     by_cases h0 : V / s252 = 0
     · rw [decide_eq_true h0] at hE
       have HE := Lib.hid hE
       have HR2 : Hid (V % ordL = V % s252) := Lib.hid (by
         have e := Nat.div_add_mod V s252
         rw [h0, Nat.mul_zero, Nat.zero_add] at e
         rw [e]
         exact Nat.mod_eq_of_lt (Nat.lt_trans (by have h9 := Nat.mod_lt V s252_pos; rw [e] at h9; exact h9) (by decide +kernel)))
       clear hE h0 HRED
       go_wp2_with (first
         | (have hgo := Bw0; clear hgo
            refine wpList_load_as rfl 137 (.tmp 4) rfl 5 (ewF (V / s252)) arrW5 r_t4 rfl (by omega) (fun i hi => by rw [Nat.zero_add]) ?_
            have Bw1 := Bw0
            clear Bw0)
         | (have hgo := Bw1; clear hgo
            refine wpList_build_arr rfl 137 _ rfl (arrOf 5 (ewF 0)) (by kernel_rfl) ?_
            have Bw2 := Bw1
            clear Bw1)
         | (have hgo := Bw2; clear hgo
            refine wpList_bin2 rfl .eql 137 137 (.tmp 42) (.tmp 43) rfl (fun w => HQ.out w _ _) (fun w => HE.out w) rfl rfl ?_
            have Bw3 := Bw2
            clear Bw2)
         | (have hgo := Bw3; clear hgo
            refine wpList_load_as rfl 48 (.tmp 3) rfl 4 (ewF (V % s252)) arrS r_t3 rfl (by omega) (fun i hi => by rw [Nat.zero_add]) ?_
            have Bw4 := Bw3
            clear Bw3)
         | (have hgo := Bw4; clear hgo
            refine wpList_store_as rfl 48 (.tmp 2) (.tmp 45) rfl 4 (ewF (V % s252)) arrS r_t2 rfl rfl (by omega) (fun _ _ => rfl) (fun i hi => putN_whole hi) ?_
            intro w505 q gk
            replace r_t1 := gb_rowIs r_t1 gk n_t1_t2
            replace r_t4 := gb_rowIs r_t4 gk (Ne.symm n_t2_t4)
            replace r_t3 := gb_rowIs r_t3 gk (Ne.symm n_t2_t3)
            replace r_t2 := q
            have Bw5 := zbg HGS Bw4 gk l_t2
            clear Bw4 gk q))
       exact ret_cell_as _ rfl arrS r_t2 rfl (by omega) (fun _ _ => rfl) rfl ⟨by rw [HR2.out], Bw5⟩
     · rw [decide_eq_false h0] at hE
       have HE := Lib.hid hE
       replace HRED := Lib.hid (HRED.out h0)
       clear hE h0
       go_wp2_with (first
         | (have hgo := Bw0; clear hgo
            refine wpList_load_as rfl 137 (.tmp 4) rfl 5 (ewF (V / s252)) arrW5 r_t4 rfl (by omega) (fun i hi => by rw [Nat.zero_add]) ?_
            have Bw1 := Bw0
            clear Bw0)
         | (have hgo := Bw1; clear hgo
            refine wpList_build_arr rfl 137 _ rfl (arrOf 5 (ewF 0)) (by kernel_rfl) ?_
            have Bw2 := Bw1
            clear Bw1)
         | (have hgo := Bw2; clear hgo
            refine wpList_bin2 rfl .eql 137 137 (.tmp 42) (.tmp 43) rfl (fun w => HQ.out w _ _) (fun w => HE.out w) rfl rfl ?_
            have Bw3 := Bw2
            clear Bw2))
       obtain ⟨H, hH⟩ := nat_var (V / s252)
       have HLOW : Hid (V % s252 < ordL) := Lib.hid (Nat.lt_trans (Nat.mod_lt _ s252_pos) (by decide +kernel))
       rw [← hH] at HRED HRES HHL r_t4
       obtain ⟨Lo, hLo⟩ := nat_var (V % s252)
       rw [← hLo] at HRES HLOW r_t3
       have q3 := World.rowIs.drew r_t3
       have q4 := World.rowIs.drew r_t4
       have q2 := World.rowIs.drew r_t2
       have B := Bw3.drew
       clear r_t1 r_t2 r_t3 r_t4 Bw3 hH hLo HQ HE
       refine wp_region_lins [(0, some [6, 7]), (1, some [3, 7]), (2, none), (3, none), (4, none), (5, none), (6, none), (7, none)] (fun c w' => c = 6 → w'.rowIs b_t3 48 4 (ewF Lo)) (by kernel_rfl) (by kernel_rfl) (by decide) (by kernel_rfl) (fun d _ _ _ _ h => by cases d <;> exact h) (fun c hc _ => q3) ?_
       refine lins_read 46 (Op.load 48 (Operand.tmp 3)) 48 (.agg (arrOf 4 (ewF Lo))) rfl rfl rfl rfl rfl (fun w0 hw0 => by exact exec_load_as _ _ _ _ (ewF Lo) rfl arrS (hw0 6 (by simp) rfl) (by omega) (fun i hi => by rw [Nat.zero_add])) ?_
       simp only [Act.put, List.setIfInBounds_toArray, List.set_cons_zero, List.set_cons_succ, Nat.zero_add]
       refine lins_read 47 (Op.slice 137 (Operand.tmp 4) none none none) 103 (.slice (some ⟨b_t4, 0, none⟩) 5 5) rfl rfl rfl rfl rfl (fun w0 hw0 => by exact exec_sliceAll _ _ 45 _ _ (by kernel_rfl) (by kernel_rfl) rfl (by omega)) ?_
       simp only [Act.put, List.setIfInBounds_toArray, List.set_cons_zero, List.set_cons_succ, Nat.zero_add]
       refine lins_made (some 48) (Op.buildSlice 103 2 #[(0, (Operand.const (Value.int IntKind.u64 6346243789798364141))), (1, (Operand.const (Value.int IntKind.u64 1503914060200516822)))]) 103 _ _ rfl rfl rfl rfl rfl (exec_exc _ _ _ rfl rfl) (fun c w' => c = 6 → w'.rowIs b_t3 48 4 (ewF Lo)) (fun c hc => ⟨fun _ => World.rowIs.alloc q3 _, fun w6 h6 => h6⟩) ?_
       simp only [Act.put, List.setIfInBounds_toArray, List.set_cons_zero, List.set_cons_succ, Nat.zero_add]
       have q5 := rowIs_arr wr.drew 2 (ewF excL) 45
       have k2 := (Below.refl _ wr.drew).alloc (Nat.le_refl _) (.cells (arrOf 2 (ewF excL)) 45)
       replace q3 := World.rowIs.of_block q3 (k2.block _ (World.rowIs.lt q3))
       replace q4 := World.rowIs.of_block q4 (k2.block _ (World.rowIs.lt q4))
       replace q2 := World.rowIs.of_block q2 (k2.block _ (World.rowIs.lt q2))
       replace B := B.trans (k2.mono (HGS.out _ B))
       clear k2
       generalize wr.drew.alloc (.cells (arrOf 2 (ewF excL)) 45) = w48 at *
       generalize wr.drew.heap.size = g5 at *
       refine lins_fn (some 49) 68 #[Operand.tmp 47, Operand.tmp 48] #[103, 103] _ (times_any H excL 5 2 b_t4 g5 137 45 _ (by decide) HHL.out excL_W q4 q5) rfl rfl rfl rfl Tryz.func68 (by kernel_rfl) (by kernel_rfl) (by go_simp) ?_
       rintro e w49 ⟨rfl, hb⟩
       replace q3 := World.rowIs.of_block q3 (hb.block _ (World.rowIs.lt q3))
       replace q2 := World.rowIs.of_block q2 (hb.block _ (World.rowIs.lt q2))
       replace B := B.trans (hb.mono (HGS.out _ B))
       refine ⟨_, rfl, fun c w' => c = 6 → w'.rowIs b_t3 48 4 (ewF Lo), fun c hc => ⟨fun _ => q3, fun w6 h6 => h6⟩, ?_⟩
       simp only [Act.put, List.setIfInBounds_toArray, List.set_cons_zero, List.set_cons_succ, Nat.zero_add]
       refine lins_fn (some 50) 67 #[Operand.tmp 49] #[83] _ (HRED.out _) rfl rfl rfl rfl Tryz.func67 (by kernel_rfl) (by kernel_rfl) (by go_simp) ?_
       rintro e w50 ⟨rfl, hb⟩
       replace q3 := World.rowIs.of_block q3 (hb.block _ (World.rowIs.lt q3))
       replace q2 := World.rowIs.of_block q2 (hb.block _ (World.rowIs.lt q2))
       replace B := B.trans (hb.mono (HGS.out _ B))
       refine ⟨_, rfl, fun c w' => c = 6 → w'.rowIs b_t3 48 4 (ewF Lo), fun c hc => ⟨fun _ => q3, fun w6 h6 => h6⟩, ?_⟩
       simp only [Act.put, List.setIfInBounds_toArray, List.set_cons_zero, List.set_cons_succ, Nat.zero_add]
       refine lins_fn (some 51) 113 #[Operand.tmp 50] #[48] _ (sNeg_any (H * excL % ordL) _ (Nat.mod_lt _ ordL_pos)) rfl rfl rfl rfl Tryz.func113 (by kernel_rfl) (by kernel_rfl) (by go_simp) ?_
       rintro e w51 ⟨rfl, hb⟩
       replace q3 := World.rowIs.of_block q3 (hb.block _ (World.rowIs.lt q3))
       replace q2 := World.rowIs.of_block q2 (hb.block _ (World.rowIs.lt q2))
       replace B := B.trans (hb.mono (HGS.out _ B))
       refine ⟨_, rfl, fun c w' => c = 6 → w'.rowIs b_t3 48 4 (ewF Lo), fun c hc => ⟨fun _ => q3, fun w6 h6 => h6⟩, ?_⟩
       simp only [Act.put, List.setIfInBounds_toArray, List.set_cons_zero, List.set_cons_succ, Nat.zero_add]
       refine lins_fn (some 52) 26 #[Operand.tmp 46, Operand.tmp 51] #[48, 48] _ (sAdd_any Lo (oppL (H * excL % ordL)) _ HLOW.out (oppL_lt _)) rfl rfl rfl rfl Tryz.func26 (by kernel_rfl) (by kernel_rfl) (by go_simp) ?_
       rintro e w52 ⟨rfl, hb⟩
       replace q2 := World.rowIs.of_block q2 (hb.block _ (World.rowIs.lt q2))
       replace B := B.trans (hb.mono (HGS.out _ B))
       refine ⟨_, rfl, fun _ _ => True, fun c hc => ⟨trivial, fun w7 _ h => by subst h; simp [writers] at hc⟩, ?_⟩
       simp only [Act.put, List.setIfInBounds_toArray, List.set_cons_zero, List.set_cons_succ, Nat.zero_add]
       refine lins_store_arr (k := 4) (off := 0) 48 (.tmp 2) (.tmp 52) rfl rfl rfl rfl q2 rfl rfl arrS (by omega) (fun _ _ => rfl) ?_
       intro w7 hr7 hg7 hs7
       refine ⟨fun _ _ => True, fun c hc => (by cases hc), ?_⟩
       try simp only [Act.put, List.setIfInBounds_toArray, List.set_cons_zero, List.set_cons_succ, Nat.zero_add]
       refine lins_end ?_
       go_wp2
       refine ret_cell_as _ rfl arrS hr7 rfl (by omega) (fun i hi => putN_whole hi) rfl ⟨by rw [HRES.out], Below.grown B hg7 (HGS.out _ B) (by intro k hk; cases hk; exact l_t2)⟩
theorem sReduced_any (V : Nat) (w : World) (hV : V < 18446744073709551616 ^ 8) : Calls Tryz.prog 67 #[.agg (arrOf 8 (ewF V))] w fun e w' => e = .returned (.agg (arrOf 4 (ewF (V % ordL)))) ∧ Below w.heap.size w w' := reduced_upto (V + 1) V (Nat.lt_succ_self V) hV w
end Go.Proofs.YtonhpmaiagbheaaGreat
namespace Go.Proofs.YtonhpmaiagbheaaGreat
open Go.RowKit Go.Deep
theorem numL_min64 (l : List UInt8) : numL l (min l.length 64) = numL l 64 := by
 by_cases h : l.length ≤ 64
 · rw [Nat.min_eq_left h]
   have := numL_wanting l l.length (Nat.le_refl _) (64 - l.length)
   rw [show l.length + (64 - l.length) = 64 by omega] at this
   exact this.symm
 · rw [Nat.min_eq_right (by omega)]
set_option maxHeartbeats 4000000 in
theorem sWide_any (v : Value) (l : List UInt8) (w : World) (hv : Bs w v l) : Calls Tryz.prog 55 #[v] w fun e w' => e = .returned (.agg (arrOf 4 (ewF (numL l 64 % ordL)))) ∧ Below w.heap.size w w' := by
 obtain ⟨a, n, cap, rfl, hn, hc1, hc2, hB0⟩ := hv.shape
 have hR := (rowIs_arr w 4 (u64f fun _ => 0) 48).alloc (.cells (arrOf 8 (u64f fun _ => 0)) 83)
 have hL := rowIs_arr (w.alloc (.cells (arrOf 4 (u64f fun _ => 0)) 48)) 8 (u64f fun _ => 0) 83
 have hbel := ((Below.refl w.heap.size w).alloc (Nat.le_refl _) (.cells (arrOf 4 (u64f fun _ => 0)) 48)).alloc (by simp) (.cells (arrOf 8 (u64f fun _ => 0)) 83)
 rw [World.size_alloc] at hL
 have HB := Lib.hid hB0
 have HN := Lib.hid hn
 obtain ⟨k, hk⟩ := nat_var (min n 64)
 have hkn : k ≤ n := by omega
 have hk32 : k ≤ 64 := by omega
 have HK : Hid ((k : Int) = if (64 : Int) < (n : Int) then 64 else (n : Int)) := Lib.hid (by split <;> omega)
 have hkI : (k : Int) ≤ (cap : Int) := by omega
 have HKN : Hid (numL l k = numL l 64) := Lib.hid (by rw [hk, ← hn]; exact numL_min64 l)
 clear hv hB0 hn hk
 go_enter Tryz.func55, Tryz.ntmps55
 go_wp2_with (first
   | refine wpList_alloc_arr rfl 48 rfl (arrOf 4 (u64f fun _ => 0)) zeroS ?_
   | (refine wpList_alloc_arr rfl 83 rfl (arrOf 8 (u64f fun _ => 0)) zeroW8 ?_; simp only [World.size_alloc])
   | (refine wpList_lesser rfl (.tmp 8) (.const (.int .i64 64)) rfl (m := (k : Int)) rfl rfl HK.out ?_))
 generalize ((w.alloc (.cells (arrOf 4 (u64f fun _ => 0)) 48)).alloc (.cells (arrOf 8 (u64f fun _ => 0)) 83)) = w2 at *
 generalize hg0 : w.heap.size = g0 at *
 generalize hg1 : g0 + 1 = g1 at *
 have n01 : g0 ≠ g1 := by omega
 have l1 : g0 ≤ g1 := by omega
 have HG := Lib.hid hg0
 have HGS : Hid (∀ wq : World, Below g0 w wq → g0 ≤ wq.heap.size) := Lib.hid fun wq h => by rw [← HG.out]; exact h.size
 clear hg0 hg1
 go_loopw [4, 5, 12] (fun _ _ ii wr => ∃ i : Nat, i ≤ k ∧ ii = .int .i64 i ∧ wr.rowIs g1 83 8 (ewF (numL l i)) ∧ wr.rowIs g0 48 4 (u64f fun _ => 0) ∧ Below g0 w wr) (fun _ _ ii _ => k - (intOf ii).toNat)
 case atStart => exact ⟨0, Nat.zero_le _, rfl, hL.congr fun j _ => by unfold ewF u64f; rw [show numL l 0 = 0 from rfl, wd_small 0 j (by decide)]; split <;> rfl, hR, hbel⟩
 case round =>
   clear hL hR hbel
   obtain ⟨i, hi, rfl, hL, hR, hbel⟩ := hrel
   by_cases hlt : i < k
   · have hiI : 0 ≤ (i : Int) ∧ (i : Int) < (k : Int) := by omega
     obtain ⟨b, off, cap', he, _, _, hbl, hc⟩ := HB.out.open_n HN.out (by omega)
     cases he
     have hil : i < l.length := by rw [HN.out]; omega
     have hci := hc i hil
     rw [← getD_at l i hil] at hci
     have hbw : b < g0 := by rw [← HG.out]; exact hbl
     obtain ⟨x, hx⟩ := nat_var (l.getD i 0).toNat
     have hx1 : x < 256 := by rw [hx]; exact UInt8.toNat_lt _
     rw [← hx] at hci
     have hcx := (hbel.cell (p := ⟨b, off + i, none⟩) hbw).trans hci
     obtain ⟨q, hq⟩ := nat_var (i / 8)
     obtain ⟨s, hs⟩ := nat_var (i % 8)
     obtain ⟨s8, hs8⟩ := nat_var (8 * (i % 8))
     have hV := numL_lt l i
     have hnext : numL l (i + 1) = numL l i + x * 256 ^ i := by rw [hx]; rfl
     have hlow := of_low _ _ hV
     have hstep := fun j => of_step (numL l i) x i j hV hx1
     rw [← hs8, ← hq] at hlow
     have hul := wd_lt (numL l i) q
     have hvl := wd_lt (numL l (i + 1)) q
     have hvq := hstep q
     rw [← hnext, if_pos hq, ← hs8, ← hq] at hvq
     obtain ⟨u, hu⟩ := nat_var (wd (numL l i) q)
     obtain ⟨v, hv⟩ := nat_var (wd (numL l (i + 1)) q)
     have hset : (wr.drew.setCell ⟨g1, q, none⟩ (.int .u64 (v : Int))).rowIs g1 83 8 (ewF (numL l (i + 1))) := row_set_drew hL q v _ (fun j hj => by
       have h := hstep j
       rw [← hnext, ← hs8, ← hq, ← hvq, ← hv] at h
       exact h)
     have hcD : wr.drew.cell? ⟨g1, q, none⟩ = some (.int .u64 (u : Int)) := by
       have h := hL.drew.cell (i := q) (by omega)
       rw [hu]; exact h
     have hfr := hL.drew.frozen q
     rw [← hu, ← hv] at hvq
     rw [← hu] at hlow hul
     rw [← hv] at hvl
     obtain ⟨xs, hxs⟩ := nat_var (2 ^ s8 * x)
     have hor := or_add64' s8 x u hlow (by omega)
     rw [← hvq, ← hxs] at hor
     have hxl : xs < 18446744073709551616 := by omega
     have hshl : IntKind.u64.wrap ((x : Int) * 2 ^ s8) = (xs : Int) := by
       have e : (x : Int) * 2 ^ s8 = (xs : Int) := by rw [hxs, Int.natCast_mul, Int.natCast_pow, Int.mul_comm]; rfl
       rw [e, wrap_nat _ hxl]
     have hquo : IntKind.i64.wrap ((i : Int).tdiv 8) = (q : Int) := by rw [Int.tdiv_eq_ediv_of_nonneg (by omega), IntWalk.i64_in _ (by omega)]; omega
     have hquo2 : IntKind.i64.wrap ((i : Int) / 8) = (q : Int) := by rw [IntWalk.i64_in _ (by omega)]; omega
     have hrem : IntKind.i64.wrap ((i : Int).tmod 8) = (s : Int) := by rw [Int.tmod_eq_emod_of_nonneg (by omega), IntWalk.i64_in _ (by omega)]; omega
     have hrem2 : (i : Int).tmod 8 = (s : Int) := by rw [Int.tmod_eq_emod_of_nonneg (by omega)]; omega
     have hmul : IntKind.i64.wrap (8 * (s : Int)) = (s8 : Int) := by rw [IntWalk.i64_in _ (by omega)]; omega
     have hcv : IntKind.u64.wrap (x : Int) = (x : Int) := wrap_nat _ (by omega)
     have hqI : 0 ≤ (q : Int) ∧ (q : Int) < 8 := by omega
     have hq4 : (q : Int) < 8 := by omega
     have hs8I : 0 ≤ (s8 : Int) := by omega
     have hs8J : (s8 : Int) < 64 := by omega
     have HSET := Lib.hid hset
     clear hset hstep hnext hlow hul hvl hvq hu hv hxs hxl hx hV hci hc hq hs hs8
     go_wp2
     refine wp_region_lins [(0, some [12]), (1, some [12]), (2, some [12]), (3, some [12]), (4, some [12]), (5, some [12]), (6, some [12]), (7, some [12]), (8, some [12]), (9, some [12]), (10, some [12]), (11, some [12]), (12, none)] (fun c w' => w'.cell? ⟨g1, q, none⟩ = some (.int .u64 (u : Int))) (by kernel_rfl) (by kernel_rfl) (by decide) (by kernel_rfl) (fun d _ _ _ _ h => by cases d <;> exact h) (fun c hc => hcD) ?_
     refine lins_read 17 (Op.move (Operand.tmp 4)) 3 _ rfl rfl rfl rfl rfl (fun w0 hw0 => by unfold mkOp; go_simp; all_goals (with_reducible rfl)) ?_
     simp only [Act.put, List.setIfInBounds_toArray, List.set_cons_zero, List.set_cons_succ]
     refine lins_read 18 (Op.binOp BinOp.quo 3 (Operand.tmp 17) (Operand.const (Value.int IntKind.i64 8)) 3) 3 (.int .i64 (q : Int)) rfl rfl rfl rfl rfl (fun w0 hw0 => by unfold mkOp; go_simp; all_goals (with_reducible rfl)) ?_
     simp only [Act.put, List.setIfInBounds_toArray, List.set_cons_zero, List.set_cons_succ]
     refine lins_read 19 (Op.indexAddr 83 (Operand.tmp 3) (Operand.tmp 18)) 0 _ rfl rfl rfl rfl rfl (fun w0 hw0 => by unfold mkOp; go_simp; all_goals (with_reducible rfl)) ?_
     simp only [Act.put, List.setIfInBounds_toArray, List.set_cons_zero, List.set_cons_succ]
     refine lins_read 20 (Op.load 45 (Operand.tmp 19)) 45 (.int .u64 (u : Int)) rfl rfl rfl rfl rfl (fun w0 hw0 => by have hc0 := hw0 12 (by simp); unfold mkOp; go_simp; all_goals (with_reducible rfl)) ?_
     simp only [Act.put, List.setIfInBounds_toArray, List.set_cons_zero, List.set_cons_succ]
     refine lins_read 21 (Op.move (Operand.tmp 5)) 5 _ rfl rfl rfl rfl rfl (fun w0 hw0 => by unfold mkOp; go_simp; all_goals (with_reducible rfl)) ?_
     simp only [Act.put, List.setIfInBounds_toArray, List.set_cons_zero, List.set_cons_succ]
     refine lins_read 22 (Op.convert 5 45 (Operand.tmp 21)) 45 (.int .u64 (x : Int)) rfl rfl rfl rfl rfl (fun w0 hw0 => by unfold mkOp; go_simp; all_goals (with_reducible rfl)) ?_
     simp only [Act.put, List.setIfInBounds_toArray, List.set_cons_zero, List.set_cons_succ]
     refine lins_read 23 (Op.move (Operand.tmp 4)) 3 _ rfl rfl rfl rfl rfl (fun w0 hw0 => by unfold mkOp; go_simp; all_goals (with_reducible rfl)) ?_
     simp only [Act.put, List.setIfInBounds_toArray, List.set_cons_zero, List.set_cons_succ]
     refine lins_read 24 (Op.binOp BinOp.rem 3 (Operand.tmp 23) (Operand.const (Value.int IntKind.i64 8)) 3) 3 (.int .i64 (s : Int)) rfl rfl rfl rfl rfl (fun w0 hw0 => by unfold mkOp; go_simp; all_goals (with_reducible rfl)) ?_
     simp only [Act.put, List.setIfInBounds_toArray, List.set_cons_zero, List.set_cons_succ]
     refine lins_read 25 (Op.binOp BinOp.mul 3 (Operand.const (Value.int IntKind.i64 8)) (Operand.tmp 24) 3) 3 (.int .i64 (s8 : Int)) rfl rfl rfl rfl rfl (fun w0 hw0 => by unfold mkOp; go_simp; all_goals (with_reducible rfl)) ?_
     simp only [Act.put, List.setIfInBounds_toArray, List.set_cons_zero, List.set_cons_succ]
     refine lins_read 26 (Op.binOp BinOp.shl 45 (Operand.tmp 22) (Operand.tmp 25) 3) 45 (.int .u64 (xs : Int)) rfl rfl rfl rfl rfl (fun w0 hw0 => by unfold mkOp; go_simp; all_goals (with_reducible rfl)) ?_
     simp only [Act.put, List.setIfInBounds_toArray, List.set_cons_zero, List.set_cons_succ]
     refine lins_read 27 (Op.binOp BinOp.or 45 (Operand.tmp 20) (Operand.tmp 26) 45) 45 (.int .u64 (v : Int)) rfl rfl rfl rfl rfl (fun w0 hw0 => by unfold mkOp; go_simp; all_goals (with_reducible rfl)) ?_
     simp only [Act.put, List.setIfInBounds_toArray, List.set_cons_zero, List.set_cons_succ]
     refine lins_read 28 (Op.indexAddr 83 (Operand.tmp 3) (Operand.tmp 18)) 0 _ rfl rfl rfl rfl rfl (fun w0 hw0 => by unfold mkOp; go_simp; all_goals (with_reducible rfl)) ?_
     simp only [Act.put, List.setIfInBounds_toArray, List.set_cons_zero, List.set_cons_succ]
     refine lins_store (Op.store 45 (Operand.tmp 28) (Operand.tmp 27)) 0 (_) rfl rfl rfl rfl rfl (by unfold mkOp; go_simp; all_goals (with_reducible rfl)) (fun _ _ => True) (fun c hc => by cases hc) ?_
     try simp only [Act.put, List.setIfInBounds_toArray, List.set_cons_zero, List.set_cons_succ]
     refine lins_end ?_
     go_wp2
     go_roundw
     case rel => exact ⟨i + 1, by omega, by go_num, HSET.out, hR.drew.setOther n01 _, hbel.drew.setCell (show g0 ≤ (⟨g1, q, none⟩ : Addr).block from l1) _⟩
     case measure => simp [intOf]; omega
   · obtain rfl : i = k := by omega
     have hkz := HKN.out
     rw [hkz] at hL
     have HR := Lib.hid fun w => sReduced_any (numL l 64) w (Nat.lt_of_lt_of_le (numL_lt l 64) (by decide +kernel))
     clear hkz HKN
     go_wp2_with (first
       | (refine wpList_load_arr rfl 83 (.tmp 3) rfl 8 arrW8 hL rfl (by omega) ?_; simp only [Nat.zero_add])
       | (go_at_call 67; refine (HR.out _).mono ?_; rintro e wa ⟨rfl, hba⟩
          have hRa := hR.of_block (hba.block _ hR.lt)
          have hBa := hbel.trans (hba.mono (HGS.out _ hbel))
          clear hR hbel hba hL HR)
       | (refine wpList_store_arr rfl 48 (.tmp 2) (.tmp 31) rfl 4 arrS hRa rfl rfl (by omega) (fun _ _ => rfl) ?_; intro wb hrb hgb hsb))
     refine ret_cell_arr rfl arrS hrb rfl (by omega) rfl ⟨?_, by rw [HG.out]; exact hBa.grown hgb (HGS.out _ hBa) (by intro k hk; cases hk; exact Nat.le_refl _)⟩
     rw [agg_putW]
set_option maxHeartbeats 1000000 in
theorem sBytes_any (V : Nat) (w : World) : Calls Tryz.prog 28 #[.agg (arrOf 4 (ewF V))] w fun e w' => ∃ v, e = .returned v ∧ Owns w' w.heap.size v (litB V 32) ∧ Below w.heap.size w w' := by
 have hrA := (rowIs_arr w 4 (ewF V) 48).alloc (.cells (madeCells #[.int .u8 0] 32) 5)
 have hbel := ((Below.refl w.heap.size w).alloc (Nat.le_refl _) (.cells (arrOf 4 (ewF V)) 48)).alloc (by simp) (.cells (madeCells #[.int .u8 0] 32) 5)
 have hown := Owns.made (w.alloc (.cells (arrOf 4 (ewF V)) 48))
 have hsz : ((w.alloc (.cells (arrOf 4 (ewF V)) 48)).alloc (.cells (madeCells #[.int .u8 0] 32) 5)).heap.size = w.heap.size + 1 + 1 := by simp only [World.size_alloc]
 have hmk := run_make32
 rw [World.size_alloc] at hown
 go_enter Tryz.func28, Tryz.ntmps28
 go_wp2_with (refine wpList_load_arr rfl 46 (.tmp 7) rfl 4 arrW hrA rfl (by omega) ?_; simp only [Nat.zero_add])
 generalize ((w.alloc (.cells (arrOf 4 (ewF V)) 48)).alloc (.cells (madeCells #[.int .u8 0] 32) 5)) = w1 at *
 generalize hg0 : w.heap.size = g0 at *
 have HG := Lib.hid hg0
 clear hg0 hrA hmk
 go_loopw [3, 5, 9] (fun out _ ii wr => ∃ j : Nat, j ≤ 4 ∧ ii = .int .i64 j ∧ Owns wr (g0 + 1) out (litB V (8 * j)) ∧ Below g0 w wr ∧ g0 + 1 ≤ wr.heap.size) (fun _ _ ii _ => 4 - (intOf ii).toNat)
 case atStart => exact ⟨0, Nat.zero_le _, rfl, hown, hbel, by omega⟩
 case round =>
   clear hown hbel hsz
   obtain ⟨j, hj, rfl, hown, hbel, hge⟩ := hrel
   by_cases hlt : j < 4
   · have hjI : 0 ≤ (j : Int) ∧ (j : Int) < 4 := by omega
     obtain ⟨x, hx⟩ := nat_var (wd V j)
     have hxl := wd_lt V j
     rw [← hx] at hxl
     have HX := Lib.hid hx.symm
     have HXL := Lib.hid hxl
     have hll : (litB V (8 * j)).length = 8 * j := litB_length _ _
     have HW := Lib.hid (litB_word V j)
     clear hx hxl
     go_wp2_with (first
       | refine wpList_indexW rfl (.tmp 8) (.tmp 9) rfl (wd V) x HX.out rfl rfl hlt ?_
       | (go_at_call 69; refine (little64_any x _ HXL.out).mono ?_; rintro e w5 ⟨vb, rfl, hb5, hbl5⟩
          have hown5 := hown.past hbl5
          have hbel5 := hbel.trans (hbl5.mono (by rw [← HG.out]; exact hbel.size))
          have hge5 := Nat.le_trans hge hbl5.size
          clear hown hbel)
       | (refine wpList_app rfl (.tmp 12) (.tmp 14) rfl (g0 + 1) _ vb (litB V (8 * j)) (litB x 8) hown5 hb5 rfl rfl (by rw [hll, litB_length]; omega) hge5 ?_; intro v6 w6 hown6 hg6))
     have hbel6 : Below g0 w w6 := hbel5.grown hg6 (by rw [← HG.out]; exact hbel5.size) (fun k hk => Nat.le_of_succ_le (Owns.block hown5 k hk))
     have hge6 : g0 + 1 ≤ w6.heap.size := Nat.le_trans hge5 hg6.size
     have hown7 : Owns w6 (g0 + 1) v6 (litB V (8 * (j + 1))) := by rw [HW.out, HX.out]; exact hown6
     clear hown6 hown5 hbel5
     go_roundw
     case rel => exact ⟨j + 1, by omega, by go_num, hown7, hbel6, hge6⟩
     case measure => simp [intOf]; omega
   · obtain rfl : j = 4 := by omega
     go_wp2
     go_ret
     exact ⟨_, rfl, by rw [HG.out]; exact hown.lower (Nat.le_succ _), by rw [HG.out]; exact hbel⟩
def strictNE (o : Option Nat) : Int := if o.isSome then 0 else 2
theorem strictSN_same (l : List UInt8) : strictSN l = if litB (numL l 64 % ordL) 32 = l then some (numL l 64 % ordL) else none := by
 unfold strictSN
 by_cases h : litB (numL l 64 % ordL) 32 = l
 · have h1 : l.length = 32 := by rw [← h, litB_length]
   have h2 := (litB_wide l h1).1 h
   rw [if_pos h, if_pos ⟨h1, h2⟩, wide_32 l h1, Nat.mod_eq_of_lt h2]
 · rw [if_neg h, if_neg]
   rintro ⟨h1, h2⟩
   exact h ((litB_wide l h1).2 h2)
set_option maxHeartbeats 2000000 in
theorem sStrict_any (v : Value) (l : List UInt8) (w : World) (hv : Bs w v l) : Calls Tryz.prog 41 #[v] w fun e w' =>
   e = .returned (.tuple #[.agg (arrOf 4 (ewF ((strictSN l).getD 0))), .int .i64 (strictNE (strictSN l))]) ∧ Below w.heap.size w w' := by
 have hR0 := rowIs_arr w 4 (u64f fun _ => 0) 48
 have hb0 := (Below.refl w.heap.size w).alloc (Nat.le_refl _) (.cells (arrOf 4 (u64f fun _ => 0)) 48)
 have HV := Lib.hid (hv.below hb0 (Nat.le_refl _))
 have HV0 := Lib.hid hv
 have HGS : Hid (∀ wq : World, Below w.heap.size w wq → w.heap.size ≤ wq.heap.size) := Lib.hid fun wq h => h.size
 have hst := strictSN_same l
 obtain ⟨T, hT⟩ := nat_var (numL l 64 % ordL)
 rw [← hT] at hst
 have HOF := Lib.hid fun w (h : Bs w v l) => sWide_any v l w h
 rw [← hT] at HOF
 obtain ⟨bl, hbl⟩ : ∃ bl, bl = litB T 32 := ⟨_, rfl⟩
 have HBY := Lib.hid fun w => sBytes_any T w
 rw [← hbl] at HBY hst
 have HST := Lib.hid hst
 clear hT hbl hst hv
 by_cases hs : bl = l
 · have hres := HST.out
   rw [if_pos hs] at hres
   have HRES := Lib.hid hres
   have HEQ := Lib.hid fun v1 v2 (w : World) (h1 : Bs w v1 bl) (h2 : Bs w v2 l) => flatSame_any v1 v2 bl l w h1 h2
   rw [decide_eq_true hs] at HEQ
   clear hres hs HST
   go_enter Tryz.func41, Tryz.ntmps41
   go_wp2_with (first
     | refine wpList_alloc_arr rfl 48 rfl (arrOf 4 (u64f fun _ => 0)) zeroS ?_
     | (go_at_call 55; refine (HOF.out _ HV.out).mono ?_; rintro e w5 ⟨rfl, hb5⟩
        have hR5 := hR0.of_block (hb5.block _ hR0.lt)
        have hB5 := hb0.trans (hb5.mono (HGS.out _ hb0))
        have hl5 := hR5.lt
        have hR6 := hR5.alloc (.cells (arrOf 4 (u64f fun _ => 0)) 48)
        have hX6 := rowIs_arr w5 4 (u64f fun _ => 0) 48
        have hB6 := hB5.alloc (HGS.out _ hB5) (.cells (arrOf 4 (u64f fun _ => 0)) 48)
        clear hR0 hb0 hb5 hR5 HOF)
     | (refine wpList_store_arr rfl 48 (.tmp 4) (.tmp 6) rfl 4 arrS hX6 rfl rfl (by omega) (fun _ _ => rfl) ?_; intro w7 hr7 hg7 hs7
        have hX7 : w7.rowIs w5.heap.size 48 4 (ewF T) := hr7.congr fun i hi => by unfold putN; rw [if_pos (by omega), Nat.sub_zero]
        have hR7 := gb_rowIs hR6 hg7 (Nat.ne_of_lt hl5)
        have hB7 := hB6.grown hg7 (HGS.out _ hB6) (by intro k hk; cases hk; exact HGS.out _ hB5)
        clear hR6 hX6 hB6 hr7 hg7 hs7 hB5)
     | (refine wpList_load_arr rfl 48 (.tmp 4) rfl 4 arrS hX7 rfl (by omega) ?_; simp only [Nat.zero_add])
     | (go_at_call 28; refine (HBY.out _).mono ?_; rintro e w8 ⟨vb, rfl, hown8, hb8⟩
        have hR8 := hR7.of_block (hb8.block _ hR7.lt)
        have hX8 := hX7.of_block (hb8.block _ hX7.lt)
        have hB8 := hB7.trans (hb8.mono (HGS.out _ hB7))
        have hv8 := HV0.out.below hB8 (Nat.le_refl _)
        have hbs8 := hown8.bs
        clear hR7 hX7 hB7 hb8 hown8 HBY)
     | (go_at_call 92; refine (HEQ.out _ _ _ hbs8 hv8).mono ?_; rintro e w9 ⟨rfl, rfl⟩)
     | (refine wpList_load_arr rfl 48 (.tmp 4) rfl 4 arrS hX8 rfl (by omega) ?_; simp only [Nat.zero_add])
     | (refine wpList_store_arr rfl 48 (.tmp 2) (.tmp 13) rfl 4 arrS hR8 rfl rfl (by omega) (fun _ _ => rfl) ?_; intro wz hrz hgz hsz))
   refine ret_cell_arr_tmp rfl arrS hrz rfl rfl (by omega) rfl ⟨?_, hB8.grown hgz (HGS.out _ hB8) (by intro k hk; cases hk; exact Nat.le_refl _)⟩
   rw [agg_putW, HRES.out]
   rfl
 · have hres := HST.out
   rw [if_neg hs] at hres
   have HRES := Lib.hid hres
   have HEQ := Lib.hid fun v1 v2 (w : World) (h1 : Bs w v1 bl) (h2 : Bs w v2 l) => flatSame_any v1 v2 bl l w h1 h2
   rw [decide_eq_false hs] at HEQ
   clear hres hs HST
   go_enter Tryz.func41, Tryz.ntmps41
   go_wp2_with (first
     | refine wpList_alloc_arr rfl 48 rfl (arrOf 4 (u64f fun _ => 0)) zeroS ?_
     | (go_at_call 55; refine (HOF.out _ HV.out).mono ?_; rintro e w5 ⟨rfl, hb5⟩
        have hR5 := hR0.of_block (hb5.block _ hR0.lt)
        have hB5 := hb0.trans (hb5.mono (HGS.out _ hb0))
        have hl5 := hR5.lt
        have hR6 := hR5.alloc (.cells (arrOf 4 (u64f fun _ => 0)) 48)
        have hX6 := rowIs_arr w5 4 (u64f fun _ => 0) 48
        have hB6 := hB5.alloc (HGS.out _ hB5) (.cells (arrOf 4 (u64f fun _ => 0)) 48)
        clear hR0 hb0 hb5 hR5 HOF)
     | (refine wpList_store_arr rfl 48 (.tmp 4) (.tmp 6) rfl 4 arrS hX6 rfl rfl (by omega) (fun _ _ => rfl) ?_; intro w7 hr7 hg7 hs7
        have hX7 : w7.rowIs w5.heap.size 48 4 (ewF T) := hr7.congr fun i hi => by unfold putN; rw [if_pos (by omega), Nat.sub_zero]
        have hR7 := gb_rowIs hR6 hg7 (Nat.ne_of_lt hl5)
        have hB7 := hB6.grown hg7 (HGS.out _ hB6) (by intro k hk; cases hk; exact HGS.out _ hB5)
        clear hR6 hX6 hB6 hr7 hg7 hs7 hB5)
     | (refine wpList_load_arr rfl 48 (.tmp 4) rfl 4 arrS hX7 rfl (by omega) ?_; simp only [Nat.zero_add])
     | (go_at_call 28; refine (HBY.out _).mono ?_; rintro e w8 ⟨vb, rfl, hown8, hb8⟩
        have hR8 := hR7.of_block (hb8.block _ hR7.lt)
        have hB8 := hB7.trans (hb8.mono (HGS.out _ hB7))
        have hv8 := HV0.out.below hB8 (Nat.le_refl _)
        have hbs8 := hown8.bs
        clear hR7 hX7 hB7 hb8 hown8 HBY)
     | (go_at_call 92; refine (HEQ.out _ _ _ hbs8 hv8).mono ?_; rintro e w9 ⟨rfl, rfl⟩)
     | refine wpList_build_arr rfl 48 _ rfl (arrOf 4 (ewF 0)) (by kernel_rfl) ?_
     | (refine wpList_store_arr rfl 48 (.tmp 2) (.tmp 12) rfl 4 arrS hR8 rfl rfl (by omega) (fun _ _ => rfl) ?_; intro wz hrz hgz hsz))
   refine ret_cell_arr_tmp rfl arrS hrz rfl rfl (by omega) rfl ⟨?_, hB8.grown hgz (HGS.out _ hB8) (by intro k hk; cases hk; exact Nat.le_refl _)⟩
   rw [agg_putW, HRES.out]
   rfl
theorem bit_wd (V n : Nat) : wd V (n / 64) / 2 ^ (n % 64) % 2 = V / 2 ^ n % 2 := by
 unfold wd
 have e : (2 : Nat) ^ n = 18446744073709551616 ^ (n / 64) * 2 ^ (n % 64) := by
   rw [show (18446744073709551616 : Nat) = 2 ^ 64 from rfl, ← Nat.pow_mul, ← Nat.pow_add, Nat.div_add_mod]
 have e2 : (18446744073709551616 : Nat) = 2 ^ (n % 64) * (2 * 2 ^ (63 - n % 64)) := by
   rw [← Nat.pow_succ', ← Nat.pow_add, show n % 64 + (63 - n % 64 + 1) = 64 by omega]
 rw [e, ← Nat.div_div_eq_div_mul]
 generalize V / 18446744073709551616 ^ (n / 64) = U
 rw [e2, Nat.mod_mul_right_div_self, Nat.mod_mul_right_mod]
theorem wpList_shr64 {ops : Array Oper} {Q : Exit → Act → World → Prop} {a : Act} {w : World} {rest : List Oper} {o : Oper} (hgd : o.guard = none) (x y : Operand) (ho : o.op = .binOp .shr 45 x y 3) {t r q : Nat}
   (hx : a.eval x = .int .u64 (t : Int)) (hy : a.eval y = .int .i64 (r : Int)) (hq : q = t / 2 ^ r) (hr : r < 64) (ht : t < 18446744073709551616) (h : wpList Tryz.prog ops Q rest (a.put o.dst (.int .u64 (q : Int))) w) : wpList Tryz.prog ops Q (o :: rest) a w := by
 refine wpList_value hgd (.int .u64 (q : Int)) ?_ h
 have h1 : (t : Int) / 2 ^ r = (q : Int) := by
   rw [hq]
   simp
 have h3 : IntKind.u64.wrap (q : Int) = (q : Int) := wrap_nat _ (by have := Nat.div_le_self t (2 ^ r); omega)
 have h4 : ¬ ((r : Int) < 0) := by omega
 clear hq h
 rw [exec_mkOp, ho]
 simp only [execOp, mkOp, hx, hy]
 go_simp
theorem wpList_quo64 {ops : Array Oper} {Q : Exit → Act → World → Prop} {a : Act} {w : World} {rest : List Oper} {o : Oper} (hgd : o.guard = none) (x y : Operand) (ho : o.op = .binOp .quo 3 x y 3) {t q : Nat}
   (hx : a.eval x = .int .i64 (t : Int)) (hy : a.eval y = .int .i64 64) (hq : q = t / 64) (ht : t < 1000) (h : wpList Tryz.prog ops Q rest (a.put o.dst (.int .i64 (q : Int))) w) : wpList Tryz.prog ops Q (o :: rest) a w := by
 refine wpList_value hgd (.int .i64 (q : Int)) ?_ h
 have h1 : IntKind.i64.wrap ((t : Int).tdiv 64) = (q : Int) := by rw [Int.tdiv_eq_ediv_of_nonneg (by omega), IntWalk.i64_in _ (by omega)]; omega
 have h2 : IntKind.i64.wrap ((t : Int) / 64) = (q : Int) := by rw [IntWalk.i64_in _ (by omega)]; omega
 clear hq h
 rw [exec_mkOp, ho]
 simp only [execOp, mkOp, hx, hy]
 go_simp
theorem wpList_rem64 {ops : Array Oper} {Q : Exit → Act → World → Prop} {a : Act} {w : World} {rest : List Oper} {o : Oper} (hgd : o.guard = none) (x y : Operand) (ho : o.op = .binOp .rem 3 x y 3) {t q : Nat}
   (hx : a.eval x = .int .i64 (t : Int)) (hy : a.eval y = .int .i64 64) (hq : q = t % 64) (ht : t < 1000) (h : wpList Tryz.prog ops Q rest (a.put o.dst (.int .i64 (q : Int))) w) : wpList Tryz.prog ops Q (o :: rest) a w := by
 refine wpList_value hgd (.int .i64 (q : Int)) ?_ h
 have h1 : IntKind.i64.wrap ((t : Int).tmod 64) = (q : Int) := by rw [Int.tmod_eq_emod_of_nonneg (by omega), IntWalk.i64_in _ (by omega)]; omega
 have h2 : (t : Int).tmod 64 = (q : Int) := by rw [Int.tmod_eq_emod_of_nonneg (by omega)]; omega
 clear hq h
 rw [exec_mkOp, ho]
 simp only [execOp, mkOp, hx, hy]
 go_simp
set_option maxHeartbeats 1000000 in
theorem sBit_any (V : Nat) (k : Int) (w : World) (hk0 : -9223372036854775808 ≤ k) (hk1 : k ≤ 9223372036854775807) : Calls Tryz.prog 59 #[.agg (arrOf 4 (ewF V)), .int .i64 k] w fun e w' => e = .returned (.int .i64 (bitZ V k : Nat)) ∧ Below w.heap.size w w' := by
 have hr := rowIs_arr w 4 (ewF V) 48
 have hb0 := (Below.refl w.heap.size w).alloc (Nat.le_refl _) (.cells (arrOf 4 (ewF V)) 48)
 by_cases h0 : 0 ≤ k
 · by_cases h1 : k ≤ 255
   · obtain ⟨n, rfl⟩ := Int.eq_ofNat_of_zero_le h0
     have hbz : bitZ V (n : Int) = V / 2 ^ n % 2 := by unfold bitZ; rw [if_pos ⟨h0, h1⟩]; rfl
     have hbt := bit_wd V n
     obtain ⟨q, hq⟩ := nat_var (n / 64)
     obtain ⟨r, hr8⟩ := nat_var (n % 64)
     rw [← hq, ← hr8] at hbt
     have hc : (w.alloc (.cells (arrOf 4 (ewF V)) 48)).cell? ⟨w.heap.size, q, none⟩ = some (.int .u64 ((wd V q : Nat) : Int)) := hr.cell (i := q) (by omega)
     obtain ⟨x, hx⟩ := nat_var (wd V q)
     have hxl : x < 18446744073709551616 := by rw [hx]; exact wd_lt V q
     rw [← hx] at hc hbt
     obtain ⟨y, hy⟩ := nat_var (x / 2 ^ r)
     have hyl : y < 18446744073709551616 := by rw [hy]; exact Nat.lt_of_le_of_lt (Nat.div_le_self _ _) hxl
     rw [← hy] at hbt
     have hand := mask64 y 1 hyl (by decide) 1 rfl
     rw [show y % 2 ^ 1 = y % 2 from rfl] at hand
     obtain ⟨b, hb⟩ := nat_var (y % 2)
     rw [← hb] at hbt hand
     have hqI : 0 ≤ (q : Int) ∧ (q : Int) < 4 := by omega
     have hwb : IntKind.i64.wrap (b : Int) = (b : Int) := IntWalk.i64_in _ (by omega)
     have hn0 : ¬ (n : Int) < 0 := by omega
     have hn255 : ¬ (n : Int) ≥ 256 := by omega
     have hn255' : ¬ (256 : Int) ≤ (n : Int) := by omega
     have HQ := Lib.hid hq
     have HR := Lib.hid hr8
     have HNN : Hid (n < 1000) := Lib.hid (by omega)
     have HY := Lib.hid hy
     have HRL : Hid (r < 64) := Lib.hid (by omega)
     have HXL := Lib.hid hxl
     rw [hbz, ← hbt]
     clear hbz hbt hq hr8 hx hxl hy hyl hb h0 h1 hk0 hk1 hr
     go_enter Tryz.func59, Tryz.ntmps59
     go_wp2_with (first
       | refine wpList_quo64 rfl (.tmp 11) (.const (.int .i64 64)) rfl rfl rfl HQ.out HNN.out ?_
       | refine wpList_rem64 rfl (.tmp 16) (.const (.int .i64 64)) rfl rfl rfl HR.out HNN.out ?_
       | refine wpList_shr64 rfl (.tmp 15) (.tmp 17) rfl rfl rfl HY.out HRL.out HXL.out ?_)
     go_ret
     exact ⟨rfl, hb0⟩
   · have hbz : bitZ V k = 0 := by unfold bitZ; rw [if_neg (fun h => h1 h.2)]
     rw [hbz]
     have hn0 : ¬ k < 0 := by omega
     have hn255 : k ≥ 256 := by omega
     have hn255' : (256 : Int) ≤ k := by omega
     clear h0 h1 hbz hr
     go_enter Tryz.func59, Tryz.ntmps59
     go_wp2
     go_ret
     exact ⟨rfl, hb0⟩
 · have hbz : bitZ V k = 0 := by unfold bitZ; rw [if_neg (fun h => h0 h.1)]
   rw [hbz]
   have hn0 : k < 0 := by omega
   clear h0 hbz hr
   go_enter Tryz.func59, Tryz.ntmps59
   go_wp2
   go_ret
   exact ⟨rfl, hb0⟩
def qT (t : Nat × Nat × Nat) : Nat → Value := qF t.1 t.2.1 t.2.2
theorem qTAdd_any (t u : Nat × Nat × Nat) (w : World) (h : LtT t) (k : LtT u) : Calls Tryz.prog 43 #[.agg (arrOf 12 (qT t)), .agg (arrOf 12 (qT u))] w fun e w' => e = .returned (.agg (arrOf 12 (qT (qAdd t u)))) ∧ Below w.heap.size w w' := qAdd_any t.1 t.2.1 t.2.2 u.1 u.2.1 u.2.2 w h.1 h.2.1 h.2.2 k.1 k.2.1 k.2.2
theorem qTSame_any (t u : Nat × Nat × Nat) (w : World) (h : LtT t) (k : LtT u) : Calls Tryz.prog 42 #[.agg (arrOf 12 (qT t)), .agg (arrOf 12 (qT u))] w fun e w' => e = .returned (.bool (qSame t u)) ∧ Below w.heap.size w w' := qSame_any t.1 t.2.1 t.2.2 u.1 u.2.1 u.2.2 w h.1 h.2.1 h.2.2 k.1 k.2.1 k.2.2
theorem qTSame_to (t u : Nat × Nat × Nat) (b : Bool) (w : World) (h : LtT t) (k : LtT u) (hb : qSame t u = b) : Calls Tryz.prog 42 #[.agg (arrOf 12 (qT t)), .agg (arrOf 12 (qT u))] w fun e w' => e = .returned (.bool b) ∧ Below w.heap.size w w' := by
 have g := qTSame_any t u w h k
 rwa [hb] at g
theorem builtQT (x y z : Nat) : Tryz.prog.built 53 [(0, .agg (arrOf 4 (ewF x))), (1, .agg (arrOf 4 (ewF y))), (2, .agg (arrOf 4 (ewF z)))] = some (arrOf 12 (qT (x, y, z))) := builtQ x y z
theorem builtQT0 : Tryz.prog.built 53 [] = some (arrOf 12 (qT (0, 0, 0))) := builtQ0
theorem zeroQT : ∀ i, i < 12 → u64f (fun _ => 0) i = qT (0, 0, 0) i := fun i hi => by
 have e : ∀ j, ewF 0 j = .int .u64 0 := fun j => by
   unfold ewF u64f wd
   simp
 unfold qT qF
 simp only [e, ite_self]
 rfl
theorem qmulS_one {a t : Nat × Nat × Nat} {K n i : Nat} (h : qmulS a K n i = t) (hb : K / 2 ^ (n - (i + 1)) % 2 = 1) : qmulS a K n (i + 1) = qAdd (qAdd t t) a := by
 unfold qmulS
 rw [if_pos hb, h]
theorem qmulS_nil {a t : Nat × Nat × Nat} {K n i : Nat} (h : qmulS a K n i = t) (hb : K / 2 ^ (n - (i + 1)) % 2 = 0) : qmulS a K n (i + 1) = qAdd t t := by
 unfold qmulS
 rw [if_neg (by omega), h]
set_option maxHeartbeats 4000000 in
set_option maxRecDepth 10000 in
theorem pOften_any (a : Nat × Nat × Nat) (V n : Nat) (w : World) (Ha : LtT a) (Hn : n ≤ 256) : Calls Tryz.prog 58 #[.func (.func 43) #[] #[], .agg (arrOf 12 (qT a)), .func (.func 59) #[] #[], .agg (arrOf 4 (ewF V)), .int .i64 (n : Int)] w fun e w' => e = .returned (.agg (arrOf 12 (qT (qOft a V n)))) ∧ Below w.heap.size w w' := by
 have qn : IntKind.i64.wrap ((n : Int) - 1) = (n : Int) - 1 := IntWalk.i64_in _ (by omega)
 have Bw0 := Below.refl w.heap.size w
 have HGS : Hid (∀ wq : World, Below w.heap.size w wq → w.heap.size ≤ wq.heap.size) := Lib.hid fun wq h => h.size
 replace Ha := Lib.hid Ha
 replace Hn := Lib.hid Hn
 go_enter Tryz.func58, Tryz.ntmps58
 go_wp2_with (first
   | (have hgo := Bw0; clear hgo
      refine wpList_box_row rfl 53 (.tmp 1) rfl 12 (qT a) rfl ?_
      intro b_t6 w1 lk r_t6 kk
      have l_t6 := zrl HGS Bw0 lk
      have Bw1 := zbt HGS Bw0 kk
      clear Bw0 kk lk)
   | (have hgo := Bw1; clear hgo
      refine wpList_box_row rfl 48 (.tmp 3) rfl 4 (ewF V) rfl ?_
      intro b_t8 w2 lk r_t8 kk
      have n_t6_t8 := zrn r_t6 lk
      have l_t8 := zrl HGS Bw1 lk
      replace r_t6 := zrb r_t6 kk
      have Bw2 := zbt HGS Bw1 kk
      clear Bw1 kk lk)
   | (have hgo := Bw2; clear hgo
      refine wpList_alloc_row rfl 53 rfl 12 (u64f fun _ => 0) zeroQ ?_
      intro b_t10 w3 lk r_t10 kk
      have n_t6_t10 := zrn r_t6 lk
      have n_t8_t10 := zrn r_t8 lk
      have l_t10 := zrl HGS Bw2 lk
      replace r_t6 := zrb r_t6 kk
      replace r_t8 := zrb r_t8 kk
      have Bw3 := zbt HGS Bw2 kk
      clear Bw2 kk lk)
   | (have hgo := Bw3; clear hgo
      refine wpList_alloc_row rfl 53 rfl 12 (u64f fun _ => 0) zeroQ ?_
      intro b_t11 w4 lk r_t11 kk
      have n_t6_t11 := zrn r_t6 lk
      have n_t8_t11 := zrn r_t8 lk
      have n_t10_t11 := zrn r_t10 lk
      have l_t11 := zrl HGS Bw3 lk
      replace r_t6 := zrb r_t6 kk
      replace r_t8 := zrb r_t8 kk
      replace r_t10 := zrb r_t10 kk
      have Bw4 := zbt HGS Bw3 kk
      clear Bw3 kk lk))
 go_loopw [12] (fun kv wr => ∃ (i : Nat) (t : Nat × Nat × Nat), i ≤ n ∧ qmulS a V n i = t ∧ LtT t ∧ kv = .int .i64 ((n : Int) - 1 - (i : Int)) ∧ wr.rowIs b_t11 53 12 (qT t) ∧ wr.rowIs b_t6 53 12 (qT a) ∧ wr.rowIs b_t8 48 4 (ewF V) ∧ wr.rowIs b_t10 53 12 (u64f fun _ => 0) ∧ Below w.heap.size w wr) (fun kv _ => ((intOf kv) + 1).toNat)
 case atStart =>
   exact ⟨0, (0, 0, 0), Nat.zero_le _, rfl, LtT.none, by first | go_num | simp, World.rowIs.congr r_t11 zeroQT, r_t6, r_t8, r_t10, Bw4⟩
 case round =>
 clear r_t11 r_t6 r_t8 r_t10 Bw4
 obtain ⟨i, t, hi, hcl, hlt, rfl, r_t11, r_t6, r_t8, r_t10, B⟩ := hrel
 have Ht := Lib.hid hlt
 replace hcl := Lib.hid hcl
 clear hlt
 by_cases hin : i < n
 · obtain ⟨tt, htt⟩ := nat_var (n - (i + 1))
   have hn256 := Hn.out
   have htI : (n : Int) - 1 - (i : Int) = (tt : Int) := by omega
   rw [htI]
   have HTI := Lib.hid (show (tt : Int) = (n : Int) - 1 - (i : Int) from htI.symm)
   have ht0 : 0 ≤ (tt : Int) := by omega
   have htn : IntKind.i64.wrap ((tt : Int) - 1) = (tt : Int) - 1 := IntWalk.i64_in _ (by omega)
   have hbz : bitZ V (tt : Int) = V / 2 ^ tt % 2 := by
     unfold bitZ
     rw [if_pos ⟨by omega, by omega⟩, Int.toNat_natCast]
   have hbit := fun w => sBit_any V (tt : Int) w (by omega) (by omega)
   rw [hbz] at hbit
   obtain ⟨b, hb⟩ := nat_var (V / 2 ^ tt % 2)
   have hb2 : b < 2 := by rw [hb]; exact Nat.mod_lt _ (by decide)
   rw [← hb] at hbit
   have HBIT := Lib.hid hbit
   have HBI : Hid (V / 2 ^ (n - (i + 1)) % 2 = b) := Lib.hid (by rw [← htt, hb])
   clear hbit hbz hb htt htI hn256
   rcases (show b = 0 ∨ b = 1 by omega) with rfl | rfl
   · have Bw0 := B
     clear B
     go_wp2_with (first
       | (have hgo := Bw0; clear hgo
          refine wpList_load_as rfl 53 (.tmp 11) rfl 12 (qT t) arrQ r_t11 rfl (by omega) (fun i hi => by rw [Nat.zero_add]) ?_
          have Bw1 := Bw0
          clear Bw0)
       | (have hgo := Bw1; clear hgo
          refine wpList_load_as rfl 53 (.tmp 11) rfl 12 (qT t) arrQ r_t11 rfl (by omega) (fun i hi => by rw [Nat.zero_add]) ?_
          have Bw2 := Bw1
          clear Bw1)
       | (have hgo := Bw2; clear hgo
          go_at_call 43
          refine (qTAdd_any t t _ Ht.out Ht.out).mono ?_
          rintro e w11 ⟨rfl, kk⟩
          replace r_t11 := zrb r_t11 kk
          replace r_t6 := zrb r_t6 kk
          replace r_t8 := zrb r_t8 kk
          replace r_t10 := zrb r_t10 kk
          have Bw3 := zbt HGS Bw2 kk
          clear Bw2 kk)
       | (have hgo := Bw3; clear hgo
          refine wpList_store_as rfl 53 (.tmp 11) (.tmp 22) rfl 12 (qT (qAdd t t)) arrQ r_t11 rfl rfl (by omega) (fun j _ => qF_one _ _ _ j) (fun i hi => putN_whole hi) ?_
          intro w12 q gk
          replace r_t6 := gb_rowIs r_t6 gk n_t6_t11
          replace r_t8 := gb_rowIs r_t8 gk n_t8_t11
          replace r_t10 := gb_rowIs r_t10 gk n_t10_t11
          replace r_t11 := q
          have Bw4 := zbg HGS Bw3 gk l_t11
          clear Bw3 gk q)
       | (have hgo := Bw4; clear hgo
          refine wpList_load_as rfl 48 (.tmp 8) rfl 4 (ewF V) arrS r_t8 rfl (by omega) (fun i hi => by rw [Nat.zero_add]) ?_
          have Bw5 := Bw4
          clear Bw4)
       | (have hgo := Bw5; clear hgo
          go_at_call 59
          refine (HBIT.out _).mono ?_
          rintro e w16 ⟨rfl, kk⟩
          replace r_t11 := zrb r_t11 kk
          replace r_t6 := zrb r_t6 kk
          replace r_t8 := zrb r_t8 kk
          replace r_t10 := zrb r_t10 kk
          have Bw6 := zbt HGS Bw5 kk
          clear Bw5 kk))
     go_roundw
     case rel =>
       exact ⟨i + 1, _, by omega, qmulS_nil hcl.out HBI.out, LtT.qAdd _ _, by rw [HTI.out]; go_num, r_t11, r_t6, r_t8, r_t10, Bw6⟩
     case measure => (simp [intOf]; try omega)
   · have Bw0 := B
     clear B
     go_wp2_with (first
       | (have hgo := Bw0; clear hgo
          refine wpList_load_as rfl 53 (.tmp 11) rfl 12 (qT t) arrQ r_t11 rfl (by omega) (fun i hi => by rw [Nat.zero_add]) ?_
          have Bw1 := Bw0
          clear Bw0)
       | (have hgo := Bw1; clear hgo
          refine wpList_load_as rfl 53 (.tmp 11) rfl 12 (qT t) arrQ r_t11 rfl (by omega) (fun i hi => by rw [Nat.zero_add]) ?_
          have Bw2 := Bw1
          clear Bw1)
       | (have hgo := Bw2; clear hgo
          go_at_call 43
          refine (qTAdd_any t t _ Ht.out Ht.out).mono ?_
          rintro e w11 ⟨rfl, kk⟩
          replace r_t11 := zrb r_t11 kk
          replace r_t6 := zrb r_t6 kk
          replace r_t8 := zrb r_t8 kk
          replace r_t10 := zrb r_t10 kk
          have Bw3 := zbt HGS Bw2 kk
          clear Bw2 kk)
       | (have hgo := Bw3; clear hgo
          refine wpList_store_as rfl 53 (.tmp 11) (.tmp 22) rfl 12 (qT (qAdd t t)) arrQ r_t11 rfl rfl (by omega) (fun j _ => qF_one _ _ _ j) (fun i hi => putN_whole hi) ?_
          intro w12 q gk
          replace r_t6 := gb_rowIs r_t6 gk n_t6_t11
          replace r_t8 := gb_rowIs r_t8 gk n_t8_t11
          replace r_t10 := gb_rowIs r_t10 gk n_t10_t11
          replace r_t11 := q
          have Bw4 := zbg HGS Bw3 gk l_t11
          clear Bw3 gk q)
       | (have hgo := Bw4; clear hgo
          refine wpList_load_as rfl 48 (.tmp 8) rfl 4 (ewF V) arrS r_t8 rfl (by omega) (fun i hi => by rw [Nat.zero_add]) ?_
          have Bw5 := Bw4
          clear Bw4)
       | (have hgo := Bw5; clear hgo
          go_at_call 59
          refine (HBIT.out _).mono ?_
          rintro e w16 ⟨rfl, kk⟩
          replace r_t11 := zrb r_t11 kk
          replace r_t6 := zrb r_t6 kk
          replace r_t8 := zrb r_t8 kk
          replace r_t10 := zrb r_t10 kk
          have Bw6 := zbt HGS Bw5 kk
          clear Bw5 kk)
       | (have hgo := Bw6; clear hgo
          refine wpList_load_as rfl 53 (.tmp 11) rfl 12 (qT (qAdd t t)) arrQ r_t11 rfl (by omega) (fun i hi => by rw [Nat.zero_add]) ?_
          have Bw7 := Bw6
          clear Bw6)
       | (have hgo := Bw7; clear hgo
          refine wpList_load_as rfl 53 (.tmp 6) rfl 12 (qT a) arrQ r_t6 rfl (by omega) (fun i hi => by rw [Nat.zero_add]) ?_
          have Bw8 := Bw7
          clear Bw7)
       | (have hgo := Bw8; clear hgo
          go_at_call 43
          refine (qTAdd_any (qAdd t t) a _ (LtT.qAdd _ _) Ha.out).mono ?_
          rintro e w21 ⟨rfl, kk⟩
          replace r_t11 := zrb r_t11 kk
          replace r_t6 := zrb r_t6 kk
          replace r_t8 := zrb r_t8 kk
          replace r_t10 := zrb r_t10 kk
          have Bw9 := zbt HGS Bw8 kk
          clear Bw8 kk)
       | (have hgo := Bw9; clear hgo
          refine wpList_store_as rfl 53 (.tmp 11) (.tmp 31) rfl 12 (qT (qAdd (qAdd t t) a)) arrQ r_t11 rfl rfl (by omega) (fun j _ => qF_one _ _ _ j) (fun i hi => putN_whole hi) ?_
          intro w22 q gk
          replace r_t6 := gb_rowIs r_t6 gk n_t6_t11
          replace r_t8 := gb_rowIs r_t8 gk n_t8_t11
          replace r_t10 := gb_rowIs r_t10 gk n_t10_t11
          replace r_t11 := q
          have Bw10 := zbg HGS Bw9 gk l_t11
          clear Bw9 gk q))
     go_roundw
     case rel =>
       exact ⟨i + 1, _, by omega, qmulS_one hcl.out HBI.out, LtT.qAdd _ _, by rw [HTI.out]; go_num, r_t11, r_t6, r_t8, r_t10, Bw10⟩
     case measure => (simp [intOf]; try omega)
 · obtain rfl : i = n := by omega
   have Bw0 := B
   clear B
   have HE : Hid (qOft a V i = t) := hcl
   go_wp2_with (first
     | (have hgo := Bw0; clear hgo
        refine wpList_load_as rfl 53 (.tmp 11) rfl 12 (qT t) arrQ r_t11 rfl (by omega) (fun i hi => by rw [Nat.zero_add]) ?_
        have Bw1 := Bw0
        clear Bw0)
     | (have hgo := Bw1; clear hgo
        refine wpList_store_as rfl 53 (.tmp 10) (.tmp 32) rfl 12 (qT t) arrQ r_t10 rfl rfl (by omega) (fun j _ => qF_one _ _ _ j) (fun i hi => putN_whole hi) ?_
        intro w502 q gk
        replace r_t11 := gb_rowIs r_t11 gk (Ne.symm n_t10_t11)
        replace r_t6 := gb_rowIs r_t6 gk n_t6_t10
        replace r_t8 := gb_rowIs r_t8 gk n_t8_t10
        replace r_t10 := q
        have Bw2 := zbg HGS Bw1 gk l_t10
        clear Bw1 gk q))
   exact ret_cell_as _ rfl arrQ r_t10 rfl (by omega) (fun _ _ => rfl) rfl ⟨by rw [HE.out], Bw2⟩
set_option maxHeartbeats 4000000 in
set_option maxRecDepth 10000 in
theorem qTMul_any (a : Nat × Nat × Nat) (V : Nat) (w : World) (Ha : LtT a) : Calls Tryz.prog 23 #[.agg (arrOf 12 (qT a)), .agg (arrOf 4 (ewF V))] w fun e w' => e = .returned (.agg (arrOf 12 (qT (qMul a V)))) ∧ Below w.heap.size w w' := by
 have Bw0 := Below.refl w.heap.size w
 have HGS : Hid (∀ wq : World, Below w.heap.size w wq → w.heap.size ≤ wq.heap.size) := Lib.hid fun wq h => h.size
 replace Ha := Lib.hid Ha
 go_enter Tryz.func23, Tryz.ntmps23
 go_wp2_with (first
   | (have hgo := Bw0; clear hgo
      refine wpList_box_row rfl 53 (.tmp 0) rfl 12 (qT a) rfl ?_
      intro b_t2 w1 lk r_t2 kk
      have l_t2 := zrl HGS Bw0 lk
      have Bw1 := zbt HGS Bw0 kk
      clear Bw0 kk lk)
   | (have hgo := Bw1; clear hgo
      refine wpList_box_row rfl 48 (.tmp 1) rfl 4 (ewF V) rfl ?_
      intro b_t3 w2 lk r_t3 kk
      have n_t2_t3 := zrn r_t2 lk
      have l_t3 := zrl HGS Bw1 lk
      replace r_t2 := zrb r_t2 kk
      have Bw2 := zbt HGS Bw1 kk
      clear Bw1 kk lk)
   | (have hgo := Bw2; clear hgo
      refine wpList_alloc_row rfl 53 rfl 12 (u64f fun _ => 0) zeroQ ?_
      intro b_t4 w3 lk r_t4 kk
      have n_t2_t4 := zrn r_t2 lk
      have n_t3_t4 := zrn r_t3 lk
      have l_t4 := zrl HGS Bw2 lk
      replace r_t2 := zrb r_t2 kk
      replace r_t3 := zrb r_t3 kk
      have Bw3 := zbt HGS Bw2 kk
      clear Bw2 kk lk)
   | (have hgo := Bw3; clear hgo
      refine wpList_load_as rfl 53 (.tmp 2) rfl 12 (qT a) arrQ r_t2 rfl (by omega) (fun i hi => by rw [Nat.zero_add]) ?_
      have Bw4 := Bw3
      clear Bw3)
   | (have hgo := Bw4; clear hgo
      refine wpList_load_as rfl 48 (.tmp 3) rfl 4 (ewF V) arrS r_t3 rfl (by omega) (fun i hi => by rw [Nat.zero_add]) ?_
      have Bw5 := Bw4
      clear Bw4)
   | (have hgo := Bw5; clear hgo
      go_at_call 58
      refine (pOften_any a V 253 _ Ha.out (by decide)).mono ?_
      rintro e w6 ⟨rfl, kk⟩
      replace r_t2 := zrb r_t2 kk
      replace r_t3 := zrb r_t3 kk
      replace r_t4 := zrb r_t4 kk
      have Bw6 := zbt HGS Bw5 kk
      clear Bw5 kk)
   | (have hgo := Bw6; clear hgo
      refine wpList_store_as rfl 53 (.tmp 4) (.tmp 7) rfl 12 (qT (qOft a V 253)) arrQ r_t4 rfl rfl (by omega) (fun j _ => qF_one _ _ _ j) (fun i hi => putN_whole hi) ?_
      intro w7 q gk
      replace r_t2 := gb_rowIs r_t2 gk n_t2_t4
      replace r_t3 := gb_rowIs r_t3 gk n_t3_t4
      replace r_t4 := q
      have Bw7 := zbg HGS Bw6 gk l_t4
      clear Bw6 gk q))
 exact ret_cell_as _ rfl arrQ r_t4 rfl (by omega) (fun _ _ => rfl) rfl ⟨rfl, Bw7⟩
def qTim (a : Nat × Nat × Nat) (K : Nat) : Nat × Nat × Nat := qOft a K (Lib.bitLen K)
theorem RQ.tim {P : Nat × Nat} {a : Nat × Nat × Nat} (h : RQ P a) {K : Nat} (hK : K < 4294967296) : RQ (mulE K P) (qTim a K) := h.oft (lenN_lt K (Nat.lt_trans hK (by decide)))
theorem numL_lit8 (K : Nat) (h : K < 4294967296) : numL (litB K 8) 64 % ordL = K := by
 rw [show 64 = 8 + 56 from rfl, numL_wanting (litB K 8) 8 (by rw [litB_length]; exact Nat.le_refl _) 56, numL_litB K 8 8 (Nat.le_refl _), Nat.mod_eq_of_lt (Nat.lt_trans h (by decide)), Nat.mod_eq_of_lt (Nat.lt_trans h (by decide +kernel))]
theorem wide_lit (v : Value) (K : Nat) (w : World) (h : Bs w v (litB K 8)) (hK : K < 4294967296) : Calls Tryz.prog 55 #[v] w fun e w' => e = .returned (.agg (arrOf 4 (ewF K))) ∧ Below w.heap.size w w' := by
 have g := sWide_any v (litB K 8) w h
 rwa [numL_lit8 K hK] at g
theorem len64_b (K : Nat) (w : World) (h : K < 4294967296) : Calls Tryz.prog 122 #[.int .u64 (K : Int)] w fun e w' => e = .returned (.int .i64 ((Lib.bitLen K : Nat) : Int)) ∧ Below w.heap.size w w' := by
 refine (len64_any K w h).mono ?_
 rintro e w' ⟨rfl, rfl⟩
 exact ⟨rfl, Below.refl _ _⟩
set_option maxHeartbeats 4000000 in
set_option maxRecDepth 10000 in
theorem pTimes_in (a : Nat × Nat × Nat) (K : Nat) (w : World) (Ha : LtT a) (hK : K ≤ 2147483648) : Calls Tryz.prog 91 #[.agg (arrOf 12 (qT a)), .int .i64 (K : Int)] w fun e w' => e = .returned (.agg (arrOf 12 (qT (qTim a K)))) ∧ Below w.heap.size w w' := by
 have Bw0 := Below.refl w.heap.size w
 have HGS : Hid (∀ wq : World, Below w.heap.size w wq → w.heap.size ≤ wq.heap.size) := Lib.hid fun wq h => h.size
 replace Ha := Lib.hid Ha
 have HK := Lib.hid hK
 have q0 : ¬ (K : Int) < 0 := by omega
 have q1 : ¬ (2147483648 : Int) < (K : Int) := by omega
 have q2 : IntKind.u64.wrap (K : Int) = (K : Int) := IntWalk.u64_in _ (by omega)
 have HL := Lib.hid fun w => little64_any K w (by have h := HK.out; omega)
 have HLL : Hid (Lib.bitLen K ≤ 256) := Lib.hid (Nat.le_trans (lenN_le K (by omega)) (by decide))
 have HN := Lib.hid fun w => len64_b K w (by have h := HK.out; omega)
 have HG : Hid (qTim a K = qOft a K (Lib.bitLen K)) := Lib.hid rfl
 obtain ⟨sz, hm⟩ := nat_var (Lib.bitLen K)
 rw [← hm] at HLL HN HG
 clear hm
 go_enter Tryz.func91, Tryz.ntmps91
 go_wp2_with (first
   | (have hgo := Bw0; clear hgo
      refine wpList_box_row rfl 53 (.tmp 0) rfl 12 (qT a) rfl ?_
      intro b_t2 w1 lk r_t2 kk
      have l_t2 := zrl HGS Bw0 lk
      have Bw1 := zbt HGS Bw0 kk
      clear Bw0 kk lk)
   | (have hgo := Bw1; clear hgo
      refine wpList_alloc_row rfl 53 rfl 12 (u64f fun _ => 0) zeroQ ?_
      intro b_t4 w2 lk r_t4 kk
      have n_t2_t4 := zrn r_t2 lk
      have l_t4 := zrl HGS Bw1 lk
      replace r_t2 := zrb r_t2 kk
      have Bw2 := zbt HGS Bw1 kk
      clear Bw1 kk lk)
   | (have hgo := Bw2; clear hgo
      go_at_call 69
      refine (HL.out _).mono ?_
      rintro e w11 ⟨v_s15, rfl, f_s15, kk⟩
      replace r_t2 := zrb r_t2 kk
      replace r_t4 := zrb r_t4 kk
      have Bw3 := zbt HGS Bw2 kk
      clear Bw2 kk)
   | (have hgo := Bw3; clear hgo
      go_at_call 55
      refine (wide_lit _ K _ f_s15 (by have h := HK.out; omega)).mono ?_
      rintro e w12 ⟨rfl, kk⟩
      replace r_t2 := zrb r_t2 kk
      replace r_t4 := zrb r_t4 kk
      replace f_s15 := zfb f_s15 kk
      have Bw4 := zbt HGS Bw3 kk
      clear Bw3 kk)
   | (have hgo := Bw4; clear hgo
      refine wpList_alloc_row rfl 48 rfl 4 (u64f fun _ => 0) zeroS ?_
      intro b_t5 w13 lk r_t5 kk
      have n_t2_t5 := zrn r_t2 lk
      have n_t4_t5 := zrn r_t4 lk
      have l_t5 := zrl HGS Bw4 lk
      have a_s15_t5 := Bs.away f_s15 lk
      replace r_t2 := zrb r_t2 kk
      replace r_t4 := zrb r_t4 kk
      replace f_s15 := zfb f_s15 kk
      have Bw5 := zbt HGS Bw4 kk
      clear Bw4 kk lk)
   | (have hgo := Bw5; clear hgo
      refine wpList_store_as rfl 48 (.tmp 5) (.tmp 16) rfl 4 (ewF K) arrS r_t5 rfl rfl (by omega) (fun _ _ => rfl) (fun i hi => putN_whole hi) ?_
      intro w14 q gk
      replace r_t2 := gb_rowIs r_t2 gk n_t2_t5
      replace r_t4 := gb_rowIs r_t4 gk n_t4_t5
      replace r_t5 := q
      have Bw6 := zbg HGS Bw5 gk l_t5
      replace f_s15 := gb_bs f_s15 gk a_s15_t5
      clear Bw5 gk q))
 clear f_s15
 go_wp2
 have Bw7 := Bw6.drew
 replace r_t2 := World.rowIs.drew r_t2
 replace r_t4 := World.rowIs.drew r_t4
 replace r_t5 := World.rowIs.drew r_t5
 clear Bw6
 refine zpo [b_t4] (.rd 0 (.rd 1 (.rd 2 (.rd 3 .done)))) #[true, true, true, true, false, false, false] [4, 5, 6] [some 21, some 22, none] [[], [0], [0, 1]] [(0, []), (1, []), (2, []), (3, [2]), (4, [3]), (5, [0, 1, 4, 4]), (6, [5, 5, 0, 1, 2, 3, 4, 5])] 15 ?_
 refine zld (qT a) arrQ r_t2 (cont1 n_t2_t4) (fun i hi => by rw [Nat.zero_add]) rfl rfl rfl rfl rfl (by omega) ?_
 simp only [Act.put, zA, zB, zC]
 refine zld (ewF K) arrS r_t5 (cont1 (Ne.symm n_t4_t5)) (fun i hi => by rw [Nat.zero_add]) rfl rfl rfl rfl rfl (by omega) ?_
 simp only [Act.put, zA, zB, zC]
 refine zmv (.int .i64 (K : Int)) rfl rfl rfl rfl rfl ?_
 simp only [Act.put, zA, zB, zC]
 refine lintz_pure 20 (Op.convert 3 45 (Operand.tmp 19)) 45 (.int .u64 (K : Int)) rfl rfl rfl rfl rfl (fun w0 hb => by unfold mkOp; go_simp; all_goals (with_reducible rfl)) ?_
 simp only [Act.put, zA, zB, zC]
 refine lintz_leaf ?_
 refine po_start [.val (.int .i64 (sz : Int)), .val (.agg (arrOf 12 (qT (qOft a K sz)))), .nil] [⟨b_t4, 53, 12, (u64f fun _ => 0), 2, (qT (qOft a K sz))⟩] (fun i hi => by obtain rfl : i = 0 := by { have h9 : i < 1 := hi; omega }; exact r_t4) (fun HWF m gz wa p az hp hm hmp hcl hdn hE hJ hS hO => ?_) (fun gz wa hE hJ => ?_)
 · rcases (show p = 0 ∨ p = 1 ∨ p = 2 by have h9 : p < 3 := hp; omega) with rfl | rfl | rfl
   · have e20 : az.eval (.tmp 20) = .int .u64 (K : Int) := hO 20 rfl
     exact po_k HWF hJ hE (HN.out _) rfl rfl rfl rfl rfl rfl (ar1 e20)
   · have e17 : az.eval (.tmp 17) = .agg (arrOf 12 (qT a)) := hO 17 rfl
     have e18 : az.eval (.tmp 18) = .agg (arrOf 4 (ewF K)) := hO 18 rfl
     exact po_k HWF hJ hE (pOften_any a K sz _ Ha.out HLL.out) rfl rfl rfl rfl rfl rfl (ar5 rfl e17 rfl e18 (po_e hS hdn hJ 0 21 rfl rfl rfl rfl))
   · exact po_storeOld 0 (.tmp 4) (.tmp 22) 53 b_t4 12 _ (by rw [hm]; exact hp) hmp hJ rfl (show 0 < 1 by decide) rfl rfl rfl rfl rfl (World.rowIs.lt r_t4) (by simp) (by kernel_rfl) po_ne1 hE rfl rfl rfl rfl rfl (hO 4 rfl) (po_e hS hdn hJ 1 22 rfl rfl rfl rfl) arrQ (fun j _ => qF_one _ _ _ j)
 · rw [putO_true _ _ _ _ _ rfl]
   simp only [putA, Nat.zero_add, Nat.reduceAdd]
   rw [hJ.tt 0 rfl, hJ.tt 1 rfl]
   simp only [Act.put, zA, zB, zC]
   refine po_end ?_
   replace r_t2 := Keep.row hE r_t2 (cont1 n_t2_t4)
   replace r_t4 : wa.rowIs b_t4 53 12 (qT (qOft a K sz)) := hJ.old 0 (show 0 < 1 by decide) (show 2 < 3 by decide)
   replace r_t5 := Keep.row hE r_t5 (cont1 (Ne.symm n_t4_t5))
   have Bw8 := hE.below Bw7 (HGS.out _ Bw7) (keep_all1 l_t4)
   clear Bw7 hE hJ 
   go_wp2
   exact ret_cell_as _ rfl arrQ r_t4 rfl (by omega) (fun _ _ => rfl) rfl ⟨by rw [HG.out], Bw8⟩
def qSmall (t : Nat × Nat × Nat) : Bool := qSame (qTim t 8) (0, 0, 0)
theorem RQ.small {P : Nat × Nat} {t : Nat × Nat × Nat} (h : RQ P t) : qSmall t = decide (mulE 8 P = ptO) := (h.tim (by decide)).same RQ.none
theorem pTimes_8 (a : Nat × Nat × Nat) (w : World) (Ha : LtT a) : Calls Tryz.prog 91 #[.agg (arrOf 12 (qT a)), .int .i64 8] w fun e w' => e = .returned (.agg (arrOf 12 (qT (qTim a 8)))) ∧ Below w.heap.size w w' := pTimes_in a 8 w Ha (by decide)
set_option maxHeartbeats 4000000 in
set_option maxRecDepth 10000 in
theorem qTSmall_any (a : Nat × Nat × Nat) (w : World) (Ha : LtT a) : Calls Tryz.prog 40 #[.agg (arrOf 12 (qT a))] w fun e w' => e = .returned (.bool (qSmall a)) ∧ Below w.heap.size w w' := by
 have Bw0 := Below.refl w.heap.size w
 have HGS : Hid (∀ wq : World, Below w.heap.size w wq → w.heap.size ≤ wq.heap.size) := Lib.hid fun wq h => h.size
 replace Ha := Lib.hid Ha
 go_enter Tryz.func40, Tryz.ntmps40
 go_wp2_with (first
   | (have hgo := Bw0; clear hgo
      refine wpList_box_row rfl 53 (.tmp 0) rfl 12 (qT a) rfl ?_
      intro b_t1 w1 lk r_t1 kk
      have l_t1 := zrl HGS Bw0 lk
      have Bw1 := zbt HGS Bw0 kk
      clear Bw0 kk lk)
   | (have hgo := Bw1; clear hgo
      refine wpList_load_as rfl 53 (.tmp 1) rfl 12 (qT a) arrQ r_t1 rfl (by omega) (fun i hi => by rw [Nat.zero_add]) ?_
      have Bw2 := Bw1
      clear Bw1)
   | (have hgo := Bw2; clear hgo
      go_at_call 91
      refine (pTimes_8 a _ Ha.out).mono ?_
      rintro e w4 ⟨rfl, kk⟩
      replace r_t1 := zrb r_t1 kk
      have Bw3 := zbt HGS Bw2 kk
      clear Bw2 kk)
   | (have hgo := Bw3; clear hgo
      refine wpList_build_arr rfl 53 #[] rfl (arrOf 12 (qT (0, 0, 0))) ?_ ?_
      · simp only [List.map_toArray, List.map_cons, List.map_nil]; exact builtQT0
      have Bw4 := Bw3
      clear Bw3)
   | (have hgo := Bw4; clear hgo
      go_at_call 42
      refine (qTSame_any (qTim a 8) (0, 0, 0) _ (LtT.oft _ _ _) LtT.none).mono ?_
      rintro e w6 ⟨rfl, kk⟩
      replace r_t1 := zrb r_t1 kk
      have Bw5 := zbt HGS Bw4 kk
      clear Bw4 kk))
 go_ret
 exact ⟨rfl, Bw5⟩
theorem oddB_any (A : Nat) (b : Bool) (w : World) (h : decide (A % 2 = 1) = b) : Calls Tryz.prog 64 #[.agg (arrOf 4 (ewF A))] w fun e w' => e = .returned (.bool b) ∧ Below w.heap.size w w' := by
 have g := odd_any A w
 rwa [h] at g
theorem high_plus (C : Nat) : (C + top) / 256 ^ 31 = C / 256 ^ 31 + 128 := by
 rw [show top = 128 * 256 ^ 31 by decide +kernel, Nat.add_mul_div_right _ _ (by decide)]
theorem bes_call (Y : Nat) (w : World) (hY : Y < p25) : Calls Tryz.prog 120 #[.agg (arrOf 4 (ewF (mulP (mulP (subP p25 (mulP Y Y) 1) 121666) (invP (subP p25 121666 (mulP (mulP Y Y) 121665))))))] w fun e w' =>
   e = .returned (.tuple #[.agg (arrOf 4 (ewF ((decX Y).getD 0))), .int .i64 (rootE (decX Y))]) ∧ Below w.heap.size w w' := by
 have g := root_any (besS Y) w (mulP_lt _ _)
 rw [bes_root hY] at g
 exact g
set_option maxHeartbeats 4000000 in
set_option maxRecDepth 10000 in
theorem qEncode_any (X Y Z : Nat) (w : World) (HX : X < p25) (HY : Y < p25) (HZ : Z < p25) : Calls Tryz.prog 24 #[.agg (arrOf 12 (qF X Y Z))] w fun e w' => ∃ v, e = .returned v ∧ Owns w' w.heap.size v (litB (encQ (X, Y, Z)) 32) ∧ Below w.heap.size w w' := by
 have Bw0 := Below.refl w.heap.size w
 have HGS : Hid (∀ wq : World, Below w.heap.size w wq → w.heap.size ≤ wq.heap.size) := Lib.hid fun wq h => h.size
 replace HX := Lib.hid HX
 replace HY := Lib.hid HY
 replace HZ := Lib.hid HZ
 rcases hA : fullT (X, Y, Z) with ⟨x1, y1, z1⟩
 obtain ⟨hx1, hy1, hz1⟩ := (full_vlt hA HX.out HY.out HZ.out)
 have Hx1 := Lib.hid hx1
 have Hy1 := Lib.hid hy1
 have Hz1 := Lib.hid hz1
 clear hx1 hy1 hz1
 replace hA := Lib.hid hA
 obtain ⟨A, hA1⟩ := nat_var (mulP x1 (invP z1))
 obtain ⟨C, hC⟩ := nat_var (mulP y1 (invP z1))
 have HC : Hid (C < p25) := Lib.hid (by rw [hC]; exact mulP_lt _ _)
 have HG : Hid (encQ (X, Y, Z) = C + A % 2 * top) := Lib.hid (by unfold encQ encA; rw [hA.out, ← hA1, ← hC])
 have HMX := Lib.hid fun w => mul_any x1 (invP z1) w Hx1.out (invP_lt _)
 have HMY := Lib.hid fun w => mul_any y1 (invP z1) w Hy1.out (invP_lt _)
 rw [← hA1] at HMX
 rw [← hC] at HMY
 rw [HG.out]
 have hql := high_lt C HC.out
 obtain ⟨q, hq⟩ := nat_var (C / 256 ^ 31)
 rw [← hq] at hql
 have hor := or_128 q hql
 have HQ := Lib.hid hq
 clear hA1 hC hq HG
 by_cases h2 : A % 2 = 1
 · have H2 := Lib.hid (decide_eq_true h2)
   rw [h2, Nat.one_mul]
   clear h2
   go_enter Tryz.func24, Tryz.ntmps24
   go_wp2_with (first
     | (have hgo := Bw0; clear hgo
        refine wpList_box_row rfl 53 (.tmp 0) rfl 12 (qF X Y Z) rfl ?_
        intro b_t1 w1 lk r_t1 kk
        have l_t1 := zrl HGS Bw0 lk
        have Bw1 := zbt HGS Bw0 kk
        clear Bw0 kk lk)
     | (have hgo := Bw1; clear hgo
        refine wpList_load_as rfl 53 (.tmp 1) rfl 12 (qF X Y Z) arrQ r_t1 rfl (by omega) (fun i hi => by rw [Nat.zero_add]) ?_
        have Bw2 := Bw1
        clear Bw1)
     | (have hgo := Bw2; clear hgo
        go_at_call 60
        refine (full_v X Y Z _ hA.out HX.out HY.out HZ.out).mono ?_
        rintro e w4 ⟨rfl, kk⟩
        replace r_t1 := zrb r_t1 kk
        have Bw3 := zbt HGS Bw2 kk
        clear Bw2 kk)
     | (have hgo := Bw3; clear hgo
        refine wpList_store_as rfl 53 (.tmp 1) (.tmp 6) rfl 12 (qF x1 y1 z1) arrQ r_t1 rfl rfl (by omega) (fun j _ => qF_one _ _ _ j) (fun i hi => putN_whole hi) ?_
        intro w5 q gk
        replace r_t1 := q
        have Bw4 := zbg HGS Bw3 gk l_t1
        clear Bw3 gk q)
     | (have hgo := Bw4; clear hgo
        refine wpList_load_as rfl 51 (.tmp 7) rfl 4 (ewF z1) arrE r_t1 rfl (by omega) (fun i hi => qF_z _ _ _ i hi) ?_
        have Bw5 := Bw4
        clear Bw4)
     | (have hgo := Bw5; clear hgo
        go_at_call 61
        refine (inv_any z1 _ Hz1.out).mono ?_
        rintro e w8 ⟨rfl, kk⟩
        replace r_t1 := zrb r_t1 kk
        have Bw6 := zbt HGS Bw5 kk
        clear Bw5 kk)
     | (have hgo := Bw6; clear hgo
        refine wpList_alloc_row rfl 51 rfl 4 (u64f fun _ => 0) zeroE ?_
        intro b_t3 w9 lk r_t3 kk
        have n_t1_t3 := zrn r_t1 lk
        have l_t3 := zrl HGS Bw6 lk
        replace r_t1 := zrb r_t1 kk
        have Bw7 := zbt HGS Bw6 kk
        clear Bw6 kk lk)
     | (have hgo := Bw7; clear hgo
        refine wpList_store_as rfl 51 (.tmp 3) (.tmp 9) rfl 4 (ewF (invP z1)) arrE r_t3 rfl rfl (by omega) (fun _ _ => rfl) (fun i hi => putN_whole hi) ?_
        intro w10 q gk
        replace r_t1 := gb_rowIs r_t1 gk n_t1_t3
        replace r_t3 := q
        have Bw8 := zbg HGS Bw7 gk l_t3
        clear Bw7 gk q)
     | (have hgo := Bw8; clear hgo
        refine wpList_load_as rfl 51 (.tmp 10) rfl 4 (ewF y1) arrE r_t1 rfl (by omega) (fun i hi => qF_y _ _ _ i hi) ?_
        have Bw9 := Bw8
        clear Bw8)
     | (have hgo := Bw9; clear hgo
        refine wpList_load_as rfl 51 (.tmp 3) rfl 4 (ewF (invP z1)) arrE r_t3 rfl (by omega) (fun i hi => by rw [Nat.zero_add]) ?_
        have Bw10 := Bw9
        clear Bw9)
     | (have hgo := Bw10; clear hgo
        go_at_call 62
        refine (HMY.out _).mono ?_
        rintro e w14 ⟨rfl, kk⟩
        replace r_t1 := zrb r_t1 kk
        replace r_t3 := zrb r_t3 kk
        have Bw11 := zbt HGS Bw10 kk
        clear Bw10 kk)
     | (have hgo := Bw11; clear hgo
        go_at_call 63
        refine (bytes_any C _).mono ?_
        rintro e w15 ⟨v_s14, rfl, o_s14, kk⟩
        replace o_s14 := o_s14.lower (HGS.out _ Bw11)
        replace r_t1 := zrb r_t1 kk
        replace r_t3 := zrb r_t3 kk
        have Bw12 := zbt HGS Bw11 kk
        clear Bw11 kk
        obtain ⟨g, cap, hv, hg, hgs, _, _⟩ := o_s14.open_cons (by rw [litB_length]; decide)
        rw [litB_length] at hv
        subst hv
        have HCAP : Hid (32 ≤ cap) := Lib.hid (owns_cap o_s14)
        have HGB := Lib.hid hg
        clear hg hgs)
     | (have hgo := Bw12; clear hgo
        refine wpList_load_as rfl 51 (.tmp 15) rfl 4 (ewF x1) arrE r_t1 rfl (by omega) (fun i hi => qF_x _ _ _ i hi) ?_
        have Bw13 := Bw12
        clear Bw12)
     | (have hgo := Bw13; clear hgo
        refine wpList_load_as rfl 51 (.tmp 3) rfl 4 (ewF (invP z1)) arrE r_t3 rfl (by omega) (fun i hi => by rw [Nat.zero_add]) ?_
        have Bw14 := Bw13
        clear Bw13)
     | (have hgo := Bw14; clear hgo
        go_at_call 62
        refine (HMX.out _).mono ?_
        rintro e w19 ⟨rfl, kk⟩
        replace r_t1 := zrb r_t1 kk
        replace r_t3 := zrb r_t3 kk
        replace o_s14 := Owns.belowJ o_s14 kk
        have Bw15 := zbt HGS Bw14 kk
        clear Bw14 kk)
     | (have hgo := Bw15; clear hgo
        go_at_call 64
        refine (oddB_any A true _ H2.out).mono ?_
        rintro e w20 ⟨rfl, kk⟩
        replace r_t1 := zrb r_t1 kk
        replace r_t3 := zrb r_t3 kk
        replace o_s14 := Owns.belowJ o_s14 kk
        have Bw16 := zbt HGS Bw15 kk
        clear Bw15 kk)
     | (have hgo := Bw16; clear hgo
        refine wpList_load_byte rfl (.tmp 21) rfl 31 q o_s14 (by rw [litB_length]) (by rw [litB_length]; decide) rfl (by rw [litB_at, high_old C HC.out]; exact HQ.out.symm) ?_
        have Bw17 := Bw16
        clear Bw16)
     | (have hgo := Bw17; clear hgo
        refine wpList_store_byte rfl (.tmp 24) (.tmp 23) rfl 31 (q + 128) o_s14 (by rw [litB_length]) HCAP.out (by rw [litB_length]; decide) rfl rfl (by omega) ?_
        intro w90 o90 g90
        have Bw18 := Bw17.grown g90 (HGS.out _ Bw17) (by intro k hk; cases hk; exact HGB.out)
        have O9 : Owns w90 w.heap.size (.slice (some ⟨g, 0, none⟩) 32 cap) (litB (C + top) 32) := by rw [HQ.out, ← high_plus, high_set] at o90; exact o90
        clear Bw17 g90 o90 o_s14))
   go_ret
   exact ⟨_, rfl, O9, Bw18⟩
 · have H2 := Lib.hid (decide_eq_false h2)
   rw [show A % 2 = 0 by omega, Nat.zero_mul, Nat.add_zero]
   clear h2
   go_enter Tryz.func24, Tryz.ntmps24
   go_wp2_with (first
     | (have hgo := Bw0; clear hgo
        refine wpList_box_row rfl 53 (.tmp 0) rfl 12 (qF X Y Z) rfl ?_
        intro b_t1 w1 lk r_t1 kk
        have l_t1 := zrl HGS Bw0 lk
        have Bw1 := zbt HGS Bw0 kk
        clear Bw0 kk lk)
     | (have hgo := Bw1; clear hgo
        refine wpList_load_as rfl 53 (.tmp 1) rfl 12 (qF X Y Z) arrQ r_t1 rfl (by omega) (fun i hi => by rw [Nat.zero_add]) ?_
        have Bw2 := Bw1
        clear Bw1)
     | (have hgo := Bw2; clear hgo
        go_at_call 60
        refine (full_v X Y Z _ hA.out HX.out HY.out HZ.out).mono ?_
        rintro e w4 ⟨rfl, kk⟩
        replace r_t1 := zrb r_t1 kk
        have Bw3 := zbt HGS Bw2 kk
        clear Bw2 kk)
     | (have hgo := Bw3; clear hgo
        refine wpList_store_as rfl 53 (.tmp 1) (.tmp 6) rfl 12 (qF x1 y1 z1) arrQ r_t1 rfl rfl (by omega) (fun j _ => qF_one _ _ _ j) (fun i hi => putN_whole hi) ?_
        intro w5 q gk
        replace r_t1 := q
        have Bw4 := zbg HGS Bw3 gk l_t1
        clear Bw3 gk q)
     | (have hgo := Bw4; clear hgo
        refine wpList_load_as rfl 51 (.tmp 7) rfl 4 (ewF z1) arrE r_t1 rfl (by omega) (fun i hi => qF_z _ _ _ i hi) ?_
        have Bw5 := Bw4
        clear Bw4)
     | (have hgo := Bw5; clear hgo
        go_at_call 61
        refine (inv_any z1 _ Hz1.out).mono ?_
        rintro e w8 ⟨rfl, kk⟩
        replace r_t1 := zrb r_t1 kk
        have Bw6 := zbt HGS Bw5 kk
        clear Bw5 kk)
     | (have hgo := Bw6; clear hgo
        refine wpList_alloc_row rfl 51 rfl 4 (u64f fun _ => 0) zeroE ?_
        intro b_t3 w9 lk r_t3 kk
        have n_t1_t3 := zrn r_t1 lk
        have l_t3 := zrl HGS Bw6 lk
        replace r_t1 := zrb r_t1 kk
        have Bw7 := zbt HGS Bw6 kk
        clear Bw6 kk lk)
     | (have hgo := Bw7; clear hgo
        refine wpList_store_as rfl 51 (.tmp 3) (.tmp 9) rfl 4 (ewF (invP z1)) arrE r_t3 rfl rfl (by omega) (fun _ _ => rfl) (fun i hi => putN_whole hi) ?_
        intro w10 q gk
        replace r_t1 := gb_rowIs r_t1 gk n_t1_t3
        replace r_t3 := q
        have Bw8 := zbg HGS Bw7 gk l_t3
        clear Bw7 gk q)
     | (have hgo := Bw8; clear hgo
        refine wpList_load_as rfl 51 (.tmp 10) rfl 4 (ewF y1) arrE r_t1 rfl (by omega) (fun i hi => qF_y _ _ _ i hi) ?_
        have Bw9 := Bw8
        clear Bw8)
     | (have hgo := Bw9; clear hgo
        refine wpList_load_as rfl 51 (.tmp 3) rfl 4 (ewF (invP z1)) arrE r_t3 rfl (by omega) (fun i hi => by rw [Nat.zero_add]) ?_
        have Bw10 := Bw9
        clear Bw9)
     | (have hgo := Bw10; clear hgo
        go_at_call 62
        refine (HMY.out _).mono ?_
        rintro e w14 ⟨rfl, kk⟩
        replace r_t1 := zrb r_t1 kk
        replace r_t3 := zrb r_t3 kk
        have Bw11 := zbt HGS Bw10 kk
        clear Bw10 kk)
     | (have hgo := Bw11; clear hgo
        go_at_call 63
        refine (bytes_any C _).mono ?_
        rintro e w15 ⟨v_s14, rfl, o_s14, kk⟩
        replace o_s14 := o_s14.lower (HGS.out _ Bw11)
        replace r_t1 := zrb r_t1 kk
        replace r_t3 := zrb r_t3 kk
        have Bw12 := zbt HGS Bw11 kk
        clear Bw11 kk
        obtain ⟨g, cap, hv, hg, hgs, _, _⟩ := o_s14.open_cons (by rw [litB_length]; decide)
        rw [litB_length] at hv
        subst hv
        have HCAP : Hid (32 ≤ cap) := Lib.hid (owns_cap o_s14)
        have HGB := Lib.hid hg
        clear hg hgs)
     | (have hgo := Bw12; clear hgo
        refine wpList_load_as rfl 51 (.tmp 15) rfl 4 (ewF x1) arrE r_t1 rfl (by omega) (fun i hi => qF_x _ _ _ i hi) ?_
        have Bw13 := Bw12
        clear Bw12)
     | (have hgo := Bw13; clear hgo
        refine wpList_load_as rfl 51 (.tmp 3) rfl 4 (ewF (invP z1)) arrE r_t3 rfl (by omega) (fun i hi => by rw [Nat.zero_add]) ?_
        have Bw14 := Bw13
        clear Bw13)
     | (have hgo := Bw14; clear hgo
        go_at_call 62
        refine (HMX.out _).mono ?_
        rintro e w19 ⟨rfl, kk⟩
        replace r_t1 := zrb r_t1 kk
        replace r_t3 := zrb r_t3 kk
        replace o_s14 := Owns.belowJ o_s14 kk
        have Bw15 := zbt HGS Bw14 kk
        clear Bw14 kk)
     | (have hgo := Bw15; clear hgo
        go_at_call 64
        refine (oddB_any A false _ H2.out).mono ?_
        rintro e w20 ⟨rfl, kk⟩
        replace r_t1 := zrb r_t1 kk
        replace r_t3 := zrb r_t3 kk
        replace o_s14 := Owns.belowJ o_s14 kk
        have Bw16 := zbt HGS Bw15 kk
        clear Bw15 kk))
   go_ret
   exact ⟨_, rfl, o_s14, Bw16⟩
set_option maxHeartbeats 4000000 in
set_option maxRecDepth 10000 in
theorem beside_any (Y : Nat) (w : World) (HY : Y < p25) : Calls Tryz.prog 87 #[.agg (arrOf 4 (ewF Y))] w fun e w' => e = .returned (.tuple #[.agg (arrOf 4 (ewF ((decX Y).getD 0))), .int .i64 (rootE (decX Y))]) ∧ Below w.heap.size w w' := by
 have Bw0 := Below.refl w.heap.size w
 have HGS : Hid (∀ wq : World, Below w.heap.size w wq → w.heap.size ≤ wq.heap.size) := Lib.hid fun wq h => h.size
 replace HY := Lib.hid HY
 have HRT := Lib.hid fun w => bes_call Y w HY.out
 obtain ⟨R, hR⟩ := nat_var ((decX Y).getD 0)
 obtain ⟨ev, hev⟩ : ∃ ev, ev = rootE (decX Y) := ⟨_, rfl⟩
 rw [← hR, ← hev] at HRT
 rw [← hR, ← hev]
 clear hR hev
 go_enter Tryz.func87, Tryz.ntmps87
 go_wp2_with (first
   | (have hgo := Bw0; clear hgo
      refine wpList_box_row rfl 51 (.tmp 0) rfl 4 (ewF Y) rfl ?_
      intro b_t1 w1 lk r_t1 kk
      have l_t1 := zrl HGS Bw0 lk
      have Bw1 := zbt HGS Bw0 kk
      clear Bw0 kk lk)
   | (have hgo := Bw1; clear hgo
      refine wpList_alloc_row rfl 51 rfl 4 (u64f fun _ => 0) zeroE ?_
      intro b_t2 w2 lk r_t2 kk
      have n_t1_t2 := zrn r_t1 lk
      have l_t2 := zrl HGS Bw1 lk
      replace r_t1 := zrb r_t1 kk
      have Bw2 := zbt HGS Bw1 kk
      clear Bw1 kk lk)
   | (have hgo := Bw2; clear hgo
      refine wpList_load_as rfl 51 (.tmp 1) rfl 4 (ewF Y) arrE r_t1 rfl (by omega) (fun i hi => by rw [Nat.zero_add]) ?_
      have Bw3 := Bw2
      clear Bw2)
   | (have hgo := Bw3; clear hgo
      refine wpList_load_as rfl 51 (.tmp 1) rfl 4 (ewF Y) arrE r_t1 rfl (by omega) (fun i hi => by rw [Nat.zero_add]) ?_
      have Bw4 := Bw3
      clear Bw3)
   | (have hgo := Bw4; clear hgo
      go_at_call 62
      refine (mul_any Y Y _ HY.out HY.out).mono ?_
      rintro e w6 ⟨rfl, kk⟩
      replace r_t1 := zrb r_t1 kk
      replace r_t2 := zrb r_t2 kk
      have Bw5 := zbt HGS Bw4 kk
      clear Bw4 kk)
   | (have hgo := Bw5; clear hgo
      refine wpList_alloc_row rfl 51 rfl 4 (u64f fun _ => 0) zeroE ?_
      intro b_t4 w7 lk r_t4 kk
      have n_t1_t4 := zrn r_t1 lk
      have n_t2_t4 := zrn r_t2 lk
      have l_t4 := zrl HGS Bw5 lk
      replace r_t1 := zrb r_t1 kk
      replace r_t2 := zrb r_t2 kk
      have Bw6 := zbt HGS Bw5 kk
      clear Bw5 kk lk)
   | (have hgo := Bw6; clear hgo
      refine wpList_store_as rfl 51 (.tmp 4) (.tmp 9) rfl 4 (ewF (mulP Y Y)) arrE r_t4 rfl rfl (by omega) (fun _ _ => rfl) (fun i hi => putN_whole hi) ?_
      intro w8 q gk
      replace r_t1 := gb_rowIs r_t1 gk n_t1_t4
      replace r_t2 := gb_rowIs r_t2 gk n_t2_t4
      replace r_t4 := q
      have Bw7 := zbg HGS Bw6 gk l_t4
      clear Bw6 gk q))
 have Bw8 := Bw7.drew
 replace r_t1 := World.rowIs.drew r_t1
 replace r_t2 := World.rowIs.drew r_t2
 replace r_t4 := World.rowIs.drew r_t4
 clear Bw7
 refine zpo [] (.rd 1 .done) #[false, true, false, false, false, false, false] [0, 2, 3, 4, 5, 6] [some 10, some 12, some 13, some 14, some 5, none] [[], [0], [1], [0, 2], [], [0, 1, 2, 3, 4]] [(0, []), (1, []), (2, [0]), (3, [1, 2, 2]), (4, [0, 3, 3]), (5, []), (6, [5, 4, 4, 0, 1, 2, 3, 4, 5])] 2 ?_
 refine zld (ewF (mulP Y Y)) arrE r_t4 rfl (fun i hi => by rw [Nat.zero_add]) rfl rfl rfl rfl rfl (by omega) ?_
 simp only [Act.put, zA, zB, zC]
 refine lintz_leaf ?_
 refine po_start [.val (.agg (arrOf 4 (ewF 121666))), .val (.agg (arrOf 4 (ewF 121665))), .val (.agg (arrOf 4 (ewF (mulP (mulP Y Y) 121665)))), .val (.agg (arrOf 4 (ewF (subP p25 121666 (mulP (mulP Y Y) 121665))))), .row 51 4 (u64f fun _ => 0) 5 (ewF (subP p25 121666 (mulP (mulP Y Y) 121665))), .nil] [] (fun i hi => absurd hi (Nat.not_lt_zero _)) (fun HWF m gz wa p az hp hm hmp hcl hdn hE hJ hS hO => ?_) (fun gz wa hE hJ => ?_)
 · rcases (show p = 0 ∨ p = 1 ∨ p = 2 ∨ p = 3 ∨ p = 4 ∨ p = 5 by have h9 : p < 6 := hp; omega) with rfl | rfl | rfl | rfl | rfl | rfl
   · exact po_k HWF hJ hE (small_any 121666 _ (by decide)) rfl rfl rfl rfl rfl rfl (ar1 rfl)
   · exact po_k HWF hJ hE (small_any 121665 _ (by decide)) rfl rfl rfl rfl rfl rfl (ar1 rfl)
   · have e11 : az.eval (.tmp 11) = .agg (arrOf 4 (ewF (mulP Y Y))) := hO 11 rfl
     exact po_k HWF hJ hE (mul_any (mulP Y Y) 121665 _ (mulP_lt _ _) (by decide +kernel)) rfl rfl rfl rfl rfl rfl (ar2 e11 (po_e hS hdn hJ 1 12 rfl rfl rfl rfl))
   · exact po_k HWF hJ hE (sub_any 121666 (mulP (mulP Y Y) 121665) _ (by decide +kernel) (mulP_lt _ _)) rfl rfl rfl rfl rfl rfl (ar2 (po_e hS hdn hJ 0 10 rfl rfl rfl rfl) (po_e hS hdn hJ 2 13 rfl rfl rfl rfl))
   · exact po_alloc 5 _ 51 4 (u64f fun _ => 0) _ _ HWF hJ rfl (po_notyet hcl hmp (by rw [hm]; exact hp) (by decide)) hE rfl rfl rfl rfl rfl rfl zeroE
   · exact po_sr 4 hm hp hmp hdn hJ hE rfl rfl rfl rfl rfl rfl rfl rfl (po_e0 hS hdn 4 5 rfl rfl rfl) (po_e hS hdn hJ 3 14 rfl rfl rfl rfl) arrE (fun _ _ => rfl)
 · obtain ⟨b_t5, p_t5, lk_t5, r_t5, d_t5⟩ := hJ.row 4 (by decide) rfl (by decide)
   rw [putO_true _ _ _ _ _ rfl]
   simp only [putA, Nat.zero_add, Nat.reduceAdd]
   rw [hJ.tt 0 rfl, hJ.tt 1 rfl, hJ.tt 2 rfl, hJ.tt 3 rfl, p_t5]
   simp only [Act.put, zA, zB, zC]
   refine po_end ?_
   have n_t1_t5 := zrn r_t1 lk_t5
   have n_t2_t5 := zrn r_t2 lk_t5
   have n_t4_t5 := zrn r_t4 lk_t5
   have l_t5 := zrl HGS Bw8 lk_t5
   replace r_t1 := Keep.row hE r_t1 rfl
   replace r_t2 := Keep.row hE r_t2 rfl
   replace r_t4 := Keep.row hE r_t4 rfl
   have Bw9 := hE.below Bw8 (HGS.out _ Bw8) rfl
   clear Bw8 hE hJ p_t5 lk_t5 d_t5
   go_wp2
   have Bw10 := Bw9.drew
   replace r_t1 := World.rowIs.drew r_t1
   replace r_t2 := World.rowIs.drew r_t2
   replace r_t4 := World.rowIs.drew r_t4
   replace r_t5 := World.rowIs.drew r_t5
   clear Bw9
   refine zpo [] (.rd 0 .done) #[true, false, false, false, false, false, false] [1, 2, 3, 4, 5, 6] [some 16, some 17, some 18, some 19, some 6, none] [[], [0], [1], [1, 2], [], [0, 1, 2, 3, 4]] [(0, []), (1, []), (2, [0, 1, 1]), (3, [2]), (4, [2, 3, 3]), (5, []), (6, [5, 4, 4, 0, 1, 2, 3, 4, 5])] 1 ?_
   refine zld (ewF (mulP Y Y)) arrE r_t4 rfl (fun i hi => by rw [Nat.zero_add]) rfl rfl rfl rfl rfl (by omega) ?_
   simp only [Act.put, zA, zB, zC]
   refine lintz_leaf ?_
   refine po_start [.val (.agg (arrOf 4 (ewF 1))), .val (.agg (arrOf 4 (ewF (subP p25 (mulP Y Y) 1)))), .val (.agg (arrOf 4 (ewF 121666))), .val (.agg (arrOf 4 (ewF (mulP (subP p25 (mulP Y Y) 1) 121666)))), .row 51 4 (u64f fun _ => 0) 5 (ewF (mulP (subP p25 (mulP Y Y) 1) 121666)), .nil] [] (fun i hi => absurd hi (Nat.not_lt_zero _)) (fun HWF m gz wa p az hp hm hmp hcl hdn hE hJ hS hO => ?_) (fun gz wa hE hJ => ?_)
   · rcases (show p = 0 ∨ p = 1 ∨ p = 2 ∨ p = 3 ∨ p = 4 ∨ p = 5 by have h9 : p < 6 := hp; omega) with rfl | rfl | rfl | rfl | rfl | rfl
     · exact po_k HWF hJ hE (small_any 1 _ (by decide)) rfl rfl rfl rfl rfl rfl (ar1 rfl)
     · have e15 : az.eval (.tmp 15) = .agg (arrOf 4 (ewF (mulP Y Y))) := hO 15 rfl
       exact po_k HWF hJ hE (sub_any (mulP Y Y) 1 _ (mulP_lt _ _) one_ltp) rfl rfl rfl rfl rfl rfl (ar2 e15 (po_e hS hdn hJ 0 16 rfl rfl rfl rfl))
     · exact po_k HWF hJ hE (small_any 121666 _ (by decide)) rfl rfl rfl rfl rfl rfl (ar1 rfl)
     · exact po_k HWF hJ hE (mul_any (subP p25 (mulP Y Y) 1) 121666 _ (subP_lt _ _) (by decide +kernel)) rfl rfl rfl rfl rfl rfl (ar2 (po_e hS hdn hJ 1 17 rfl rfl rfl rfl) (po_e hS hdn hJ 2 18 rfl rfl rfl rfl))
     · exact po_alloc 6 _ 51 4 (u64f fun _ => 0) _ _ HWF hJ rfl (po_notyet hcl hmp (by rw [hm]; exact hp) (by decide)) hE rfl rfl rfl rfl rfl rfl zeroE
     · exact po_sr 4 hm hp hmp hdn hJ hE rfl rfl rfl rfl rfl rfl rfl rfl (po_e0 hS hdn 4 6 rfl rfl rfl) (po_e hS hdn hJ 3 19 rfl rfl rfl rfl) arrE (fun _ _ => rfl)
   · obtain ⟨b_t6, p_t6, lk_t6, r_t6, d_t6⟩ := hJ.row 4 (by decide) rfl (by decide)
     rw [putO_true _ _ _ _ _ rfl]
     simp only [putA, Nat.zero_add, Nat.reduceAdd]
     rw [hJ.tt 0 rfl, hJ.tt 1 rfl, hJ.tt 2 rfl, hJ.tt 3 rfl, p_t6]
     simp only [Act.put, zA, zB, zC]
     refine po_end ?_
     have n_t1_t6 := zrn r_t1 lk_t6
     have n_t2_t6 := zrn r_t2 lk_t6
     have n_t4_t6 := zrn r_t4 lk_t6
     have n_t5_t6 := zrn r_t5 lk_t6
     have l_t6 := zrl HGS Bw10 lk_t6
     replace r_t1 := Keep.row hE r_t1 rfl
     replace r_t2 := Keep.row hE r_t2 rfl
     replace r_t4 := Keep.row hE r_t4 rfl
     replace r_t5 := Keep.row hE r_t5 rfl
     have Bw11 := hE.below Bw10 (HGS.out _ Bw10) rfl
     clear Bw10 hE hJ p_t6 lk_t6 d_t6
     go_wp2
     have Bw12 := Bw11.drew
     replace r_t1 := World.rowIs.drew r_t1
     replace r_t2 := World.rowIs.drew r_t2
     replace r_t4 := World.rowIs.drew r_t4
     replace r_t5 := World.rowIs.drew r_t5
     replace r_t6 := World.rowIs.drew r_t6
     clear Bw11
     refine zpo [b_t2] (.rd 0 (.rd 1 .done)) #[true, true, false, false, false, false, false, false, false] [2, 3, 4, 5, 6, 7, 8] [some 22, some 23, some 24, some 25, some 26, none, some 3] [[], [0], [1], [2], [2], [0, 1, 2, 3, 4], [0, 1, 2, 3, 4, 5]] [(0, []), (1, []), (2, [1]), (3, [0, 2, 2]), (4, [3, 3]), (5, [4]), (6, [4]), (7, [5, 4, 0, 1, 2, 3, 4, 5, 6]), (8, [6, 7, 0, 1, 2, 3, 4, 5, 6, 7])] 3 ?_
     refine zld (ewF (mulP (subP p25 (mulP Y Y) 1) 121666)) arrE r_t6 (cont1 (Ne.symm n_t2_t6)) (fun i hi => by rw [Nat.zero_add]) rfl rfl rfl rfl rfl (by omega) ?_
     refine zld (ewF (subP p25 121666 (mulP (mulP Y Y) 121665))) arrE r_t5 (cont1 (Ne.symm n_t2_t5)) (fun i hi => by rw [Nat.zero_add]) rfl rfl rfl rfl rfl (by omega) ?_
     simp only [Act.put, zA, zB, zC]
     refine lintz_leaf ?_
     refine po_start [.val (.agg (arrOf 4 (ewF (invP (subP p25 121666 (mulP (mulP Y Y) 121665)))))), .val (.agg (arrOf 4 (ewF (mulP (mulP (subP p25 (mulP Y Y) 1) 121666) (invP (subP p25 121666 (mulP (mulP Y Y) 121665))))))), .val (.tuple #[.agg (arrOf 4 (ewF R)), .int .i64 ev]), .val (.agg (arrOf 4 (ewF R))), .val (.int .i64 ev), .nil, .val (.int .i64 ev)] [⟨b_t2, 51, 4, (u64f fun _ => 0), 5, (ewF R)⟩] (fun i hi => by obtain rfl : i = 0 := by { have h9 : i < 1 := hi; omega }; exact r_t2) (fun HWF m gz wa p az hp hm hmp hcl hdn hE hJ hS hO => ?_) (fun gz wa hE hJ => ?_)
     · rcases (show p = 0 ∨ p = 1 ∨ p = 2 ∨ p = 3 ∨ p = 4 ∨ p = 5 ∨ p = 6 by have h9 : p < 7 := hp; omega) with rfl | rfl | rfl | rfl | rfl | rfl | rfl
       · have e21 : az.eval (.tmp 21) = .agg (arrOf 4 (ewF (subP p25 121666 (mulP (mulP Y Y) 121665)))) := hO 21 rfl
         exact po_k HWF hJ hE (inv_any (subP p25 121666 (mulP (mulP Y Y) 121665)) _ (subP_lt _ _)) rfl rfl rfl rfl rfl rfl (ar1 e21)
       · have e20 : az.eval (.tmp 20) = .agg (arrOf 4 (ewF (mulP (subP p25 (mulP Y Y) 1) 121666))) := hO 20 rfl
         exact po_k HWF hJ hE (mul_any (mulP (subP p25 (mulP Y Y) 1) 121666) (invP (subP p25 121666 (mulP (mulP Y Y) 121665))) _ (mulP_lt _ _) (invP_lt _)) rfl rfl rfl rfl rfl rfl (ar2 e20 (po_e hS hdn hJ 0 22 rfl rfl rfl rfl))
       · exact po_k HWF hJ hE (HRT.out _) rfl rfl rfl rfl rfl rfl (ar1 (po_e hS hdn hJ 1 23 rfl rfl rfl rfl))
       · have e24 := po_e hS hdn hJ 2 24 rfl rfl rfl rfl
         exact po_p (Op.extract (Operand.tmp 24) 0) HWF hJ hE rfl rfl rfl rfl rfl rfl rfl (by first | (simp only [execOp, mkOp, eval_const, e24]; done) | (simp only [execOp, mkOp, eval_const, e24]; go_simp))
       · have e24 := po_e hS hdn hJ 2 24 rfl rfl rfl rfl
         exact po_p (Op.extract (Operand.tmp 24) 1) HWF hJ hE rfl rfl rfl rfl rfl rfl rfl (by first | (simp only [execOp, mkOp, eval_const, e24]; done) | (simp only [execOp, mkOp, eval_const, e24]; go_simp))
       · exact po_storeOld 0 (.tmp 2) (.tmp 25) 51 b_t2 4 _ (by rw [hm]; exact hp) hmp hJ rfl (show 0 < 1 by decide) rfl rfl rfl rfl rfl (World.rowIs.lt r_t2) (by simp) (by kernel_rfl) po_ne1 hE rfl rfl rfl rfl rfl (hO 2 rfl) (po_e hS hdn hJ 3 25 rfl rfl rfl rfl) arrE (fun _ _ => rfl)
       · exact po_p _ HWF hJ hE rfl rfl rfl rfl rfl rfl rfl (x_assign (po_e hS hdn hJ 4 26 rfl rfl rfl rfl))
     · rw [putO_true _ _ _ _ _ rfl]
       simp only [putA, Nat.zero_add, Nat.reduceAdd]
       rw [hJ.tt 0 rfl, hJ.tt 1 rfl, hJ.tt 2 rfl, hJ.tt 3 rfl, hJ.tt 4 rfl, hJ.tt 6 rfl]
       simp only [Act.put, zA, zB, zC]
       refine po_end ?_
       replace r_t1 := Keep.row hE r_t1 (cont1 n_t1_t2)
       replace r_t2 : wa.rowIs b_t2 51 4 (ewF R) := hJ.old 0 (show 0 < 1 by decide) (show 5 < 7 by decide)
       replace r_t4 := Keep.row hE r_t4 (cont1 (Ne.symm n_t2_t4))
       replace r_t5 := Keep.row hE r_t5 (cont1 (Ne.symm n_t2_t5))
       replace r_t6 := Keep.row hE r_t6 (cont1 (Ne.symm n_t2_t6))
       have Bw13 := hE.below Bw12 (HGS.out _ Bw12) (keep_all1 l_t2)
       clear Bw12 hE hJ 
       go_wp2
       exact ret_cell_as_tmp _ rfl arrE r_t2 rfl rfl (by omega) (fun _ _ => rfl) rfl ⟨rfl, Bw13⟩
theorem Bs.litc (w : World) (l : List UInt8) (fr : Nat × Nat) (n : Nat) (hn : n = l.length) (hm : n ≤ maxLen) : Bs (w.alloc (.cells (u8s l).toArray 5 fr)) (.slice (some ⟨w.heap.size, 0, none⟩) n n) l := by
 subst hn
 refine ⟨_, l.length, rfl, Nat.le_refl _, hm, (fun h => by cases h), fun x hx i hi => ?_⟩
 cases hx
 refine ⟨by show w.heap.size < (w.alloc _).heap.size; simp, ?_⟩
 rw [add_eq, Nat.zero_add]
 refine (World.cell?_alloc_mark w _ _ fr i).trans ?_
 simp [u8s, hi]
def bsX : List UInt8 := [26, 213, 37, 143, 96, 45, 86, 201, 178, 167, 37, 149, 96, 199, 44, 105, 92, 220, 214, 253, 49, 226, 164, 192, 254, 83, 110, 205, 211, 54, 105, 33]
def clX : Array Value := #[.int .u8 26, .int .u8 213, .int .u8 37, .int .u8 143, .int .u8 96, .int .u8 45, .int .u8 86, .int .u8 201, .int .u8 178, .int .u8 167, .int .u8 37, .int .u8 149, .int .u8 96, .int .u8 199, .int .u8 44, .int .u8 105, .int .u8 92, .int .u8 220, .int .u8 214, .int .u8 253, .int .u8 49, .int .u8 226, .int .u8 164, .int .u8 192, .int .u8 254, .int .u8 83, .int .u8 110, .int .u8 205, .int .u8 211, .int .u8 54, .int .u8 105, .int .u8 33]
theorem ofL_bsX : ofL bsX = ptB.1 := by decide +kernel
theorem exec_bsX (a : Act) (t : TypeId) (w : World) : (execOp a.eval (mkOp (.buildSlice 22 32 #[(0, .const (.int .u8 26)), (1, .const (.int .u8 213)), (2, .const (.int .u8 37)), (3, .const (.int .u8 143)), (4, .const (.int .u8 96)), (5, .const (.int .u8 45)), (6, .const (.int .u8 86)), (7, .const (.int .u8 201)), (8, .const (.int .u8 178)), (9, .const (.int .u8 167)), (10, .const (.int .u8 37)), (11, .const (.int .u8 149)), (12, .const (.int .u8 96)), (13, .const (.int .u8 199)), (14, .const (.int .u8 44)), (15, .const (.int .u8 105)), (16, .const (.int .u8 92)), (17, .const (.int .u8 220)), (18, .const (.int .u8 214)), (19, .const (.int .u8 253)), (20, .const (.int .u8 49)), (21, .const (.int .u8 226)), (22, .const (.int .u8 164)), (23, .const (.int .u8 192)), (24, .const (.int .u8 254)), (25, .const (.int .u8 83)), (26, .const (.int .u8 110)), (27, .const (.int .u8 205)), (28, .const (.int .u8 211)), (29, .const (.int .u8 54)), (30, .const (.int .u8 105)), (31, .const (.int .u8 33))]) t)).run Tryz.prog w = .ok (.value (.slice (some ⟨w.heap.size, 0, none⟩) 32 32)) (w.alloc (.cells clX 5)) := by
 unfold clX
 simp only [execOp, mkOp, List.map_toArray, List.map_cons, List.map_nil, eval_const]
 go_simp
theorem bs_clX (w : World) : Bs (w.alloc (.cells clX 5 (32, 33))) (.slice (some ⟨w.heap.size, 0, none⟩) 32 32) bsX := Bs.litc w bsX (32, 33) 32 rfl (by unfold maxLen; omega)
theorem exec_cvX (a : Act) (x : Operand) (t : TypeId) (w : World) (hx : a.eval x = .slice (some ⟨w.heap.size, 0, none⟩) 32 32) : (execOp a.eval (mkOp (.convert 22 22 x) t)).run Tryz.prog (w.alloc (.cells clX 5)) = .ok (.value (.slice (some ⟨w.heap.size, 0, none⟩) 32 32)) (w.alloc (.cells clX 5 (32, 33))) := by
 have hr := Lib.run_convert_bytes_const (P := Tryz.prog) w 22 5 clX 32 32 Tryz.underlying22 Tryz.underlying5
 rw [show clX.size = 32 from rfl] at hr
 simp [execOp, mkOp, hx, hr, Result.andThen]
theorem wpList_bsX {ops : Array Oper} {rest : List Oper} {o o' : Oper} {a : Act} {w : World} {Q : Exit → Act → World → Prop} (hgd : o.guard = none) (hgd' : o'.guard = none) (x : Operand) (ho : o.op = .buildSlice 22 32 #[(0, .const (.int .u8 26)), (1, .const (.int .u8 213)), (2, .const (.int .u8 37)), (3, .const (.int .u8 143)), (4, .const (.int .u8 96)), (5, .const (.int .u8 45)), (6, .const (.int .u8 86)), (7, .const (.int .u8 201)), (8, .const (.int .u8 178)), (9, .const (.int .u8 167)), (10, .const (.int .u8 37)), (11, .const (.int .u8 149)), (12, .const (.int .u8 96)), (13, .const (.int .u8 199)), (14, .const (.int .u8 44)), (15, .const (.int .u8 105)), (16, .const (.int .u8 92)), (17, .const (.int .u8 220)), (18, .const (.int .u8 214)), (19, .const (.int .u8 253)), (20, .const (.int .u8 49)), (21, .const (.int .u8 226)), (22, .const (.int .u8 164)), (23, .const (.int .u8 192)), (24, .const (.int .u8 254)), (25, .const (.int .u8 83)), (26, .const (.int .u8 110)), (27, .const (.int .u8 205)), (28, .const (.int .u8 211)), (29, .const (.int .u8 54)), (30, .const (.int .u8 105)), (31, .const (.int .u8 33))]) (ho' : o'.op = .convert 22 22 x) (hx : ∀ v, (a.put o.dst v).eval x = v)
   (h : ∀ v v' w', Bs w' v' bsX → Below w.heap.size w w' → wpList Tryz.prog ops Q rest ((a.put o.dst v).put o'.dst v') w') : wpList Tryz.prog ops Q (o :: o' :: rest) a w := by
 exact wpList_plain hgd fun _ hK => by
   unfold Oper.wp
   rw [exec_mkOp, ho, exec_bsX]
   refine hK _ _ (wpList_plain hgd' fun _ hK' => ?_)
   unfold Oper.wp
   rw [exec_mkOp, ho', exec_cvX _ _ _ _ (hx _)]
   exact hK' _ _ (h _ _ _ (bs_clX w) ((Below.refl _ _).alloc (Nat.le_refl _) _))
def bsY : List UInt8 := [88, 102, 102, 102, 102, 102, 102, 102, 102, 102, 102, 102, 102, 102, 102, 102, 102, 102, 102, 102, 102, 102, 102, 102, 102, 102, 102, 102, 102, 102, 102, 102]
def clY : Array Value := #[.int .u8 88, .int .u8 102, .int .u8 102, .int .u8 102, .int .u8 102, .int .u8 102, .int .u8 102, .int .u8 102, .int .u8 102, .int .u8 102, .int .u8 102, .int .u8 102, .int .u8 102, .int .u8 102, .int .u8 102, .int .u8 102, .int .u8 102, .int .u8 102, .int .u8 102, .int .u8 102, .int .u8 102, .int .u8 102, .int .u8 102, .int .u8 102, .int .u8 102, .int .u8 102, .int .u8 102, .int .u8 102, .int .u8 102, .int .u8 102, .int .u8 102, .int .u8 102]
theorem ofL_bsY : ofL bsY = ptB.2 := by decide +kernel
theorem exec_bsY (a : Act) (t : TypeId) (w : World) : (execOp a.eval (mkOp (.buildSlice 22 32 #[(0, .const (.int .u8 88)), (1, .const (.int .u8 102)), (2, .const (.int .u8 102)), (3, .const (.int .u8 102)), (4, .const (.int .u8 102)), (5, .const (.int .u8 102)), (6, .const (.int .u8 102)), (7, .const (.int .u8 102)), (8, .const (.int .u8 102)), (9, .const (.int .u8 102)), (10, .const (.int .u8 102)), (11, .const (.int .u8 102)), (12, .const (.int .u8 102)), (13, .const (.int .u8 102)), (14, .const (.int .u8 102)), (15, .const (.int .u8 102)), (16, .const (.int .u8 102)), (17, .const (.int .u8 102)), (18, .const (.int .u8 102)), (19, .const (.int .u8 102)), (20, .const (.int .u8 102)), (21, .const (.int .u8 102)), (22, .const (.int .u8 102)), (23, .const (.int .u8 102)), (24, .const (.int .u8 102)), (25, .const (.int .u8 102)), (26, .const (.int .u8 102)), (27, .const (.int .u8 102)), (28, .const (.int .u8 102)), (29, .const (.int .u8 102)), (30, .const (.int .u8 102)), (31, .const (.int .u8 102))]) t)).run Tryz.prog w = .ok (.value (.slice (some ⟨w.heap.size, 0, none⟩) 32 32)) (w.alloc (.cells clY 5)) := by
 unfold clY
 simp only [execOp, mkOp, List.map_toArray, List.map_cons, List.map_nil, eval_const]
 go_simp
theorem bs_clY (w : World) : Bs (w.alloc (.cells clY 5 (32, 33))) (.slice (some ⟨w.heap.size, 0, none⟩) 32 32) bsY := Bs.litc w bsY (32, 33) 32 rfl (by unfold maxLen; omega)
theorem exec_cvY (a : Act) (x : Operand) (t : TypeId) (w : World) (hx : a.eval x = .slice (some ⟨w.heap.size, 0, none⟩) 32 32) : (execOp a.eval (mkOp (.convert 22 22 x) t)).run Tryz.prog (w.alloc (.cells clY 5)) = .ok (.value (.slice (some ⟨w.heap.size, 0, none⟩) 32 32)) (w.alloc (.cells clY 5 (32, 33))) := by
 have hr := Lib.run_convert_bytes_const (P := Tryz.prog) w 22 5 clY 32 32 Tryz.underlying22 Tryz.underlying5
 rw [show clY.size = 32 from rfl] at hr
 simp [execOp, mkOp, hx, hr, Result.andThen]
theorem wpList_bsY {ops : Array Oper} {rest : List Oper} {o o' : Oper} {a : Act} {w : World} {Q : Exit → Act → World → Prop} (hgd : o.guard = none) (hgd' : o'.guard = none) (x : Operand) (ho : o.op = .buildSlice 22 32 #[(0, .const (.int .u8 88)), (1, .const (.int .u8 102)), (2, .const (.int .u8 102)), (3, .const (.int .u8 102)), (4, .const (.int .u8 102)), (5, .const (.int .u8 102)), (6, .const (.int .u8 102)), (7, .const (.int .u8 102)), (8, .const (.int .u8 102)), (9, .const (.int .u8 102)), (10, .const (.int .u8 102)), (11, .const (.int .u8 102)), (12, .const (.int .u8 102)), (13, .const (.int .u8 102)), (14, .const (.int .u8 102)), (15, .const (.int .u8 102)), (16, .const (.int .u8 102)), (17, .const (.int .u8 102)), (18, .const (.int .u8 102)), (19, .const (.int .u8 102)), (20, .const (.int .u8 102)), (21, .const (.int .u8 102)), (22, .const (.int .u8 102)), (23, .const (.int .u8 102)), (24, .const (.int .u8 102)), (25, .const (.int .u8 102)), (26, .const (.int .u8 102)), (27, .const (.int .u8 102)), (28, .const (.int .u8 102)), (29, .const (.int .u8 102)), (30, .const (.int .u8 102)), (31, .const (.int .u8 102))]) (ho' : o'.op = .convert 22 22 x) (hx : ∀ v, (a.put o.dst v).eval x = v)
   (h : ∀ v v' w', Bs w' v' bsY → Below w.heap.size w w' → wpList Tryz.prog ops Q rest ((a.put o.dst v).put o'.dst v') w') : wpList Tryz.prog ops Q (o :: o' :: rest) a w := by
 exact wpList_plain hgd fun _ hK => by
   unfold Oper.wp
   rw [exec_mkOp, ho, exec_bsY]
   refine hK _ _ (wpList_plain hgd' fun _ hK' => ?_)
   unfold Oper.wp
   rw [exec_mkOp, ho', exec_cvY _ _ _ _ (hx _)]
   exact hK' _ _ (h _ _ _ (bs_clY w) ((Below.refl _ _).alloc (Nat.le_refl _) _))
theorem of5_to (v : Value) (l : List UInt8) (A : Nat) (w : World) (h : Bs w v l) (hA : ofL l = A) : Calls Tryz.prog 56 #[v] w fun e w' => e = .returned (.agg (arrOf 4 (ewF A))) ∧ Below w.heap.size w w' := by
 have g := of_any v l w h
 rwa [hA] at g
set_option maxHeartbeats 4000000 in
set_option maxRecDepth 10000 in
theorem qTBase_any (w : World) : Calls Tryz.prog 22 #[] w fun e w' => e = .returned (.agg (arrOf 12 (qT bT))) ∧ Below w.heap.size w w' := by
 have Bw0 := Below.refl w.heap.size w
 have HGS : Hid (∀ wq : World, Below w.heap.size w wq → w.heap.size ≤ wq.heap.size) := Lib.hid fun wq h => h.size
 have HOX := Lib.hid ofL_bsX
 have HOY := Lib.hid ofL_bsY
 have HT : Hid (bT = (ptB.1, ptB.2, 1)) := Lib.hid rfl
 obtain ⟨bx, hbx⟩ := nat_var ptB.1
 obtain ⟨bz, hbz⟩ := nat_var ptB.2
 rw [← hbx] at HOX HT
 rw [← hbz] at HOY HT
 clear hbx hbz
 go_enter Tryz.func22, Tryz.ntmps22
 go_wp2_with (first
   | (have hgo := Bw0; clear hgo
      refine wpList_alloc_row rfl 53 rfl 12 (u64f fun _ => 0) zeroQ ?_
      intro b_t0 w1 lk r_t0 kk
      have l_t0 := zrl HGS Bw0 lk
      have Bw1 := zbt HGS Bw0 kk
      clear Bw0 kk lk)
   | (have hgo := Bw1; clear hgo
      refine wpList_bsX rfl rfl (.tmp 1) rfl rfl (fun _ => rfl) ?_
      intro u_b1 v_b1 w2 f_b1 kk
      replace r_t0 := zrb r_t0 kk
      have Bw2 := zbt HGS Bw1 kk
      clear Bw1 kk)
   | (have hgo := Bw2; clear hgo
      go_at_call 56
      refine (of5_to _ bsX bx _ f_b1 HOX.out).mono ?_
      rintro e w3 ⟨rfl, kk⟩
      replace r_t0 := zrb r_t0 kk
      replace f_b1 := zfb f_b1 kk
      have Bw3 := zbt HGS Bw2 kk
      clear Bw2 kk)
   | (have hgo := Bw3; clear hgo
      refine wpList_bsY rfl rfl (.tmp 4) rfl rfl (fun _ => rfl) ?_
      intro u_b4 v_b4 w4 f_b4 kk
      replace r_t0 := zrb r_t0 kk
      replace f_b1 := zfb f_b1 kk
      have Bw4 := zbt HGS Bw3 kk
      clear Bw3 kk)
   | (have hgo := Bw4; clear hgo
      go_at_call 56
      refine (of5_to _ bsY bz _ f_b4 HOY.out).mono ?_
      rintro e w5 ⟨rfl, kk⟩
      replace r_t0 := zrb r_t0 kk
      replace f_b1 := zfb f_b1 kk
      replace f_b4 := zfb f_b4 kk
      have Bw5 := zbt HGS Bw4 kk
      clear Bw4 kk)
   | (have hgo := Bw5; clear hgo
      go_at_call 57
      refine (small_any 1 _ (by decide)).mono ?_
      rintro e w6 ⟨rfl, kk⟩
      replace r_t0 := zrb r_t0 kk
      replace f_b1 := zfb f_b1 kk
      replace f_b4 := zfb f_b4 kk
      have Bw6 := zbt HGS Bw5 kk
      clear Bw5 kk)
   | (have hgo := Bw6; clear hgo
      refine wpList_build_arr rfl 53 #[(0, Operand.tmp 3), (1, Operand.tmp 6), (2, Operand.tmp 7)] rfl (arrOf 12 (qT (bx, bz, 1))) ?_ ?_
      · simp only [List.map_toArray, List.map_cons, List.map_nil]; exact builtQT bx bz 1
      have Bw7 := Bw6
      clear Bw6)
   | (have hgo := Bw7; clear hgo
      refine wpList_store_as rfl 53 (.tmp 0) (.tmp 8) rfl 12 (qT (bx, bz, 1)) arrQ r_t0 rfl rfl (by omega) (fun j _ => qF_one _ _ _ j) (fun i hi => putN_whole hi) ?_
      intro w8 q gk
      replace r_t0 := q
      have Bw8 := zbg HGS Bw7 gk l_t0
      clear f_b1
      clear f_b4
      clear Bw7 gk q))
 exact ret_cell_as _ rfl arrQ r_t0 rfl (by omega) (fun _ _ => rfl) rfl ⟨by rw [HT.out], Bw8⟩
def catTo (L : List (List UInt8)) (j : Nat) : List UInt8 := (L.take j).flatten
theorem catTo_succ (L : List (List UInt8)) (j : Nat) (h : j < L.length) : catTo L (j + 1) = catTo L j ++ L[j] := by
 unfold catTo
 rw [List.take_succ_eq_append_getElem h, List.flatten_append]
 simp
theorem catTo_all (L : List (List UInt8)) (j : Nat) (h : L.length ≤ j) : catTo L j = L.flatten := by
 unfold catTo; rw [List.take_of_length_le h]
theorem catTo_le (L : List (List UInt8)) (j : Nat) : (catTo L j).length ≤ L.flatten.length := by
 have : L.flatten = catTo L j ++ (L.drop j).flatten := by unfold catTo; rw [← List.flatten_append, List.take_append_drop]
 rw [this, List.length_append]; omega
set_option maxHeartbeats 800000 in
theorem cat_any (v : Value) (L : List (List UInt8)) (w : World) (hv : Bss w v L) (hlen : L.flatten.length ≤ 2147483647) :
   Calls Tryz.prog 21 #[v] w fun e w' => ∃ v', e = .returned v' ∧ Owns w' w.heap.size v' L.flatten ∧ Below w.heap.size w w' := by
 have HV := Lib.hid hv
 obtain ⟨a, cap, rfl, h1, h2, h3, h4⟩ := hv
 clear h3 h4
 unfold maxLen at h2
 obtain ⟨i0, hi, hz0, hz1, hz2⟩ := info_parts Try.info5
 go_enter Tryz.func21, Tryz.ntmps21
 go_wp2
 go_loop [3, 11] (fun s i => ∃ j : Nat, j ≤ L.length ∧ i = .int .i64 j ∧ s = .int .i64 ((catTo L j).length : Nat)) (fun _ i => L.length - (intOf i).toNat)
 case atStart => exact ⟨0, Nat.zero_le _, rfl, rfl⟩
 case round =>
   obtain ⟨j, hj, rfl, rfl⟩ := hrel
   by_cases hlt : j < L.length
   · have hle := catTo_le L (j + 1)
     have hsucc := congrArg List.length (catTo_succ L j hlt)
     rw [List.length_append] at hsucc
     have hle2 : (catTo L j).length + L[j].length ≤ 2147483647 := by omega
     have HS := Lib.hid hsucc
     clear hsucc hle
     obtain ⟨b, off, cap', he, _, _, _, hc⟩ := HV.out.open_cons (by omega)
     cases he
     obtain ⟨u, hcj, hu⟩ := hc j hlt
     clear hc
     obtain ⟨au, cu, rfl, _, _, _, _⟩ := hu
     go_wp2
     go_round
     case rel => exact ⟨j + 1, by omega, by go_num, by rw [HS.out]; go_num⟩
     case measure => simp [intOf]; omega
   · obtain rfl : j = L.length := by omega
     have hall := catTo_all L L.length (Nat.le_refl _)
     rw [hall]
     clear hall
     generalize hn : L.flatten.length = n at *
     have HN := Lib.hid hn
     clear hn
     go_wp2_with (refine wpList_make_own _ rfl _ _ 22 rfl w.heap.size 5 i0 (.int .u8 0) 1 Tryz.underlying22 hi hz0 hz1 .i64 .i64 _ n rfl rfl rfl (by rw [hz2]; omega) (by unfold maxLen; omega) (Nat.le_refl _) ?_; intro w1 hown1 hgrow1)
     have hO : Owns w1 w.heap.size (.slice (some ⟨w.heap.size, 0, none⟩) 0 n) [] := hown1
     have hB1 : Below w.heap.size w w1 := (Below.refl _ _).grown hgrow1 (Nat.le_refl _) (fun k hk => by cases hk)
     clear hown1 hgrow1
     go_loopw [6, 24] (fun v i wr => ∃ j : Nat, j ≤ L.length ∧ i = .int .i64 j ∧ Owns wr w.heap.size v (catTo L j) ∧ Below w.heap.size w wr) (fun _ i _ => L.length - (intOf i).toNat)
     case atStart => exact ⟨0, Nat.zero_le _, rfl, hO, hB1⟩
     case round =>
       obtain ⟨j, hj, rfl, hown, hbel⟩ := hrel
       clear hO hB1
       by_cases hlt : j < L.length
       · have hsum : (catTo L j).length + L[j].length ≤ n := by
           have := catTo_le L (j + 1)
           rw [catTo_succ L j hlt, List.length_append] at this
           have := HN.out
           omega
         obtain ⟨b, off, cap', he, _, _, hbl, hc⟩ := HV.out.open_cons (by omega)
         cases he
         obtain ⟨u, hcj, hu⟩ := hc j hlt
         clear hc
         have hcr : wr.cell? ⟨b, off + j, none⟩ = some u := (hbel.cell (by exact hbl)).trans hcj
         have hur : Bs wr u L[j] := hu.below hbel (Nat.le_refl _)
         have HU := Lib.hid hur
         obtain ⟨au, cu, rfl, _, _, _, _⟩ := hu
         clear hur
         go_wp2_with (refine wpList_app rfl _ _ rfl w.heap.size _ _ (catTo L j) L[j] hown HU.out rfl rfl (by omega) (by have := hbel.size; omega) ?_; intro v2 w2 hown2 hgrow2)
         have hown3 : Owns w2 w.heap.size v2 (catTo L (j + 1)) := by rw [catTo_succ L j hlt]; exact hown2
         have hbel3 : Below w.heap.size w w2 := hbel.grown hgrow2 hbel.size (Owns.block hown)
         clear hown2 hgrow2 hown hbel hcr HU hsum
         go_wp2
         go_roundw
         case rel => exact ⟨j + 1, by omega, by go_num, hown3, hbel3⟩
         case measure => simp [intOf]; omega
       · obtain rfl : j = L.length := by omega
         go_wp2
         go_ret
         exact ⟨_, rfl, by rw [← catTo_all L L.length (Nat.le_refl _)]; exact hown, hbel⟩
end Go.Proofs.YtonhpmaiagbheaaGreat
