/- The document's StrictSc. -/
import Derived.Test.YtncdlaidmiokiaaScG
namespace Go.Proofs.Ytncdlaidmiokiaa
open Go.RowKit Go.Deep
set_option linter.unusedSimpArgs false
set_option linter.unusedVariables false

def strictSN (l : List UInt8) : Option Nat := if l.length = 32 ∧ numL l 32 < ordL then some (numL l 32) else none
theorem wide_32 (l : List UInt8) (h : l.length = 32) : numL l 64 = numL l 32 := numL_wanting l 32 (by omega) 32
theorem litB_wide (l : List UInt8) (h : l.length = 32) : litB (numL l 64 % ordL) 32 = l ↔ numL l 32 < ordL := by
  rw [wide_32 l h]
  constructor
  · intro e
    have h1 := numL_litB (numL l 32 % ordL) 32 32 (Nat.le_refl _)
    rw [e, Nat.mod_eq_of_lt (Nat.lt_trans (Nat.mod_lt _ ordL_pos) ordL_lt)] at h1
    rw [h1]
    exact Nat.mod_lt _ ordL_pos
  · intro e
    rw [Nat.mod_eq_of_lt e]
    exact litB_numL l 32 h
theorem builtSc : Try.prog.built 30 [] = some (arrOf 32 fun _ => .int .u8 0) := by kernel_rfl
theorem aggSc (F G : Nat → Value) : arrOf 32 (fun i => putN F 0 32 G (0 + i)) = arrOf 32 G := arrOf_congr fun i hi => by
  unfold putN
  rw [if_pos (by omega)]
  simp only [Nat.zero_add, Nat.sub_zero]
theorem bF_zeros : arrOf 32 (fun _ => Value.int .u8 0) = arrOf 32 (bF 32 0) := arrOf_congr fun i _ => (bF_zero 32 i).symm
set_option maxHeartbeats 2000000 in
theorem refStrictSc_any (v : Value) (l : List UInt8) (w : World) (hv : Bs w v l) : Calls Try.prog 12 #[v] w fun e w' =>
    e = .returned (.tuple #[.agg (arrOf 32 (bF 32 ((strictSN l).getD 0))), .int .i64 (if (strictSN l).isSome then 0 else 2)]) ∧ Below w.heap.size w w' := by
  have hr := rowIs_arr w 32 (fun _ => .int .u8 0) 30
  have hb0 := (Below.refl w.heap.size w).alloc (Nat.le_refl _) (.cells (arrOf 32 fun _ => .int .u8 0) 30)
  obtain ⟨a0, n0, c0, rfl, e0, f0, g0, hB0⟩ := hv.shape
  have H0 := Lib.hid hB0
  have HGS : Hid (∀ wq : World, Below w.heap.size w wq → w.heap.size ≤ wq.heap.size) := Lib.hid fun wq h => h.size
  clear hv hB0
  have B : Below w.heap.size w (w.alloc (.cells (arrOf 32 fun _ => .int .u8 0) 30)).drew := hb0.drew
  have rR := World.rowIs.drew hr
  clear hr hb0
  by_cases d0 : l.length = 32
  · have hn0 : n0 = 32 := by omega
    subst hn0
    have HW := Lib.hid fun w (h : Bs w (.slice a0 32 c0) l) => refWide_any _ l w h
    have hlw := litB_wide l d0
    obtain ⟨V, hV⟩ := nat_var (numL l 64 % ordL)
    rw [← hV] at HW hlw
    by_cases hs : numL l 32 < ordL
    · have hsn : strictSN l = some V := by
        unfold strictSN
        rw [if_pos ⟨d0, hs⟩, hV, wide_32 l d0, Nat.mod_eq_of_lt hs]
      rw [hsn]
      have HEQ : Hid (litB V 32 = l) := Lib.hid (hlw.2 hs)
      clear hsn hlw hs hV d0 e0
      go_enter Try.func12, Try.ntmps12
      go_wp2_with (refine wpList_alloc_arr rfl 30 rfl (arrOf 32 fun _ => .int .u8 0) zeroSc ?_)
      refine wp_region_lint (.rd 0 (.rd 1 (.rd 2 (.rd 3 (.rd 4 (.rd 8 (.rd 9 (.wr 5 (.wr 6 (.rd 7 (.rd 10 (.rd 11 .done)))))))))))) (by kernel_rfl) (by kernel_rfl) (by decide) (by kernel_rfl) (fun d _ _ _ _ h => by cases d <;> exact h) ?_
      refine lint_pure 4 (Op.move (Operand.tmp 0)) 22 _ rfl rfl rfl rfl rfl (fun w0 hb0 => by unfold mkOp; go_simp; all_goals (with_reducible rfl)) ?_
      simp only [Act.put, List.setIfInBounds_toArray, List.set_cons_zero, List.set_cons_succ, Nat.zero_add]
      refine lint_pure 5 (Op.call { callee := Callee.builtin Builtin.len, args := #[Operand.tmp 4], argTypes := #[22] }) 3 _ rfl rfl rfl rfl rfl (fun w0 hb0 => by unfold mkOp; go_simp; all_goals (with_reducible rfl)) ?_
      simp only [Act.put, List.setIfInBounds_toArray, List.set_cons_zero, List.set_cons_succ, Nat.zero_add]
      refine lint_pure 6 (Op.binOp BinOp.neq 3 (Operand.tmp 5) (Operand.const (Value.int IntKind.i64 32)) 3) 4 _ rfl rfl rfl rfl rfl (fun w0 hb0 => by unfold mkOp; go_simp; all_goals (with_reducible rfl)) ?_
      simp only [Act.put, List.setIfInBounds_toArray, List.set_cons_zero, List.set_cons_succ, Nat.zero_add]
      refine lint_pure 7 (Op.move (Operand.tmp 6)) 4 _ rfl rfl rfl rfl rfl (fun w0 hb0 => by unfold mkOp; go_simp; all_goals (with_reducible rfl)) ?_
      simp only [Act.put, List.setIfInBounds_toArray, List.set_cons_zero, List.set_cons_succ, Nat.zero_add]
      refine lint_pure 8 (Op.move (Operand.tmp 0)) 22 _ rfl rfl rfl rfl rfl (fun w0 hb0 => by unfold mkOp; go_simp; all_goals (with_reducible rfl)) ?_
      simp only [Act.put, List.setIfInBounds_toArray, List.set_cons_zero, List.set_cons_succ, Nat.zero_add]
      refine lint_pure 12 (Op.move (Operand.tmp 0)) 22 _ rfl rfl rfl rfl rfl (fun w0 hb0 => by unfold mkOp; go_simp; all_goals (with_reducible rfl)) ?_
      simp only [Act.put, List.setIfInBounds_toArray, List.set_cons_zero, List.set_cons_succ, Nat.zero_add]
      refine lint_conv 13 (Operand.tmp 12) _ _ rfl rfl rfl rfl rfl (H0.out.below B (Nat.le_refl _)) ?_
      simp only [Act.put, List.setIfInBounds_toArray, List.set_cons_zero, List.set_cons_succ, Nat.zero_add]
      refine stp_fn 9 10 #[Operand.tmp 8] #[22] _ (HW.out _ (H0.out.below B (Nat.le_refl _))) rfl rfl rfl rfl Try.func10 (by kernel_rfl) (by kernel_rfl) (by go_simp) ?_
      rintro e w9 ⟨rfl, b9⟩
      replace B := B.trans (b9.mono (HGS.out _ B))
      replace rR := World.rowIs.of_block rR (b9.block _ (World.rowIs.lt rR))
      refine ⟨_, rfl, b9, ?_⟩
      simp only [Act.put, List.setIfInBounds_toArray, List.set_cons_zero, List.set_cons_succ, Nat.zero_add]
      refine stp_fn 10 32 #[Operand.tmp 9] #[30] _ (refScBytes_any V _) rfl rfl rfl rfl Try.func32 (by kernel_rfl) (by kernel_rfl) (by go_simp) ?_
      rintro e w10 ⟨v10, rfl, hO10, b10⟩
      replace B := B.trans (b10.mono (HGS.out _ B))
      replace rR := World.rowIs.of_block rR (b10.block _ (World.rowIs.lt rR))
      have hB10 := hO10.bs
      refine ⟨_, rfl, b10, ?_⟩
      simp only [Act.put, List.setIfInBounds_toArray, List.set_cons_zero, List.set_cons_succ, Nat.zero_add]
      refine lint_conv 11 (Operand.tmp 10) _ _ rfl rfl rfl rfl rfl hB10 ?_
      simp only [Act.put, List.setIfInBounds_toArray, List.set_cons_zero, List.set_cons_succ, Nat.zero_add]
      refine lint_pure 14 (Op.binOp BinOp.neq 9 (Operand.tmp 11) (Operand.tmp 13) 9) 4 (.bool false) rfl rfl rfl rfl rfl (fun w0 hb0 => by exact (exec_str_neq _ _ _ _ rfl rfl).trans (by rw [decide_eq_true HEQ.out]; rfl)) ?_
      simp only [Act.put, List.setIfInBounds_toArray, List.set_cons_zero, List.set_cons_succ, Nat.zero_add]
      refine lint_pure 15 (Op.pick (Operand.tmp 7) (Operand.const (Value.bool true)) (Operand.tmp 14)) 4 _ rfl rfl rfl rfl rfl (fun w0 hb0 => by unfold mkOp; go_simp; all_goals (with_reducible rfl)) ?_
      simp only [Act.put, List.setIfInBounds_toArray, List.set_cons_zero, List.set_cons_succ, Nat.zero_add]
      refine lint_end ?_
      have kR := rR
      have kb := B
      clear rR B hO10 hB10
      go_wp2_with (first
        | (go_at_call 10; refine (HW.out _ (H0.out.below kb (Nat.le_refl _))).mono ?_; rintro e w11 ⟨rfl, hb11⟩
           have kR2 := kR.of_block (hb11.block _ kR.lt)
           have kb2 := kb.trans (hb11.mono (HGS.out _ kb))
           clear kR kb hb11)
        | (refine wpList_store_arr rfl 30 (.tmp 2) (.tmp 18) rfl 32 arrSc kR2 rfl rfl (by omega) (fun _ _ => rfl) ?_; intro wd hrd hgd hsd))
      refine ret_cell_arr_tmp rfl arrSc hrd rfl rfl (by omega) rfl ⟨?_, kb2.grown hgd (HGS.out _ kb2) (by intro k hk; cases hk; exact Nat.le_refl _)⟩
      rw [aggSc]
      rfl
    · have hsn : strictSN l = none := by
        unfold strictSN
        rw [if_neg (fun h => hs h.2)]
      rw [hsn]
      have HEQ : Hid (¬ litB V 32 = l) := Lib.hid fun h => hs (hlw.1 h)
      clear hsn hlw hs hV d0 e0
      go_enter Try.func12, Try.ntmps12
      go_wp2_with (refine wpList_alloc_arr rfl 30 rfl (arrOf 32 fun _ => .int .u8 0) zeroSc ?_)
      refine wp_region_lint (.rd 0 (.rd 1 (.rd 2 (.rd 3 (.rd 4 (.rd 8 (.rd 9 (.wr 5 (.wr 6 (.rd 7 (.rd 10 (.rd 11 .done)))))))))))) (by kernel_rfl) (by kernel_rfl) (by decide) (by kernel_rfl) (fun d _ _ _ _ h => by cases d <;> exact h) ?_
      refine lint_pure 4 (Op.move (Operand.tmp 0)) 22 _ rfl rfl rfl rfl rfl (fun w0 hb0 => by unfold mkOp; go_simp; all_goals (with_reducible rfl)) ?_
      simp only [Act.put, List.setIfInBounds_toArray, List.set_cons_zero, List.set_cons_succ, Nat.zero_add]
      refine lint_pure 5 (Op.call { callee := Callee.builtin Builtin.len, args := #[Operand.tmp 4], argTypes := #[22] }) 3 _ rfl rfl rfl rfl rfl (fun w0 hb0 => by unfold mkOp; go_simp; all_goals (with_reducible rfl)) ?_
      simp only [Act.put, List.setIfInBounds_toArray, List.set_cons_zero, List.set_cons_succ, Nat.zero_add]
      refine lint_pure 6 (Op.binOp BinOp.neq 3 (Operand.tmp 5) (Operand.const (Value.int IntKind.i64 32)) 3) 4 _ rfl rfl rfl rfl rfl (fun w0 hb0 => by unfold mkOp; go_simp; all_goals (with_reducible rfl)) ?_
      simp only [Act.put, List.setIfInBounds_toArray, List.set_cons_zero, List.set_cons_succ, Nat.zero_add]
      refine lint_pure 7 (Op.move (Operand.tmp 6)) 4 _ rfl rfl rfl rfl rfl (fun w0 hb0 => by unfold mkOp; go_simp; all_goals (with_reducible rfl)) ?_
      simp only [Act.put, List.setIfInBounds_toArray, List.set_cons_zero, List.set_cons_succ, Nat.zero_add]
      refine lint_pure 8 (Op.move (Operand.tmp 0)) 22 _ rfl rfl rfl rfl rfl (fun w0 hb0 => by unfold mkOp; go_simp; all_goals (with_reducible rfl)) ?_
      simp only [Act.put, List.setIfInBounds_toArray, List.set_cons_zero, List.set_cons_succ, Nat.zero_add]
      refine lint_pure 12 (Op.move (Operand.tmp 0)) 22 _ rfl rfl rfl rfl rfl (fun w0 hb0 => by unfold mkOp; go_simp; all_goals (with_reducible rfl)) ?_
      simp only [Act.put, List.setIfInBounds_toArray, List.set_cons_zero, List.set_cons_succ, Nat.zero_add]
      refine lint_conv 13 (Operand.tmp 12) _ _ rfl rfl rfl rfl rfl (H0.out.below B (Nat.le_refl _)) ?_
      simp only [Act.put, List.setIfInBounds_toArray, List.set_cons_zero, List.set_cons_succ, Nat.zero_add]
      refine stp_fn 9 10 #[Operand.tmp 8] #[22] _ (HW.out _ (H0.out.below B (Nat.le_refl _))) rfl rfl rfl rfl Try.func10 (by kernel_rfl) (by kernel_rfl) (by go_simp) ?_
      rintro e w9 ⟨rfl, b9⟩
      replace B := B.trans (b9.mono (HGS.out _ B))
      replace rR := World.rowIs.of_block rR (b9.block _ (World.rowIs.lt rR))
      refine ⟨_, rfl, b9, ?_⟩
      simp only [Act.put, List.setIfInBounds_toArray, List.set_cons_zero, List.set_cons_succ, Nat.zero_add]
      refine stp_fn 10 32 #[Operand.tmp 9] #[30] _ (refScBytes_any V _) rfl rfl rfl rfl Try.func32 (by kernel_rfl) (by kernel_rfl) (by go_simp) ?_
      rintro e w10 ⟨v10, rfl, hO10, b10⟩
      replace B := B.trans (b10.mono (HGS.out _ B))
      replace rR := World.rowIs.of_block rR (b10.block _ (World.rowIs.lt rR))
      have hB10 := hO10.bs
      refine ⟨_, rfl, b10, ?_⟩
      simp only [Act.put, List.setIfInBounds_toArray, List.set_cons_zero, List.set_cons_succ, Nat.zero_add]
      refine lint_conv 11 (Operand.tmp 10) _ _ rfl rfl rfl rfl rfl hB10 ?_
      simp only [Act.put, List.setIfInBounds_toArray, List.set_cons_zero, List.set_cons_succ, Nat.zero_add]
      refine lint_pure 14 (Op.binOp BinOp.neq 9 (Operand.tmp 11) (Operand.tmp 13) 9) 4 (.bool true) rfl rfl rfl rfl rfl (fun w0 hb0 => by exact (exec_str_neq _ _ _ _ rfl rfl).trans (by rw [decide_eq_false HEQ.out]; rfl)) ?_
      simp only [Act.put, List.setIfInBounds_toArray, List.set_cons_zero, List.set_cons_succ, Nat.zero_add]
      refine lint_pure 15 (Op.pick (Operand.tmp 7) (Operand.const (Value.bool true)) (Operand.tmp 14)) 4 _ rfl rfl rfl rfl rfl (fun w0 hb0 => by unfold mkOp; go_simp; all_goals (with_reducible rfl)) ?_
      simp only [Act.put, List.setIfInBounds_toArray, List.set_cons_zero, List.set_cons_succ, Nat.zero_add]
      refine lint_end ?_
      have kR := rR
      have kb := B
      clear rR B hO10 hB10
      go_wp2_with (first
        | (refine wpList_build_arr rfl 30 _ rfl (arrOf 32 fun _ => .int .u8 0) (by kernel_rfl) ?_)
        | (refine wpList_store_arr rfl 30 (.tmp 2) (.tmp 16) rfl 32 arrSc kR rfl rfl (by omega) (fun _ _ => rfl) ?_; intro wd hrd hgd hsd))
      refine ret_cell_arr_tmp rfl arrSc hrd rfl rfl (by omega) rfl ⟨?_, kb.grown hgd (HGS.out _ kb) (by intro k hk; cases hk; exact Nat.le_refl _)⟩
      rw [aggSc, bF_zeros]
      rfl
  · have hsn : strictSN l = none := by
      unfold strictSN
      rw [if_neg (fun h => d0 h.1)]
    rw [hsn]
    have hn0 : ¬ (n0 : Int) = 32 := by omega
    clear hsn d0 e0
    go_enter Try.func12, Try.ntmps12
    go_wp2_with (refine wpList_alloc_arr rfl 30 rfl (arrOf 32 fun _ => .int .u8 0) zeroSc ?_)
    refine wp_region_lint (.rd 0 (.rd 1 (.rd 2 (.rd 3 (.rd 4 (.rd 8 (.rd 9 (.wr 5 (.wr 6 (.rd 7 (.rd 10 (.rd 11 .done)))))))))))) (by kernel_rfl) (by kernel_rfl) (by decide) (by kernel_rfl) (fun d _ _ _ _ h => by cases d <;> exact h) ?_
    refine lint_pure 4 (Op.move (Operand.tmp 0)) 22 _ rfl rfl rfl rfl rfl (fun w0 hb0 => by unfold mkOp; go_simp; all_goals (with_reducible rfl)) ?_
    simp only [Act.put, List.setIfInBounds_toArray, List.set_cons_zero, List.set_cons_succ, Nat.zero_add]
    refine lint_pure 5 (Op.call { callee := Callee.builtin Builtin.len, args := #[Operand.tmp 4], argTypes := #[22] }) 3 _ rfl rfl rfl rfl rfl (fun w0 hb0 => by unfold mkOp; go_simp; all_goals (with_reducible rfl)) ?_
    simp only [Act.put, List.setIfInBounds_toArray, List.set_cons_zero, List.set_cons_succ, Nat.zero_add]
    refine lint_pure 6 (Op.binOp BinOp.neq 3 (Operand.tmp 5) (Operand.const (Value.int IntKind.i64 32)) 3) 4 (.bool true) rfl rfl rfl rfl rfl (fun w0 hb0 => by unfold mkOp; go_simp; all_goals (with_reducible rfl)) ?_
    simp only [Act.put, List.setIfInBounds_toArray, List.set_cons_zero, List.set_cons_succ, Nat.zero_add]
    refine lint_pure 7 (Op.move (Operand.tmp 6)) 4 _ rfl rfl rfl rfl rfl (fun w0 hb0 => by unfold mkOp; go_simp; all_goals (with_reducible rfl)) ?_
    simp only [Act.put, List.setIfInBounds_toArray, List.set_cons_zero, List.set_cons_succ, Nat.zero_add]
    refine lint_none 8 rfl rfl rfl ?_
    simp only [Act.put, List.setIfInBounds_toArray, List.set_cons_zero, List.set_cons_succ, Nat.zero_add]
    refine lint_none 12 rfl rfl rfl ?_
    simp only [Act.put, List.setIfInBounds_toArray, List.set_cons_zero, List.set_cons_succ, Nat.zero_add]
    refine lint_none 13 rfl rfl rfl ?_
    simp only [Act.put, List.setIfInBounds_toArray, List.set_cons_zero, List.set_cons_succ, Nat.zero_add]
    refine stp_none 9 rfl rfl rfl ?_
    simp only [Act.put, List.setIfInBounds_toArray, List.set_cons_zero, List.set_cons_succ, Nat.zero_add]
    refine stp_none 10 rfl rfl rfl ?_
    simp only [Act.put, List.setIfInBounds_toArray, List.set_cons_zero, List.set_cons_succ, Nat.zero_add]
    refine lint_none 11 rfl rfl rfl ?_
    simp only [Act.put, List.setIfInBounds_toArray, List.set_cons_zero, List.set_cons_succ, Nat.zero_add]
    refine lint_none 14 rfl rfl rfl ?_
    simp only [Act.put, List.setIfInBounds_toArray, List.set_cons_zero, List.set_cons_succ, Nat.zero_add]
    refine lint_pure 15 (Op.pick (Operand.tmp 7) (Operand.const (Value.bool true)) (Operand.tmp 14)) 4 _ rfl rfl rfl rfl rfl (fun w0 hb0 => by unfold mkOp; go_simp; all_goals (with_reducible rfl)) ?_
    simp only [Act.put, List.setIfInBounds_toArray, List.set_cons_zero, List.set_cons_succ, Nat.zero_add]
    refine lint_end ?_
    have kR := rR
    have kb := B
    clear rR B
    go_wp2_with (first
      | (refine wpList_build_arr rfl 30 _ rfl (arrOf 32 fun _ => .int .u8 0) (by kernel_rfl) ?_)
      | (refine wpList_store_arr rfl 30 (.tmp 2) (.tmp 16) rfl 32 arrSc kR rfl rfl (by omega) (fun _ _ => rfl) ?_; intro wd hrd hgd hsd))
    refine ret_cell_arr_tmp rfl arrSc hrd rfl rfl (by omega) rfl ⟨?_, kb.grown hgd (HGS.out _ kb) (by intro k hk; cases hk; exact Nat.le_refl _)⟩
    rw [aggSc, bF_zeros]
    rfl
end Go.Proofs.Ytncdlaidmiokiaa
