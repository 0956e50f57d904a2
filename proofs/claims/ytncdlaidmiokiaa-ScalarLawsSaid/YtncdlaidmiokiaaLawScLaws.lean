/- ScalarLaws, walked. -/
import Derived.Test.YtncdlaidmiokiaaSwF
namespace Go.Proofs.Ytncdlaidmiokiaa
open Go.RowKit Go.Deep
set_option linter.unusedSimpArgs false
set_option linter.unusedVariables false

theorem lw_comm (X Y : Nat) : decide (X * Y % ordL = Y * X % ordL) = true := decide_eq_true (by rw [Nat.mul_comm])
theorem lw_spread (X Y Z : Nat) : decide (X * ((Y + Z) % ordL) % ordL = (X * Y % ordL + X * Z % ordL) % ordL) = true := decide_eq_true (by
  rw [← Nat.add_mod, ← Nat.mul_add, Nat.mul_mod X ((Y + Z) % ordL), Nat.mod_mod, ← Nat.mul_mod])
theorem lw_assoc (X Y Z : Nat) : decide (X * Y % ordL * Z % ordL = X * (Y * Z % ordL) % ordL) = true := decide_eq_true (by
  rw [Nat.mod_mul_mod, Nat.mul_mod_mod, Nat.mul_assoc])
theorem lw_opp (X : Nat) (h : X < ordL) : decide ((X + oppL X) % ordL = 0) = true := decide_eq_true (opp_add X h)
theorem lw_one (X : Nat) (h : X < ordL) : decide (X * 1 % ordL = X) = true := decide_eq_true (by rw [Nat.mul_one, Nat.mod_eq_of_lt h])
set_option maxHeartbeats 8000000 in
set_option maxRecDepth 100000 in
theorem law_scalarLaws (w : World) (v0 : Value) (l0 : List UInt8) (h0 : Bs w v0 l0) (v1 : Value) (l1 : List UInt8) (h1 : Bs w v1 l1) (v2 : Value) (l2 : List UInt8) (h2 : Bs w v2 l2) : Calls Try.prog 4 #[v0, v1, v2] w fun e w' => e = .returned (.bool true) ∧ Below w.heap.size w w' := by
  obtain ⟨ad0, n0, c0, rfl, e0, y0, z0, hB0⟩ := h0.shape
  obtain ⟨ad1, n1, c1, rfl, e1, y1, z1, hB1⟩ := h1.shape
  obtain ⟨ad2, n2, c2, rfl, e2, y2, z2, hB2⟩ := h2.shape
  by_cases d0 : n0 ≤ 100
  · have q0 : ¬ (100 : Int) < (n0 : Int) := by omega
    by_cases d1 : n1 ≤ 100
    · have q1 : ¬ (100 : Int) < (n1 : Int) := by omega
      by_cases d2 : n2 ≤ 100
      · have q2 : ¬ (100 : Int) < (n2 : Int) := by omega
        have f_s0 := hB0
        have HF_s0 := Lib.hid hB0
        have f_s1 := hB1
        have HF_s1 := Lib.hid hB1
        have f_s2 := hB2
        have HF_s2 := Lib.hid hB2
        have Bw0 := Below.refl w.heap.size w
        have HGS : Hid (∀ wq : World, Below w.heap.size w wq → w.heap.size ≤ wq.heap.size) := Lib.hid fun wq h => h.size
        obtain ⟨X, hX⟩ := nat_var (numL (l0) 64 % ordL)
        have HX : Hid (X < ordL) := Lib.hid (by rw [hX]; exact Nat.mod_lt _ ordL_pos)
        have HNX := Lib.hid hX.symm
        clear hX
        obtain ⟨Y, hY⟩ := nat_var (numL (l1) 64 % ordL)
        have HY : Hid (Y < ordL) := Lib.hid (by rw [hY]; exact Nat.mod_lt _ ordL_pos)
        have HNY := Lib.hid hY.symm
        clear hY
        obtain ⟨Z, hZ⟩ := nat_var (numL (l2) 64 % ordL)
        have HZ : Hid (Z < ordL) := Lib.hid (by rw [hZ]; exact Nat.mod_lt _ ordL_pos)
        have HNZ := Lib.hid hZ.symm
        clear hZ
        clear h0 hB0 e0 d0 h1 hB1 e1 d1 h2 hB2 e2 d2
        go_enter Try.func4, Try.ntmps4
        go_wp2_with (first
          | (have hgo := Bw0; clear hgo
             go_at_call 9
             refine (sWide_to _ (l0) _ f_s0 (X) HNX.out).mono ?_
             rintro e w15 ⟨rfl, kk⟩
             replace f_s0 := Bs.below f_s0 kk (Nat.le_refl _)
             replace f_s1 := Bs.below f_s1 kk (Nat.le_refl _)
             replace f_s2 := Bs.below f_s2 kk (Nat.le_refl _)
             have Bw1 := Bw0.trans (kk.mono (HGS.out _ Bw0))
             clear Bw0 kk)
          | (have hgo := Bw1; clear hgo
             go_at_call 9
             refine (sWide_to _ (l1) _ f_s1 (Y) HNY.out).mono ?_
             rintro e w17 ⟨rfl, kk⟩
             replace f_s0 := Bs.below f_s0 kk (Nat.le_refl _)
             replace f_s1 := Bs.below f_s1 kk (Nat.le_refl _)
             replace f_s2 := Bs.below f_s2 kk (Nat.le_refl _)
             have Bw2 := Bw1.trans (kk.mono (HGS.out _ Bw1))
             clear Bw1 kk)
          | (have hgo := Bw2; clear hgo
             go_at_call 9
             refine (sWide_to _ (l2) _ f_s2 (Z) HNZ.out).mono ?_
             rintro e w19 ⟨rfl, kk⟩
             replace f_s0 := Bs.below f_s0 kk (Nat.le_refl _)
             replace f_s1 := Bs.below f_s1 kk (Nat.le_refl _)
             replace f_s2 := Bs.below f_s2 kk (Nat.le_refl _)
             have Bw3 := Bw2.trans (kk.mono (HGS.out _ Bw2))
             clear Bw2 kk)
          | (have hgo := Bw3; clear hgo
             refine wpList_alloc_row rfl 27 rfl 4 (u64f fun _ => 0) zeroS ?_
             intro b_t7 w20 lk r_t7 kk
             have l_t7 := Nat.le_trans (HGS.out _ Bw3) lk
             replace f_s0 := Bs.below f_s0 kk (Nat.le_refl _)
             replace f_s1 := Bs.below f_s1 kk (Nat.le_refl _)
             replace f_s2 := Bs.below f_s2 kk (Nat.le_refl _)
             have Bw4 := Bw3.trans (kk.mono (HGS.out _ Bw3))
             clear Bw3 kk lk)
          | (have hgo := Bw4; clear hgo
             refine wpList_alloc_row rfl 27 rfl 4 (u64f fun _ => 0) zeroS ?_
             intro b_t8 w21 lk r_t8 kk
             have n_t7_t8 : b_t7 ≠ b_t8 := Nat.ne_of_lt (Nat.lt_of_lt_of_le (World.rowIs.lt r_t7) lk)
             have l_t8 := Nat.le_trans (HGS.out _ Bw4) lk
             replace r_t7 := World.rowIs.of_block r_t7 (kk.block _ (World.rowIs.lt r_t7))
             replace f_s0 := Bs.below f_s0 kk (Nat.le_refl _)
             replace f_s1 := Bs.below f_s1 kk (Nat.le_refl _)
             replace f_s2 := Bs.below f_s2 kk (Nat.le_refl _)
             have Bw5 := Bw4.trans (kk.mono (HGS.out _ Bw4))
             clear Bw4 kk lk)
          | (have hgo := Bw5; clear hgo
             refine wpList_alloc_row rfl 27 rfl 4 (u64f fun _ => 0) zeroS ?_
             intro b_t9 w22 lk r_t9 kk
             have n_t7_t9 : b_t7 ≠ b_t9 := Nat.ne_of_lt (Nat.lt_of_lt_of_le (World.rowIs.lt r_t7) lk)
             have n_t8_t9 : b_t8 ≠ b_t9 := Nat.ne_of_lt (Nat.lt_of_lt_of_le (World.rowIs.lt r_t8) lk)
             have l_t9 := Nat.le_trans (HGS.out _ Bw5) lk
             replace r_t7 := World.rowIs.of_block r_t7 (kk.block _ (World.rowIs.lt r_t7))
             replace r_t8 := World.rowIs.of_block r_t8 (kk.block _ (World.rowIs.lt r_t8))
             replace f_s0 := Bs.below f_s0 kk (Nat.le_refl _)
             replace f_s1 := Bs.below f_s1 kk (Nat.le_refl _)
             replace f_s2 := Bs.below f_s2 kk (Nat.le_refl _)
             have Bw6 := Bw5.trans (kk.mono (HGS.out _ Bw5))
             clear Bw5 kk lk)
          | (have hgo := Bw6; clear hgo
             refine wpList_store_as rfl 27 (.tmp 7) (.tmp 26) rfl 4 (ewF X) arrS r_t7 rfl rfl (by omega) (fun _ _ => rfl) (fun i hi => putN_whole hi) ?_
             intro w23 q gk
             replace r_t8 := gb_rowIs r_t8 gk (Ne.symm n_t7_t8)
             replace r_t9 := gb_rowIs r_t9 gk (Ne.symm n_t7_t9)
             replace r_t7 := q
             have Bw7 := Bw6.grown gk (HGS.out _ Bw6) (by intro k hk; cases hk; exact l_t7)
             clear Bw6 gk q
             replace f_s0 := HF_s0.out.below Bw7 (Nat.le_refl _)
             replace f_s1 := HF_s1.out.below Bw7 (Nat.le_refl _)
             replace f_s2 := HF_s2.out.below Bw7 (Nat.le_refl _))
          | (have hgo := Bw7; clear hgo
             refine wpList_store_as rfl 27 (.tmp 8) (.tmp 28) rfl 4 (ewF Y) arrS r_t8 rfl rfl (by omega) (fun _ _ => rfl) (fun i hi => putN_whole hi) ?_
             intro w24 q gk
             replace r_t7 := gb_rowIs r_t7 gk n_t7_t8
             replace r_t9 := gb_rowIs r_t9 gk (Ne.symm n_t8_t9)
             replace r_t8 := q
             have Bw8 := Bw7.grown gk (HGS.out _ Bw7) (by intro k hk; cases hk; exact l_t8)
             clear Bw7 gk q
             replace f_s0 := HF_s0.out.below Bw8 (Nat.le_refl _)
             replace f_s1 := HF_s1.out.below Bw8 (Nat.le_refl _)
             replace f_s2 := HF_s2.out.below Bw8 (Nat.le_refl _))
          | (have hgo := Bw8; clear hgo
             refine wpList_store_as rfl 27 (.tmp 9) (.tmp 30) rfl 4 (ewF Z) arrS r_t9 rfl rfl (by omega) (fun _ _ => rfl) (fun i hi => putN_whole hi) ?_
             intro w25 q gk
             replace r_t7 := gb_rowIs r_t7 gk n_t7_t9
             replace r_t8 := gb_rowIs r_t8 gk n_t8_t9
             replace r_t9 := q
             have Bw9 := Bw8.grown gk (HGS.out _ Bw8) (by intro k hk; cases hk; exact l_t9)
             clear Bw8 gk q
             replace f_s0 := HF_s0.out.below Bw9 (Nat.le_refl _)
             replace f_s1 := HF_s1.out.below Bw9 (Nat.le_refl _)
             replace f_s2 := HF_s2.out.below Bw9 (Nat.le_refl _)))
        have Bw10 := Bw9.drew
        replace r_t7 := World.rowIs.drew r_t7
        replace r_t8 := World.rowIs.drew r_t8
        replace r_t9 := World.rowIs.drew r_t9
        replace f_s0 := Bs.drew f_s0
        replace f_s1 := Bs.drew f_s1
        replace f_s2 := Bs.drew f_s2
        clear Bw9
        refine wp_region_lint (.rd 0 (.rd 1 (.rd 2 (.rd 4 (.rd 5 (.rd 6 (.wr 3 (.wr 7 (.wr 8 (.rd 9 (.rd 10 (.rd 11 (.rd 12 (.rd 13 (.rd 16 (.rd 17 (.rd 18 (.rd 20 (.rd 21 (.rd 22 (.wr 14 (.wr 15 (.wr 19 (.wr 23 (.wr 24 (.wr 25 (.rd 26 (.rd 27 (.rd 28 (.rd 29 (.rd 30 (.rd 31 (.rd 33 (.rd 35 (.rd 36 (.rd 37 (.rd 38 (.rd 39 (.wr 32 (.wr 34 (.wr 40 (.wr 41 (.wr 42 (.rd 43 (.rd 44 (.rd 45 (.rd 46 (.wr 47 (.wr 48 (.wr 49 (.wr 50 (.rd 51 (.rd 52 (.rd 53 (.rd 54 (.rd 58 (.wr 55 (.wr 56 (.wr 57 (.wr 59 (.rd 60 (.rd 61 (.wr 62 (.rd 63 (.rd 64 .done))))))))))))))))))))))))))))))))))))))))))))))))))))))))))))))))) (by as_aux_lemma => kernel_rfl) (by as_aux_lemma => kernel_rfl) (by decide) (by as_aux_lemma => kernel_rfl) (fun d _ _ _ _ h => by cases d <;> exact h) ?_
        refine lint_pure 31 (Op.move (Operand.tmp 10)) 45 (.func (.func 16) #[] #[]) rfl rfl rfl rfl rfl (fun w0 hb0 => by unfold mkOp; go_simp; all_goals (with_reducible rfl)) ?_
        simp only [Act.put, List.setIfInBounds_toArray, List.set_cons_zero, List.set_cons_succ]
        refine lint_pure 32 (Op.load 27 (Operand.tmp 7)) 27 (.agg (arrOf 4 (ewF X))) rfl rfl rfl rfl rfl (fun w0 hb0 => by exact exec_load_as _ _ _ _ (ewF X) rfl arrS (World.rowIs.of_block r_t7 (hb0.block _ (World.rowIs.lt r_t7))) (by omega) (fun i hi => by rw [Nat.zero_add])) ?_
        simp only [Act.put, List.setIfInBounds_toArray, List.set_cons_zero, List.set_cons_succ]
        refine lint_pure 33 (Op.load 27 (Operand.tmp 8)) 27 (.agg (arrOf 4 (ewF Y))) rfl rfl rfl rfl rfl (fun w0 hb0 => by exact exec_load_as _ _ _ _ (ewF Y) rfl arrS (World.rowIs.of_block r_t8 (hb0.block _ (World.rowIs.lt r_t8))) (by omega) (fun i hi => by rw [Nat.zero_add])) ?_
        simp only [Act.put, List.setIfInBounds_toArray, List.set_cons_zero, List.set_cons_succ]
        refine lint_pure 35 (Op.move (Operand.tmp 10)) 45 (.func (.func 16) #[] #[]) rfl rfl rfl rfl rfl (fun w0 hb0 => by unfold mkOp; go_simp; all_goals (with_reducible rfl)) ?_
        simp only [Act.put, List.setIfInBounds_toArray, List.set_cons_zero, List.set_cons_succ]
        refine lint_pure 36 (Op.load 27 (Operand.tmp 8)) 27 (.agg (arrOf 4 (ewF Y))) rfl rfl rfl rfl rfl (fun w0 hb0 => by exact exec_load_as _ _ _ _ (ewF Y) rfl arrS (World.rowIs.of_block r_t8 (hb0.block _ (World.rowIs.lt r_t8))) (by omega) (fun i hi => by rw [Nat.zero_add])) ?_
        simp only [Act.put, List.setIfInBounds_toArray, List.set_cons_zero, List.set_cons_succ]
        refine lint_pure 37 (Op.load 27 (Operand.tmp 7)) 27 (.agg (arrOf 4 (ewF X))) rfl rfl rfl rfl rfl (fun w0 hb0 => by exact exec_load_as _ _ _ _ (ewF X) rfl arrS (World.rowIs.of_block r_t7 (hb0.block _ (World.rowIs.lt r_t7))) (by omega) (fun i hi => by rw [Nat.zero_add])) ?_
        simp only [Act.put, List.setIfInBounds_toArray, List.set_cons_zero, List.set_cons_succ]
        refine stp_val 34 (Operand.tmp 31) 16 #[Operand.tmp 32, Operand.tmp 33] #[27, 27] _ (sMul_any X Y _ HX.out HY.out) rfl rfl rfl rfl rfl Try.func16 (by kernel_rfl) (by kernel_rfl) (by go_simp) ?_
        rintro e w27 ⟨rfl, kk⟩
        refine ⟨_, rfl, kk, ?_⟩
        replace r_t7 := World.rowIs.of_block r_t7 (kk.block _ (World.rowIs.lt r_t7))
        replace r_t8 := World.rowIs.of_block r_t8 (kk.block _ (World.rowIs.lt r_t8))
        replace r_t9 := World.rowIs.of_block r_t9 (kk.block _ (World.rowIs.lt r_t9))
        replace f_s0 := Bs.below f_s0 kk (Nat.le_refl _)
        replace f_s1 := Bs.below f_s1 kk (Nat.le_refl _)
        replace f_s2 := Bs.below f_s2 kk (Nat.le_refl _)
        have Bw11 := Bw10.trans (kk.mono (HGS.out _ Bw10))
        clear Bw10 kk
        simp only [Act.put, List.setIfInBounds_toArray, List.set_cons_zero, List.set_cons_succ]
        refine stp_val 38 (Operand.tmp 35) 16 #[Operand.tmp 36, Operand.tmp 37] #[27, 27] _ (sMul_any Y X _ HY.out HX.out) rfl rfl rfl rfl rfl Try.func16 (by kernel_rfl) (by kernel_rfl) (by go_simp) ?_
        rintro e w28 ⟨rfl, kk⟩
        refine ⟨_, rfl, kk, ?_⟩
        replace r_t7 := World.rowIs.of_block r_t7 (kk.block _ (World.rowIs.lt r_t7))
        replace r_t8 := World.rowIs.of_block r_t8 (kk.block _ (World.rowIs.lt r_t8))
        replace r_t9 := World.rowIs.of_block r_t9 (kk.block _ (World.rowIs.lt r_t9))
        replace f_s0 := Bs.below f_s0 kk (Nat.le_refl _)
        replace f_s1 := Bs.below f_s1 kk (Nat.le_refl _)
        replace f_s2 := Bs.below f_s2 kk (Nat.le_refl _)
        have Bw12 := Bw11.trans (kk.mono (HGS.out _ Bw11))
        clear Bw11 kk
        simp only [Act.put, List.setIfInBounds_toArray, List.set_cons_zero, List.set_cons_succ]
        refine stp_fn 39 20 #[Operand.tmp 34, Operand.tmp 38] #[27, 27] _ (same_to ((X * Y) % ordL) ((Y * X) % ordL) _ (Nat.mod_lt _ ordL_pos) (Nat.mod_lt _ ordL_pos) (lw_comm X Y)) rfl rfl rfl rfl Try.func20 (by kernel_rfl) (by kernel_rfl) (by go_simp) ?_
        rintro e w29 ⟨rfl, kk⟩
        refine ⟨_, rfl, kk, ?_⟩
        replace r_t7 := World.rowIs.of_block r_t7 (kk.block _ (World.rowIs.lt r_t7))
        replace r_t8 := World.rowIs.of_block r_t8 (kk.block _ (World.rowIs.lt r_t8))
        replace r_t9 := World.rowIs.of_block r_t9 (kk.block _ (World.rowIs.lt r_t9))
        replace f_s0 := Bs.below f_s0 kk (Nat.le_refl _)
        replace f_s1 := Bs.below f_s1 kk (Nat.le_refl _)
        replace f_s2 := Bs.below f_s2 kk (Nat.le_refl _)
        have Bw13 := Bw12.trans (kk.mono (HGS.out _ Bw12))
        clear Bw12 kk
        simp only [Act.put, List.setIfInBounds_toArray, List.set_cons_zero, List.set_cons_succ]
        refine lint_pure 40 (Op.move (Operand.tmp 39)) 4 (.bool true) rfl rfl rfl rfl rfl (fun w0 hb0 => by unfold mkOp; go_simp; all_goals (with_reducible rfl)) ?_
        simp only [Act.put, List.setIfInBounds_toArray, List.set_cons_zero, List.set_cons_succ]
        refine lint_pure 41 (Op.move (Operand.tmp 10)) 45 (.func (.func 16) #[] #[]) rfl rfl rfl rfl rfl (fun w0 hb0 => by unfold mkOp; go_simp; all_goals (with_reducible rfl)) ?_
        simp only [Act.put, List.setIfInBounds_toArray, List.set_cons_zero, List.set_cons_succ]
        refine lint_pure 42 (Op.load 27 (Operand.tmp 7)) 27 (.agg (arrOf 4 (ewF X))) rfl rfl rfl rfl rfl (fun w0 hb0 => by exact exec_load_as _ _ _ _ (ewF X) rfl arrS (World.rowIs.of_block r_t7 (hb0.block _ (World.rowIs.lt r_t7))) (by omega) (fun i hi => by rw [Nat.zero_add])) ?_
        simp only [Act.put, List.setIfInBounds_toArray, List.set_cons_zero, List.set_cons_succ]
        refine lint_pure 43 (Op.load 27 (Operand.tmp 8)) 27 (.agg (arrOf 4 (ewF Y))) rfl rfl rfl rfl rfl (fun w0 hb0 => by exact exec_load_as _ _ _ _ (ewF Y) rfl arrS (World.rowIs.of_block r_t8 (hb0.block _ (World.rowIs.lt r_t8))) (by omega) (fun i hi => by rw [Nat.zero_add])) ?_
        simp only [Act.put, List.setIfInBounds_toArray, List.set_cons_zero, List.set_cons_succ]
        refine lint_pure 44 (Op.load 27 (Operand.tmp 9)) 27 (.agg (arrOf 4 (ewF Z))) rfl rfl rfl rfl rfl (fun w0 hb0 => by exact exec_load_as _ _ _ _ (ewF Z) rfl arrS (World.rowIs.of_block r_t9 (hb0.block _ (World.rowIs.lt r_t9))) (by omega) (fun i hi => by rw [Nat.zero_add])) ?_
        simp only [Act.put, List.setIfInBounds_toArray, List.set_cons_zero, List.set_cons_succ]
        refine lint_pure 47 (Op.move (Operand.tmp 10)) 45 (.func (.func 16) #[] #[]) rfl rfl rfl rfl rfl (fun w0 hb0 => by unfold mkOp; go_simp; all_goals (with_reducible rfl)) ?_
        simp only [Act.put, List.setIfInBounds_toArray, List.set_cons_zero, List.set_cons_succ]
        refine lint_pure 48 (Op.load 27 (Operand.tmp 7)) 27 (.agg (arrOf 4 (ewF X))) rfl rfl rfl rfl rfl (fun w0 hb0 => by exact exec_load_as _ _ _ _ (ewF X) rfl arrS (World.rowIs.of_block r_t7 (hb0.block _ (World.rowIs.lt r_t7))) (by omega) (fun i hi => by rw [Nat.zero_add])) ?_
        simp only [Act.put, List.setIfInBounds_toArray, List.set_cons_zero, List.set_cons_succ]
        refine lint_pure 49 (Op.load 27 (Operand.tmp 8)) 27 (.agg (arrOf 4 (ewF Y))) rfl rfl rfl rfl rfl (fun w0 hb0 => by exact exec_load_as _ _ _ _ (ewF Y) rfl arrS (World.rowIs.of_block r_t8 (hb0.block _ (World.rowIs.lt r_t8))) (by omega) (fun i hi => by rw [Nat.zero_add])) ?_
        simp only [Act.put, List.setIfInBounds_toArray, List.set_cons_zero, List.set_cons_succ]
        refine lint_pure 51 (Op.move (Operand.tmp 10)) 45 (.func (.func 16) #[] #[]) rfl rfl rfl rfl rfl (fun w0 hb0 => by unfold mkOp; go_simp; all_goals (with_reducible rfl)) ?_
        simp only [Act.put, List.setIfInBounds_toArray, List.set_cons_zero, List.set_cons_succ]
        refine lint_pure 52 (Op.load 27 (Operand.tmp 7)) 27 (.agg (arrOf 4 (ewF X))) rfl rfl rfl rfl rfl (fun w0 hb0 => by exact exec_load_as _ _ _ _ (ewF X) rfl arrS (World.rowIs.of_block r_t7 (hb0.block _ (World.rowIs.lt r_t7))) (by omega) (fun i hi => by rw [Nat.zero_add])) ?_
        simp only [Act.put, List.setIfInBounds_toArray, List.set_cons_zero, List.set_cons_succ]
        refine lint_pure 53 (Op.load 27 (Operand.tmp 9)) 27 (.agg (arrOf 4 (ewF Z))) rfl rfl rfl rfl rfl (fun w0 hb0 => by exact exec_load_as _ _ _ _ (ewF Z) rfl arrS (World.rowIs.of_block r_t9 (hb0.block _ (World.rowIs.lt r_t9))) (by omega) (fun i hi => by rw [Nat.zero_add])) ?_
        simp only [Act.put, List.setIfInBounds_toArray, List.set_cons_zero, List.set_cons_succ]
        refine stp_fn 45 14 #[Operand.tmp 43, Operand.tmp 44] #[27, 27] _ (sAdd_any Y Z _ HY.out HZ.out) rfl rfl rfl rfl Try.func14 (by kernel_rfl) (by kernel_rfl) (by go_simp) ?_
        rintro e w30 ⟨rfl, kk⟩
        refine ⟨_, rfl, kk, ?_⟩
        replace r_t7 := World.rowIs.of_block r_t7 (kk.block _ (World.rowIs.lt r_t7))
        replace r_t8 := World.rowIs.of_block r_t8 (kk.block _ (World.rowIs.lt r_t8))
        replace r_t9 := World.rowIs.of_block r_t9 (kk.block _ (World.rowIs.lt r_t9))
        replace f_s0 := Bs.below f_s0 kk (Nat.le_refl _)
        replace f_s1 := Bs.below f_s1 kk (Nat.le_refl _)
        replace f_s2 := Bs.below f_s2 kk (Nat.le_refl _)
        have Bw14 := Bw13.trans (kk.mono (HGS.out _ Bw13))
        clear Bw13 kk
        simp only [Act.put, List.setIfInBounds_toArray, List.set_cons_zero, List.set_cons_succ]
        refine stp_val 46 (Operand.tmp 41) 16 #[Operand.tmp 42, Operand.tmp 45] #[27, 27] _ (sMul_any X ((Y + Z) % ordL) _ HX.out (Nat.mod_lt _ ordL_pos)) rfl rfl rfl rfl rfl Try.func16 (by kernel_rfl) (by kernel_rfl) (by go_simp) ?_
        rintro e w31 ⟨rfl, kk⟩
        refine ⟨_, rfl, kk, ?_⟩
        replace r_t7 := World.rowIs.of_block r_t7 (kk.block _ (World.rowIs.lt r_t7))
        replace r_t8 := World.rowIs.of_block r_t8 (kk.block _ (World.rowIs.lt r_t8))
        replace r_t9 := World.rowIs.of_block r_t9 (kk.block _ (World.rowIs.lt r_t9))
        replace f_s0 := Bs.below f_s0 kk (Nat.le_refl _)
        replace f_s1 := Bs.below f_s1 kk (Nat.le_refl _)
        replace f_s2 := Bs.below f_s2 kk (Nat.le_refl _)
        have Bw15 := Bw14.trans (kk.mono (HGS.out _ Bw14))
        clear Bw14 kk
        simp only [Act.put, List.setIfInBounds_toArray, List.set_cons_zero, List.set_cons_succ]
        refine stp_val 50 (Operand.tmp 47) 16 #[Operand.tmp 48, Operand.tmp 49] #[27, 27] _ (sMul_any X Y _ HX.out HY.out) rfl rfl rfl rfl rfl Try.func16 (by kernel_rfl) (by kernel_rfl) (by go_simp) ?_
        rintro e w32 ⟨rfl, kk⟩
        refine ⟨_, rfl, kk, ?_⟩
        replace r_t7 := World.rowIs.of_block r_t7 (kk.block _ (World.rowIs.lt r_t7))
        replace r_t8 := World.rowIs.of_block r_t8 (kk.block _ (World.rowIs.lt r_t8))
        replace r_t9 := World.rowIs.of_block r_t9 (kk.block _ (World.rowIs.lt r_t9))
        replace f_s0 := Bs.below f_s0 kk (Nat.le_refl _)
        replace f_s1 := Bs.below f_s1 kk (Nat.le_refl _)
        replace f_s2 := Bs.below f_s2 kk (Nat.le_refl _)
        have Bw16 := Bw15.trans (kk.mono (HGS.out _ Bw15))
        clear Bw15 kk
        simp only [Act.put, List.setIfInBounds_toArray, List.set_cons_zero, List.set_cons_succ]
        refine stp_val 54 (Operand.tmp 51) 16 #[Operand.tmp 52, Operand.tmp 53] #[27, 27] _ (sMul_any X Z _ HX.out HZ.out) rfl rfl rfl rfl rfl Try.func16 (by kernel_rfl) (by kernel_rfl) (by go_simp) ?_
        rintro e w33 ⟨rfl, kk⟩
        refine ⟨_, rfl, kk, ?_⟩
        replace r_t7 := World.rowIs.of_block r_t7 (kk.block _ (World.rowIs.lt r_t7))
        replace r_t8 := World.rowIs.of_block r_t8 (kk.block _ (World.rowIs.lt r_t8))
        replace r_t9 := World.rowIs.of_block r_t9 (kk.block _ (World.rowIs.lt r_t9))
        replace f_s0 := Bs.below f_s0 kk (Nat.le_refl _)
        replace f_s1 := Bs.below f_s1 kk (Nat.le_refl _)
        replace f_s2 := Bs.below f_s2 kk (Nat.le_refl _)
        have Bw17 := Bw16.trans (kk.mono (HGS.out _ Bw16))
        clear Bw16 kk
        simp only [Act.put, List.setIfInBounds_toArray, List.set_cons_zero, List.set_cons_succ]
        refine stp_fn 55 14 #[Operand.tmp 50, Operand.tmp 54] #[27, 27] _ (sAdd_any ((X * Y) % ordL) ((X * Z) % ordL) _ (Nat.mod_lt _ ordL_pos) (Nat.mod_lt _ ordL_pos)) rfl rfl rfl rfl Try.func14 (by kernel_rfl) (by kernel_rfl) (by go_simp) ?_
        rintro e w34 ⟨rfl, kk⟩
        refine ⟨_, rfl, kk, ?_⟩
        replace r_t7 := World.rowIs.of_block r_t7 (kk.block _ (World.rowIs.lt r_t7))
        replace r_t8 := World.rowIs.of_block r_t8 (kk.block _ (World.rowIs.lt r_t8))
        replace r_t9 := World.rowIs.of_block r_t9 (kk.block _ (World.rowIs.lt r_t9))
        replace f_s0 := Bs.below f_s0 kk (Nat.le_refl _)
        replace f_s1 := Bs.below f_s1 kk (Nat.le_refl _)
        replace f_s2 := Bs.below f_s2 kk (Nat.le_refl _)
        have Bw18 := Bw17.trans (kk.mono (HGS.out _ Bw17))
        clear Bw17 kk
        simp only [Act.put, List.setIfInBounds_toArray, List.set_cons_zero, List.set_cons_succ]
        refine stp_fn 56 20 #[Operand.tmp 46, Operand.tmp 55] #[27, 27] _ (same_to ((X * ((Y + Z) % ordL)) % ordL) ((((X * Y) % ordL) + ((X * Z) % ordL)) % ordL) _ (Nat.mod_lt _ ordL_pos) (Nat.mod_lt _ ordL_pos) (lw_spread X Y Z)) rfl rfl rfl rfl Try.func20 (by kernel_rfl) (by kernel_rfl) (by go_simp) ?_
        rintro e w35 ⟨rfl, kk⟩
        refine ⟨_, rfl, kk, ?_⟩
        replace r_t7 := World.rowIs.of_block r_t7 (kk.block _ (World.rowIs.lt r_t7))
        replace r_t8 := World.rowIs.of_block r_t8 (kk.block _ (World.rowIs.lt r_t8))
        replace r_t9 := World.rowIs.of_block r_t9 (kk.block _ (World.rowIs.lt r_t9))
        replace f_s0 := Bs.below f_s0 kk (Nat.le_refl _)
        replace f_s1 := Bs.below f_s1 kk (Nat.le_refl _)
        replace f_s2 := Bs.below f_s2 kk (Nat.le_refl _)
        have Bw19 := Bw18.trans (kk.mono (HGS.out _ Bw18))
        clear Bw18 kk
        simp only [Act.put, List.setIfInBounds_toArray, List.set_cons_zero, List.set_cons_succ]
        refine lint_pure 57 (Op.pick (Operand.tmp 40) (Operand.tmp 56) (Operand.const (Value.bool false))) 4 (.bool true) rfl rfl rfl rfl rfl (fun w0 hb0 => by unfold mkOp; go_simp; all_goals (with_reducible rfl)) ?_
        simp only [Act.put, List.setIfInBounds_toArray, List.set_cons_zero, List.set_cons_succ]
        refine lint_pure 58 (Op.move (Operand.tmp 57)) 4 (.bool true) rfl rfl rfl rfl rfl (fun w0 hb0 => by unfold mkOp; go_simp; all_goals (with_reducible rfl)) ?_
        simp only [Act.put, List.setIfInBounds_toArray, List.set_cons_zero, List.set_cons_succ]
        refine lint_pure 59 (Op.move (Operand.tmp 10)) 45 (.func (.func 16) #[] #[]) rfl rfl rfl rfl rfl (fun w0 hb0 => by unfold mkOp; go_simp; all_goals (with_reducible rfl)) ?_
        simp only [Act.put, List.setIfInBounds_toArray, List.set_cons_zero, List.set_cons_succ]
        refine lint_pure 60 (Op.move (Operand.tmp 10)) 45 (.func (.func 16) #[] #[]) rfl rfl rfl rfl rfl (fun w0 hb0 => by unfold mkOp; go_simp; all_goals (with_reducible rfl)) ?_
        simp only [Act.put, List.setIfInBounds_toArray, List.set_cons_zero, List.set_cons_succ]
        refine lint_pure 61 (Op.load 27 (Operand.tmp 7)) 27 (.agg (arrOf 4 (ewF X))) rfl rfl rfl rfl rfl (fun w0 hb0 => by exact exec_load_as _ _ _ _ (ewF X) rfl arrS (World.rowIs.of_block r_t7 (hb0.block _ (World.rowIs.lt r_t7))) (by omega) (fun i hi => by rw [Nat.zero_add])) ?_
        simp only [Act.put, List.setIfInBounds_toArray, List.set_cons_zero, List.set_cons_succ]
        refine lint_pure 62 (Op.load 27 (Operand.tmp 8)) 27 (.agg (arrOf 4 (ewF Y))) rfl rfl rfl rfl rfl (fun w0 hb0 => by exact exec_load_as _ _ _ _ (ewF Y) rfl arrS (World.rowIs.of_block r_t8 (hb0.block _ (World.rowIs.lt r_t8))) (by omega) (fun i hi => by rw [Nat.zero_add])) ?_
        simp only [Act.put, List.setIfInBounds_toArray, List.set_cons_zero, List.set_cons_succ]
        refine lint_pure 64 (Op.load 27 (Operand.tmp 9)) 27 (.agg (arrOf 4 (ewF Z))) rfl rfl rfl rfl rfl (fun w0 hb0 => by exact exec_load_as _ _ _ _ (ewF Z) rfl arrS (World.rowIs.of_block r_t9 (hb0.block _ (World.rowIs.lt r_t9))) (by omega) (fun i hi => by rw [Nat.zero_add])) ?_
        simp only [Act.put, List.setIfInBounds_toArray, List.set_cons_zero, List.set_cons_succ]
        refine lint_pure 66 (Op.move (Operand.tmp 10)) 45 (.func (.func 16) #[] #[]) rfl rfl rfl rfl rfl (fun w0 hb0 => by unfold mkOp; go_simp; all_goals (with_reducible rfl)) ?_
        simp only [Act.put, List.setIfInBounds_toArray, List.set_cons_zero, List.set_cons_succ]
        refine lint_pure 67 (Op.load 27 (Operand.tmp 7)) 27 (.agg (arrOf 4 (ewF X))) rfl rfl rfl rfl rfl (fun w0 hb0 => by exact exec_load_as _ _ _ _ (ewF X) rfl arrS (World.rowIs.of_block r_t7 (hb0.block _ (World.rowIs.lt r_t7))) (by omega) (fun i hi => by rw [Nat.zero_add])) ?_
        simp only [Act.put, List.setIfInBounds_toArray, List.set_cons_zero, List.set_cons_succ]
        refine lint_pure 68 (Op.move (Operand.tmp 10)) 45 (.func (.func 16) #[] #[]) rfl rfl rfl rfl rfl (fun w0 hb0 => by unfold mkOp; go_simp; all_goals (with_reducible rfl)) ?_
        simp only [Act.put, List.setIfInBounds_toArray, List.set_cons_zero, List.set_cons_succ]
        refine lint_pure 69 (Op.load 27 (Operand.tmp 8)) 27 (.agg (arrOf 4 (ewF Y))) rfl rfl rfl rfl rfl (fun w0 hb0 => by exact exec_load_as _ _ _ _ (ewF Y) rfl arrS (World.rowIs.of_block r_t8 (hb0.block _ (World.rowIs.lt r_t8))) (by omega) (fun i hi => by rw [Nat.zero_add])) ?_
        simp only [Act.put, List.setIfInBounds_toArray, List.set_cons_zero, List.set_cons_succ]
        refine lint_pure 70 (Op.load 27 (Operand.tmp 9)) 27 (.agg (arrOf 4 (ewF Z))) rfl rfl rfl rfl rfl (fun w0 hb0 => by exact exec_load_as _ _ _ _ (ewF Z) rfl arrS (World.rowIs.of_block r_t9 (hb0.block _ (World.rowIs.lt r_t9))) (by omega) (fun i hi => by rw [Nat.zero_add])) ?_
        simp only [Act.put, List.setIfInBounds_toArray, List.set_cons_zero, List.set_cons_succ]
        refine stp_val 63 (Operand.tmp 60) 16 #[Operand.tmp 61, Operand.tmp 62] #[27, 27] _ (sMul_any X Y _ HX.out HY.out) rfl rfl rfl rfl rfl Try.func16 (by kernel_rfl) (by kernel_rfl) (by go_simp) ?_
        rintro e w36 ⟨rfl, kk⟩
        refine ⟨_, rfl, kk, ?_⟩
        replace r_t7 := World.rowIs.of_block r_t7 (kk.block _ (World.rowIs.lt r_t7))
        replace r_t8 := World.rowIs.of_block r_t8 (kk.block _ (World.rowIs.lt r_t8))
        replace r_t9 := World.rowIs.of_block r_t9 (kk.block _ (World.rowIs.lt r_t9))
        replace f_s0 := Bs.below f_s0 kk (Nat.le_refl _)
        replace f_s1 := Bs.below f_s1 kk (Nat.le_refl _)
        replace f_s2 := Bs.below f_s2 kk (Nat.le_refl _)
        have Bw20 := Bw19.trans (kk.mono (HGS.out _ Bw19))
        clear Bw19 kk
        simp only [Act.put, List.setIfInBounds_toArray, List.set_cons_zero, List.set_cons_succ]
        refine stp_val 65 (Operand.tmp 59) 16 #[Operand.tmp 63, Operand.tmp 64] #[27, 27] _ (sMul_any ((X * Y) % ordL) Z _ (Nat.mod_lt _ ordL_pos) HZ.out) rfl rfl rfl rfl rfl Try.func16 (by kernel_rfl) (by kernel_rfl) (by go_simp) ?_
        rintro e w37 ⟨rfl, kk⟩
        refine ⟨_, rfl, kk, ?_⟩
        replace r_t7 := World.rowIs.of_block r_t7 (kk.block _ (World.rowIs.lt r_t7))
        replace r_t8 := World.rowIs.of_block r_t8 (kk.block _ (World.rowIs.lt r_t8))
        replace r_t9 := World.rowIs.of_block r_t9 (kk.block _ (World.rowIs.lt r_t9))
        replace f_s0 := Bs.below f_s0 kk (Nat.le_refl _)
        replace f_s1 := Bs.below f_s1 kk (Nat.le_refl _)
        replace f_s2 := Bs.below f_s2 kk (Nat.le_refl _)
        have Bw21 := Bw20.trans (kk.mono (HGS.out _ Bw20))
        clear Bw20 kk
        simp only [Act.put, List.setIfInBounds_toArray, List.set_cons_zero, List.set_cons_succ]
        refine stp_val 71 (Operand.tmp 68) 16 #[Operand.tmp 69, Operand.tmp 70] #[27, 27] _ (sMul_any Y Z _ HY.out HZ.out) rfl rfl rfl rfl rfl Try.func16 (by kernel_rfl) (by kernel_rfl) (by go_simp) ?_
        rintro e w38 ⟨rfl, kk⟩
        refine ⟨_, rfl, kk, ?_⟩
        replace r_t7 := World.rowIs.of_block r_t7 (kk.block _ (World.rowIs.lt r_t7))
        replace r_t8 := World.rowIs.of_block r_t8 (kk.block _ (World.rowIs.lt r_t8))
        replace r_t9 := World.rowIs.of_block r_t9 (kk.block _ (World.rowIs.lt r_t9))
        replace f_s0 := Bs.below f_s0 kk (Nat.le_refl _)
        replace f_s1 := Bs.below f_s1 kk (Nat.le_refl _)
        replace f_s2 := Bs.below f_s2 kk (Nat.le_refl _)
        have Bw22 := Bw21.trans (kk.mono (HGS.out _ Bw21))
        clear Bw21 kk
        simp only [Act.put, List.setIfInBounds_toArray, List.set_cons_zero, List.set_cons_succ]
        refine stp_val 72 (Operand.tmp 66) 16 #[Operand.tmp 67, Operand.tmp 71] #[27, 27] _ (sMul_any X ((Y * Z) % ordL) _ HX.out (Nat.mod_lt _ ordL_pos)) rfl rfl rfl rfl rfl Try.func16 (by kernel_rfl) (by kernel_rfl) (by go_simp) ?_
        rintro e w39 ⟨rfl, kk⟩
        refine ⟨_, rfl, kk, ?_⟩
        replace r_t7 := World.rowIs.of_block r_t7 (kk.block _ (World.rowIs.lt r_t7))
        replace r_t8 := World.rowIs.of_block r_t8 (kk.block _ (World.rowIs.lt r_t8))
        replace r_t9 := World.rowIs.of_block r_t9 (kk.block _ (World.rowIs.lt r_t9))
        replace f_s0 := Bs.below f_s0 kk (Nat.le_refl _)
        replace f_s1 := Bs.below f_s1 kk (Nat.le_refl _)
        replace f_s2 := Bs.below f_s2 kk (Nat.le_refl _)
        have Bw23 := Bw22.trans (kk.mono (HGS.out _ Bw22))
        clear Bw22 kk
        simp only [Act.put, List.setIfInBounds_toArray, List.set_cons_zero, List.set_cons_succ]
        refine stp_fn 73 20 #[Operand.tmp 65, Operand.tmp 72] #[27, 27] _ (same_to ((((X * Y) % ordL) * Z) % ordL) ((X * ((Y * Z) % ordL)) % ordL) _ (Nat.mod_lt _ ordL_pos) (Nat.mod_lt _ ordL_pos) (lw_assoc X Y Z)) rfl rfl rfl rfl Try.func20 (by kernel_rfl) (by kernel_rfl) (by go_simp) ?_
        rintro e w40 ⟨rfl, kk⟩
        refine ⟨_, rfl, kk, ?_⟩
        replace r_t7 := World.rowIs.of_block r_t7 (kk.block _ (World.rowIs.lt r_t7))
        replace r_t8 := World.rowIs.of_block r_t8 (kk.block _ (World.rowIs.lt r_t8))
        replace r_t9 := World.rowIs.of_block r_t9 (kk.block _ (World.rowIs.lt r_t9))
        replace f_s0 := Bs.below f_s0 kk (Nat.le_refl _)
        replace f_s1 := Bs.below f_s1 kk (Nat.le_refl _)
        replace f_s2 := Bs.below f_s2 kk (Nat.le_refl _)
        have Bw24 := Bw23.trans (kk.mono (HGS.out _ Bw23))
        clear Bw23 kk
        simp only [Act.put, List.setIfInBounds_toArray, List.set_cons_zero, List.set_cons_succ]
        refine lint_pure 74 (Op.pick (Operand.tmp 58) (Operand.tmp 73) (Operand.const (Value.bool false))) 4 (.bool true) rfl rfl rfl rfl rfl (fun w0 hb0 => by unfold mkOp; go_simp; all_goals (with_reducible rfl)) ?_
        simp only [Act.put, List.setIfInBounds_toArray, List.set_cons_zero, List.set_cons_succ]
        refine lint_pure 75 (Op.move (Operand.tmp 74)) 4 (.bool true) rfl rfl rfl rfl rfl (fun w0 hb0 => by unfold mkOp; go_simp; all_goals (with_reducible rfl)) ?_
        simp only [Act.put, List.setIfInBounds_toArray, List.set_cons_zero, List.set_cons_succ]
        refine lint_pure 76 (Op.load 27 (Operand.tmp 7)) 27 (.agg (arrOf 4 (ewF X))) rfl rfl rfl rfl rfl (fun w0 hb0 => by exact exec_load_as _ _ _ _ (ewF X) rfl arrS (World.rowIs.of_block r_t7 (hb0.block _ (World.rowIs.lt r_t7))) (by omega) (fun i hi => by rw [Nat.zero_add])) ?_
        simp only [Act.put, List.setIfInBounds_toArray, List.set_cons_zero, List.set_cons_succ]
        refine lint_pure 77 (Op.load 27 (Operand.tmp 7)) 27 (.agg (arrOf 4 (ewF X))) rfl rfl rfl rfl rfl (fun w0 hb0 => by exact exec_load_as _ _ _ _ (ewF X) rfl arrS (World.rowIs.of_block r_t7 (hb0.block _ (World.rowIs.lt r_t7))) (by omega) (fun i hi => by rw [Nat.zero_add])) ?_
        simp only [Act.put, List.setIfInBounds_toArray, List.set_cons_zero, List.set_cons_succ]
        refine stp_fn 78 18 #[Operand.tmp 77] #[27] _ (sNeg_any X _ HX.out) rfl rfl rfl rfl Try.func18 (by kernel_rfl) (by kernel_rfl) (by go_simp) ?_
        rintro e w41 ⟨rfl, kk⟩
        refine ⟨_, rfl, kk, ?_⟩
        replace r_t7 := World.rowIs.of_block r_t7 (kk.block _ (World.rowIs.lt r_t7))
        replace r_t8 := World.rowIs.of_block r_t8 (kk.block _ (World.rowIs.lt r_t8))
        replace r_t9 := World.rowIs.of_block r_t9 (kk.block _ (World.rowIs.lt r_t9))
        replace f_s0 := Bs.below f_s0 kk (Nat.le_refl _)
        replace f_s1 := Bs.below f_s1 kk (Nat.le_refl _)
        replace f_s2 := Bs.below f_s2 kk (Nat.le_refl _)
        have Bw25 := Bw24.trans (kk.mono (HGS.out _ Bw24))
        clear Bw24 kk
        simp only [Act.put, List.setIfInBounds_toArray, List.set_cons_zero, List.set_cons_succ]
        refine stp_fn 79 14 #[Operand.tmp 76, Operand.tmp 78] #[27, 27] _ (sAdd_any X (oppL X) _ HX.out (oppL_lt _)) rfl rfl rfl rfl Try.func14 (by kernel_rfl) (by kernel_rfl) (by go_simp) ?_
        rintro e w42 ⟨rfl, kk⟩
        refine ⟨_, rfl, kk, ?_⟩
        replace r_t7 := World.rowIs.of_block r_t7 (kk.block _ (World.rowIs.lt r_t7))
        replace r_t8 := World.rowIs.of_block r_t8 (kk.block _ (World.rowIs.lt r_t8))
        replace r_t9 := World.rowIs.of_block r_t9 (kk.block _ (World.rowIs.lt r_t9))
        replace f_s0 := Bs.below f_s0 kk (Nat.le_refl _)
        replace f_s1 := Bs.below f_s1 kk (Nat.le_refl _)
        replace f_s2 := Bs.below f_s2 kk (Nat.le_refl _)
        have Bw26 := Bw25.trans (kk.mono (HGS.out _ Bw25))
        clear Bw25 kk
        simp only [Act.put, List.setIfInBounds_toArray, List.set_cons_zero, List.set_cons_succ]
        refine stp_fn 80 9 #[Operand.const (Value.slice none 0 0)] #[22] _ (sWide_to _ ([]) _ (Bs.nil _) (0) nil_wide) rfl rfl rfl rfl Try.func9 (by kernel_rfl) (by kernel_rfl) (by go_simp) ?_
        rintro e w43 ⟨rfl, kk⟩
        refine ⟨_, rfl, kk, ?_⟩
        replace r_t7 := World.rowIs.of_block r_t7 (kk.block _ (World.rowIs.lt r_t7))
        replace r_t8 := World.rowIs.of_block r_t8 (kk.block _ (World.rowIs.lt r_t8))
        replace r_t9 := World.rowIs.of_block r_t9 (kk.block _ (World.rowIs.lt r_t9))
        replace f_s0 := Bs.below f_s0 kk (Nat.le_refl _)
        replace f_s1 := Bs.below f_s1 kk (Nat.le_refl _)
        replace f_s2 := Bs.below f_s2 kk (Nat.le_refl _)
        have Bw27 := Bw26.trans (kk.mono (HGS.out _ Bw26))
        clear Bw26 kk
        simp only [Act.put, List.setIfInBounds_toArray, List.set_cons_zero, List.set_cons_succ]
        refine stp_fn 81 20 #[Operand.tmp 79, Operand.tmp 80] #[27, 27] _ (same_to ((X + (oppL X)) % ordL) 0 _ (Nat.mod_lt _ ordL_pos) ordL_pos (lw_opp X HX.out)) rfl rfl rfl rfl Try.func20 (by kernel_rfl) (by kernel_rfl) (by go_simp) ?_
        rintro e w44 ⟨rfl, kk⟩
        refine ⟨_, rfl, kk, ?_⟩
        replace r_t7 := World.rowIs.of_block r_t7 (kk.block _ (World.rowIs.lt r_t7))
        replace r_t8 := World.rowIs.of_block r_t8 (kk.block _ (World.rowIs.lt r_t8))
        replace r_t9 := World.rowIs.of_block r_t9 (kk.block _ (World.rowIs.lt r_t9))
        replace f_s0 := Bs.below f_s0 kk (Nat.le_refl _)
        replace f_s1 := Bs.below f_s1 kk (Nat.le_refl _)
        replace f_s2 := Bs.below f_s2 kk (Nat.le_refl _)
        have Bw28 := Bw27.trans (kk.mono (HGS.out _ Bw27))
        clear Bw27 kk
        simp only [Act.put, List.setIfInBounds_toArray, List.set_cons_zero, List.set_cons_succ]
        refine lint_pure 82 (Op.pick (Operand.tmp 75) (Operand.tmp 81) (Operand.const (Value.bool false))) 4 (.bool true) rfl rfl rfl rfl rfl (fun w0 hb0 => by unfold mkOp; go_simp; all_goals (with_reducible rfl)) ?_
        simp only [Act.put, List.setIfInBounds_toArray, List.set_cons_zero, List.set_cons_succ]
        refine lint_pure 83 (Op.move (Operand.tmp 82)) 4 (.bool true) rfl rfl rfl rfl rfl (fun w0 hb0 => by unfold mkOp; go_simp; all_goals (with_reducible rfl)) ?_
        simp only [Act.put, List.setIfInBounds_toArray, List.set_cons_zero, List.set_cons_succ]
        refine lint_pure 84 (Op.move (Operand.tmp 10)) 45 (.func (.func 16) #[] #[]) rfl rfl rfl rfl rfl (fun w0 hb0 => by unfold mkOp; go_simp; all_goals (with_reducible rfl)) ?_
        simp only [Act.put, List.setIfInBounds_toArray, List.set_cons_zero, List.set_cons_succ]
        refine lint_pure 85 (Op.load 27 (Operand.tmp 7)) 27 (.agg (arrOf 4 (ewF X))) rfl rfl rfl rfl rfl (fun w0 hb0 => by exact exec_load_as _ _ _ _ (ewF X) rfl arrS (World.rowIs.of_block r_t7 (hb0.block _ (World.rowIs.lt r_t7))) (by omega) (fun i hi => by rw [Nat.zero_add])) ?_
        simp only [Act.put, List.setIfInBounds_toArray, List.set_cons_zero, List.set_cons_succ]
        refine lint_pure 89 (Op.load 27 (Operand.tmp 7)) 27 (.agg (arrOf 4 (ewF X))) rfl rfl rfl rfl rfl (fun w0 hb0 => by exact exec_load_as _ _ _ _ (ewF X) rfl arrS (World.rowIs.of_block r_t7 (hb0.block _ (World.rowIs.lt r_t7))) (by omega) (fun i hi => by rw [Nat.zero_add])) ?_
        simp only [Act.put, List.setIfInBounds_toArray, List.set_cons_zero, List.set_cons_succ]
        refine stp_one 86 (.const (.int .u8 1)) 22 rfl rfl rfl rfl rfl 1 rfl ?_
        intro w45 v_s86 f_s86 kk
        replace r_t7 := World.rowIs.of_block r_t7 (kk.block _ (World.rowIs.lt r_t7))
        replace r_t8 := World.rowIs.of_block r_t8 (kk.block _ (World.rowIs.lt r_t8))
        replace r_t9 := World.rowIs.of_block r_t9 (kk.block _ (World.rowIs.lt r_t9))
        replace f_s0 := Bs.below f_s0 kk (Nat.le_refl _)
        replace f_s1 := Bs.below f_s1 kk (Nat.le_refl _)
        replace f_s2 := Bs.below f_s2 kk (Nat.le_refl _)
        have Bw29 := Bw28.trans (kk.mono (HGS.out _ Bw28))
        clear Bw28 kk
        simp only [Act.put, List.setIfInBounds_toArray, List.set_cons_zero, List.set_cons_succ]
        refine stp_fn 87 9 #[Operand.tmp 86] #[22] _ (sWide_to _ ([1]) _ f_s86 (1) one_wide) rfl rfl rfl rfl Try.func9 (by kernel_rfl) (by kernel_rfl) (by go_simp) ?_
        rintro e w46 ⟨rfl, kk⟩
        refine ⟨_, rfl, kk, ?_⟩
        replace r_t7 := World.rowIs.of_block r_t7 (kk.block _ (World.rowIs.lt r_t7))
        replace r_t8 := World.rowIs.of_block r_t8 (kk.block _ (World.rowIs.lt r_t8))
        replace r_t9 := World.rowIs.of_block r_t9 (kk.block _ (World.rowIs.lt r_t9))
        replace f_s0 := Bs.below f_s0 kk (Nat.le_refl _)
        replace f_s1 := Bs.below f_s1 kk (Nat.le_refl _)
        replace f_s2 := Bs.below f_s2 kk (Nat.le_refl _)
        replace f_s86 := Bs.below f_s86 kk (Nat.le_refl _)
        have Bw30 := Bw29.trans (kk.mono (HGS.out _ Bw29))
        clear Bw29 kk
        simp only [Act.put, List.setIfInBounds_toArray, List.set_cons_zero, List.set_cons_succ]
        refine stp_val 88 (Operand.tmp 84) 16 #[Operand.tmp 85, Operand.tmp 87] #[27, 27] _ (sMul_any X 1 _ HX.out one_L) rfl rfl rfl rfl rfl Try.func16 (by kernel_rfl) (by kernel_rfl) (by go_simp) ?_
        rintro e w47 ⟨rfl, kk⟩
        refine ⟨_, rfl, kk, ?_⟩
        replace r_t7 := World.rowIs.of_block r_t7 (kk.block _ (World.rowIs.lt r_t7))
        replace r_t8 := World.rowIs.of_block r_t8 (kk.block _ (World.rowIs.lt r_t8))
        replace r_t9 := World.rowIs.of_block r_t9 (kk.block _ (World.rowIs.lt r_t9))
        replace f_s0 := Bs.below f_s0 kk (Nat.le_refl _)
        replace f_s1 := Bs.below f_s1 kk (Nat.le_refl _)
        replace f_s2 := Bs.below f_s2 kk (Nat.le_refl _)
        replace f_s86 := Bs.below f_s86 kk (Nat.le_refl _)
        have Bw31 := Bw30.trans (kk.mono (HGS.out _ Bw30))
        clear Bw30 kk
        simp only [Act.put, List.setIfInBounds_toArray, List.set_cons_zero, List.set_cons_succ]
        refine stp_fn 90 20 #[Operand.tmp 88, Operand.tmp 89] #[27, 27] _ (same_to ((X * 1) % ordL) X _ (Nat.mod_lt _ ordL_pos) HX.out (lw_one X HX.out)) rfl rfl rfl rfl Try.func20 (by kernel_rfl) (by kernel_rfl) (by go_simp) ?_
        rintro e w48 ⟨rfl, kk⟩
        refine ⟨_, rfl, kk, ?_⟩
        replace r_t7 := World.rowIs.of_block r_t7 (kk.block _ (World.rowIs.lt r_t7))
        replace r_t8 := World.rowIs.of_block r_t8 (kk.block _ (World.rowIs.lt r_t8))
        replace r_t9 := World.rowIs.of_block r_t9 (kk.block _ (World.rowIs.lt r_t9))
        replace f_s0 := Bs.below f_s0 kk (Nat.le_refl _)
        replace f_s1 := Bs.below f_s1 kk (Nat.le_refl _)
        replace f_s2 := Bs.below f_s2 kk (Nat.le_refl _)
        replace f_s86 := Bs.below f_s86 kk (Nat.le_refl _)
        have Bw32 := Bw31.trans (kk.mono (HGS.out _ Bw31))
        clear Bw31 kk
        simp only [Act.put, List.setIfInBounds_toArray, List.set_cons_zero, List.set_cons_succ]
        refine lint_pure 91 (Op.pick (Operand.tmp 83) (Operand.tmp 90) (Operand.const (Value.bool false))) 4 (.bool true) rfl rfl rfl rfl rfl (fun w0 hb0 => by unfold mkOp; go_simp; all_goals (with_reducible rfl)) ?_
        simp only [Act.put, List.setIfInBounds_toArray, List.set_cons_zero, List.set_cons_succ]
        refine lint_pure 92 (Op.move (Operand.tmp 91)) 4 (.bool true) rfl rfl rfl rfl rfl (fun w0 hb0 => by unfold mkOp; go_simp; all_goals (with_reducible rfl)) ?_
        simp only [Act.put, List.setIfInBounds_toArray, List.set_cons_zero, List.set_cons_succ]
        refine stp_fn 93 8 #[] #[] _ (awake7_any _) rfl rfl rfl rfl Try.func8 (by kernel_rfl) (by kernel_rfl) (by go_simp) ?_
        rintro e w49 ⟨rfl, kk⟩
        refine ⟨_, rfl, kk, ?_⟩
        replace r_t7 := World.rowIs.of_block r_t7 (kk.block _ (World.rowIs.lt r_t7))
        replace r_t8 := World.rowIs.of_block r_t8 (kk.block _ (World.rowIs.lt r_t8))
        replace r_t9 := World.rowIs.of_block r_t9 (kk.block _ (World.rowIs.lt r_t9))
        replace f_s0 := Bs.below f_s0 kk (Nat.le_refl _)
        replace f_s1 := Bs.below f_s1 kk (Nat.le_refl _)
        replace f_s2 := Bs.below f_s2 kk (Nat.le_refl _)
        replace f_s86 := Bs.below f_s86 kk (Nat.le_refl _)
        have Bw33 := Bw32.trans (kk.mono (HGS.out _ Bw32))
        clear Bw32 kk
        simp only [Act.put, List.setIfInBounds_toArray, List.set_cons_zero, List.set_cons_succ]
        refine lint_pure 94 (Op.pick (Operand.tmp 92) (Operand.tmp 93) (Operand.const (Value.bool false))) 4 (.bool true) rfl rfl rfl rfl rfl (fun w0 hb0 => by unfold mkOp; go_simp; all_goals (with_reducible rfl)) ?_
        simp only [Act.put, List.setIfInBounds_toArray, List.set_cons_zero, List.set_cons_succ]
        refine lint_pure 6 (Op.assign (Operand.tmp 94)) 4 (.bool true) rfl rfl rfl rfl rfl (fun w0 hb0 => by unfold mkOp; go_simp; all_goals (with_reducible rfl)) ?_
        simp only [Act.put, List.setIfInBounds_toArray, List.set_cons_zero, List.set_cons_succ]
        refine lint_end ?_
        go_wp2
        go_ret
        exact ⟨rfl, Bw33⟩
      · have q2 : (100 : Int) < (n2 : Int) := by omega
        clear h0 hB0 e0 h1 hB1 e1 h2 hB2 e2 d0 d1 d2
        go_enter Try.func4, Try.ntmps4
        go_wp2_with (go_at_call 8; refine (awake7_any _).mono ?_; rintro e w9 ⟨rfl, hb9⟩)
        go_ret
        exact ⟨rfl, hb9⟩
    · have q1 : (100 : Int) < (n1 : Int) := by omega
      clear h0 hB0 e0 h1 hB1 e1 h2 hB2 e2 d0 d1
      go_enter Try.func4, Try.ntmps4
      go_wp2_with (go_at_call 8; refine (awake7_any _).mono ?_; rintro e w9 ⟨rfl, hb9⟩)
      go_ret
      exact ⟨rfl, hb9⟩
  · have q0 : (100 : Int) < (n0 : Int) := by omega
    clear h0 hB0 e0 h1 hB1 e1 h2 hB2 e2 d0
    go_enter Try.func4, Try.ntmps4
    go_wp2_with (go_at_call 8; refine (awake7_any _).mono ?_; rintro e w9 ⟨rfl, hb9⟩)
    go_ret
    exact ⟨rfl, hb9⟩
end Go.Proofs.Ytncdlaidmiokiaa
