/- PointTimes, walked. -/
import Derived.Test.YtphkmaihnbhgoaaMM6
namespace Go.Proofs.Ytphkmaihnbhgoaa
open Go.RowKit Go.Deep
set_option linter.unusedSimpArgs false
set_option linter.unusedVariables false

theorem base_neg : ptB ≠ negE ptB := by decide +kernel
set_option maxHeartbeats 8000000 in
set_option maxRecDepth 100000 in
theorem law_pointTimes (w : World) (v0 : Value) (l0 : List UInt8) (h0 : Bs w v0 l0) (v1 : Value) (l1 : List UInt8) (h1 : Bs w v1 l1) (x2 : Int) (w2 : (Lit.int .i64 x2).wf = true) (x3 : Int) (w3 : (Lit.int .i64 x3).wf = true) : Calls Try.prog 8 #[v0, v1, .int .i64 x2, .int .i64 x3] w fun e w' => e = .returned (.bool true) ∧ Below w.heap.size w w' := by
  obtain ⟨ad0, n0, c0, rfl, e0, y0, z0, hB0⟩ := h0.shape
  obtain ⟨ad1, n1, c1, rfl, e1, y1, z1, hB1⟩ := h1.shape
  by_cases d0 : n0 ≤ 100
  · have q0 : ¬ (100 : Int) < (n0 : Int) := by omega
    by_cases d1 : n1 ≤ 100
    · have q1 : ¬ (100 : Int) < (n1 : Int) := by omega
      by_cases d2 : 0 ≤ x2
      · have q2 : ¬ x2 < 0 := by omega
        by_cases d3 : 0 ≤ x3
        · have q3 : ¬ x3 < 0 := by omega
          by_cases d4 : x2 ≤ 1000
          · have q4 : ¬ (1000 : Int) < x2 := by omega
            by_cases d5 : x3 ≤ 1000
            · have q5 : ¬ (1000 : Int) < x3 := by omega
              have f_s0 := hB0
              have HF_s0 := Lib.hid hB0
              have f_s1 := hB1
              have HF_s1 := Lib.hid hB1
              have Bw0 := Below.refl w.heap.size w
              have HGS : Hid (∀ wq : World, Below w.heap.size w wq → w.heap.size ≤ wq.heap.size) := Lib.hid fun wq h => h.size
              obtain ⟨A, hA⟩ := nat_var (numL (l0) 64 % ordL)
              have HA : Hid (A < ordL) := Lib.hid (by rw [hA]; exact Nat.mod_lt _ ordL_pos)
              have HNA := Lib.hid hA.symm
              clear hA
              obtain ⟨C, hC⟩ := nat_var (numL (l1) 64 % ordL)
              have HC : Hid (C < ordL) := Lib.hid (by rw [hC]; exact Nat.mod_lt _ ordL_pos)
              have HNC := Lib.hid hC.symm
              clear hC
              obtain ⟨J, rfl⟩ : ∃ J : Nat, x2 = (J : Int) := ⟨x2.toNat, by omega⟩
              obtain ⟨K, rfl⟩ : ∃ K : Nat, x3 = (K : Int) := ⟨x3.toNat, by omega⟩
              obtain ⟨M, hM⟩ := nat_var (J + K)
              have HM := Lib.hid hM
              have qs : IntKind.i64.wrap ((J : Int) + (K : Int)) = (M : Int) := by rw [hM, Int.natCast_add]; exact IntWalk.i64_in _ (by omega)
              have HJL : Hid (J ≤ 2147483648) := Lib.hid (by omega)
              have HKL : Hid (K ≤ 2147483648) := Lib.hid (by omega)
              have HML : Hid (M ≤ 2147483648) := Lib.hid (by omega)
              clear hM w2 w3
              clear h0 hB0 e0 h1 hB1 e1 d0 d1 d2 d3 d4 d5
              go_enter Try.func8, Try.ntmps8
              go_wp2_with (first
                | (have hgo := Bw0; clear hgo
                   go_at_call 16
                   refine (qTBase_any _).mono ?_
                   rintro e w25 ⟨rfl, kk⟩
                   replace f_s0 := Bs.below f_s0 kk (Nat.le_refl _)
                   replace f_s1 := Bs.below f_s1 kk (Nat.le_refl _)
                   have Bw1 := Bw0.trans (kk.mono (HGS.out _ Bw0))
                   clear Bw0 kk)
                | (have hgo := Bw1; clear hgo
                   go_at_call 18
                   refine (sWide_to _ (l0) _ f_s0 (A) HNA.out).mono ?_
                   rintro e w27 ⟨rfl, kk⟩
                   replace f_s0 := Bs.below f_s0 kk (Nat.le_refl _)
                   replace f_s1 := Bs.below f_s1 kk (Nat.le_refl _)
                   have Bw2 := Bw1.trans (kk.mono (HGS.out _ Bw1))
                   clear Bw1 kk)
                | (have hgo := Bw2; clear hgo
                   go_at_call 17
                   refine (qTMul_any bT A _ LtT.base).mono ?_
                   rintro e w28 ⟨rfl, kk⟩
                   replace f_s0 := Bs.below f_s0 kk (Nat.le_refl _)
                   replace f_s1 := Bs.below f_s1 kk (Nat.le_refl _)
                   have Bw3 := Bw2.trans (kk.mono (HGS.out _ Bw2))
                   clear Bw2 kk)
                | (have hgo := Bw3; clear hgo
                   refine wpList_alloc_row rfl 29 rfl 12 (u64f fun _ => 0) zeroQ ?_
                   intro b_t9 w29 lk r_t9 kk
                   have l_t9 := Nat.le_trans (HGS.out _ Bw3) lk
                   have a_s0_t9 := Bs.away f_s0 lk
                   have a_s1_t9 := Bs.away f_s1 lk
                   replace f_s0 := Bs.below f_s0 kk (Nat.le_refl _)
                   replace f_s1 := Bs.below f_s1 kk (Nat.le_refl _)
                   have Bw4 := Bw3.trans (kk.mono (HGS.out _ Bw3))
                   clear Bw3 kk lk)
                | (have hgo := Bw4; clear hgo
                   refine wpList_store_as rfl 29 (.tmp 9) (.tmp 41) rfl 12 (qT (qMul bT A)) arrQ r_t9 rfl rfl (by omega) (fun j _ => qF_one _ _ _ j) (fun i hi => putN_whole hi) ?_
                   intro w30 q gk
                   replace r_t9 := q
                   have Bw5 := Bw4.grown gk (HGS.out _ Bw4) (by intro k hk; cases hk; exact l_t9)
                   replace f_s0 := gb_bs f_s0 gk a_s0_t9
                   replace f_s1 := gb_bs f_s1 gk a_s1_t9
                   clear Bw4 gk q)
                | (have hgo := Bw5; clear hgo
                   go_at_call 18
                   refine (sWide_to _ (l0) _ f_s0 (A) HNA.out).mono ?_
                   rintro e w32 ⟨rfl, kk⟩
                   replace r_t9 := World.rowIs.of_block r_t9 (kk.block _ (World.rowIs.lt r_t9))
                   replace f_s0 := Bs.below f_s0 kk (Nat.le_refl _)
                   replace f_s1 := Bs.below f_s1 kk (Nat.le_refl _)
                   have Bw6 := Bw5.trans (kk.mono (HGS.out _ Bw5))
                   clear Bw5 kk)
                | (have hgo := Bw6; clear hgo
                   go_at_call 18
                   refine (sWide_to _ (l1) _ f_s1 (C) HNC.out).mono ?_
                   rintro e w34 ⟨rfl, kk⟩
                   replace r_t9 := World.rowIs.of_block r_t9 (kk.block _ (World.rowIs.lt r_t9))
                   replace f_s0 := Bs.below f_s0 kk (Nat.le_refl _)
                   replace f_s1 := Bs.below f_s1 kk (Nat.le_refl _)
                   have Bw7 := Bw6.trans (kk.mono (HGS.out _ Bw6))
                   clear Bw6 kk)
                | (have hgo := Bw7; clear hgo
                   refine wpList_alloc_row rfl 45 rfl 4 (u64f fun _ => 0) zeroS ?_
                   intro b_t10 w35 lk r_t10 kk
                   have n_t9_t10 : b_t9 ≠ b_t10 := Nat.ne_of_lt (Nat.lt_of_lt_of_le (World.rowIs.lt r_t9) lk)
                   have l_t10 := Nat.le_trans (HGS.out _ Bw7) lk
                   have a_s0_t10 := Bs.away f_s0 lk
                   have a_s1_t10 := Bs.away f_s1 lk
                   replace r_t9 := World.rowIs.of_block r_t9 (kk.block _ (World.rowIs.lt r_t9))
                   replace f_s0 := Bs.below f_s0 kk (Nat.le_refl _)
                   replace f_s1 := Bs.below f_s1 kk (Nat.le_refl _)
                   have Bw8 := Bw7.trans (kk.mono (HGS.out _ Bw7))
                   clear Bw7 kk lk)
                | (have hgo := Bw8; clear hgo
                   refine wpList_alloc_row rfl 45 rfl 4 (u64f fun _ => 0) zeroS ?_
                   intro b_t11 w36 lk r_t11 kk
                   have n_t9_t11 : b_t9 ≠ b_t11 := Nat.ne_of_lt (Nat.lt_of_lt_of_le (World.rowIs.lt r_t9) lk)
                   have n_t10_t11 : b_t10 ≠ b_t11 := Nat.ne_of_lt (Nat.lt_of_lt_of_le (World.rowIs.lt r_t10) lk)
                   have l_t11 := Nat.le_trans (HGS.out _ Bw8) lk
                   have a_s0_t11 := Bs.away f_s0 lk
                   have a_s1_t11 := Bs.away f_s1 lk
                   replace r_t9 := World.rowIs.of_block r_t9 (kk.block _ (World.rowIs.lt r_t9))
                   replace r_t10 := World.rowIs.of_block r_t10 (kk.block _ (World.rowIs.lt r_t10))
                   replace f_s0 := Bs.below f_s0 kk (Nat.le_refl _)
                   replace f_s1 := Bs.below f_s1 kk (Nat.le_refl _)
                   have Bw9 := Bw8.trans (kk.mono (HGS.out _ Bw8))
                   clear Bw8 kk lk)
                | (have hgo := Bw9; clear hgo
                   refine wpList_store_as rfl 45 (.tmp 10) (.tmp 43) rfl 4 (ewF A) arrS r_t10 rfl rfl (by omega) (fun _ _ => rfl) (fun i hi => putN_whole hi) ?_
                   intro w37 q gk
                   replace r_t9 := gb_rowIs r_t9 gk n_t9_t10
                   replace r_t11 := gb_rowIs r_t11 gk (Ne.symm n_t10_t11)
                   replace r_t10 := q
                   have Bw10 := Bw9.grown gk (HGS.out _ Bw9) (by intro k hk; cases hk; exact l_t10)
                   replace f_s0 := gb_bs f_s0 gk a_s0_t10
                   replace f_s1 := gb_bs f_s1 gk a_s1_t10
                   clear Bw9 gk q)
                | (have hgo := Bw10; clear hgo
                   refine wpList_store_as rfl 45 (.tmp 11) (.tmp 45) rfl 4 (ewF C) arrS r_t11 rfl rfl (by omega) (fun _ _ => rfl) (fun i hi => putN_whole hi) ?_
                   intro w38 q gk
                   replace r_t9 := gb_rowIs r_t9 gk n_t9_t11
                   replace r_t10 := gb_rowIs r_t10 gk n_t10_t11
                   replace r_t11 := q
                   have Bw11 := Bw10.grown gk (HGS.out _ Bw10) (by intro k hk; cases hk; exact l_t11)
                   replace f_s0 := gb_bs f_s0 gk a_s0_t11
                   replace f_s1 := gb_bs f_s1 gk a_s1_t11
                   clear Bw10 gk q))
              have Bw12 := Bw11.drew
              replace r_t9 := World.rowIs.drew r_t9
              replace r_t10 := World.rowIs.drew r_t10
              replace r_t11 := World.rowIs.drew r_t11
              replace f_s0 := Bs.drew f_s0
              replace f_s1 := Bs.drew f_s1
              clear Bw11
              refine wp_region_po (Keep []) (Keep.refl _) (fun _ _ _ h1 h2 => h1.trans h2) (.rd 0 (.rd 1 (.rd 3 (.rd 4 (.rd 7 (.rd 8 (.rd 9 (.rd 10 .done)))))))) #[true, true, false, true, true, false, false, true, true, true, true, false, false, false, false, false, false, false, false, false, false, false, false, false, false, false, false, false, false, false, false, false, false, false, false, false, false, false, false, false, false, false, false, false, false, false] [2, 5, 6, 11, 12, 13, 14, 15, 16, 17, 18, 19, 20, 21, 22, 23, 24, 25, 26, 27, 28, 29, 30, 31, 32, 33, 34, 35, 36, 37, 38, 39, 40, 41, 42, 43, 44, 45] [some 48, some 51, some 52, some 57, some 58, some 59, some 60, some 61, some 62, some 63, some 64, some 65, some 66, some 67, some 68, some 69, some 70, some 71, some 72, some 73, some 74, some 75, some 76, some 77, some 78, some 79, some 80, some 81, some 82, some 83, some 84, some 85, some 86, some 87, some 88, some 89, some 90, some 8] [[], [0], [0, 1], [2], [2, 3], [4], [5], [5], [5], [5], [5, 7, 8, 9], [5], [5, 6, 10, 11], [5], [5, 12], [5], [5], [5, 14, 15, 16], [5, 13, 14, 17], [5, 12, 18], [5, 19], [19, 20], [21], [21, 22], [21], [21, 23, 24], [21, 25], [25, 26], [27], [27, 28], [27, 29], [27, 28, 30], [27, 31], [27, 32], [31, 33], [34], [34, 35], [0, 1, 2, 3, 4, 5, 6, 7, 8, 9, 10, 11, 12, 13, 14, 15, 16, 17, 18, 19, 20, 21, 22, 23, 24, 25, 26, 27, 28, 29, 30, 31, 32, 33, 34, 35, 36]] [(0, []), (1, []), (2, [0, 1]), (3, []), (4, []), (5, [3, 4, 2]), (6, [2, 5, 5]), (7, []), (8, []), (9, []), (10, [8, 9]), (11, [7, 10, 6]), (12, [6, 11, 11]), (13, [12, 12]), (14, [13]), (15, [13]), (16, [13, 13]), (17, [13]), (18, [15, 16, 17, 16, 13]), (19, [13]), (20, [14, 18, 19, 18, 13]), (21, [13]), (22, [20, 13]), (23, [13]), (24, [13]), (25, [23, 24, 22, 13]), (26, [21, 22, 25, 25, 13]), (27, [20, 26, 26, 13]), (28, [13, 27]), (29, [28, 27]), (30, [29]), (31, [30, 29, 29]), (32, [29]), (33, [31, 32, 31, 29]), (34, [29, 33]), (35, [34, 33]), (36, [35, 35]), (37, [36, 35]), (38, [37, 37, 35]), (39, [36, 38, 38, 35]), (40, [39, 35]), (41, [35, 40]), (42, [41, 39]), (43, [42, 42]), (44, [42, 43]), (45, [44, 43, 0, 1, 2, 3, 4, 5, 6, 7, 8, 9, 10, 11, 12, 13, 14, 15, 16, 17, 18, 19, 20, 21, 22, 23, 24, 25, 26, 27, 28, 29, 30, 31, 32, 33, 34, 35, 36, 37, 38, 39, 40, 41, 42, 43, 44])] 1947 (by as_aux_lemma => kernel_rfl) (by as_aux_lemma => kernel_rfl) (by decide) (by as_aux_lemma => kernel_rfl) (by as_aux_lemma => kernel_rfl) (by as_aux_lemma => kernel_rfl) rfl (fun d _ _ _ _ h => by cases d <;> exact h) ?_
              refine lintz_pure 46 (Op.load 29 (Operand.tmp 9)) 29 (.agg (arrOf 12 (qT (qMul bT A)))) rfl rfl rfl rfl rfl (fun w0 hb => by exact exec_load_as _ _ _ _ (qT (qMul bT A)) rfl arrQ (Keep.row hb r_t9 rfl) (by omega) (fun i hi => by rw [Nat.zero_add])) ?_
              simp only [Act.put, List.setIfInBounds_toArray, List.set_cons_zero, List.set_cons_succ]
              refine lintz_pure 47 (Op.move (Operand.tmp 2)) 3 (.int .i64 (J : Int)) rfl rfl rfl rfl rfl (fun w0 hb => by unfold mkOp; go_simp; all_goals (with_reducible rfl)) ?_
              simp only [Act.put, List.setIfInBounds_toArray, List.set_cons_zero, List.set_cons_succ]
              refine lintz_pure 49 (Op.load 29 (Operand.tmp 9)) 29 (.agg (arrOf 12 (qT (qMul bT A)))) rfl rfl rfl rfl rfl (fun w0 hb => by exact exec_load_as _ _ _ _ (qT (qMul bT A)) rfl arrQ (Keep.row hb r_t9 rfl) (by omega) (fun i hi => by rw [Nat.zero_add])) ?_
              simp only [Act.put, List.setIfInBounds_toArray, List.set_cons_zero, List.set_cons_succ]
              refine lintz_pure 50 (Op.move (Operand.tmp 3)) 3 (.int .i64 (K : Int)) rfl rfl rfl rfl rfl (fun w0 hb => by unfold mkOp; go_simp; all_goals (with_reducible rfl)) ?_
              simp only [Act.put, List.setIfInBounds_toArray, List.set_cons_zero, List.set_cons_succ]
              refine lintz_pure 53 (Op.load 29 (Operand.tmp 9)) 29 (.agg (arrOf 12 (qT (qMul bT A)))) rfl rfl rfl rfl rfl (fun w0 hb => by exact exec_load_as _ _ _ _ (qT (qMul bT A)) rfl arrQ (Keep.row hb r_t9 rfl) (by omega) (fun i hi => by rw [Nat.zero_add])) ?_
              simp only [Act.put, List.setIfInBounds_toArray, List.set_cons_zero, List.set_cons_succ]
              refine lintz_pure 54 (Op.move (Operand.tmp 2)) 3 (.int .i64 (J : Int)) rfl rfl rfl rfl rfl (fun w0 hb => by unfold mkOp; go_simp; all_goals (with_reducible rfl)) ?_
              simp only [Act.put, List.setIfInBounds_toArray, List.set_cons_zero, List.set_cons_succ]
              refine lintz_pure 55 (Op.move (Operand.tmp 3)) 3 (.int .i64 (K : Int)) rfl rfl rfl rfl rfl (fun w0 hb => by unfold mkOp; go_simp; all_goals (with_reducible rfl)) ?_
              simp only [Act.put, List.setIfInBounds_toArray, List.set_cons_zero, List.set_cons_succ]
              refine lintz_pure 56 (Op.binOp BinOp.add 3 (Operand.tmp 54) (Operand.tmp 55) 3) 3 (.int .i64 (M : Int)) rfl rfl rfl rfl rfl (fun w0 hb => by unfold mkOp; go_simp; all_goals (with_reducible rfl)) ?_
              simp only [Act.put, List.setIfInBounds_toArray, List.set_cons_zero, List.set_cons_succ]
              refine lintz_leaf ?_
              have HWF : poWf [.val (.agg (arrOf 12 (qT (qTim (qMul bT A) J)))), .val (.agg (arrOf 12 (qT (qTim (qMul bT A) K)))), .val (.agg (arrOf 12 (qT (qAdd (qTim (qMul bT A) J) (qTim (qMul bT A) K))))), .val (.agg (arrOf 12 (qT (qTim (qMul bT A) M)))), .val (.bool true), .val (.bool true), .val (.func (.func 17) #[] #[]), .val (.func (.func 17) #[] #[]), .val (.agg (arrOf 12 (qT bT))), .val (.agg (arrOf 4 (ewF A))), .val (.agg (arrOf 12 (qT (qMul bT A)))), .val (.agg (arrOf 4 (ewF C))), .val (.agg (arrOf 12 (qT (qMul (qMul bT A) C)))), .val (.func (.func 17) #[] #[]), .val (.agg (arrOf 12 (qT bT))), .val (.agg (arrOf 4 (ewF A))), .val (.agg (arrOf 4 (ewF C))), .val (.agg (arrOf 4 (ewF ((A * C) % ordL)))), .val (.agg (arrOf 12 (qT (qMul bT ((A * C) % ordL))))), .val (.bool true), .val (.bool true), .val (.bool true), .val (.agg (arrOf 12 (qT (qMul bT A)))), .val (.agg (arrOf 12 (qT (qTim (qMul bT A) 1)))), .val (.agg (arrOf 12 (qT (qMul bT A)))), .val (.bool true), .val (.bool true), .val (.bool true), .val (.agg (arrOf 12 (qT bT))), .val (.agg (arrOf 12 (qT bT))), .val (.agg (arrOf 12 (qT (pneg bT)))), .val (.bool false), .val (.bool true), .val (.bool true), .val (.bool true), .val (.bool true), .val (.bool true), .val (.bool true)] [] = true := by as_aux_lemma => kernel_rfl
              refine ⟨JG [.val (.agg (arrOf 12 (qT (qTim (qMul bT A) J)))), .val (.agg (arrOf 12 (qT (qTim (qMul bT A) K)))), .val (.agg (arrOf 12 (qT (qAdd (qTim (qMul bT A) J) (qTim (qMul bT A) K))))), .val (.agg (arrOf 12 (qT (qTim (qMul bT A) M)))), .val (.bool true), .val (.bool true), .val (.func (.func 17) #[] #[]), .val (.func (.func 17) #[] #[]), .val (.agg (arrOf 12 (qT bT))), .val (.agg (arrOf 4 (ewF A))), .val (.agg (arrOf 12 (qT (qMul bT A)))), .val (.agg (arrOf 4 (ewF C))), .val (.agg (arrOf 12 (qT (qMul (qMul bT A) C)))), .val (.func (.func 17) #[] #[]), .val (.agg (arrOf 12 (qT bT))), .val (.agg (arrOf 4 (ewF A))), .val (.agg (arrOf 4 (ewF C))), .val (.agg (arrOf 4 (ewF ((A * C) % ordL)))), .val (.agg (arrOf 12 (qT (qMul bT ((A * C) % ordL))))), .val (.bool true), .val (.bool true), .val (.bool true), .val (.agg (arrOf 12 (qT (qMul bT A)))), .val (.agg (arrOf 12 (qT (qTim (qMul bT A) 1)))), .val (.agg (arrOf 12 (qT (qMul bT A)))), .val (.bool true), .val (.bool true), .val (.bool true), .val (.agg (arrOf 12 (qT bT))), .val (.agg (arrOf 12 (qT bT))), .val (.agg (arrOf 12 (qT (pneg bT)))), .val (.bool false), .val (.bool true), .val (.bool true), .val (.bool true), .val (.bool true), .val (.bool true), .val (.bool true)] [] _, JG.start (Nat.le_refl _) (fun i hi => absurd hi (Nat.not_lt_zero _)), fun m gz wa p az hp hm hmp hcl hdn hE hJ hS hO => ?_, fun gz wa hE hJ => ?_⟩
              · rcases (show p = 0 ∨ p = 1 ∨ p = 2 ∨ p = 3 ∨ p = 4 ∨ p = 5 ∨ p = 6 ∨ p = 7 ∨ p = 8 ∨ p = 9 ∨ p = 10 ∨ p = 11 ∨ p = 12 ∨ p = 13 ∨ p = 14 ∨ p = 15 ∨ p = 16 ∨ p = 17 ∨ p = 18 ∨ p = 19 ∨ p = 20 ∨ p = 21 ∨ p = 22 ∨ p = 23 ∨ p = 24 ∨ p = 25 ∨ p = 26 ∨ p = 27 ∨ p = 28 ∨ p = 29 ∨ p = 30 ∨ p = 31 ∨ p = 32 ∨ p = 33 ∨ p = 34 ∨ p = 35 ∨ p = 36 ∨ p = 37 by have h9 : p < 38 := hp; omega) with rfl | rfl | rfl | rfl | rfl | rfl | rfl | rfl | rfl | rfl | rfl | rfl | rfl | rfl | rfl | rfl | rfl | rfl | rfl | rfl | rfl | rfl | rfl | rfl | rfl | rfl | rfl | rfl | rfl | rfl | rfl | rfl | rfl | rfl | rfl | rfl | rfl | rfl
                · have e46 : az.eval (.tmp 46) = .agg (arrOf 12 (qT (qMul bT A))) := hO 46 rfl
                  have e47 : az.eval (.tmp 47) = .int .i64 (J : Int) := hO 47 rfl
                  exact po_call 48 28 #[Operand.tmp 46, Operand.tmp 47] #[29, 3] _ HWF hJ rfl hE (pTimes_in (qMul bT A) J _ (LtT.oft _ _ _) HJL.out) rfl rfl rfl rfl rfl Try.func28 (by kernel_rfl) (by kernel_rfl) (by simp only [List.map_toArray, List.map_cons, List.map_nil, eval_const, eval_func, e46, e47] <;> rfl)
                · have e49 : az.eval (.tmp 49) = .agg (arrOf 12 (qT (qMul bT A))) := hO 49 rfl
                  have e50 : az.eval (.tmp 50) = .int .i64 (K : Int) := hO 50 rfl
                  exact po_call 51 28 #[Operand.tmp 49, Operand.tmp 50] #[29, 3] _ HWF hJ rfl hE (pTimes_in (qMul bT A) K _ (LtT.oft _ _ _) HKL.out) rfl rfl rfl rfl rfl Try.func28 (by kernel_rfl) (by kernel_rfl) (by simp only [List.map_toArray, List.map_cons, List.map_nil, eval_const, eval_func, e49, e50] <;> rfl)
                · have e48 := (hS 0 48 rfl (hdn 0 (by decide)) (Nat.le_of_ble_eq_true rfl)).trans (hJ.says (hdn 0 (by decide)) rfl)
                  have e51 := (hS 1 51 rfl (hdn 1 (by decide)) (Nat.le_of_ble_eq_true rfl)).trans (hJ.says (hdn 1 (by decide)) rfl)
                  exact po_call 52 22 #[Operand.tmp 48, Operand.tmp 51] #[29, 29] _ HWF hJ rfl hE (qTAdd_any (qTim (qMul bT A) J) (qTim (qMul bT A) K) _ (LtT.oft _ _ _) (LtT.oft _ _ _)) rfl rfl rfl rfl rfl Try.func22 (by kernel_rfl) (by kernel_rfl) (by simp only [List.map_toArray, List.map_cons, List.map_nil, eval_const, eval_func, e48, e51] <;> rfl)
                · have e53 : az.eval (.tmp 53) = .agg (arrOf 12 (qT (qMul bT A))) := hO 53 rfl
                  have e56 : az.eval (.tmp 56) = .int .i64 (M : Int) := hO 56 rfl
                  exact po_call 57 28 #[Operand.tmp 53, Operand.tmp 56] #[29, 3] _ HWF hJ rfl hE (pTimes_in (qMul bT A) M _ (LtT.oft _ _ _) HML.out) rfl rfl rfl rfl rfl Try.func28 (by kernel_rfl) (by kernel_rfl) (by simp only [List.map_toArray, List.map_cons, List.map_nil, eval_const, eval_func, e53, e56] <;> rfl)
                · have e52 := (hS 2 52 rfl (hdn 2 (by decide)) (Nat.le_of_ble_eq_true rfl)).trans (hJ.says (hdn 2 (by decide)) rfl)
                  have e57 := (hS 3 57 rfl (hdn 3 (by decide)) (Nat.le_of_ble_eq_true rfl)).trans (hJ.says (hdn 3 (by decide)) rfl)
                  exact po_call 58 26 #[Operand.tmp 52, Operand.tmp 57] #[29, 29] _ HWF hJ rfl hE (qTSame_to (qAdd (qTim (qMul bT A) J) (qTim (qMul bT A) K)) (qTim (qMul bT A) M) true _ (LtT.qAdd _ _) (LtT.oft _ _ _) ((RQ.same (RQ.add (RQ.tim (RQ.mul RQ.base HA.out) (by have h := HJL.out; omega)) (RQ.tim (RQ.mul RQ.base HA.out) (by have h := HKL.out; omega))) (RQ.tim (RQ.mul RQ.base HA.out) (by have h := HML.out; omega))).trans (decide_eq_true (by rw [HM.out, mulE_add (RQ.mul RQ.base HA.out).on])))) rfl rfl rfl rfl rfl Try.func26 (by kernel_rfl) (by kernel_rfl) (by simp only [List.map_toArray, List.map_cons, List.map_nil, eval_const, eval_func, e52, e57] <;> rfl)
                · have e58 := (hS 4 58 rfl (hdn 4 (by decide)) (Nat.le_of_ble_eq_true rfl)).trans (hJ.says (hdn 4 (by decide)) rfl)
                  exact po_run 59 (Op.move (Operand.tmp 58)) _ HWF hJ rfl hE rfl rfl rfl rfl rfl rfl (by first | (simp only [execOp, mkOp, eval_const, e58]; done) | (simp only [execOp, mkOp, eval_const, e58]; go_simp))
                · have e59 := (hS 5 59 rfl (hdn 5 (by decide)) (Nat.le_of_ble_eq_true rfl)).trans (hJ.says (hdn 5 (by decide)) rfl)
                  have e12 : az.eval (.tmp 12) = .func (.func 17) #[] #[] := hO 12 rfl
                  exact po_run 60 (Op.move (Operand.tmp 12)) _ HWF hJ rfl hE rfl rfl rfl rfl rfl (wanted_of rfl rfl e59) (by first | (simp only [execOp, mkOp, eval_const, e12]; done) | (simp only [execOp, mkOp, eval_const, e12]; go_simp))
                · have e59 := (hS 5 59 rfl (hdn 5 (by decide)) (Nat.le_of_ble_eq_true rfl)).trans (hJ.says (hdn 5 (by decide)) rfl)
                  have e12 : az.eval (.tmp 12) = .func (.func 17) #[] #[] := hO 12 rfl
                  exact po_run 61 (Op.move (Operand.tmp 12)) _ HWF hJ rfl hE rfl rfl rfl rfl rfl (wanted_of rfl rfl e59) (by first | (simp only [execOp, mkOp, eval_const, e12]; done) | (simp only [execOp, mkOp, eval_const, e12]; go_simp))
                · have e59 := (hS 5 59 rfl (hdn 5 (by decide)) (Nat.le_of_ble_eq_true rfl)).trans (hJ.says (hdn 5 (by decide)) rfl)
                  exact po_call 62 16 #[] #[] _ HWF hJ rfl hE (qTBase_any _) rfl rfl rfl rfl (wanted_of rfl rfl e59) Try.func16 (by kernel_rfl) (by kernel_rfl) (by simp only [List.map_toArray, List.map_cons, List.map_nil, eval_const, eval_func] <;> rfl)
                · have e59 := (hS 5 59 rfl (hdn 5 (by decide)) (Nat.le_of_ble_eq_true rfl)).trans (hJ.says (hdn 5 (by decide)) rfl)
                  have e10 : az.eval (.tmp 10) = .pointer (some ⟨b_t10, 0, none⟩) := hO 10 rfl
                  exact po_run 63 (Op.load 45 (Operand.tmp 10)) _ HWF hJ rfl hE rfl rfl rfl rfl rfl (wanted_of rfl rfl e59) (exec_load_as _ _ _ _ (ewF A) e10 arrS (Keep.row hE r_t10 rfl) (by omega) (fun i hi => by rw [Nat.zero_add]))
                · have e59 := (hS 5 59 rfl (hdn 5 (by decide)) (Nat.le_of_ble_eq_true rfl)).trans (hJ.says (hdn 5 (by decide)) rfl)
                  have e62 := (hS 8 62 rfl (hdn 8 (by decide)) (Nat.le_of_ble_eq_true rfl)).trans (hJ.says (hdn 8 (by decide)) rfl)
                  have e63 := (hS 9 63 rfl (hdn 9 (by decide)) (Nat.le_of_ble_eq_true rfl)).trans (hJ.says (hdn 9 (by decide)) rfl)
                  have e61 := (hS 7 61 rfl (hdn 7 (by decide)) (Nat.le_of_ble_eq_true rfl)).trans (hJ.says (hdn 7 (by decide)) rfl)
                  exact po_callv 64 17 (.tmp 61) #[Operand.tmp 62, Operand.tmp 63] #[29, 45] _ HWF hJ rfl hE (qTMul_any bT A _ LtT.base) rfl rfl rfl rfl e61 (wanted_of rfl rfl e59) Try.func17 (by kernel_rfl) (by kernel_rfl) (by simp only [List.map_toArray, List.map_cons, List.map_nil, eval_const, eval_func, e62, e63] <;> rfl)
                · have e59 := (hS 5 59 rfl (hdn 5 (by decide)) (Nat.le_of_ble_eq_true rfl)).trans (hJ.says (hdn 5 (by decide)) rfl)
                  have e11 : az.eval (.tmp 11) = .pointer (some ⟨b_t11, 0, none⟩) := hO 11 rfl
                  exact po_run 65 (Op.load 45 (Operand.tmp 11)) _ HWF hJ rfl hE rfl rfl rfl rfl rfl (wanted_of rfl rfl e59) (exec_load_as _ _ _ _ (ewF C) e11 arrS (Keep.row hE r_t11 rfl) (by omega) (fun i hi => by rw [Nat.zero_add]))
                · have e59 := (hS 5 59 rfl (hdn 5 (by decide)) (Nat.le_of_ble_eq_true rfl)).trans (hJ.says (hdn 5 (by decide)) rfl)
                  have e64 := (hS 10 64 rfl (hdn 10 (by decide)) (Nat.le_of_ble_eq_true rfl)).trans (hJ.says (hdn 10 (by decide)) rfl)
                  have e65 := (hS 11 65 rfl (hdn 11 (by decide)) (Nat.le_of_ble_eq_true rfl)).trans (hJ.says (hdn 11 (by decide)) rfl)
                  have e60 := (hS 6 60 rfl (hdn 6 (by decide)) (Nat.le_of_ble_eq_true rfl)).trans (hJ.says (hdn 6 (by decide)) rfl)
                  exact po_callv 66 17 (.tmp 60) #[Operand.tmp 64, Operand.tmp 65] #[29, 45] _ HWF hJ rfl hE (qTMul_any (qMul bT A) C _ (LtT.oft _ _ _)) rfl rfl rfl rfl e60 (wanted_of rfl rfl e59) Try.func17 (by kernel_rfl) (by kernel_rfl) (by simp only [List.map_toArray, List.map_cons, List.map_nil, eval_const, eval_func, e64, e65] <;> rfl)
                · have e59 := (hS 5 59 rfl (hdn 5 (by decide)) (Nat.le_of_ble_eq_true rfl)).trans (hJ.says (hdn 5 (by decide)) rfl)
                  have e12 : az.eval (.tmp 12) = .func (.func 17) #[] #[] := hO 12 rfl
                  exact po_run 67 (Op.move (Operand.tmp 12)) _ HWF hJ rfl hE rfl rfl rfl rfl rfl (wanted_of rfl rfl e59) (by first | (simp only [execOp, mkOp, eval_const, e12]; done) | (simp only [execOp, mkOp, eval_const, e12]; go_simp))
                · have e59 := (hS 5 59 rfl (hdn 5 (by decide)) (Nat.le_of_ble_eq_true rfl)).trans (hJ.says (hdn 5 (by decide)) rfl)
                  exact po_call 68 16 #[] #[] _ HWF hJ rfl hE (qTBase_any _) rfl rfl rfl rfl (wanted_of rfl rfl e59) Try.func16 (by kernel_rfl) (by kernel_rfl) (by simp only [List.map_toArray, List.map_cons, List.map_nil, eval_const, eval_func] <;> rfl)
                · have e59 := (hS 5 59 rfl (hdn 5 (by decide)) (Nat.le_of_ble_eq_true rfl)).trans (hJ.says (hdn 5 (by decide)) rfl)
                  have e10 : az.eval (.tmp 10) = .pointer (some ⟨b_t10, 0, none⟩) := hO 10 rfl
                  exact po_run 69 (Op.load 45 (Operand.tmp 10)) _ HWF hJ rfl hE rfl rfl rfl rfl rfl (wanted_of rfl rfl e59) (exec_load_as _ _ _ _ (ewF A) e10 arrS (Keep.row hE r_t10 rfl) (by omega) (fun i hi => by rw [Nat.zero_add]))
                · have e59 := (hS 5 59 rfl (hdn 5 (by decide)) (Nat.le_of_ble_eq_true rfl)).trans (hJ.says (hdn 5 (by decide)) rfl)
                  have e11 : az.eval (.tmp 11) = .pointer (some ⟨b_t11, 0, none⟩) := hO 11 rfl
                  exact po_run 70 (Op.load 45 (Operand.tmp 11)) _ HWF hJ rfl hE rfl rfl rfl rfl rfl (wanted_of rfl rfl e59) (exec_load_as _ _ _ _ (ewF C) e11 arrS (Keep.row hE r_t11 rfl) (by omega) (fun i hi => by rw [Nat.zero_add]))
                · have e59 := (hS 5 59 rfl (hdn 5 (by decide)) (Nat.le_of_ble_eq_true rfl)).trans (hJ.says (hdn 5 (by decide)) rfl)
                  have e69 := (hS 15 69 rfl (hdn 15 (by decide)) (Nat.le_of_ble_eq_true rfl)).trans (hJ.says (hdn 15 (by decide)) rfl)
                  have e70 := (hS 16 70 rfl (hdn 16 (by decide)) (Nat.le_of_ble_eq_true rfl)).trans (hJ.says (hdn 16 (by decide)) rfl)
                  exact po_call 71 34 #[Operand.tmp 69, Operand.tmp 70] #[45, 45] _ HWF hJ rfl hE (sMul_any A C _ HA.out HC.out) rfl rfl rfl rfl (wanted_of rfl rfl e59) Try.func34 (by kernel_rfl) (by kernel_rfl) (by simp only [List.map_toArray, List.map_cons, List.map_nil, eval_const, eval_func, e69, e70] <;> rfl)
                · have e59 := (hS 5 59 rfl (hdn 5 (by decide)) (Nat.le_of_ble_eq_true rfl)).trans (hJ.says (hdn 5 (by decide)) rfl)
                  have e68 := (hS 14 68 rfl (hdn 14 (by decide)) (Nat.le_of_ble_eq_true rfl)).trans (hJ.says (hdn 14 (by decide)) rfl)
                  have e71 := (hS 17 71 rfl (hdn 17 (by decide)) (Nat.le_of_ble_eq_true rfl)).trans (hJ.says (hdn 17 (by decide)) rfl)
                  have e67 := (hS 13 67 rfl (hdn 13 (by decide)) (Nat.le_of_ble_eq_true rfl)).trans (hJ.says (hdn 13 (by decide)) rfl)
                  exact po_callv 72 17 (.tmp 67) #[Operand.tmp 68, Operand.tmp 71] #[29, 45] _ HWF hJ rfl hE (qTMul_any bT ((A * C) % ordL) _ LtT.base) rfl rfl rfl rfl e67 (wanted_of rfl rfl e59) Try.func17 (by kernel_rfl) (by kernel_rfl) (by simp only [List.map_toArray, List.map_cons, List.map_nil, eval_const, eval_func, e68, e71] <;> rfl)
                · have e59 := (hS 5 59 rfl (hdn 5 (by decide)) (Nat.le_of_ble_eq_true rfl)).trans (hJ.says (hdn 5 (by decide)) rfl)
                  have e66 := (hS 12 66 rfl (hdn 12 (by decide)) (Nat.le_of_ble_eq_true rfl)).trans (hJ.says (hdn 12 (by decide)) rfl)
                  have e72 := (hS 18 72 rfl (hdn 18 (by decide)) (Nat.le_of_ble_eq_true rfl)).trans (hJ.says (hdn 18 (by decide)) rfl)
                  exact po_call 73 26 #[Operand.tmp 66, Operand.tmp 72] #[29, 29] _ HWF hJ rfl hE (qTSame_to (qMul (qMul bT A) C) (qMul bT ((A * C) % ordL)) true _ (LtT.oft _ _ _) (LtT.oft _ _ _) ((RQ.same (RQ.mul (RQ.mul RQ.base HA.out) HC.out) (RQ.mul RQ.base (Nat.mod_lt _ ordL_pos))).trans (decide_eq_true ((mulE_mul ptB_on A C).symm.trans (mulE_mod ptB_on ordL_zero (A * C)).symm)))) rfl rfl rfl rfl (wanted_of rfl rfl e59) Try.func26 (by kernel_rfl) (by kernel_rfl) (by simp only [List.map_toArray, List.map_cons, List.map_nil, eval_const, eval_func, e66, e72] <;> rfl)
                · have e59 := (hS 5 59 rfl (hdn 5 (by decide)) (Nat.le_of_ble_eq_true rfl)).trans (hJ.says (hdn 5 (by decide)) rfl)
                  have e73 := (hS 19 73 rfl (hdn 19 (by decide)) (Nat.le_of_ble_eq_true rfl)).trans (hJ.says (hdn 19 (by decide)) rfl)
                  exact po_run 74 (Op.pick (Operand.tmp 59) (Operand.tmp 73) (Operand.const (Value.bool false))) _ HWF hJ rfl hE rfl rfl rfl rfl rfl rfl (by first | (simp only [execOp, mkOp, eval_const, e59, e73]; done) | (simp only [execOp, mkOp, eval_const, e59, e73]; go_simp))
                · have e74 := (hS 20 74 rfl (hdn 20 (by decide)) (Nat.le_of_ble_eq_true rfl)).trans (hJ.says (hdn 20 (by decide)) rfl)
                  exact po_run 75 (Op.move (Operand.tmp 74)) _ HWF hJ rfl hE rfl rfl rfl rfl rfl rfl (by first | (simp only [execOp, mkOp, eval_const, e74]; done) | (simp only [execOp, mkOp, eval_const, e74]; go_simp))
                · have e75 := (hS 21 75 rfl (hdn 21 (by decide)) (Nat.le_of_ble_eq_true rfl)).trans (hJ.says (hdn 21 (by decide)) rfl)
                  have e9 : az.eval (.tmp 9) = .pointer (some ⟨b_t9, 0, none⟩) := hO 9 rfl
                  exact po_run 76 (Op.load 29 (Operand.tmp 9)) _ HWF hJ rfl hE rfl rfl rfl rfl rfl (wanted_of rfl rfl e75) (exec_load_as _ _ _ _ (qT (qMul bT A)) e9 arrQ (Keep.row hE r_t9 rfl) (by omega) (fun i hi => by rw [Nat.zero_add]))
                · have e75 := (hS 21 75 rfl (hdn 21 (by decide)) (Nat.le_of_ble_eq_true rfl)).trans (hJ.says (hdn 21 (by decide)) rfl)
                  have e76 := (hS 22 76 rfl (hdn 22 (by decide)) (Nat.le_of_ble_eq_true rfl)).trans (hJ.says (hdn 22 (by decide)) rfl)
                  exact po_call 77 28 #[Operand.tmp 76, Operand.const (Value.int IntKind.i64 1)] #[29, 3] _ HWF hJ rfl hE (pTimes_c1 (qMul bT A) _ (LtT.oft _ _ _)) rfl rfl rfl rfl (wanted_of rfl rfl e75) Try.func28 (by kernel_rfl) (by kernel_rfl) (by simp only [List.map_toArray, List.map_cons, List.map_nil, eval_const, eval_func, e76] <;> rfl)
                · have e75 := (hS 21 75 rfl (hdn 21 (by decide)) (Nat.le_of_ble_eq_true rfl)).trans (hJ.says (hdn 21 (by decide)) rfl)
                  have e9 : az.eval (.tmp 9) = .pointer (some ⟨b_t9, 0, none⟩) := hO 9 rfl
                  exact po_run 78 (Op.load 29 (Operand.tmp 9)) _ HWF hJ rfl hE rfl rfl rfl rfl rfl (wanted_of rfl rfl e75) (exec_load_as _ _ _ _ (qT (qMul bT A)) e9 arrQ (Keep.row hE r_t9 rfl) (by omega) (fun i hi => by rw [Nat.zero_add]))
                · have e75 := (hS 21 75 rfl (hdn 21 (by decide)) (Nat.le_of_ble_eq_true rfl)).trans (hJ.says (hdn 21 (by decide)) rfl)
                  have e77 := (hS 23 77 rfl (hdn 23 (by decide)) (Nat.le_of_ble_eq_true rfl)).trans (hJ.says (hdn 23 (by decide)) rfl)
                  have e78 := (hS 24 78 rfl (hdn 24 (by decide)) (Nat.le_of_ble_eq_true rfl)).trans (hJ.says (hdn 24 (by decide)) rfl)
                  exact po_call 79 26 #[Operand.tmp 77, Operand.tmp 78] #[29, 29] _ HWF hJ rfl hE (qTSame_to (qTim (qMul bT A) 1) (qMul bT A) true _ (LtT.oft _ _ _) (LtT.oft _ _ _) ((RQ.same (RQ.tim (RQ.mul RQ.base HA.out) (by decide)) (RQ.mul RQ.base HA.out)).trans (decide_eq_true (mulE_one (RQ.mul RQ.base HA.out).on)))) rfl rfl rfl rfl (wanted_of rfl rfl e75) Try.func26 (by kernel_rfl) (by kernel_rfl) (by simp only [List.map_toArray, List.map_cons, List.map_nil, eval_const, eval_func, e77, e78] <;> rfl)
                · have e75 := (hS 21 75 rfl (hdn 21 (by decide)) (Nat.le_of_ble_eq_true rfl)).trans (hJ.says (hdn 21 (by decide)) rfl)
                  have e79 := (hS 25 79 rfl (hdn 25 (by decide)) (Nat.le_of_ble_eq_true rfl)).trans (hJ.says (hdn 25 (by decide)) rfl)
                  exact po_run 80 (Op.pick (Operand.tmp 75) (Operand.tmp 79) (Operand.const (Value.bool false))) _ HWF hJ rfl hE rfl rfl rfl rfl rfl rfl (by first | (simp only [execOp, mkOp, eval_const, e75, e79]; done) | (simp only [execOp, mkOp, eval_const, e75, e79]; go_simp))
                · have e80 := (hS 26 80 rfl (hdn 26 (by decide)) (Nat.le_of_ble_eq_true rfl)).trans (hJ.says (hdn 26 (by decide)) rfl)
                  exact po_run 81 (Op.move (Operand.tmp 80)) _ HWF hJ rfl hE rfl rfl rfl rfl rfl rfl (by first | (simp only [execOp, mkOp, eval_const, e80]; done) | (simp only [execOp, mkOp, eval_const, e80]; go_simp))
                · have e81 := (hS 27 81 rfl (hdn 27 (by decide)) (Nat.le_of_ble_eq_true rfl)).trans (hJ.says (hdn 27 (by decide)) rfl)
                  exact po_call 82 16 #[] #[] _ HWF hJ rfl hE (qTBase_any _) rfl rfl rfl rfl (wanted_of rfl rfl e81) Try.func16 (by kernel_rfl) (by kernel_rfl) (by simp only [List.map_toArray, List.map_cons, List.map_nil, eval_const, eval_func] <;> rfl)
                · have e81 := (hS 27 81 rfl (hdn 27 (by decide)) (Nat.le_of_ble_eq_true rfl)).trans (hJ.says (hdn 27 (by decide)) rfl)
                  exact po_call 83 16 #[] #[] _ HWF hJ rfl hE (qTBase_any _) rfl rfl rfl rfl (wanted_of rfl rfl e81) Try.func16 (by kernel_rfl) (by kernel_rfl) (by simp only [List.map_toArray, List.map_cons, List.map_nil, eval_const, eval_func] <;> rfl)
                · have e81 := (hS 27 81 rfl (hdn 27 (by decide)) (Nat.le_of_ble_eq_true rfl)).trans (hJ.says (hdn 27 (by decide)) rfl)
                  have e83 := (hS 29 83 rfl (hdn 29 (by decide)) (Nat.le_of_ble_eq_true rfl)).trans (hJ.says (hdn 29 (by decide)) rfl)
                  exact po_call 84 24 #[Operand.tmp 83] #[29] _ HWF hJ rfl hE (qTNeg_any bT _ LtT.base) rfl rfl rfl rfl (wanted_of rfl rfl e81) Try.func24 (by kernel_rfl) (by kernel_rfl) (by simp only [List.map_toArray, List.map_cons, List.map_nil, eval_const, eval_func, e83] <;> rfl)
                · have e81 := (hS 27 81 rfl (hdn 27 (by decide)) (Nat.le_of_ble_eq_true rfl)).trans (hJ.says (hdn 27 (by decide)) rfl)
                  have e82 := (hS 28 82 rfl (hdn 28 (by decide)) (Nat.le_of_ble_eq_true rfl)).trans (hJ.says (hdn 28 (by decide)) rfl)
                  have e84 := (hS 30 84 rfl (hdn 30 (by decide)) (Nat.le_of_ble_eq_true rfl)).trans (hJ.says (hdn 30 (by decide)) rfl)
                  exact po_call 85 26 #[Operand.tmp 82, Operand.tmp 84] #[29, 29] _ HWF hJ rfl hE (qTSame_to bT (pneg bT) false _ LtT.base (LtT.neg LtT.base) ((RQ.same RQ.base (RQ.neg RQ.base)).trans (decide_eq_false (base_neg)))) rfl rfl rfl rfl (wanted_of rfl rfl e81) Try.func26 (by kernel_rfl) (by kernel_rfl) (by simp only [List.map_toArray, List.map_cons, List.map_nil, eval_const, eval_func, e82, e84] <;> rfl)
                · have e81 := (hS 27 81 rfl (hdn 27 (by decide)) (Nat.le_of_ble_eq_true rfl)).trans (hJ.says (hdn 27 (by decide)) rfl)
                  have e85 := (hS 31 85 rfl (hdn 31 (by decide)) (Nat.le_of_ble_eq_true rfl)).trans (hJ.says (hdn 31 (by decide)) rfl)
                  exact po_run 86 (Op.unOp UnOp.not 4 (Operand.tmp 85)) _ HWF hJ rfl hE rfl rfl rfl rfl rfl (wanted_of rfl rfl e81) (by first | (simp only [execOp, mkOp, eval_const, e85]; done) | (simp only [execOp, mkOp, eval_const, e85]; go_simp))
                · have e81 := (hS 27 81 rfl (hdn 27 (by decide)) (Nat.le_of_ble_eq_true rfl)).trans (hJ.says (hdn 27 (by decide)) rfl)
                  have e86 := (hS 32 86 rfl (hdn 32 (by decide)) (Nat.le_of_ble_eq_true rfl)).trans (hJ.says (hdn 32 (by decide)) rfl)
                  exact po_run 87 (Op.pick (Operand.tmp 81) (Operand.tmp 86) (Operand.const (Value.bool false))) _ HWF hJ rfl hE rfl rfl rfl rfl rfl rfl (by first | (simp only [execOp, mkOp, eval_const, e81, e86]; done) | (simp only [execOp, mkOp, eval_const, e81, e86]; go_simp))
                · have e87 := (hS 33 87 rfl (hdn 33 (by decide)) (Nat.le_of_ble_eq_true rfl)).trans (hJ.says (hdn 33 (by decide)) rfl)
                  exact po_run 88 (Op.move (Operand.tmp 87)) _ HWF hJ rfl hE rfl rfl rfl rfl rfl rfl (by first | (simp only [execOp, mkOp, eval_const, e87]; done) | (simp only [execOp, mkOp, eval_const, e87]; go_simp))
                · have e88 := (hS 34 88 rfl (hdn 34 (by decide)) (Nat.le_of_ble_eq_true rfl)).trans (hJ.says (hdn 34 (by decide)) rfl)
                  exact po_call 89 9 #[] #[] _ HWF hJ rfl hE (awake8_any _) rfl rfl rfl rfl (wanted_of rfl rfl e88) Try.func9 (by kernel_rfl) (by kernel_rfl) (by simp only [List.map_toArray, List.map_cons, List.map_nil, eval_const, eval_func] <;> rfl)
                · have e88 := (hS 34 88 rfl (hdn 34 (by decide)) (Nat.le_of_ble_eq_true rfl)).trans (hJ.says (hdn 34 (by decide)) rfl)
                  have e89 := (hS 35 89 rfl (hdn 35 (by decide)) (Nat.le_of_ble_eq_true rfl)).trans (hJ.says (hdn 35 (by decide)) rfl)
                  exact po_run 90 (Op.pick (Operand.tmp 88) (Operand.tmp 89) (Operand.const (Value.bool false))) _ HWF hJ rfl hE rfl rfl rfl rfl rfl rfl (by first | (simp only [execOp, mkOp, eval_const, e88, e89]; done) | (simp only [execOp, mkOp, eval_const, e88, e89]; go_simp))
                · have e90 := (hS 36 90 rfl (hdn 36 (by decide)) (Nat.le_of_ble_eq_true rfl)).trans (hJ.says (hdn 36 (by decide)) rfl)
                  exact po_run 8 (Op.assign (Operand.tmp 90)) _ HWF hJ rfl hE rfl rfl rfl rfl rfl rfl (by first | (simp only [execOp, mkOp, eval_const, e90]; done) | (simp only [execOp, mkOp, eval_const, e90]; go_simp))
              · have q0 := hJ.told 0 (by decide) rfl
                have q1 := hJ.told 1 (by decide) rfl
                have q2 := hJ.told 2 (by decide) rfl
                have q3 := hJ.told 3 (by decide) rfl
                have q4 := hJ.told 4 (by decide) rfl
                have q5 := hJ.told 5 (by decide) rfl
                have q6 := hJ.told 6 (by decide) rfl
                have q7 := hJ.told 7 (by decide) rfl
                have q8 := hJ.told 8 (by decide) rfl
                have q9 := hJ.told 9 (by decide) rfl
                have q10 := hJ.told 10 (by decide) rfl
                have q11 := hJ.told 11 (by decide) rfl
                have q12 := hJ.told 12 (by decide) rfl
                have q13 := hJ.told 13 (by decide) rfl
                have q14 := hJ.told 14 (by decide) rfl
                have q15 := hJ.told 15 (by decide) rfl
                have q16 := hJ.told 16 (by decide) rfl
                have q17 := hJ.told 17 (by decide) rfl
                have q18 := hJ.told 18 (by decide) rfl
                have q19 := hJ.told 19 (by decide) rfl
                have q20 := hJ.told 20 (by decide) rfl
                have q21 := hJ.told 21 (by decide) rfl
                have q22 := hJ.told 22 (by decide) rfl
                have q23 := hJ.told 23 (by decide) rfl
                have q24 := hJ.told 24 (by decide) rfl
                have q25 := hJ.told 25 (by decide) rfl
                have q26 := hJ.told 26 (by decide) rfl
                have q27 := hJ.told 27 (by decide) rfl
                have q28 := hJ.told 28 (by decide) rfl
                have q29 := hJ.told 29 (by decide) rfl
                have q30 := hJ.told 30 (by decide) rfl
                have q31 := hJ.told 31 (by decide) rfl
                have q32 := hJ.told 32 (by decide) rfl
                have q33 := hJ.told 33 (by decide) rfl
                have q34 := hJ.told 34 (by decide) rfl
                have q35 := hJ.told 35 (by decide) rfl
                have q36 := hJ.told 36 (by decide) rfl
                have q37 := hJ.told 37 (by decide) rfl
                rw [putO_true _ _ _ _ _ rfl]
                simp only [putA, Nat.zero_add, Nat.reduceAdd]
                rw [q0, q1, q2, q3, q4, q5, q6, q7, q8, q9, q10, q11, q12, q13, q14, q15, q16, q17, q18, q19, q20, q21, q22, q23, q24, q25, q26, q27, q28, q29, q30, q31, q32, q33, q34, q35, q36, q37]
                simp only [Act.put, List.setIfInBounds_toArray, List.set_cons_zero, List.set_cons_succ]
                refine po_end ?_
                replace r_t9 := Keep.row hE r_t9 rfl
                replace r_t10 := Keep.row hE r_t10 rfl
                replace r_t11 := Keep.row hE r_t11 rfl
                replace f_s0 := Bs.below f_s0 (Keep.nil hE) (Nat.le_refl _)
                replace f_s1 := Bs.below f_s1 (Keep.nil hE) (Nat.le_refl _)
                have Bw13 := hE.below Bw12 (HGS.out _ Bw12) rfl
                clear Bw12 hE hJ HWF q0 q1 q2 q3 q4 q5 q6 q7 q8 q9 q10 q11 q12 q13 q14 q15 q16 q17 q18 q19 q20 q21 q22 q23 q24 q25 q26 q27 q28 q29 q30 q31 q32 q33 q34 q35 q36 q37
                go_wp2
                go_ret
                exact ⟨rfl, Bw13⟩
            · have q5 : (1000 : Int) < x3 := by omega
              clear h0 hB0 e0 h1 hB1 e1 d0 d1 d2 d3 d4 d5
              go_enter Try.func8, Try.ntmps8
              go_wp2_with (go_at_call 9; refine (awake8_any _).mono ?_; rintro e w9 ⟨rfl, hb9⟩)
              go_ret
              exact ⟨rfl, hb9⟩
          · have q4 : (1000 : Int) < x2 := by omega
            clear h0 hB0 e0 h1 hB1 e1 d0 d1 d2 d3 d4
            go_enter Try.func8, Try.ntmps8
            go_wp2_with (go_at_call 9; refine (awake8_any _).mono ?_; rintro e w9 ⟨rfl, hb9⟩)
            go_ret
            exact ⟨rfl, hb9⟩
        · have q3 : x3 < 0 := by omega
          clear h0 hB0 e0 h1 hB1 e1 d0 d1 d2 d3
          go_enter Try.func8, Try.ntmps8
          go_wp2_with (go_at_call 9; refine (awake8_any _).mono ?_; rintro e w9 ⟨rfl, hb9⟩)
          go_ret
          exact ⟨rfl, hb9⟩
      · have q2 : x2 < 0 := by omega
        clear h0 hB0 e0 h1 hB1 e1 d0 d1 d2
        go_enter Try.func8, Try.ntmps8
        go_wp2_with (go_at_call 9; refine (awake8_any _).mono ?_; rintro e w9 ⟨rfl, hb9⟩)
        go_ret
        exact ⟨rfl, hb9⟩
    · have q1 : (100 : Int) < (n1 : Int) := by omega
      clear h0 hB0 e0 h1 hB1 e1 d0 d1
      go_enter Try.func8, Try.ntmps8
      go_wp2_with (go_at_call 9; refine (awake8_any _).mono ?_; rintro e w9 ⟨rfl, hb9⟩)
      go_ret
      exact ⟨rfl, hb9⟩
  · have q0 : (100 : Int) < (n0 : Int) := by omega
    clear h0 hB0 e0 h1 hB1 e1 d0
    go_enter Try.func8, Try.ntmps8
    go_wp2_with (go_at_call 9; refine (awake8_any _).mono ?_; rintro e w9 ⟨rfl, hb9⟩)
    go_ret
    exact ⟨rfl, hb9⟩
end Go.Proofs.Ytphkmaihnbhgoaa
