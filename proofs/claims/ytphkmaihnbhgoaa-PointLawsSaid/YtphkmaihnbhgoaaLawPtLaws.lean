/- PointLaws, walked. -/
import Derived.Test.YtphkmaihnbhgoaaMM6
namespace Go.Proofs.Ytphkmaihnbhgoaa
open Go.RowKit Go.Deep
set_option linter.unusedSimpArgs false
set_option linter.unusedVariables false

theorem mulE_three {P : Nat × Nat} (hP : onE P) : mulE 3 P = addE P (addE P P) := by
  have h2 : mulE 2 P = addE P P := by rw [show 2 = 1 + 1 from rfl, mulE_add hP, mulE_one hP]
  rw [show 3 = 1 + 2 from rfl, mulE_add hP, mulE_one hP, h2]
set_option maxHeartbeats 8000000 in
set_option maxRecDepth 100000 in
theorem law_pointLaws (w : World) (v0 : Value) (l0 : List UInt8) (h0 : Bs w v0 l0) (v1 : Value) (l1 : List UInt8) (h1 : Bs w v1 l1) (v2 : Value) (l2 : List UInt8) (h2 : Bs w v2 l2) : Calls Try.prog 5 #[v0, v1, v2] w fun e w' => e = .returned (.bool true) ∧ Below w.heap.size w w' := by
  obtain ⟨ad0, n0, c0, rfl, e0, y0, z0, hB0⟩ := h0.shape
  obtain ⟨ad1, n1, c1, rfl, e1, y1, z1, hB1⟩ := h1.shape
  obtain ⟨ad2, n2, c2, rfl, e2, y2, z2, hB2⟩ := h2.shape
  by_cases d0 : n0 ≤ 100
  · have q0 : ¬ (100 : Int) < (n0 : Int) := by omega
    by_cases d1 : n1 ≤ 100
    · have q1 : ¬ (100 : Int) < (n1 : Int) := by omega
      by_cases d2 : n2 ≤ 100
      · have q2 : ¬ (100 : Int) < (n2 : Int) := by omega
        have f_s0 := hB0
        have HF_s0 := Lib.hid hB0
        have f_s1 := hB1
        have HF_s1 := Lib.hid hB1
        have f_s2 := hB2
        have HF_s2 := Lib.hid hB2
        have Bw0 := Below.refl w.heap.size w
        have HGS : Hid (∀ wq : World, Below w.heap.size w wq → w.heap.size ≤ wq.heap.size) := Lib.hid fun wq h => h.size
        obtain ⟨A, hA⟩ := nat_var (numL (l0) 64 % ordL)
        have HA : Hid (A < ordL) := Lib.hid (by rw [hA]; exact Nat.mod_lt _ ordL_pos)
        have HNA := Lib.hid hA.symm
        clear hA
        obtain ⟨C, hC⟩ := nat_var (numL (l1) 64 % ordL)
        have HC : Hid (C < ordL) := Lib.hid (by rw [hC]; exact Nat.mod_lt _ ordL_pos)
        have HNC := Lib.hid hC.symm
        clear hC
        obtain ⟨D, hD⟩ := nat_var (numL (l2) 64 % ordL)
        have HD : Hid (D < ordL) := Lib.hid (by rw [hD]; exact Nat.mod_lt _ ordL_pos)
        have HND := Lib.hid hD.symm
        clear hD
        clear h0 hB0 e0 h1 hB1 e1 h2 hB2 e2 d0 d1 d2
        go_enter Try.func5, Try.ntmps5
        go_wp2_with (first
          | (have hgo := Bw0; clear hgo
             go_at_call 16
             refine (qTBase_any _).mono ?_
             rintro e w15 ⟨rfl, kk⟩
             replace f_s0 := Bs.below f_s0 kk (Nat.le_refl _)
             replace f_s1 := Bs.below f_s1 kk (Nat.le_refl _)
             replace f_s2 := Bs.below f_s2 kk (Nat.le_refl _)
             have Bw1 := Bw0.trans (kk.mono (HGS.out _ Bw0))
             clear Bw0 kk)
          | (have hgo := Bw1; clear hgo
             go_at_call 18
             refine (sWide_to _ (l0) _ f_s0 (A) HNA.out).mono ?_
             rintro e w17 ⟨rfl, kk⟩
             replace f_s0 := Bs.below f_s0 kk (Nat.le_refl _)
             replace f_s1 := Bs.below f_s1 kk (Nat.le_refl _)
             replace f_s2 := Bs.below f_s2 kk (Nat.le_refl _)
             have Bw2 := Bw1.trans (kk.mono (HGS.out _ Bw1))
             clear Bw1 kk)
          | (have hgo := Bw2; clear hgo
             go_at_call 17
             refine (qTMul_any bT A _ LtT.base).mono ?_
             rintro e w18 ⟨rfl, kk⟩
             replace f_s0 := Bs.below f_s0 kk (Nat.le_refl _)
             replace f_s1 := Bs.below f_s1 kk (Nat.le_refl _)
             replace f_s2 := Bs.below f_s2 kk (Nat.le_refl _)
             have Bw3 := Bw2.trans (kk.mono (HGS.out _ Bw2))
             clear Bw2 kk)
          | (have hgo := Bw3; clear hgo
             refine wpList_alloc_row rfl 29 rfl 12 (u64f fun _ => 0) zeroQ ?_
             intro b_t8 w19 lk r_t8 kk
             have l_t8 := Nat.le_trans (HGS.out _ Bw3) lk
             have a_s0_t8 := Bs.away f_s0 lk
             have a_s1_t8 := Bs.away f_s1 lk
             have a_s2_t8 := Bs.away f_s2 lk
             replace f_s0 := Bs.below f_s0 kk (Nat.le_refl _)
             replace f_s1 := Bs.below f_s1 kk (Nat.le_refl _)
             replace f_s2 := Bs.below f_s2 kk (Nat.le_refl _)
             have Bw4 := Bw3.trans (kk.mono (HGS.out _ Bw3))
             clear Bw3 kk lk
             replace r_t8 := World.rowIs.congr r_t8 zeroQT)
          | (have hgo := Bw4; clear hgo
             refine wpList_store_as rfl 29 (.tmp 8) (.tmp 29) rfl 12 (qT (qMul bT A)) arrQ r_t8 rfl rfl (by omega) (fun j _ => qF_one _ _ _ j) (fun i hi => putN_whole hi) ?_
             intro w20 q gk
             replace r_t8 := q
             have Bw5 := Bw4.grown gk (HGS.out _ Bw4) (by intro k hk; cases hk; exact l_t8)
             replace f_s0 := gb_bs f_s0 gk a_s0_t8
             replace f_s1 := gb_bs f_s1 gk a_s1_t8
             replace f_s2 := gb_bs f_s2 gk a_s2_t8
             clear Bw4 gk q)
          | (have hgo := Bw5; clear hgo
             go_at_call 16
             refine (qTBase_any _).mono ?_
             rintro e w21 ⟨rfl, kk⟩
             replace r_t8 := World.rowIs.of_block r_t8 (kk.block _ (World.rowIs.lt r_t8))
             replace f_s0 := Bs.below f_s0 kk (Nat.le_refl _)
             replace f_s1 := Bs.below f_s1 kk (Nat.le_refl _)
             replace f_s2 := Bs.below f_s2 kk (Nat.le_refl _)
             have Bw6 := Bw5.trans (kk.mono (HGS.out _ Bw5))
             clear Bw5 kk)
          | (have hgo := Bw6; clear hgo
             go_at_call 18
             refine (sWide_to _ (l1) _ f_s1 (C) HNC.out).mono ?_
             rintro e w23 ⟨rfl, kk⟩
             replace r_t8 := World.rowIs.of_block r_t8 (kk.block _ (World.rowIs.lt r_t8))
             replace f_s0 := Bs.below f_s0 kk (Nat.le_refl _)
             replace f_s1 := Bs.below f_s1 kk (Nat.le_refl _)
             replace f_s2 := Bs.below f_s2 kk (Nat.le_refl _)
             have Bw7 := Bw6.trans (kk.mono (HGS.out _ Bw6))
             clear Bw6 kk)
          | (have hgo := Bw7; clear hgo
             go_at_call 17
             refine (qTMul_any bT C _ LtT.base).mono ?_
             rintro e w24 ⟨rfl, kk⟩
             replace r_t8 := World.rowIs.of_block r_t8 (kk.block _ (World.rowIs.lt r_t8))
             replace f_s0 := Bs.below f_s0 kk (Nat.le_refl _)
             replace f_s1 := Bs.below f_s1 kk (Nat.le_refl _)
             replace f_s2 := Bs.below f_s2 kk (Nat.le_refl _)
             have Bw8 := Bw7.trans (kk.mono (HGS.out _ Bw7))
             clear Bw7 kk)
          | (have hgo := Bw8; clear hgo
             refine wpList_alloc_row rfl 29 rfl 12 (u64f fun _ => 0) zeroQ ?_
             intro b_t9 w25 lk r_t9 kk
             have n_t8_t9 : b_t8 ≠ b_t9 := Nat.ne_of_lt (Nat.lt_of_lt_of_le (World.rowIs.lt r_t8) lk)
             have l_t9 := Nat.le_trans (HGS.out _ Bw8) lk
             have a_s0_t9 := Bs.away f_s0 lk
             have a_s1_t9 := Bs.away f_s1 lk
             have a_s2_t9 := Bs.away f_s2 lk
             replace r_t8 := World.rowIs.of_block r_t8 (kk.block _ (World.rowIs.lt r_t8))
             replace f_s0 := Bs.below f_s0 kk (Nat.le_refl _)
             replace f_s1 := Bs.below f_s1 kk (Nat.le_refl _)
             replace f_s2 := Bs.below f_s2 kk (Nat.le_refl _)
             have Bw9 := Bw8.trans (kk.mono (HGS.out _ Bw8))
             clear Bw8 kk lk
             replace r_t9 := World.rowIs.congr r_t9 zeroQT)
          | (have hgo := Bw9; clear hgo
             refine wpList_store_as rfl 29 (.tmp 9) (.tmp 33) rfl 12 (qT (qMul bT C)) arrQ r_t9 rfl rfl (by omega) (fun j _ => qF_one _ _ _ j) (fun i hi => putN_whole hi) ?_
             intro w26 q gk
             replace r_t8 := gb_rowIs r_t8 gk n_t8_t9
             replace r_t9 := q
             have Bw10 := Bw9.grown gk (HGS.out _ Bw9) (by intro k hk; cases hk; exact l_t9)
             replace f_s0 := gb_bs f_s0 gk a_s0_t9
             replace f_s1 := gb_bs f_s1 gk a_s1_t9
             replace f_s2 := gb_bs f_s2 gk a_s2_t9
             clear Bw9 gk q)
          | (have hgo := Bw10; clear hgo
             go_at_call 16
             refine (qTBase_any _).mono ?_
             rintro e w27 ⟨rfl, kk⟩
             replace r_t8 := World.rowIs.of_block r_t8 (kk.block _ (World.rowIs.lt r_t8))
             replace r_t9 := World.rowIs.of_block r_t9 (kk.block _ (World.rowIs.lt r_t9))
             replace f_s0 := Bs.below f_s0 kk (Nat.le_refl _)
             replace f_s1 := Bs.below f_s1 kk (Nat.le_refl _)
             replace f_s2 := Bs.below f_s2 kk (Nat.le_refl _)
             have Bw11 := Bw10.trans (kk.mono (HGS.out _ Bw10))
             clear Bw10 kk)
          | (have hgo := Bw11; clear hgo
             go_at_call 18
             refine (sWide_to _ (l2) _ f_s2 (D) HND.out).mono ?_
             rintro e w29 ⟨rfl, kk⟩
             replace r_t8 := World.rowIs.of_block r_t8 (kk.block _ (World.rowIs.lt r_t8))
             replace r_t9 := World.rowIs.of_block r_t9 (kk.block _ (World.rowIs.lt r_t9))
             replace f_s0 := Bs.below f_s0 kk (Nat.le_refl _)
             replace f_s1 := Bs.below f_s1 kk (Nat.le_refl _)
             replace f_s2 := Bs.below f_s2 kk (Nat.le_refl _)
             have Bw12 := Bw11.trans (kk.mono (HGS.out _ Bw11))
             clear Bw11 kk)
          | (have hgo := Bw12; clear hgo
             go_at_call 17
             refine (qTMul_any bT D _ LtT.base).mono ?_
             rintro e w30 ⟨rfl, kk⟩
             replace r_t8 := World.rowIs.of_block r_t8 (kk.block _ (World.rowIs.lt r_t8))
             replace r_t9 := World.rowIs.of_block r_t9 (kk.block _ (World.rowIs.lt r_t9))
             replace f_s0 := Bs.below f_s0 kk (Nat.le_refl _)
             replace f_s1 := Bs.below f_s1 kk (Nat.le_refl _)
             replace f_s2 := Bs.below f_s2 kk (Nat.le_refl _)
             have Bw13 := Bw12.trans (kk.mono (HGS.out _ Bw12))
             clear Bw12 kk)
          | (have hgo := Bw13; clear hgo
             refine wpList_alloc_row rfl 29 rfl 12 (u64f fun _ => 0) zeroQ ?_
             intro b_t10 w31 lk r_t10 kk
             have n_t8_t10 : b_t8 ≠ b_t10 := Nat.ne_of_lt (Nat.lt_of_lt_of_le (World.rowIs.lt r_t8) lk)
             have n_t9_t10 : b_t9 ≠ b_t10 := Nat.ne_of_lt (Nat.lt_of_lt_of_le (World.rowIs.lt r_t9) lk)
             have l_t10 := Nat.le_trans (HGS.out _ Bw13) lk
             have a_s0_t10 := Bs.away f_s0 lk
             have a_s1_t10 := Bs.away f_s1 lk
             have a_s2_t10 := Bs.away f_s2 lk
             replace r_t8 := World.rowIs.of_block r_t8 (kk.block _ (World.rowIs.lt r_t8))
             replace r_t9 := World.rowIs.of_block r_t9 (kk.block _ (World.rowIs.lt r_t9))
             replace f_s0 := Bs.below f_s0 kk (Nat.le_refl _)
             replace f_s1 := Bs.below f_s1 kk (Nat.le_refl _)
             replace f_s2 := Bs.below f_s2 kk (Nat.le_refl _)
             have Bw14 := Bw13.trans (kk.mono (HGS.out _ Bw13))
             clear Bw13 kk lk
             replace r_t10 := World.rowIs.congr r_t10 zeroQT)
          | (have hgo := Bw14; clear hgo
             refine wpList_store_as rfl 29 (.tmp 10) (.tmp 37) rfl 12 (qT (qMul bT D)) arrQ r_t10 rfl rfl (by omega) (fun j _ => qF_one _ _ _ j) (fun i hi => putN_whole hi) ?_
             intro w32 q gk
             replace r_t8 := gb_rowIs r_t8 gk n_t8_t10
             replace r_t9 := gb_rowIs r_t9 gk n_t9_t10
             replace r_t10 := q
             have Bw15 := Bw14.grown gk (HGS.out _ Bw14) (by intro k hk; cases hk; exact l_t10)
             replace f_s0 := gb_bs f_s0 gk a_s0_t10
             replace f_s1 := gb_bs f_s1 gk a_s1_t10
             replace f_s2 := gb_bs f_s2 gk a_s2_t10
             clear Bw14 gk q)
          | (have hgo := Bw15; clear hgo
             refine wpList_alloc_row rfl 29 rfl 12 (u64f fun _ => 0) zeroQ ?_
             intro b_t11 w33 lk r_t11 kk
             have n_t8_t11 : b_t8 ≠ b_t11 := Nat.ne_of_lt (Nat.lt_of_lt_of_le (World.rowIs.lt r_t8) lk)
             have n_t9_t11 : b_t9 ≠ b_t11 := Nat.ne_of_lt (Nat.lt_of_lt_of_le (World.rowIs.lt r_t9) lk)
             have n_t10_t11 : b_t10 ≠ b_t11 := Nat.ne_of_lt (Nat.lt_of_lt_of_le (World.rowIs.lt r_t10) lk)
             have l_t11 := Nat.le_trans (HGS.out _ Bw15) lk
             have a_s0_t11 := Bs.away f_s0 lk
             have a_s1_t11 := Bs.away f_s1 lk
             have a_s2_t11 := Bs.away f_s2 lk
             replace r_t8 := World.rowIs.of_block r_t8 (kk.block _ (World.rowIs.lt r_t8))
             replace r_t9 := World.rowIs.of_block r_t9 (kk.block _ (World.rowIs.lt r_t9))
             replace r_t10 := World.rowIs.of_block r_t10 (kk.block _ (World.rowIs.lt r_t10))
             replace f_s0 := Bs.below f_s0 kk (Nat.le_refl _)
             replace f_s1 := Bs.below f_s1 kk (Nat.le_refl _)
             replace f_s2 := Bs.below f_s2 kk (Nat.le_refl _)
             have Bw16 := Bw15.trans (kk.mono (HGS.out _ Bw15))
             clear Bw15 kk lk
             replace r_t11 := World.rowIs.congr r_t11 zeroQT))
        have Bw17 := Bw16.drew
        replace r_t8 := World.rowIs.drew r_t8
        replace r_t9 := World.rowIs.drew r_t9
        replace r_t10 := World.rowIs.drew r_t10
        replace r_t11 := World.rowIs.drew r_t11
        replace f_s0 := Bs.drew f_s0
        replace f_s1 := Bs.drew f_s1
        replace f_s2 := Bs.drew f_s2
        clear Bw16
        refine wp_region_po (Keep []) (Keep.refl _) (fun _ _ _ h1 h2 => h1.trans h2) (.rd 0 (.rd 1 (.rd 2 (.rd 4 (.rd 5 (.rd 6 .done)))))) #[true, true, true, false, true, true, true, false, false, false, false, false, false, false, false, false, false, false, false, false, false, false, false, false, false, false, false, false, false, false, false, false, false, false, false, false, false, false, false, false, false, false, false, false, false, false, false, false, false, false, false, false, false, false, false, false, false, false, false, false, false, false, false, false, false, false, false, false, false, false, false, false, false, false, false, false, false, false, false, false, false, false, false, false, false] [3, 7, 8, 9, 10, 11, 12, 13, 14, 15, 16, 17, 18, 19, 20, 21, 22, 23, 24, 25, 26, 27, 28, 29, 30, 31, 32, 33, 34, 35, 36, 37, 38, 39, 40, 41, 42, 43, 44, 45, 46, 47, 48, 49, 50, 51, 52, 53, 54, 55, 56, 57, 58, 59, 60, 61, 62, 63, 64, 65, 66, 67, 68, 69, 70, 71, 72, 73, 74, 75, 76, 77, 78, 79, 80, 81, 82, 83, 84] [some 41, some 45, some 46, some 47, some 48, some 49, some 50, some 51, some 52, some 53, some 54, some 55, some 56, some 57, some 58, some 59, some 60, some 61, some 62, some 63, some 64, some 65, some 66, some 67, some 68, some 69, some 70, some 71, some 72, some 73, some 74, some 75, some 76, some 77, some 78, some 79, some 80, some 81, some 82, some 83, some 84, some 85, some 86, some 87, some 88, some 89, some 90, some 91, some 92, some 93, some 94, some 95, some 96, some 97, some 98, some 99, some 100, some 101, some 102, some 103, some 104, some 105, some 106, some 107, some 108, some 109, some 110, some 111, some 112, some 113, some 114, some 115, some 116, some 117, some 118, some 119, some 120, some 121, some 6] [[], [0], [0, 1], [2], [3], [3], [3], [3], [3, 5, 6, 7], [3], [3, 4, 8, 9], [3], [3], [3], [3], [3], [3, 10, 13, 14, 15], [3, 11, 12, 16], [3, 10, 17], [3, 18], [18, 19], [20], [20], [20], [20, 21, 22, 23], [20], [20, 24, 25], [20, 26], [26, 27], [28], [28], [28], [28, 31], [28, 29, 30, 32], [28], [28, 33, 34], [28, 35], [35, 36], [37], [37], [37], [37, 38, 39, 40], [37, 41], [37], [37, 42, 43], [37], [37, 44, 45], [37, 44, 46], [37, 42, 47], [37, 41, 48], [37, 49], [49, 50], [51], [51, 52], [51], [51], [51], [51], [51], [51, 53, 56, 57, 58], [51, 54, 55, 59], [51, 53, 60], [51, 61], [61, 62], [63], [63, 64], [63], [63, 65, 66], [63, 67], [67, 68], [69], [69, 70], [69], [69, 71, 72], [69, 73], [73, 74], [75], [75, 76], [0, 1, 2, 3, 4, 5, 6, 7, 8, 9, 10, 11, 12, 13, 14, 15, 16, 17, 18, 19, 20, 21, 22, 23, 24, 25, 26, 27, 28, 29, 30, 31, 32, 33, 34, 35, 36, 37, 38, 39, 40, 41, 42, 43, 44, 45, 46, 47, 48, 49, 50, 51, 52, 53, 54, 55, 56, 57, 58, 59, 60, 61, 62, 63, 64, 65, 66, 67, 68, 69, 70, 71, 72, 73, 74, 75, 76, 77]] [(0, []), (1, []), (2, []), (3, [0, 1, 2]), (4, []), (5, []), (6, []), (7, [4, 5, 6, 3]), (8, [3, 7, 7]), (9, [8, 8]), (10, [9]), (11, [9]), (12, [9]), (13, [9]), (14, [11, 12, 13, 9, 9]), (15, [9]), (16, [10, 14, 15, 14, 9]), (17, [9]), (18, [9]), (19, [9]), (20, [9]), (21, [9]), (22, [19, 20, 21, 16, 9]), (23, [17, 18, 22, 22, 9]), (24, [16, 23, 23, 9]), (25, [9, 24]), (26, [25, 24]), (27, [26]), (28, [26]), (29, [26]), (30, [27, 28, 29, 26, 26]), (31, [26]), (32, [30, 31, 30, 26]), (33, [26, 32]), (34, [33, 32]), (35, [34]), (36, [34]), (37, [34]), (38, [37, 34, 34]), (39, [35, 36, 38, 38, 34]), (40, [34]), (41, [39, 40, 39, 34]), (42, [34, 41]), (43, [42, 41]), (44, [43]), (45, [43]), (46, [43]), (47, [44, 45, 46, 43, 43]), (48, [47, 43]), (49, [43]), (50, [49, 48, 43]), (51, [43]), (52, [51, 50, 43]), (53, [50, 52, 52, 43]), (54, [48, 53, 53, 43]), (55, [47, 54, 54, 43]), (56, [43, 55]), (57, [56, 55]), (58, [57]), (59, [58, 57, 57]), (60, [57]), (61, [57]), (62, [57]), (63, [57]), (64, [57]), (65, [62, 63, 64, 59, 57]), (66, [60, 61, 65, 65, 57]), (67, [59, 66, 66, 57]), (68, [57, 67]), (69, [68, 67]), (70, [69]), (71, [70, 69, 69]), (72, [69]), (73, [71, 72, 71, 69]), (74, [69, 73]), (75, [74, 73]), (76, [75]), (77, [76, 75, 75]), (78, [75]), (79, [77, 78, 77, 75]), (80, [75, 79]), (81, [80, 79]), (82, [81, 81]), (83, [81, 82]), (84, [83, 82, 0, 1, 2, 3, 4, 5, 6, 7, 8, 9, 10, 11, 12, 13, 14, 15, 16, 17, 18, 19, 20, 21, 22, 23, 24, 25, 26, 27, 28, 29, 30, 31, 32, 33, 34, 35, 36, 37, 38, 39, 40, 41, 42, 43, 44, 45, 46, 47, 48, 49, 50, 51, 52, 53, 54, 55, 56, 57, 58, 59, 60, 61, 62, 63, 64, 65, 66, 67, 68, 69, 70, 71, 72, 73, 74, 75, 76, 77, 78, 79, 80, 81, 82, 83])] 119 (by as_aux_lemma => kernel_rfl) (by as_aux_lemma => kernel_rfl) (by decide) (by as_aux_lemma => kernel_rfl) (by as_aux_lemma => kernel_rfl) (by as_aux_lemma => kernel_rfl) rfl (fun d _ _ _ _ h => by cases d <;> exact h) ?_
        refine lintz_pure 38 (Op.move (Operand.tmp 7)) 59 (.func (.func 22) #[] #[]) rfl rfl rfl rfl rfl (fun w0 hb => by unfold mkOp; go_simp; all_goals (with_reducible rfl)) ?_
        simp only [Act.put, List.setIfInBounds_toArray, List.set_cons_zero, List.set_cons_succ]
        refine lintz_pure 39 (Op.load 29 (Operand.tmp 8)) 29 (.agg (arrOf 12 (qT (qMul bT A)))) rfl rfl rfl rfl rfl (fun w0 hb => by exact exec_load_as _ _ _ _ (qT (qMul bT A)) rfl arrQ (Keep.row hb r_t8 rfl) (by omega) (fun i hi => by rw [Nat.zero_add])) ?_
        simp only [Act.put, List.setIfInBounds_toArray, List.set_cons_zero, List.set_cons_succ]
        refine lintz_pure 40 (Op.load 29 (Operand.tmp 9)) 29 (.agg (arrOf 12 (qT (qMul bT C)))) rfl rfl rfl rfl rfl (fun w0 hb => by exact exec_load_as _ _ _ _ (qT (qMul bT C)) rfl arrQ (Keep.row hb r_t9 rfl) (by omega) (fun i hi => by rw [Nat.zero_add])) ?_
        simp only [Act.put, List.setIfInBounds_toArray, List.set_cons_zero, List.set_cons_succ]
        refine lintz_pure 42 (Op.move (Operand.tmp 7)) 59 (.func (.func 22) #[] #[]) rfl rfl rfl rfl rfl (fun w0 hb => by unfold mkOp; go_simp; all_goals (with_reducible rfl)) ?_
        simp only [Act.put, List.setIfInBounds_toArray, List.set_cons_zero, List.set_cons_succ]
        refine lintz_pure 43 (Op.load 29 (Operand.tmp 9)) 29 (.agg (arrOf 12 (qT (qMul bT C)))) rfl rfl rfl rfl rfl (fun w0 hb => by exact exec_load_as _ _ _ _ (qT (qMul bT C)) rfl arrQ (Keep.row hb r_t9 rfl) (by omega) (fun i hi => by rw [Nat.zero_add])) ?_
        simp only [Act.put, List.setIfInBounds_toArray, List.set_cons_zero, List.set_cons_succ]
        refine lintz_pure 44 (Op.load 29 (Operand.tmp 8)) 29 (.agg (arrOf 12 (qT (qMul bT A)))) rfl rfl rfl rfl rfl (fun w0 hb => by exact exec_load_as _ _ _ _ (qT (qMul bT A)) rfl arrQ (Keep.row hb r_t8 rfl) (by omega) (fun i hi => by rw [Nat.zero_add])) ?_
        simp only [Act.put, List.setIfInBounds_toArray, List.set_cons_zero, List.set_cons_succ]
        refine lintz_leaf ?_
        have HWF : poWf [.val (.agg (arrOf 12 (qT (qAdd (qMul bT A) (qMul bT C))))), .val (.agg (arrOf 12 (qT (qAdd (qMul bT C) (qMul bT A))))), .val (.bool true), .val (.bool true), .val (.func (.func 22) #[] #[]), .val (.func (.func 22) #[] #[]), .val (.agg (arrOf 12 (qT (qMul bT A)))), .val (.agg (arrOf 12 (qT (qMul bT C)))), .val (.agg (arrOf 12 (qT (qAdd (qMul bT A) (qMul bT C))))), .val (.agg (arrOf 12 (qT (qMul bT D)))), .val (.agg (arrOf 12 (qT (qAdd (qAdd (qMul bT A) (qMul bT C)) (qMul bT D))))), .val (.func (.func 22) #[] #[]), .val (.agg (arrOf 12 (qT (qMul bT A)))), .val (.func (.func 22) #[] #[]), .val (.agg (arrOf 12 (qT (qMul bT C)))), .val (.agg (arrOf 12 (qT (qMul bT D)))), .val (.agg (arrOf 12 (qT (qAdd (qMul bT C) (qMul bT D))))), .val (.agg (arrOf 12 (qT (qAdd (qMul bT A) (qAdd (qMul bT C) (qMul bT D)))))), .val (.bool true), .val (.bool true), .val (.bool true), .val (.func (.func 22) #[] #[]), .val (.agg (arrOf 12 (qT (qMul bT A)))), .val (.agg (arrOf 12 (qT (0, 0, 0)))), .val (.agg (arrOf 12 (qT (qAdd (qMul bT A) (0, 0, 0))))), .val (.agg (arrOf 12 (qT (qMul bT A)))), .val (.bool true), .val (.bool true), .val (.bool true), .val (.func (.func 22) #[] #[]), .val (.agg (arrOf 12 (qT (qMul bT A)))), .val (.agg (arrOf 12 (qT (qMul bT A)))), .val (.agg (arrOf 12 (qT (pneg (qMul bT A))))), .val (.agg (arrOf 12 (qT (qAdd (qMul bT A) (pneg (qMul bT A)))))), .val (.agg (arrOf 12 (qT (0, 0, 0)))), .val (.bool true), .val (.bool true), .val (.bool true), .val (.func (.func 22) #[] #[]), .val (.agg (arrOf 12 (qT (qMul bT A)))), .val (.agg (arrOf 12 (qT (qMul bT C)))), .val (.agg (arrOf 12 (qT (qAdd (qMul bT A) (qMul bT C))))), .val (.agg (arrOf 12 (qT bT))), .val (.slice ad0 n0 c0), .val (.agg (arrOf 4 (ewF A))), .val (.slice ad1 n1 c1), .val (.agg (arrOf 4 (ewF C))), .val (.agg (arrOf 4 (ewF ((A + C) % ordL)))), .val (.agg (arrOf 12 (qT (qMul bT ((A + C) % ordL))))), .val (.bool true), .val (.bool true), .val (.bool true), .val (.agg (arrOf 12 (qT (qMul bT A)))), .val (.agg (arrOf 12 (qT (qTim (qMul bT A) 3)))), .val (.func (.func 22) #[] #[]), .val (.agg (arrOf 12 (qT (qMul bT A)))), .val (.func (.func 22) #[] #[]), .val (.agg (arrOf 12 (qT (qMul bT A)))), .val (.agg (arrOf 12 (qT (qMul bT A)))), .val (.agg (arrOf 12 (qT (qAdd (qMul bT A) (qMul bT A))))), .val (.agg (arrOf 12 (qT (qAdd (qMul bT A) (qAdd (qMul bT A) (qMul bT A)))))), .val (.bool true), .val (.bool true), .val (.bool true), .val (.agg (arrOf 12 (qT (qMul bT A)))), .val (.agg (arrOf 12 (qT (qTim (qMul bT A) 0)))), .val (.agg (arrOf 12 (qT (0, 0, 0)))), .val (.bool true), .val (.bool true), .val (.bool true), .val (.agg (arrOf 12 (qT (qMul bT A)))), .val (.agg (arrOf 12 (qT (0, 0, 0)))), .val (.agg (arrOf 12 (qT (0, 0, 0)))), .val (.bool true), .val (.bool true), .val (.bool true), .val (.bool true), .val (.bool true), .val (.bool true)] [] = true := by as_aux_lemma => kernel_rfl
        refine ⟨JG [.val (.agg (arrOf 12 (qT (qAdd (qMul bT A) (qMul bT C))))), .val (.agg (arrOf 12 (qT (qAdd (qMul bT C) (qMul bT A))))), .val (.bool true), .val (.bool true), .val (.func (.func 22) #[] #[]), .val (.func (.func 22) #[] #[]), .val (.agg (arrOf 12 (qT (qMul bT A)))), .val (.agg (arrOf 12 (qT (qMul bT C)))), .val (.agg (arrOf 12 (qT (qAdd (qMul bT A) (qMul bT C))))), .val (.agg (arrOf 12 (qT (qMul bT D)))), .val (.agg (arrOf 12 (qT (qAdd (qAdd (qMul bT A) (qMul bT C)) (qMul bT D))))), .val (.func (.func 22) #[] #[]), .val (.agg (arrOf 12 (qT (qMul bT A)))), .val (.func (.func 22) #[] #[]), .val (.agg (arrOf 12 (qT (qMul bT C)))), .val (.agg (arrOf 12 (qT (qMul bT D)))), .val (.agg (arrOf 12 (qT (qAdd (qMul bT C) (qMul bT D))))), .val (.agg (arrOf 12 (qT (qAdd (qMul bT A) (qAdd (qMul bT C) (qMul bT D)))))), .val (.bool true), .val (.bool true), .val (.bool true), .val (.func (.func 22) #[] #[]), .val (.agg (arrOf 12 (qT (qMul bT A)))), .val (.agg (arrOf 12 (qT (0, 0, 0)))), .val (.agg (arrOf 12 (qT (qAdd (qMul bT A) (0, 0, 0))))), .val (.agg (arrOf 12 (qT (qMul bT A)))), .val (.bool true), .val (.bool true), .val (.bool true), .val (.func (.func 22) #[] #[]), .val (.agg (arrOf 12 (qT (qMul bT A)))), .val (.agg (arrOf 12 (qT (qMul bT A)))), .val (.agg (arrOf 12 (qT (pneg (qMul bT A))))), .val (.agg (arrOf 12 (qT (qAdd (qMul bT A) (pneg (qMul bT A)))))), .val (.agg (arrOf 12 (qT (0, 0, 0)))), .val (.bool true), .val (.bool true), .val (.bool true), .val (.func (.func 22) #[] #[]), .val (.agg (arrOf 12 (qT (qMul bT A)))), .val (.agg (arrOf 12 (qT (qMul bT C)))), .val (.agg (arrOf 12 (qT (qAdd (qMul bT A) (qMul bT C))))), .val (.agg (arrOf 12 (qT bT))), .val (.slice ad0 n0 c0), .val (.agg (arrOf 4 (ewF A))), .val (.slice ad1 n1 c1), .val (.agg (arrOf 4 (ewF C))), .val (.agg (arrOf 4 (ewF ((A + C) % ordL)))), .val (.agg (arrOf 12 (qT (qMul bT ((A + C) % ordL))))), .val (.bool true), .val (.bool true), .val (.bool true), .val (.agg (arrOf 12 (qT (qMul bT A)))), .val (.agg (arrOf 12 (qT (qTim (qMul bT A) 3)))), .val (.func (.func 22) #[] #[]), .val (.agg (arrOf 12 (qT (qMul bT A)))), .val (.func (.func 22) #[] #[]), .val (.agg (arrOf 12 (qT (qMul bT A)))), .val (.agg (arrOf 12 (qT (qMul bT A)))), .val (.agg (arrOf 12 (qT (qAdd (qMul bT A) (qMul bT A))))), .val (.agg (arrOf 12 (qT (qAdd (qMul bT A) (qAdd (qMul bT A) (qMul bT A)))))), .val (.bool true), .val (.bool true), .val (.bool true), .val (.agg (arrOf 12 (qT (qMul bT A)))), .val (.agg (arrOf 12 (qT (qTim (qMul bT A) 0)))), .val (.agg (arrOf 12 (qT (0, 0, 0)))), .val (.bool true), .val (.bool true), .val (.bool true), .val (.agg (arrOf 12 (qT (qMul bT A)))), .val (.agg (arrOf 12 (qT (0, 0, 0)))), .val (.agg (arrOf 12 (qT (0, 0, 0)))), .val (.bool true), .val (.bool true), .val (.bool true), .val (.bool true), .val (.bool true), .val (.bool true)] [] _, JG.start (Nat.le_refl _) (fun i hi => absurd hi (Nat.not_lt_zero _)), fun m gz wa p az hp hm hmp hcl hdn hE hJ hS hO => ?_, fun gz wa hE hJ => ?_⟩
        · rcases (show p = 0 ∨ p = 1 ∨ p = 2 ∨ p = 3 ∨ p = 4 ∨ p = 5 ∨ p = 6 ∨ p = 7 ∨ p = 8 ∨ p = 9 ∨ p = 10 ∨ p = 11 ∨ p = 12 ∨ p = 13 ∨ p = 14 ∨ p = 15 ∨ p = 16 ∨ p = 17 ∨ p = 18 ∨ p = 19 ∨ p = 20 ∨ p = 21 ∨ p = 22 ∨ p = 23 ∨ p = 24 ∨ p = 25 ∨ p = 26 ∨ p = 27 ∨ p = 28 ∨ p = 29 ∨ p = 30 ∨ p = 31 ∨ p = 32 ∨ p = 33 ∨ p = 34 ∨ p = 35 ∨ p = 36 ∨ p = 37 ∨ p = 38 ∨ p = 39 ∨ p = 40 ∨ p = 41 ∨ p = 42 ∨ p = 43 ∨ p = 44 ∨ p = 45 ∨ p = 46 ∨ p = 47 ∨ p = 48 ∨ p = 49 ∨ p = 50 ∨ p = 51 ∨ p = 52 ∨ p = 53 ∨ p = 54 ∨ p = 55 ∨ p = 56 ∨ p = 57 ∨ p = 58 ∨ p = 59 ∨ p = 60 ∨ p = 61 ∨ p = 62 ∨ p = 63 ∨ p = 64 ∨ p = 65 ∨ p = 66 ∨ p = 67 ∨ p = 68 ∨ p = 69 ∨ p = 70 ∨ p = 71 ∨ p = 72 ∨ p = 73 ∨ p = 74 ∨ p = 75 ∨ p = 76 ∨ p = 77 ∨ p = 78 by have h9 : p < 79 := hp; omega) with rfl | rfl | rfl | rfl | rfl | rfl | rfl | rfl | rfl | rfl | rfl | rfl | rfl | rfl | rfl | rfl | rfl | rfl | rfl | rfl | rfl | rfl | rfl | rfl | rfl | rfl | rfl | rfl | rfl | rfl | rfl | rfl | rfl | rfl | rfl | rfl | rfl | rfl | rfl | rfl | rfl | rfl | rfl | rfl | rfl | rfl | rfl | rfl | rfl | rfl | rfl | rfl | rfl | rfl | rfl | rfl | rfl | rfl | rfl | rfl | rfl | rfl | rfl | rfl | rfl | rfl | rfl | rfl | rfl | rfl | rfl | rfl | rfl | rfl | rfl | rfl | rfl | rfl | rfl
          · as_aux_lemma =>
              have e39 : az.eval (.tmp 39) = .agg (arrOf 12 (qT (qMul bT A))) := hO 39 rfl
              have e40 : az.eval (.tmp 40) = .agg (arrOf 12 (qT (qMul bT C))) := hO 40 rfl
              have e38 : az.eval (.tmp 38) = .func (.func 22) #[] #[] := hO 38 rfl
              exact po_callv 41 22 (.tmp 38) #[Operand.tmp 39, Operand.tmp 40] #[29, 29] _ HWF hJ rfl hE (qTAdd_any (qMul bT A) (qMul bT C) _ (LtT.oft _ _ _) (LtT.oft _ _ _)) rfl rfl rfl rfl e38 rfl Try.func22 (by kernel_rfl) (by kernel_rfl) (by simp only [List.map_toArray, List.map_cons, List.map_nil, eval_const, eval_func, e39, e40] <;> rfl)
          · as_aux_lemma =>
              have e43 : az.eval (.tmp 43) = .agg (arrOf 12 (qT (qMul bT C))) := hO 43 rfl
              have e44 : az.eval (.tmp 44) = .agg (arrOf 12 (qT (qMul bT A))) := hO 44 rfl
              have e42 : az.eval (.tmp 42) = .func (.func 22) #[] #[] := hO 42 rfl
              exact po_callv 45 22 (.tmp 42) #[Operand.tmp 43, Operand.tmp 44] #[29, 29] _ HWF hJ rfl hE (qTAdd_any (qMul bT C) (qMul bT A) _ (LtT.oft _ _ _) (LtT.oft _ _ _)) rfl rfl rfl rfl e42 rfl Try.func22 (by kernel_rfl) (by kernel_rfl) (by simp only [List.map_toArray, List.map_cons, List.map_nil, eval_const, eval_func, e43, e44] <;> rfl)
          · as_aux_lemma =>
              have e41 := (hS 0 41 rfl (hdn 0 (by decide)) (Nat.le_of_ble_eq_true rfl)).trans (hJ.says (hdn 0 (by decide)) rfl)
              have e45 := (hS 1 45 rfl (hdn 1 (by decide)) (Nat.le_of_ble_eq_true rfl)).trans (hJ.says (hdn 1 (by decide)) rfl)
              exact po_call 46 26 #[Operand.tmp 41, Operand.tmp 45] #[29, 29] _ HWF hJ rfl hE (qTSame_to (qAdd (qMul bT A) (qMul bT C)) (qAdd (qMul bT C) (qMul bT A)) true _ (LtT.qAdd _ _) (LtT.qAdd _ _) ((RQ.same (RQ.add (RQ.mul RQ.base HA.out) (RQ.mul RQ.base HC.out)) (RQ.add (RQ.mul RQ.base HC.out) (RQ.mul RQ.base HA.out))).trans (decide_eq_true (addE_comm _ _)))) rfl rfl rfl rfl rfl Try.func26 (by kernel_rfl) (by kernel_rfl) (by simp only [List.map_toArray, List.map_cons, List.map_nil, eval_const, eval_func, e41, e45] <;> rfl)
          · as_aux_lemma =>
              have e46 := (hS 2 46 rfl (hdn 2 (by decide)) (Nat.le_of_ble_eq_true rfl)).trans (hJ.says (hdn 2 (by decide)) rfl)
              exact po_run 47 (Op.move (Operand.tmp 46)) _ HWF hJ rfl hE rfl rfl rfl rfl rfl rfl (by first | (simp only [execOp, mkOp, eval_const, e46]; done) | (simp only [execOp, mkOp, eval_const, e46]; go_simp))
          · as_aux_lemma =>
              have e47 := (hS 3 47 rfl (hdn 3 (by decide)) (Nat.le_of_ble_eq_true rfl)).trans (hJ.says (hdn 3 (by decide)) rfl)
              have e7 : az.eval (.tmp 7) = .func (.func 22) #[] #[] := hO 7 rfl
              exact po_run 48 (Op.move (Operand.tmp 7)) _ HWF hJ rfl hE rfl rfl rfl rfl rfl (wanted_of rfl rfl e47) (by first | (simp only [execOp, mkOp, eval_const, e7]; done) | (simp only [execOp, mkOp, eval_const, e7]; go_simp))
          · as_aux_lemma =>
              have e47 := (hS 3 47 rfl (hdn 3 (by decide)) (Nat.le_of_ble_eq_true rfl)).trans (hJ.says (hdn 3 (by decide)) rfl)
              have e7 : az.eval (.tmp 7) = .func (.func 22) #[] #[] := hO 7 rfl
              exact po_run 49 (Op.move (Operand.tmp 7)) _ HWF hJ rfl hE rfl rfl rfl rfl rfl (wanted_of rfl rfl e47) (by first | (simp only [execOp, mkOp, eval_const, e7]; done) | (simp only [execOp, mkOp, eval_const, e7]; go_simp))
          · as_aux_lemma =>
              have e47 := (hS 3 47 rfl (hdn 3 (by decide)) (Nat.le_of_ble_eq_true rfl)).trans (hJ.says (hdn 3 (by decide)) rfl)
              have e8 : az.eval (.tmp 8) = .pointer (some ⟨b_t8, 0, none⟩) := hO 8 rfl
              exact po_run 50 (Op.load 29 (Operand.tmp 8)) _ HWF hJ rfl hE rfl rfl rfl rfl rfl (wanted_of rfl rfl e47) (exec_load_as _ _ _ _ (qT (qMul bT A)) e8 arrQ (Keep.row hE r_t8 rfl) (by omega) (fun i hi => by rw [Nat.zero_add]))
          · as_aux_lemma =>
              have e47 := (hS 3 47 rfl (hdn 3 (by decide)) (Nat.le_of_ble_eq_true rfl)).trans (hJ.says (hdn 3 (by decide)) rfl)
              have e9 : az.eval (.tmp 9) = .pointer (some ⟨b_t9, 0, none⟩) := hO 9 rfl
              exact po_run 51 (Op.load 29 (Operand.tmp 9)) _ HWF hJ rfl hE rfl rfl rfl rfl rfl (wanted_of rfl rfl e47) (exec_load_as _ _ _ _ (qT (qMul bT C)) e9 arrQ (Keep.row hE r_t9 rfl) (by omega) (fun i hi => by rw [Nat.zero_add]))
          · as_aux_lemma =>
              have e47 := (hS 3 47 rfl (hdn 3 (by decide)) (Nat.le_of_ble_eq_true rfl)).trans (hJ.says (hdn 3 (by decide)) rfl)
              have e50 := (hS 6 50 rfl (hdn 6 (by decide)) (Nat.le_of_ble_eq_true rfl)).trans (hJ.says (hdn 6 (by decide)) rfl)
              have e51 := (hS 7 51 rfl (hdn 7 (by decide)) (Nat.le_of_ble_eq_true rfl)).trans (hJ.says (hdn 7 (by decide)) rfl)
              have e49 := (hS 5 49 rfl (hdn 5 (by decide)) (Nat.le_of_ble_eq_true rfl)).trans (hJ.says (hdn 5 (by decide)) rfl)
              exact po_callv 52 22 (.tmp 49) #[Operand.tmp 50, Operand.tmp 51] #[29, 29] _ HWF hJ rfl hE (qTAdd_any (qMul bT A) (qMul bT C) _ (LtT.oft _ _ _) (LtT.oft _ _ _)) rfl rfl rfl rfl e49 (wanted_of rfl rfl e47) Try.func22 (by kernel_rfl) (by kernel_rfl) (by simp only [List.map_toArray, List.map_cons, List.map_nil, eval_const, eval_func, e50, e51] <;> rfl)
          · as_aux_lemma =>
              have e47 := (hS 3 47 rfl (hdn 3 (by decide)) (Nat.le_of_ble_eq_true rfl)).trans (hJ.says (hdn 3 (by decide)) rfl)
              have e10 : az.eval (.tmp 10) = .pointer (some ⟨b_t10, 0, none⟩) := hO 10 rfl
              exact po_run 53 (Op.load 29 (Operand.tmp 10)) _ HWF hJ rfl hE rfl rfl rfl rfl rfl (wanted_of rfl rfl e47) (exec_load_as _ _ _ _ (qT (qMul bT D)) e10 arrQ (Keep.row hE r_t10 rfl) (by omega) (fun i hi => by rw [Nat.zero_add]))
          · as_aux_lemma =>
              have e47 := (hS 3 47 rfl (hdn 3 (by decide)) (Nat.le_of_ble_eq_true rfl)).trans (hJ.says (hdn 3 (by decide)) rfl)
              have e52 := (hS 8 52 rfl (hdn 8 (by decide)) (Nat.le_of_ble_eq_true rfl)).trans (hJ.says (hdn 8 (by decide)) rfl)
              have e53 := (hS 9 53 rfl (hdn 9 (by decide)) (Nat.le_of_ble_eq_true rfl)).trans (hJ.says (hdn 9 (by decide)) rfl)
              have e48 := (hS 4 48 rfl (hdn 4 (by decide)) (Nat.le_of_ble_eq_true rfl)).trans (hJ.says (hdn 4 (by decide)) rfl)
              exact po_callv 54 22 (.tmp 48) #[Operand.tmp 52, Operand.tmp 53] #[29, 29] _ HWF hJ rfl hE (qTAdd_any (qAdd (qMul bT A) (qMul bT C)) (qMul bT D) _ (LtT.qAdd _ _) (LtT.oft _ _ _)) rfl rfl rfl rfl e48 (wanted_of rfl rfl e47) Try.func22 (by kernel_rfl) (by kernel_rfl) (by simp only [List.map_toArray, List.map_cons, List.map_nil, eval_const, eval_func, e52, e53] <;> rfl)
          · as_aux_lemma =>
              have e47 := (hS 3 47 rfl (hdn 3 (by decide)) (Nat.le_of_ble_eq_true rfl)).trans (hJ.says (hdn 3 (by decide)) rfl)
              have e7 : az.eval (.tmp 7) = .func (.func 22) #[] #[] := hO 7 rfl
              exact po_run 55 (Op.move (Operand.tmp 7)) _ HWF hJ rfl hE rfl rfl rfl rfl rfl (wanted_of rfl rfl e47) (by first | (simp only [execOp, mkOp, eval_const, e7]; done) | (simp only [execOp, mkOp, eval_const, e7]; go_simp))
          · as_aux_lemma =>
              have e47 := (hS 3 47 rfl (hdn 3 (by decide)) (Nat.le_of_ble_eq_true rfl)).trans (hJ.says (hdn 3 (by decide)) rfl)
              have e8 : az.eval (.tmp 8) = .pointer (some ⟨b_t8, 0, none⟩) := hO 8 rfl
              exact po_run 56 (Op.load 29 (Operand.tmp 8)) _ HWF hJ rfl hE rfl rfl rfl rfl rfl (wanted_of rfl rfl e47) (exec_load_as _ _ _ _ (qT (qMul bT A)) e8 arrQ (Keep.row hE r_t8 rfl) (by omega) (fun i hi => by rw [Nat.zero_add]))
          · as_aux_lemma =>
              have e47 := (hS 3 47 rfl (hdn 3 (by decide)) (Nat.le_of_ble_eq_true rfl)).trans (hJ.says (hdn 3 (by decide)) rfl)
              have e7 : az.eval (.tmp 7) = .func (.func 22) #[] #[] := hO 7 rfl
              exact po_run 57 (Op.move (Operand.tmp 7)) _ HWF hJ rfl hE rfl rfl rfl rfl rfl (wanted_of rfl rfl e47) (by first | (simp only [execOp, mkOp, eval_const, e7]; done) | (simp only [execOp, mkOp, eval_const, e7]; go_simp))
          · as_aux_lemma =>
              have e47 := (hS 3 47 rfl (hdn 3 (by decide)) (Nat.le_of_ble_eq_true rfl)).trans (hJ.says (hdn 3 (by decide)) rfl)
              have e9 : az.eval (.tmp 9) = .pointer (some ⟨b_t9, 0, none⟩) := hO 9 rfl
              exact po_run 58 (Op.load 29 (Operand.tmp 9)) _ HWF hJ rfl hE rfl rfl rfl rfl rfl (wanted_of rfl rfl e47) (exec_load_as _ _ _ _ (qT (qMul bT C)) e9 arrQ (Keep.row hE r_t9 rfl) (by omega) (fun i hi => by rw [Nat.zero_add]))
          · as_aux_lemma =>
              have e47 := (hS 3 47 rfl (hdn 3 (by decide)) (Nat.le_of_ble_eq_true rfl)).trans (hJ.says (hdn 3 (by decide)) rfl)
              have e10 : az.eval (.tmp 10) = .pointer (some ⟨b_t10, 0, none⟩) := hO 10 rfl
              exact po_run 59 (Op.load 29 (Operand.tmp 10)) _ HWF hJ rfl hE rfl rfl rfl rfl rfl (wanted_of rfl rfl e47) (exec_load_as _ _ _ _ (qT (qMul bT D)) e10 arrQ (Keep.row hE r_t10 rfl) (by omega) (fun i hi => by rw [Nat.zero_add]))
          · as_aux_lemma =>
              have e47 := (hS 3 47 rfl (hdn 3 (by decide)) (Nat.le_of_ble_eq_true rfl)).trans (hJ.says (hdn 3 (by decide)) rfl)
              have e58 := (hS 14 58 rfl (hdn 14 (by decide)) (Nat.le_of_ble_eq_true rfl)).trans (hJ.says (hdn 14 (by decide)) rfl)
              have e59 := (hS 15 59 rfl (hdn 15 (by decide)) (Nat.le_of_ble_eq_true rfl)).trans (hJ.says (hdn 15 (by decide)) rfl)
              have e57 := (hS 13 57 rfl (hdn 13 (by decide)) (Nat.le_of_ble_eq_true rfl)).trans (hJ.says (hdn 13 (by decide)) rfl)
              exact po_callv 60 22 (.tmp 57) #[Operand.tmp 58, Operand.tmp 59] #[29, 29] _ HWF hJ rfl hE (qTAdd_any (qMul bT C) (qMul bT D) _ (LtT.oft _ _ _) (LtT.oft _ _ _)) rfl rfl rfl rfl e57 (wanted_of rfl rfl e47) Try.func22 (by kernel_rfl) (by kernel_rfl) (by simp only [List.map_toArray, List.map_cons, List.map_nil, eval_const, eval_func, e58, e59] <;> rfl)
          · as_aux_lemma =>
              have e47 := (hS 3 47 rfl (hdn 3 (by decide)) (Nat.le_of_ble_eq_true rfl)).trans (hJ.says (hdn 3 (by decide)) rfl)
              have e56 := (hS 12 56 rfl (hdn 12 (by decide)) (Nat.le_of_ble_eq_true rfl)).trans (hJ.says (hdn 12 (by decide)) rfl)
              have e60 := (hS 16 60 rfl (hdn 16 (by decide)) (Nat.le_of_ble_eq_true rfl)).trans (hJ.says (hdn 16 (by decide)) rfl)
              have e55 := (hS 11 55 rfl (hdn 11 (by decide)) (Nat.le_of_ble_eq_true rfl)).trans (hJ.says (hdn 11 (by decide)) rfl)
              exact po_callv 61 22 (.tmp 55) #[Operand.tmp 56, Operand.tmp 60] #[29, 29] _ HWF hJ rfl hE (qTAdd_any (qMul bT A) (qAdd (qMul bT C) (qMul bT D)) _ (LtT.oft _ _ _) (LtT.qAdd _ _)) rfl rfl rfl rfl e55 (wanted_of rfl rfl e47) Try.func22 (by kernel_rfl) (by kernel_rfl) (by simp only [List.map_toArray, List.map_cons, List.map_nil, eval_const, eval_func, e56, e60] <;> rfl)
          · as_aux_lemma =>
              have e47 := (hS 3 47 rfl (hdn 3 (by decide)) (Nat.le_of_ble_eq_true rfl)).trans (hJ.says (hdn 3 (by decide)) rfl)
              have e54 := (hS 10 54 rfl (hdn 10 (by decide)) (Nat.le_of_ble_eq_true rfl)).trans (hJ.says (hdn 10 (by decide)) rfl)
              have e61 := (hS 17 61 rfl (hdn 17 (by decide)) (Nat.le_of_ble_eq_true rfl)).trans (hJ.says (hdn 17 (by decide)) rfl)
              exact po_call 62 26 #[Operand.tmp 54, Operand.tmp 61] #[29, 29] _ HWF hJ rfl hE (qTSame_to (qAdd (qAdd (qMul bT A) (qMul bT C)) (qMul bT D)) (qAdd (qMul bT A) (qAdd (qMul bT C) (qMul bT D))) true _ (LtT.qAdd _ _) (LtT.qAdd _ _) ((RQ.same (RQ.add (RQ.add (RQ.mul RQ.base HA.out) (RQ.mul RQ.base HC.out)) (RQ.mul RQ.base HD.out)) (RQ.add (RQ.mul RQ.base HA.out) (RQ.add (RQ.mul RQ.base HC.out) (RQ.mul RQ.base HD.out)))).trans (decide_eq_true (addE_assoc (RQ.mul RQ.base HA.out).on (RQ.mul RQ.base HC.out).on (RQ.mul RQ.base HD.out).on)))) rfl rfl rfl rfl (wanted_of rfl rfl e47) Try.func26 (by kernel_rfl) (by kernel_rfl) (by simp only [List.map_toArray, List.map_cons, List.map_nil, eval_const, eval_func, e54, e61] <;> rfl)
          · as_aux_lemma =>
              have e47 := (hS 3 47 rfl (hdn 3 (by decide)) (Nat.le_of_ble_eq_true rfl)).trans (hJ.says (hdn 3 (by decide)) rfl)
              have e62 := (hS 18 62 rfl (hdn 18 (by decide)) (Nat.le_of_ble_eq_true rfl)).trans (hJ.says (hdn 18 (by decide)) rfl)
              exact po_run 63 (Op.pick (Operand.tmp 47) (Operand.tmp 62) (Operand.const (Value.bool false))) _ HWF hJ rfl hE rfl rfl rfl rfl rfl rfl (by first | (simp only [execOp, mkOp, eval_const, e47, e62]; done) | (simp only [execOp, mkOp, eval_const, e47, e62]; go_simp))
          · as_aux_lemma =>
              have e63 := (hS 19 63 rfl (hdn 19 (by decide)) (Nat.le_of_ble_eq_true rfl)).trans (hJ.says (hdn 19 (by decide)) rfl)
              exact po_run 64 (Op.move (Operand.tmp 63)) _ HWF hJ rfl hE rfl rfl rfl rfl rfl rfl (by first | (simp only [execOp, mkOp, eval_const, e63]; done) | (simp only [execOp, mkOp, eval_const, e63]; go_simp))
          · as_aux_lemma =>
              have e64 := (hS 20 64 rfl (hdn 20 (by decide)) (Nat.le_of_ble_eq_true rfl)).trans (hJ.says (hdn 20 (by decide)) rfl)
              have e7 : az.eval (.tmp 7) = .func (.func 22) #[] #[] := hO 7 rfl
              exact po_run 65 (Op.move (Operand.tmp 7)) _ HWF hJ rfl hE rfl rfl rfl rfl rfl (wanted_of rfl rfl e64) (by first | (simp only [execOp, mkOp, eval_const, e7]; done) | (simp only [execOp, mkOp, eval_const, e7]; go_simp))
          · as_aux_lemma =>
              have e64 := (hS 20 64 rfl (hdn 20 (by decide)) (Nat.le_of_ble_eq_true rfl)).trans (hJ.says (hdn 20 (by decide)) rfl)
              have e8 : az.eval (.tmp 8) = .pointer (some ⟨b_t8, 0, none⟩) := hO 8 rfl
              exact po_run 66 (Op.load 29 (Operand.tmp 8)) _ HWF hJ rfl hE rfl rfl rfl rfl rfl (wanted_of rfl rfl e64) (exec_load_as _ _ _ _ (qT (qMul bT A)) e8 arrQ (Keep.row hE r_t8 rfl) (by omega) (fun i hi => by rw [Nat.zero_add]))
          · as_aux_lemma =>
              have e64 := (hS 20 64 rfl (hdn 20 (by decide)) (Nat.le_of_ble_eq_true rfl)).trans (hJ.says (hdn 20 (by decide)) rfl)
              have e11 : az.eval (.tmp 11) = .pointer (some ⟨b_t11, 0, none⟩) := hO 11 rfl
              exact po_run 67 (Op.load 29 (Operand.tmp 11)) _ HWF hJ rfl hE rfl rfl rfl rfl rfl (wanted_of rfl rfl e64) (exec_load_as _ _ _ _ (qT (0, 0, 0)) e11 arrQ (Keep.row hE r_t11 rfl) (by omega) (fun i hi => by rw [Nat.zero_add]))
          · as_aux_lemma =>
              have e64 := (hS 20 64 rfl (hdn 20 (by decide)) (Nat.le_of_ble_eq_true rfl)).trans (hJ.says (hdn 20 (by decide)) rfl)
              have e66 := (hS 22 66 rfl (hdn 22 (by decide)) (Nat.le_of_ble_eq_true rfl)).trans (hJ.says (hdn 22 (by decide)) rfl)
              have e67 := (hS 23 67 rfl (hdn 23 (by decide)) (Nat.le_of_ble_eq_true rfl)).trans (hJ.says (hdn 23 (by decide)) rfl)
              have e65 := (hS 21 65 rfl (hdn 21 (by decide)) (Nat.le_of_ble_eq_true rfl)).trans (hJ.says (hdn 21 (by decide)) rfl)
              exact po_callv 68 22 (.tmp 65) #[Operand.tmp 66, Operand.tmp 67] #[29, 29] _ HWF hJ rfl hE (qTAdd_any (qMul bT A) (0, 0, 0) _ (LtT.oft _ _ _) LtT.none) rfl rfl rfl rfl e65 (wanted_of rfl rfl e64) Try.func22 (by kernel_rfl) (by kernel_rfl) (by simp only [List.map_toArray, List.map_cons, List.map_nil, eval_const, eval_func, e66, e67] <;> rfl)
          · as_aux_lemma =>
              have e64 := (hS 20 64 rfl (hdn 20 (by decide)) (Nat.le_of_ble_eq_true rfl)).trans (hJ.says (hdn 20 (by decide)) rfl)
              have e8 : az.eval (.tmp 8) = .pointer (some ⟨b_t8, 0, none⟩) := hO 8 rfl
              exact po_run 69 (Op.load 29 (Operand.tmp 8)) _ HWF hJ rfl hE rfl rfl rfl rfl rfl (wanted_of rfl rfl e64) (exec_load_as _ _ _ _ (qT (qMul bT A)) e8 arrQ (Keep.row hE r_t8 rfl) (by omega) (fun i hi => by rw [Nat.zero_add]))
          · as_aux_lemma =>
              have e64 := (hS 20 64 rfl (hdn 20 (by decide)) (Nat.le_of_ble_eq_true rfl)).trans (hJ.says (hdn 20 (by decide)) rfl)
              have e68 := (hS 24 68 rfl (hdn 24 (by decide)) (Nat.le_of_ble_eq_true rfl)).trans (hJ.says (hdn 24 (by decide)) rfl)
              have e69 := (hS 25 69 rfl (hdn 25 (by decide)) (Nat.le_of_ble_eq_true rfl)).trans (hJ.says (hdn 25 (by decide)) rfl)
              exact po_call 70 26 #[Operand.tmp 68, Operand.tmp 69] #[29, 29] _ HWF hJ rfl hE (qTSame_to (qAdd (qMul bT A) (0, 0, 0)) (qMul bT A) true _ (LtT.qAdd _ _) (LtT.oft _ _ _) ((RQ.same (RQ.add (RQ.mul RQ.base HA.out) RQ.none) (RQ.mul RQ.base HA.out)).trans (decide_eq_true (addE_zero (RQ.mul RQ.base HA.out).on)))) rfl rfl rfl rfl (wanted_of rfl rfl e64) Try.func26 (by kernel_rfl) (by kernel_rfl) (by simp only [List.map_toArray, List.map_cons, List.map_nil, eval_const, eval_func, e68, e69] <;> rfl)
          · as_aux_lemma =>
              have e64 := (hS 20 64 rfl (hdn 20 (by decide)) (Nat.le_of_ble_eq_true rfl)).trans (hJ.says (hdn 20 (by decide)) rfl)
              have e70 := (hS 26 70 rfl (hdn 26 (by decide)) (Nat.le_of_ble_eq_true rfl)).trans (hJ.says (hdn 26 (by decide)) rfl)
              exact po_run 71 (Op.pick (Operand.tmp 64) (Operand.tmp 70) (Operand.const (Value.bool false))) _ HWF hJ rfl hE rfl rfl rfl rfl rfl rfl (by first | (simp only [execOp, mkOp, eval_const, e64, e70]; done) | (simp only [execOp, mkOp, eval_const, e64, e70]; go_simp))
          · as_aux_lemma =>
              have e71 := (hS 27 71 rfl (hdn 27 (by decide)) (Nat.le_of_ble_eq_true rfl)).trans (hJ.says (hdn 27 (by decide)) rfl)
              exact po_run 72 (Op.move (Operand.tmp 71)) _ HWF hJ rfl hE rfl rfl rfl rfl rfl rfl (by first | (simp only [execOp, mkOp, eval_const, e71]; done) | (simp only [execOp, mkOp, eval_const, e71]; go_simp))
          · as_aux_lemma =>
              have e72 := (hS 28 72 rfl (hdn 28 (by decide)) (Nat.le_of_ble_eq_true rfl)).trans (hJ.says (hdn 28 (by decide)) rfl)
              have e7 : az.eval (.tmp 7) = .func (.func 22) #[] #[] := hO 7 rfl
              exact po_run 73 (Op.move (Operand.tmp 7)) _ HWF hJ rfl hE rfl rfl rfl rfl rfl (wanted_of rfl rfl e72) (by first | (simp only [execOp, mkOp, eval_const, e7]; done) | (simp only [execOp, mkOp, eval_const, e7]; go_simp))
          · as_aux_lemma =>
              have e72 := (hS 28 72 rfl (hdn 28 (by decide)) (Nat.le_of_ble_eq_true rfl)).trans (hJ.says (hdn 28 (by decide)) rfl)
              have e8 : az.eval (.tmp 8) = .pointer (some ⟨b_t8, 0, none⟩) := hO 8 rfl
              exact po_run 74 (Op.load 29 (Operand.tmp 8)) _ HWF hJ rfl hE rfl rfl rfl rfl rfl (wanted_of rfl rfl e72) (exec_load_as _ _ _ _ (qT (qMul bT A)) e8 arrQ (Keep.row hE r_t8 rfl) (by omega) (fun i hi => by rw [Nat.zero_add]))
          · as_aux_lemma =>
              have e72 := (hS 28 72 rfl (hdn 28 (by decide)) (Nat.le_of_ble_eq_true rfl)).trans (hJ.says (hdn 28 (by decide)) rfl)
              have e8 : az.eval (.tmp 8) = .pointer (some ⟨b_t8, 0, none⟩) := hO 8 rfl
              exact po_run 75 (Op.load 29 (Operand.tmp 8)) _ HWF hJ rfl hE rfl rfl rfl rfl rfl (wanted_of rfl rfl e72) (exec_load_as _ _ _ _ (qT (qMul bT A)) e8 arrQ (Keep.row hE r_t8 rfl) (by omega) (fun i hi => by rw [Nat.zero_add]))
          · as_aux_lemma =>
              have e72 := (hS 28 72 rfl (hdn 28 (by decide)) (Nat.le_of_ble_eq_true rfl)).trans (hJ.says (hdn 28 (by decide)) rfl)
              have e75 := (hS 31 75 rfl (hdn 31 (by decide)) (Nat.le_of_ble_eq_true rfl)).trans (hJ.says (hdn 31 (by decide)) rfl)
              exact po_call 76 24 #[Operand.tmp 75] #[29] _ HWF hJ rfl hE (qTNeg_any (qMul bT A) _ (LtT.oft _ _ _)) rfl rfl rfl rfl (wanted_of rfl rfl e72) Try.func24 (by kernel_rfl) (by kernel_rfl) (by simp only [List.map_toArray, List.map_cons, List.map_nil, eval_const, eval_func, e75] <;> rfl)
          · as_aux_lemma =>
              have e72 := (hS 28 72 rfl (hdn 28 (by decide)) (Nat.le_of_ble_eq_true rfl)).trans (hJ.says (hdn 28 (by decide)) rfl)
              have e74 := (hS 30 74 rfl (hdn 30 (by decide)) (Nat.le_of_ble_eq_true rfl)).trans (hJ.says (hdn 30 (by decide)) rfl)
              have e76 := (hS 32 76 rfl (hdn 32 (by decide)) (Nat.le_of_ble_eq_true rfl)).trans (hJ.says (hdn 32 (by decide)) rfl)
              have e73 := (hS 29 73 rfl (hdn 29 (by decide)) (Nat.le_of_ble_eq_true rfl)).trans (hJ.says (hdn 29 (by decide)) rfl)
              exact po_callv 77 22 (.tmp 73) #[Operand.tmp 74, Operand.tmp 76] #[29, 29] _ HWF hJ rfl hE (qTAdd_any (qMul bT A) (pneg (qMul bT A)) _ (LtT.oft _ _ _) (LtT.neg (LtT.oft _ _ _))) rfl rfl rfl rfl e73 (wanted_of rfl rfl e72) Try.func22 (by kernel_rfl) (by kernel_rfl) (by simp only [List.map_toArray, List.map_cons, List.map_nil, eval_const, eval_func, e74, e76] <;> rfl)
          · as_aux_lemma =>
              have e72 := (hS 28 72 rfl (hdn 28 (by decide)) (Nat.le_of_ble_eq_true rfl)).trans (hJ.says (hdn 28 (by decide)) rfl)
              have e11 : az.eval (.tmp 11) = .pointer (some ⟨b_t11, 0, none⟩) := hO 11 rfl
              exact po_run 78 (Op.load 29 (Operand.tmp 11)) _ HWF hJ rfl hE rfl rfl rfl rfl rfl (wanted_of rfl rfl e72) (exec_load_as _ _ _ _ (qT (0, 0, 0)) e11 arrQ (Keep.row hE r_t11 rfl) (by omega) (fun i hi => by rw [Nat.zero_add]))
          · as_aux_lemma =>
              have e72 := (hS 28 72 rfl (hdn 28 (by decide)) (Nat.le_of_ble_eq_true rfl)).trans (hJ.says (hdn 28 (by decide)) rfl)
              have e77 := (hS 33 77 rfl (hdn 33 (by decide)) (Nat.le_of_ble_eq_true rfl)).trans (hJ.says (hdn 33 (by decide)) rfl)
              have e78 := (hS 34 78 rfl (hdn 34 (by decide)) (Nat.le_of_ble_eq_true rfl)).trans (hJ.says (hdn 34 (by decide)) rfl)
              exact po_call 79 26 #[Operand.tmp 77, Operand.tmp 78] #[29, 29] _ HWF hJ rfl hE (qTSame_to (qAdd (qMul bT A) (pneg (qMul bT A))) (0, 0, 0) true _ (LtT.qAdd _ _) LtT.none ((RQ.same (RQ.add (RQ.mul RQ.base HA.out) (RQ.neg (RQ.mul RQ.base HA.out))) RQ.none).trans (decide_eq_true (addE_neg (RQ.mul RQ.base HA.out).on)))) rfl rfl rfl rfl (wanted_of rfl rfl e72) Try.func26 (by kernel_rfl) (by kernel_rfl) (by simp only [List.map_toArray, List.map_cons, List.map_nil, eval_const, eval_func, e77, e78] <;> rfl)
          · as_aux_lemma =>
              have e72 := (hS 28 72 rfl (hdn 28 (by decide)) (Nat.le_of_ble_eq_true rfl)).trans (hJ.says (hdn 28 (by decide)) rfl)
              have e79 := (hS 35 79 rfl (hdn 35 (by decide)) (Nat.le_of_ble_eq_true rfl)).trans (hJ.says (hdn 35 (by decide)) rfl)
              exact po_run 80 (Op.pick (Operand.tmp 72) (Operand.tmp 79) (Operand.const (Value.bool false))) _ HWF hJ rfl hE rfl rfl rfl rfl rfl rfl (by first | (simp only [execOp, mkOp, eval_const, e72, e79]; done) | (simp only [execOp, mkOp, eval_const, e72, e79]; go_simp))
          · as_aux_lemma =>
              have e80 := (hS 36 80 rfl (hdn 36 (by decide)) (Nat.le_of_ble_eq_true rfl)).trans (hJ.says (hdn 36 (by decide)) rfl)
              exact po_run 81 (Op.move (Operand.tmp 80)) _ HWF hJ rfl hE rfl rfl rfl rfl rfl rfl (by first | (simp only [execOp, mkOp, eval_const, e80]; done) | (simp only [execOp, mkOp, eval_const, e80]; go_simp))
          · as_aux_lemma =>
              have e81 := (hS 37 81 rfl (hdn 37 (by decide)) (Nat.le_of_ble_eq_true rfl)).trans (hJ.says (hdn 37 (by decide)) rfl)
              have e7 : az.eval (.tmp 7) = .func (.func 22) #[] #[] := hO 7 rfl
              exact po_run 82 (Op.move (Operand.tmp 7)) _ HWF hJ rfl hE rfl rfl rfl rfl rfl (wanted_of rfl rfl e81) (by first | (simp only [execOp, mkOp, eval_const, e7]; done) | (simp only [execOp, mkOp, eval_const, e7]; go_simp))
          · as_aux_lemma =>
              have e81 := (hS 37 81 rfl (hdn 37 (by decide)) (Nat.le_of_ble_eq_true rfl)).trans (hJ.says (hdn 37 (by decide)) rfl)
              have e8 : az.eval (.tmp 8) = .pointer (some ⟨b_t8, 0, none⟩) := hO 8 rfl
              exact po_run 83 (Op.load 29 (Operand.tmp 8)) _ HWF hJ rfl hE rfl rfl rfl rfl rfl (wanted_of rfl rfl e81) (exec_load_as _ _ _ _ (qT (qMul bT A)) e8 arrQ (Keep.row hE r_t8 rfl) (by omega) (fun i hi => by rw [Nat.zero_add]))
          · as_aux_lemma =>
              have e81 := (hS 37 81 rfl (hdn 37 (by decide)) (Nat.le_of_ble_eq_true rfl)).trans (hJ.says (hdn 37 (by decide)) rfl)
              have e9 : az.eval (.tmp 9) = .pointer (some ⟨b_t9, 0, none⟩) := hO 9 rfl
              exact po_run 84 (Op.load 29 (Operand.tmp 9)) _ HWF hJ rfl hE rfl rfl rfl rfl rfl (wanted_of rfl rfl e81) (exec_load_as _ _ _ _ (qT (qMul bT C)) e9 arrQ (Keep.row hE r_t9 rfl) (by omega) (fun i hi => by rw [Nat.zero_add]))
          · as_aux_lemma =>
              have e81 := (hS 37 81 rfl (hdn 37 (by decide)) (Nat.le_of_ble_eq_true rfl)).trans (hJ.says (hdn 37 (by decide)) rfl)
              have e83 := (hS 39 83 rfl (hdn 39 (by decide)) (Nat.le_of_ble_eq_true rfl)).trans (hJ.says (hdn 39 (by decide)) rfl)
              have e84 := (hS 40 84 rfl (hdn 40 (by decide)) (Nat.le_of_ble_eq_true rfl)).trans (hJ.says (hdn 40 (by decide)) rfl)
              have e82 := (hS 38 82 rfl (hdn 38 (by decide)) (Nat.le_of_ble_eq_true rfl)).trans (hJ.says (hdn 38 (by decide)) rfl)
              exact po_callv 85 22 (.tmp 82) #[Operand.tmp 83, Operand.tmp 84] #[29, 29] _ HWF hJ rfl hE (qTAdd_any (qMul bT A) (qMul bT C) _ (LtT.oft _ _ _) (LtT.oft _ _ _)) rfl rfl rfl rfl e82 (wanted_of rfl rfl e81) Try.func22 (by kernel_rfl) (by kernel_rfl) (by simp only [List.map_toArray, List.map_cons, List.map_nil, eval_const, eval_func, e83, e84] <;> rfl)
          · as_aux_lemma =>
              have e81 := (hS 37 81 rfl (hdn 37 (by decide)) (Nat.le_of_ble_eq_true rfl)).trans (hJ.says (hdn 37 (by decide)) rfl)
              exact po_call 86 16 #[] #[] _ HWF hJ rfl hE (qTBase_any _) rfl rfl rfl rfl (wanted_of rfl rfl e81) Try.func16 (by kernel_rfl) (by kernel_rfl) (by simp only [List.map_toArray, List.map_cons, List.map_nil, eval_const, eval_func] <;> rfl)
          · as_aux_lemma =>
              have e81 := (hS 37 81 rfl (hdn 37 (by decide)) (Nat.le_of_ble_eq_true rfl)).trans (hJ.says (hdn 37 (by decide)) rfl)
              have e0 : az.eval (.tmp 0) = .slice ad0 n0 c0 := hO 0 rfl
              exact po_run 87 (Op.move (Operand.tmp 0)) _ HWF hJ rfl hE rfl rfl rfl rfl rfl (wanted_of rfl rfl e81) (by first | (simp only [execOp, mkOp, eval_const, e0]; done) | (simp only [execOp, mkOp, eval_const, e0]; go_simp))
          · as_aux_lemma =>
              have e81 := (hS 37 81 rfl (hdn 37 (by decide)) (Nat.le_of_ble_eq_true rfl)).trans (hJ.says (hdn 37 (by decide)) rfl)
              have e87 := (hS 43 87 rfl (hdn 43 (by decide)) (Nat.le_of_ble_eq_true rfl)).trans (hJ.says (hdn 43 (by decide)) rfl)
              exact po_call 88 18 #[Operand.tmp 87] #[22] _ HWF hJ rfl hE (sWide_to _ (l0) _ (Bs.below f_s0 (Keep.nil hE) (Nat.le_refl _)) (A) HNA.out) rfl rfl rfl rfl (wanted_of rfl rfl e81) Try.func18 (by kernel_rfl) (by kernel_rfl) (by simp only [List.map_toArray, List.map_cons, List.map_nil, eval_const, eval_func, e87] <;> rfl)
          · as_aux_lemma =>
              have e81 := (hS 37 81 rfl (hdn 37 (by decide)) (Nat.le_of_ble_eq_true rfl)).trans (hJ.says (hdn 37 (by decide)) rfl)
              have e1 : az.eval (.tmp 1) = .slice ad1 n1 c1 := hO 1 rfl
              exact po_run 89 (Op.move (Operand.tmp 1)) _ HWF hJ rfl hE rfl rfl rfl rfl rfl (wanted_of rfl rfl e81) (by first | (simp only [execOp, mkOp, eval_const, e1]; done) | (simp only [execOp, mkOp, eval_const, e1]; go_simp))
          · as_aux_lemma =>
              have e81 := (hS 37 81 rfl (hdn 37 (by decide)) (Nat.le_of_ble_eq_true rfl)).trans (hJ.says (hdn 37 (by decide)) rfl)
              have e89 := (hS 45 89 rfl (hdn 45 (by decide)) (Nat.le_of_ble_eq_true rfl)).trans (hJ.says (hdn 45 (by decide)) rfl)
              exact po_call 90 18 #[Operand.tmp 89] #[22] _ HWF hJ rfl hE (sWide_to _ (l1) _ (Bs.below f_s1 (Keep.nil hE) (Nat.le_refl _)) (C) HNC.out) rfl rfl rfl rfl (wanted_of rfl rfl e81) Try.func18 (by kernel_rfl) (by kernel_rfl) (by simp only [List.map_toArray, List.map_cons, List.map_nil, eval_const, eval_func, e89] <;> rfl)
          · as_aux_lemma =>
              have e81 := (hS 37 81 rfl (hdn 37 (by decide)) (Nat.le_of_ble_eq_true rfl)).trans (hJ.says (hdn 37 (by decide)) rfl)
              have e88 := (hS 44 88 rfl (hdn 44 (by decide)) (Nat.le_of_ble_eq_true rfl)).trans (hJ.says (hdn 44 (by decide)) rfl)
              have e90 := (hS 46 90 rfl (hdn 46 (by decide)) (Nat.le_of_ble_eq_true rfl)).trans (hJ.says (hdn 46 (by decide)) rfl)
              exact po_call 91 29 #[Operand.tmp 88, Operand.tmp 90] #[45, 45] _ HWF hJ rfl hE (sAdd_any A C _ HA.out HC.out) rfl rfl rfl rfl (wanted_of rfl rfl e81) Try.func29 (by kernel_rfl) (by kernel_rfl) (by simp only [List.map_toArray, List.map_cons, List.map_nil, eval_const, eval_func, e88, e90] <;> rfl)
          · as_aux_lemma =>
              have e81 := (hS 37 81 rfl (hdn 37 (by decide)) (Nat.le_of_ble_eq_true rfl)).trans (hJ.says (hdn 37 (by decide)) rfl)
              have e86 := (hS 42 86 rfl (hdn 42 (by decide)) (Nat.le_of_ble_eq_true rfl)).trans (hJ.says (hdn 42 (by decide)) rfl)
              have e91 := (hS 47 91 rfl (hdn 47 (by decide)) (Nat.le_of_ble_eq_true rfl)).trans (hJ.says (hdn 47 (by decide)) rfl)
              exact po_call 92 17 #[Operand.tmp 86, Operand.tmp 91] #[29, 45] _ HWF hJ rfl hE (qTMul_any bT ((A + C) % ordL) _ LtT.base) rfl rfl rfl rfl (wanted_of rfl rfl e81) Try.func17 (by kernel_rfl) (by kernel_rfl) (by simp only [List.map_toArray, List.map_cons, List.map_nil, eval_const, eval_func, e86, e91] <;> rfl)
          · as_aux_lemma =>
              have e81 := (hS 37 81 rfl (hdn 37 (by decide)) (Nat.le_of_ble_eq_true rfl)).trans (hJ.says (hdn 37 (by decide)) rfl)
              have e85 := (hS 41 85 rfl (hdn 41 (by decide)) (Nat.le_of_ble_eq_true rfl)).trans (hJ.says (hdn 41 (by decide)) rfl)
              have e92 := (hS 48 92 rfl (hdn 48 (by decide)) (Nat.le_of_ble_eq_true rfl)).trans (hJ.says (hdn 48 (by decide)) rfl)
              exact po_call 93 26 #[Operand.tmp 85, Operand.tmp 92] #[29, 29] _ HWF hJ rfl hE (qTSame_to (qAdd (qMul bT A) (qMul bT C)) (qMul bT ((A + C) % ordL)) true _ (LtT.qAdd _ _) (LtT.oft _ _ _) ((RQ.same (RQ.add (RQ.mul RQ.base HA.out) (RQ.mul RQ.base HC.out)) (RQ.mul RQ.base (Nat.mod_lt _ ordL_pos))).trans (decide_eq_true ((mulE_add ptB_on A C).symm.trans (mulE_mod ptB_on ordL_zero (A + C)).symm)))) rfl rfl rfl rfl (wanted_of rfl rfl e81) Try.func26 (by kernel_rfl) (by kernel_rfl) (by simp only [List.map_toArray, List.map_cons, List.map_nil, eval_const, eval_func, e85, e92] <;> rfl)
          · as_aux_lemma =>
              have e81 := (hS 37 81 rfl (hdn 37 (by decide)) (Nat.le_of_ble_eq_true rfl)).trans (hJ.says (hdn 37 (by decide)) rfl)
              have e93 := (hS 49 93 rfl (hdn 49 (by decide)) (Nat.le_of_ble_eq_true rfl)).trans (hJ.says (hdn 49 (by decide)) rfl)
              exact po_run 94 (Op.pick (Operand.tmp 81) (Operand.tmp 93) (Operand.const (Value.bool false))) _ HWF hJ rfl hE rfl rfl rfl rfl rfl rfl (by first | (simp only [execOp, mkOp, eval_const, e81, e93]; done) | (simp only [execOp, mkOp, eval_const, e81, e93]; go_simp))
          · as_aux_lemma =>
              have e94 := (hS 50 94 rfl (hdn 50 (by decide)) (Nat.le_of_ble_eq_true rfl)).trans (hJ.says (hdn 50 (by decide)) rfl)
              exact po_run 95 (Op.move (Operand.tmp 94)) _ HWF hJ rfl hE rfl rfl rfl rfl rfl rfl (by first | (simp only [execOp, mkOp, eval_const, e94]; done) | (simp only [execOp, mkOp, eval_const, e94]; go_simp))
          · as_aux_lemma =>
              have e95 := (hS 51 95 rfl (hdn 51 (by decide)) (Nat.le_of_ble_eq_true rfl)).trans (hJ.says (hdn 51 (by decide)) rfl)
              have e8 : az.eval (.tmp 8) = .pointer (some ⟨b_t8, 0, none⟩) := hO 8 rfl
              exact po_run 96 (Op.load 29 (Operand.tmp 8)) _ HWF hJ rfl hE rfl rfl rfl rfl rfl (wanted_of rfl rfl e95) (exec_load_as _ _ _ _ (qT (qMul bT A)) e8 arrQ (Keep.row hE r_t8 rfl) (by omega) (fun i hi => by rw [Nat.zero_add]))
          · as_aux_lemma =>
              have e95 := (hS 51 95 rfl (hdn 51 (by decide)) (Nat.le_of_ble_eq_true rfl)).trans (hJ.says (hdn 51 (by decide)) rfl)
              have e96 := (hS 52 96 rfl (hdn 52 (by decide)) (Nat.le_of_ble_eq_true rfl)).trans (hJ.says (hdn 52 (by decide)) rfl)
              exact po_call 97 28 #[Operand.tmp 96, Operand.const (Value.int IntKind.i64 3)] #[29, 3] _ HWF hJ rfl hE (pTimes_c3 (qMul bT A) _ (LtT.oft _ _ _)) rfl rfl rfl rfl (wanted_of rfl rfl e95) Try.func28 (by kernel_rfl) (by kernel_rfl) (by simp only [List.map_toArray, List.map_cons, List.map_nil, eval_const, eval_func, e96] <;> rfl)
          · as_aux_lemma =>
              have e95 := (hS 51 95 rfl (hdn 51 (by decide)) (Nat.le_of_ble_eq_true rfl)).trans (hJ.says (hdn 51 (by decide)) rfl)
              have e7 : az.eval (.tmp 7) = .func (.func 22) #[] #[] := hO 7 rfl
              exact po_run 98 (Op.move (Operand.tmp 7)) _ HWF hJ rfl hE rfl rfl rfl rfl rfl (wanted_of rfl rfl e95) (by first | (simp only [execOp, mkOp, eval_const, e7]; done) | (simp only [execOp, mkOp, eval_const, e7]; go_simp))
          · as_aux_lemma =>
              have e95 := (hS 51 95 rfl (hdn 51 (by decide)) (Nat.le_of_ble_eq_true rfl)).trans (hJ.says (hdn 51 (by decide)) rfl)
              have e8 : az.eval (.tmp 8) = .pointer (some ⟨b_t8, 0, none⟩) := hO 8 rfl
              exact po_run 99 (Op.load 29 (Operand.tmp 8)) _ HWF hJ rfl hE rfl rfl rfl rfl rfl (wanted_of rfl rfl e95) (exec_load_as _ _ _ _ (qT (qMul bT A)) e8 arrQ (Keep.row hE r_t8 rfl) (by omega) (fun i hi => by rw [Nat.zero_add]))
          · as_aux_lemma =>
              have e95 := (hS 51 95 rfl (hdn 51 (by decide)) (Nat.le_of_ble_eq_true rfl)).trans (hJ.says (hdn 51 (by decide)) rfl)
              have e7 : az.eval (.tmp 7) = .func (.func 22) #[] #[] := hO 7 rfl
              exact po_run 100 (Op.move (Operand.tmp 7)) _ HWF hJ rfl hE rfl rfl rfl rfl rfl (wanted_of rfl rfl e95) (by first | (simp only [execOp, mkOp, eval_const, e7]; done) | (simp only [execOp, mkOp, eval_const, e7]; go_simp))
          · as_aux_lemma =>
              have e95 := (hS 51 95 rfl (hdn 51 (by decide)) (Nat.le_of_ble_eq_true rfl)).trans (hJ.says (hdn 51 (by decide)) rfl)
              have e8 : az.eval (.tmp 8) = .pointer (some ⟨b_t8, 0, none⟩) := hO 8 rfl
              exact po_run 101 (Op.load 29 (Operand.tmp 8)) _ HWF hJ rfl hE rfl rfl rfl rfl rfl (wanted_of rfl rfl e95) (exec_load_as _ _ _ _ (qT (qMul bT A)) e8 arrQ (Keep.row hE r_t8 rfl) (by omega) (fun i hi => by rw [Nat.zero_add]))
          · as_aux_lemma =>
              have e95 := (hS 51 95 rfl (hdn 51 (by decide)) (Nat.le_of_ble_eq_true rfl)).trans (hJ.says (hdn 51 (by decide)) rfl)
              have e8 : az.eval (.tmp 8) = .pointer (some ⟨b_t8, 0, none⟩) := hO 8 rfl
              exact po_run 102 (Op.load 29 (Operand.tmp 8)) _ HWF hJ rfl hE rfl rfl rfl rfl rfl (wanted_of rfl rfl e95) (exec_load_as _ _ _ _ (qT (qMul bT A)) e8 arrQ (Keep.row hE r_t8 rfl) (by omega) (fun i hi => by rw [Nat.zero_add]))
          · as_aux_lemma =>
              have e95 := (hS 51 95 rfl (hdn 51 (by decide)) (Nat.le_of_ble_eq_true rfl)).trans (hJ.says (hdn 51 (by decide)) rfl)
              have e101 := (hS 57 101 rfl (hdn 57 (by decide)) (Nat.le_of_ble_eq_true rfl)).trans (hJ.says (hdn 57 (by decide)) rfl)
              have e102 := (hS 58 102 rfl (hdn 58 (by decide)) (Nat.le_of_ble_eq_true rfl)).trans (hJ.says (hdn 58 (by decide)) rfl)
              have e100 := (hS 56 100 rfl (hdn 56 (by decide)) (Nat.le_of_ble_eq_true rfl)).trans (hJ.says (hdn 56 (by decide)) rfl)
              exact po_callv 103 22 (.tmp 100) #[Operand.tmp 101, Operand.tmp 102] #[29, 29] _ HWF hJ rfl hE (qTAdd_any (qMul bT A) (qMul bT A) _ (LtT.oft _ _ _) (LtT.oft _ _ _)) rfl rfl rfl rfl e100 (wanted_of rfl rfl e95) Try.func22 (by kernel_rfl) (by kernel_rfl) (by simp only [List.map_toArray, List.map_cons, List.map_nil, eval_const, eval_func, e101, e102] <;> rfl)
          · as_aux_lemma =>
              have e95 := (hS 51 95 rfl (hdn 51 (by decide)) (Nat.le_of_ble_eq_true rfl)).trans (hJ.says (hdn 51 (by decide)) rfl)
              have e99 := (hS 55 99 rfl (hdn 55 (by decide)) (Nat.le_of_ble_eq_true rfl)).trans (hJ.says (hdn 55 (by decide)) rfl)
              have e103 := (hS 59 103 rfl (hdn 59 (by decide)) (Nat.le_of_ble_eq_true rfl)).trans (hJ.says (hdn 59 (by decide)) rfl)
              have e98 := (hS 54 98 rfl (hdn 54 (by decide)) (Nat.le_of_ble_eq_true rfl)).trans (hJ.says (hdn 54 (by decide)) rfl)
              exact po_callv 104 22 (.tmp 98) #[Operand.tmp 99, Operand.tmp 103] #[29, 29] _ HWF hJ rfl hE (qTAdd_any (qMul bT A) (qAdd (qMul bT A) (qMul bT A)) _ (LtT.oft _ _ _) (LtT.qAdd _ _)) rfl rfl rfl rfl e98 (wanted_of rfl rfl e95) Try.func22 (by kernel_rfl) (by kernel_rfl) (by simp only [List.map_toArray, List.map_cons, List.map_nil, eval_const, eval_func, e99, e103] <;> rfl)
          · as_aux_lemma =>
              have e95 := (hS 51 95 rfl (hdn 51 (by decide)) (Nat.le_of_ble_eq_true rfl)).trans (hJ.says (hdn 51 (by decide)) rfl)
              have e97 := (hS 53 97 rfl (hdn 53 (by decide)) (Nat.le_of_ble_eq_true rfl)).trans (hJ.says (hdn 53 (by decide)) rfl)
              have e104 := (hS 60 104 rfl (hdn 60 (by decide)) (Nat.le_of_ble_eq_true rfl)).trans (hJ.says (hdn 60 (by decide)) rfl)
              exact po_call 105 26 #[Operand.tmp 97, Operand.tmp 104] #[29, 29] _ HWF hJ rfl hE (qTSame_to (qTim (qMul bT A) 3) (qAdd (qMul bT A) (qAdd (qMul bT A) (qMul bT A))) true _ (LtT.oft _ _ _) (LtT.qAdd _ _) ((RQ.same (RQ.tim (RQ.mul RQ.base HA.out) (by decide)) (RQ.add (RQ.mul RQ.base HA.out) (RQ.add (RQ.mul RQ.base HA.out) (RQ.mul RQ.base HA.out)))).trans (decide_eq_true (mulE_three (RQ.mul RQ.base HA.out).on)))) rfl rfl rfl rfl (wanted_of rfl rfl e95) Try.func26 (by kernel_rfl) (by kernel_rfl) (by simp only [List.map_toArray, List.map_cons, List.map_nil, eval_const, eval_func, e97, e104] <;> rfl)
          · as_aux_lemma =>
              have e95 := (hS 51 95 rfl (hdn 51 (by decide)) (Nat.le_of_ble_eq_true rfl)).trans (hJ.says (hdn 51 (by decide)) rfl)
              have e105 := (hS 61 105 rfl (hdn 61 (by decide)) (Nat.le_of_ble_eq_true rfl)).trans (hJ.says (hdn 61 (by decide)) rfl)
              exact po_run 106 (Op.pick (Operand.tmp 95) (Operand.tmp 105) (Operand.const (Value.bool false))) _ HWF hJ rfl hE rfl rfl rfl rfl rfl rfl (by first | (simp only [execOp, mkOp, eval_const, e95, e105]; done) | (simp only [execOp, mkOp, eval_const, e95, e105]; go_simp))
          · as_aux_lemma =>
              have e106 := (hS 62 106 rfl (hdn 62 (by decide)) (Nat.le_of_ble_eq_true rfl)).trans (hJ.says (hdn 62 (by decide)) rfl)
              exact po_run 107 (Op.move (Operand.tmp 106)) _ HWF hJ rfl hE rfl rfl rfl rfl rfl rfl (by first | (simp only [execOp, mkOp, eval_const, e106]; done) | (simp only [execOp, mkOp, eval_const, e106]; go_simp))
          · as_aux_lemma =>
              have e107 := (hS 63 107 rfl (hdn 63 (by decide)) (Nat.le_of_ble_eq_true rfl)).trans (hJ.says (hdn 63 (by decide)) rfl)
              have e8 : az.eval (.tmp 8) = .pointer (some ⟨b_t8, 0, none⟩) := hO 8 rfl
              exact po_run 108 (Op.load 29 (Operand.tmp 8)) _ HWF hJ rfl hE rfl rfl rfl rfl rfl (wanted_of rfl rfl e107) (exec_load_as _ _ _ _ (qT (qMul bT A)) e8 arrQ (Keep.row hE r_t8 rfl) (by omega) (fun i hi => by rw [Nat.zero_add]))
          · as_aux_lemma =>
              have e107 := (hS 63 107 rfl (hdn 63 (by decide)) (Nat.le_of_ble_eq_true rfl)).trans (hJ.says (hdn 63 (by decide)) rfl)
              have e108 := (hS 64 108 rfl (hdn 64 (by decide)) (Nat.le_of_ble_eq_true rfl)).trans (hJ.says (hdn 64 (by decide)) rfl)
              exact po_call 109 28 #[Operand.tmp 108, Operand.const (Value.int IntKind.i64 0)] #[29, 3] _ HWF hJ rfl hE (pTimes_c0 (qMul bT A) _ (LtT.oft _ _ _)) rfl rfl rfl rfl (wanted_of rfl rfl e107) Try.func28 (by kernel_rfl) (by kernel_rfl) (by simp only [List.map_toArray, List.map_cons, List.map_nil, eval_const, eval_func, e108] <;> rfl)
          · as_aux_lemma =>
              have e107 := (hS 63 107 rfl (hdn 63 (by decide)) (Nat.le_of_ble_eq_true rfl)).trans (hJ.says (hdn 63 (by decide)) rfl)
              have e11 : az.eval (.tmp 11) = .pointer (some ⟨b_t11, 0, none⟩) := hO 11 rfl
              exact po_run 110 (Op.load 29 (Operand.tmp 11)) _ HWF hJ rfl hE rfl rfl rfl rfl rfl (wanted_of rfl rfl e107) (exec_load_as _ _ _ _ (qT (0, 0, 0)) e11 arrQ (Keep.row hE r_t11 rfl) (by omega) (fun i hi => by rw [Nat.zero_add]))
          · as_aux_lemma =>
              have e107 := (hS 63 107 rfl (hdn 63 (by decide)) (Nat.le_of_ble_eq_true rfl)).trans (hJ.says (hdn 63 (by decide)) rfl)
              have e109 := (hS 65 109 rfl (hdn 65 (by decide)) (Nat.le_of_ble_eq_true rfl)).trans (hJ.says (hdn 65 (by decide)) rfl)
              have e110 := (hS 66 110 rfl (hdn 66 (by decide)) (Nat.le_of_ble_eq_true rfl)).trans (hJ.says (hdn 66 (by decide)) rfl)
              exact po_call 111 26 #[Operand.tmp 109, Operand.tmp 110] #[29, 29] _ HWF hJ rfl hE (qTSame_to (qTim (qMul bT A) 0) (0, 0, 0) true _ (LtT.oft _ _ _) LtT.none ((RQ.same (RQ.tim (RQ.mul RQ.base HA.out) (by decide)) RQ.none).trans (decide_eq_true (rfl)))) rfl rfl rfl rfl (wanted_of rfl rfl e107) Try.func26 (by kernel_rfl) (by kernel_rfl) (by simp only [List.map_toArray, List.map_cons, List.map_nil, eval_const, eval_func, e109, e110] <;> rfl)
          · as_aux_lemma =>
              have e107 := (hS 63 107 rfl (hdn 63 (by decide)) (Nat.le_of_ble_eq_true rfl)).trans (hJ.says (hdn 63 (by decide)) rfl)
              have e111 := (hS 67 111 rfl (hdn 67 (by decide)) (Nat.le_of_ble_eq_true rfl)).trans (hJ.says (hdn 67 (by decide)) rfl)
              exact po_run 112 (Op.pick (Operand.tmp 107) (Operand.tmp 111) (Operand.const (Value.bool false))) _ HWF hJ rfl hE rfl rfl rfl rfl rfl rfl (by first | (simp only [execOp, mkOp, eval_const, e107, e111]; done) | (simp only [execOp, mkOp, eval_const, e107, e111]; go_simp))
          · as_aux_lemma =>
              have e112 := (hS 68 112 rfl (hdn 68 (by decide)) (Nat.le_of_ble_eq_true rfl)).trans (hJ.says (hdn 68 (by decide)) rfl)
              exact po_run 113 (Op.move (Operand.tmp 112)) _ HWF hJ rfl hE rfl rfl rfl rfl rfl rfl (by first | (simp only [execOp, mkOp, eval_const, e112]; done) | (simp only [execOp, mkOp, eval_const, e112]; go_simp))
          · as_aux_lemma =>
              have e113 := (hS 69 113 rfl (hdn 69 (by decide)) (Nat.le_of_ble_eq_true rfl)).trans (hJ.says (hdn 69 (by decide)) rfl)
              have e8 : az.eval (.tmp 8) = .pointer (some ⟨b_t8, 0, none⟩) := hO 8 rfl
              exact po_run 114 (Op.load 29 (Operand.tmp 8)) _ HWF hJ rfl hE rfl rfl rfl rfl rfl (wanted_of rfl rfl e113) (exec_load_as _ _ _ _ (qT (qMul bT A)) e8 arrQ (Keep.row hE r_t8 rfl) (by omega) (fun i hi => by rw [Nat.zero_add]))
          · as_aux_lemma =>
              have e113 := (hS 69 113 rfl (hdn 69 (by decide)) (Nat.le_of_ble_eq_true rfl)).trans (hJ.says (hdn 69 (by decide)) rfl)
              have e114 := (hS 70 114 rfl (hdn 70 (by decide)) (Nat.le_of_ble_eq_true rfl)).trans (hJ.says (hdn 70 (by decide)) rfl)
              exact po_call 115 28 #[Operand.tmp 114, Operand.const (Value.int IntKind.i64 (-1))] #[29, 3] _ HWF hJ rfl hE (pTimes_m (qMul bT A) _ (LtT.oft _ _ _)) rfl rfl rfl rfl (wanted_of rfl rfl e113) Try.func28 (by kernel_rfl) (by kernel_rfl) (by simp only [List.map_toArray, List.map_cons, List.map_nil, eval_const, eval_func, e114] <;> rfl)
          · as_aux_lemma =>
              have e113 := (hS 69 113 rfl (hdn 69 (by decide)) (Nat.le_of_ble_eq_true rfl)).trans (hJ.says (hdn 69 (by decide)) rfl)
              have e11 : az.eval (.tmp 11) = .pointer (some ⟨b_t11, 0, none⟩) := hO 11 rfl
              exact po_run 116 (Op.load 29 (Operand.tmp 11)) _ HWF hJ rfl hE rfl rfl rfl rfl rfl (wanted_of rfl rfl e113) (exec_load_as _ _ _ _ (qT (0, 0, 0)) e11 arrQ (Keep.row hE r_t11 rfl) (by omega) (fun i hi => by rw [Nat.zero_add]))
          · as_aux_lemma =>
              have e113 := (hS 69 113 rfl (hdn 69 (by decide)) (Nat.le_of_ble_eq_true rfl)).trans (hJ.says (hdn 69 (by decide)) rfl)
              have e115 := (hS 71 115 rfl (hdn 71 (by decide)) (Nat.le_of_ble_eq_true rfl)).trans (hJ.says (hdn 71 (by decide)) rfl)
              have e116 := (hS 72 116 rfl (hdn 72 (by decide)) (Nat.le_of_ble_eq_true rfl)).trans (hJ.says (hdn 72 (by decide)) rfl)
              exact po_call 117 26 #[Operand.tmp 115, Operand.tmp 116] #[29, 29] _ HWF hJ rfl hE (qTSame_to (0, 0, 0) (0, 0, 0) true _ LtT.none LtT.none ((RQ.same RQ.none RQ.none).trans (decide_eq_true (rfl)))) rfl rfl rfl rfl (wanted_of rfl rfl e113) Try.func26 (by kernel_rfl) (by kernel_rfl) (by simp only [List.map_toArray, List.map_cons, List.map_nil, eval_const, eval_func, e115, e116] <;> rfl)
          · as_aux_lemma =>
              have e113 := (hS 69 113 rfl (hdn 69 (by decide)) (Nat.le_of_ble_eq_true rfl)).trans (hJ.says (hdn 69 (by decide)) rfl)
              have e117 := (hS 73 117 rfl (hdn 73 (by decide)) (Nat.le_of_ble_eq_true rfl)).trans (hJ.says (hdn 73 (by decide)) rfl)
              exact po_run 118 (Op.pick (Operand.tmp 113) (Operand.tmp 117) (Operand.const (Value.bool false))) _ HWF hJ rfl hE rfl rfl rfl rfl rfl rfl (by first | (simp only [execOp, mkOp, eval_const, e113, e117]; done) | (simp only [execOp, mkOp, eval_const, e113, e117]; go_simp))
          · as_aux_lemma =>
              have e118 := (hS 74 118 rfl (hdn 74 (by decide)) (Nat.le_of_ble_eq_true rfl)).trans (hJ.says (hdn 74 (by decide)) rfl)
              exact po_run 119 (Op.move (Operand.tmp 118)) _ HWF hJ rfl hE rfl rfl rfl rfl rfl rfl (by first | (simp only [execOp, mkOp, eval_const, e118]; done) | (simp only [execOp, mkOp, eval_const, e118]; go_simp))
          · as_aux_lemma =>
              have e119 := (hS 75 119 rfl (hdn 75 (by decide)) (Nat.le_of_ble_eq_true rfl)).trans (hJ.says (hdn 75 (by decide)) rfl)
              exact po_call 120 9 #[] #[] _ HWF hJ rfl hE (awake8_any _) rfl rfl rfl rfl (wanted_of rfl rfl e119) Try.func9 (by kernel_rfl) (by kernel_rfl) (by simp only [List.map_toArray, List.map_cons, List.map_nil, eval_const, eval_func] <;> rfl)
          · as_aux_lemma =>
              have e119 := (hS 75 119 rfl (hdn 75 (by decide)) (Nat.le_of_ble_eq_true rfl)).trans (hJ.says (hdn 75 (by decide)) rfl)
              have e120 := (hS 76 120 rfl (hdn 76 (by decide)) (Nat.le_of_ble_eq_true rfl)).trans (hJ.says (hdn 76 (by decide)) rfl)
              exact po_run 121 (Op.pick (Operand.tmp 119) (Operand.tmp 120) (Operand.const (Value.bool false))) _ HWF hJ rfl hE rfl rfl rfl rfl rfl rfl (by first | (simp only [execOp, mkOp, eval_const, e119, e120]; done) | (simp only [execOp, mkOp, eval_const, e119, e120]; go_simp))
          · as_aux_lemma =>
              have e121 := (hS 77 121 rfl (hdn 77 (by decide)) (Nat.le_of_ble_eq_true rfl)).trans (hJ.says (hdn 77 (by decide)) rfl)
              exact po_run 6 (Op.assign (Operand.tmp 121)) _ HWF hJ rfl hE rfl rfl rfl rfl rfl rfl (by first | (simp only [execOp, mkOp, eval_const, e121]; done) | (simp only [execOp, mkOp, eval_const, e121]; go_simp))
        · have q0 := hJ.told 0 (by decide) rfl
          have q1 := hJ.told 1 (by decide) rfl
          have q2 := hJ.told 2 (by decide) rfl
          have q3 := hJ.told 3 (by decide) rfl
          have q4 := hJ.told 4 (by decide) rfl
          have q5 := hJ.told 5 (by decide) rfl
          have q6 := hJ.told 6 (by decide) rfl
          have q7 := hJ.told 7 (by decide) rfl
          have q8 := hJ.told 8 (by decide) rfl
          have q9 := hJ.told 9 (by decide) rfl
          have q10 := hJ.told 10 (by decide) rfl
          have q11 := hJ.told 11 (by decide) rfl
          have q12 := hJ.told 12 (by decide) rfl
          have q13 := hJ.told 13 (by decide) rfl
          have q14 := hJ.told 14 (by decide) rfl
          have q15 := hJ.told 15 (by decide) rfl
          have q16 := hJ.told 16 (by decide) rfl
          have q17 := hJ.told 17 (by decide) rfl
          have q18 := hJ.told 18 (by decide) rfl
          have q19 := hJ.told 19 (by decide) rfl
          have q20 := hJ.told 20 (by decide) rfl
          have q21 := hJ.told 21 (by decide) rfl
          have q22 := hJ.told 22 (by decide) rfl
          have q23 := hJ.told 23 (by decide) rfl
          have q24 := hJ.told 24 (by decide) rfl
          have q25 := hJ.told 25 (by decide) rfl
          have q26 := hJ.told 26 (by decide) rfl
          have q27 := hJ.told 27 (by decide) rfl
          have q28 := hJ.told 28 (by decide) rfl
          have q29 := hJ.told 29 (by decide) rfl
          have q30 := hJ.told 30 (by decide) rfl
          have q31 := hJ.told 31 (by decide) rfl
          have q32 := hJ.told 32 (by decide) rfl
          have q33 := hJ.told 33 (by decide) rfl
          have q34 := hJ.told 34 (by decide) rfl
          have q35 := hJ.told 35 (by decide) rfl
          have q36 := hJ.told 36 (by decide) rfl
          have q37 := hJ.told 37 (by decide) rfl
          have q38 := hJ.told 38 (by decide) rfl
          have q39 := hJ.told 39 (by decide) rfl
          have q40 := hJ.told 40 (by decide) rfl
          have q41 := hJ.told 41 (by decide) rfl
          have q42 := hJ.told 42 (by decide) rfl
          have q43 := hJ.told 43 (by decide) rfl
          have q44 := hJ.told 44 (by decide) rfl
          have q45 := hJ.told 45 (by decide) rfl
          have q46 := hJ.told 46 (by decide) rfl
          have q47 := hJ.told 47 (by decide) rfl
          have q48 := hJ.told 48 (by decide) rfl
          have q49 := hJ.told 49 (by decide) rfl
          have q50 := hJ.told 50 (by decide) rfl
          have q51 := hJ.told 51 (by decide) rfl
          have q52 := hJ.told 52 (by decide) rfl
          have q53 := hJ.told 53 (by decide) rfl
          have q54 := hJ.told 54 (by decide) rfl
          have q55 := hJ.told 55 (by decide) rfl
          have q56 := hJ.told 56 (by decide) rfl
          have q57 := hJ.told 57 (by decide) rfl
          have q58 := hJ.told 58 (by decide) rfl
          have q59 := hJ.told 59 (by decide) rfl
          have q60 := hJ.told 60 (by decide) rfl
          have q61 := hJ.told 61 (by decide) rfl
          have q62 := hJ.told 62 (by decide) rfl
          have q63 := hJ.told 63 (by decide) rfl
          have q64 := hJ.told 64 (by decide) rfl
          have q65 := hJ.told 65 (by decide) rfl
          have q66 := hJ.told 66 (by decide) rfl
          have q67 := hJ.told 67 (by decide) rfl
          have q68 := hJ.told 68 (by decide) rfl
          have q69 := hJ.told 69 (by decide) rfl
          have q70 := hJ.told 70 (by decide) rfl
          have q71 := hJ.told 71 (by decide) rfl
          have q72 := hJ.told 72 (by decide) rfl
          have q73 := hJ.told 73 (by decide) rfl
          have q74 := hJ.told 74 (by decide) rfl
          have q75 := hJ.told 75 (by decide) rfl
          have q76 := hJ.told 76 (by decide) rfl
          have q77 := hJ.told 77 (by decide) rfl
          have q78 := hJ.told 78 (by decide) rfl
          rw [putO_true _ _ _ _ _ rfl]
          simp only [putA, Nat.zero_add, Nat.reduceAdd]
          rw [q0, q1, q2, q3, q4, q5, q6, q7, q8, q9, q10, q11, q12, q13, q14, q15, q16, q17, q18, q19, q20, q21, q22, q23, q24, q25, q26, q27, q28, q29, q30, q31, q32, q33, q34, q35, q36, q37, q38, q39, q40, q41, q42, q43, q44, q45, q46, q47, q48, q49, q50, q51, q52, q53, q54, q55, q56, q57, q58, q59, q60, q61, q62, q63, q64, q65, q66, q67, q68, q69, q70, q71, q72, q73, q74, q75, q76, q77, q78]
          simp only [Act.put, List.setIfInBounds_toArray, List.set_cons_zero, List.set_cons_succ]
          refine po_end ?_
          replace r_t8 := Keep.row hE r_t8 rfl
          replace r_t9 := Keep.row hE r_t9 rfl
          replace r_t10 := Keep.row hE r_t10 rfl
          replace r_t11 := Keep.row hE r_t11 rfl
          replace f_s0 := Bs.below f_s0 (Keep.nil hE) (Nat.le_refl _)
          replace f_s1 := Bs.below f_s1 (Keep.nil hE) (Nat.le_refl _)
          replace f_s2 := Bs.below f_s2 (Keep.nil hE) (Nat.le_refl _)
          have Bw18 := hE.below Bw17 (HGS.out _ Bw17) rfl
          clear Bw17 hE hJ HWF q0 q1 q2 q3 q4 q5 q6 q7 q8 q9 q10 q11 q12 q13 q14 q15 q16 q17 q18 q19 q20 q21 q22 q23 q24 q25 q26 q27 q28 q29 q30 q31 q32 q33 q34 q35 q36 q37 q38 q39 q40 q41 q42 q43 q44 q45 q46 q47 q48 q49 q50 q51 q52 q53 q54 q55 q56 q57 q58 q59 q60 q61 q62 q63 q64 q65 q66 q67 q68 q69 q70 q71 q72 q73 q74 q75 q76 q77 q78
          go_wp2
          go_ret
          exact ⟨rfl, Bw18⟩
      · have q2 : (100 : Int) < (n2 : Int) := by omega
        clear h0 hB0 e0 h1 hB1 e1 h2 hB2 e2 d0 d1 d2
        go_enter Try.func5, Try.ntmps5
        go_wp2_with (go_at_call 9; refine (awake8_any _).mono ?_; rintro e w9 ⟨rfl, hb9⟩)
        go_ret
        exact ⟨rfl, hb9⟩
    · have q1 : (100 : Int) < (n1 : Int) := by omega
      clear h0 hB0 e0 h1 hB1 e1 h2 hB2 e2 d0 d1
      go_enter Try.func5, Try.ntmps5
      go_wp2_with (go_at_call 9; refine (awake8_any _).mono ?_; rintro e w9 ⟨rfl, hb9⟩)
      go_ret
      exact ⟨rfl, hb9⟩
  · have q0 : (100 : Int) < (n0 : Int) := by omega
    clear h0 hB0 e0 h1 hB1 e1 h2 hB2 e2 d0
    go_enter Try.func5, Try.ntmps5
    go_wp2_with (go_at_call 9; refine (awake8_any _).mono ?_; rintro e w9 ⟨rfl, hb9⟩)
    go_ret
    exact ⟨rfl, hb9⟩
end Go.Proofs.Ytphkmaihnbhgoaa
