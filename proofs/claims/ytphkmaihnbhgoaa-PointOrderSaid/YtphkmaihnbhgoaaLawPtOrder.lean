/- PointOrder, walked. -/
import Derived.Test.YtphkmaihnbhgoaaMM6
import Derived.Test.YtphkmaihnbhgoaaLawPtReads
namespace Go.Proofs.Ytphkmaihnbhgoaa
open Go.RowKit Go.Deep
set_option linter.unusedSimpArgs false
set_option linter.unusedVariables false

set_option maxHeartbeats 8000000 in
set_option maxRecDepth 100000 in
theorem law_pointOrder (w : World) (v0 : Value) (l0 : List UInt8) (h0 : Bs w v0 l0) (x1 : Int) (w1 : (Lit.int .i64 x1).wf = true) : Calls Try.prog 6 #[v0, .int .i64 x1] w fun e w' => e = .returned (.bool true) ∧ Below w.heap.size w w' := by
  obtain ⟨ad0, n0, c0, rfl, e0, y0, z0, hB0⟩ := h0.shape
  by_cases d0 : n0 ≤ 100
  · have q0 : ¬ (100 : Int) < (n0 : Int) := by omega
    have f_s0 := hB0
    have HF_s0 := Lib.hid hB0
    have Bw0 := Below.refl w.heap.size w
    have HGS : Hid (∀ wq : World, Below w.heap.size w wq → w.heap.size ≤ wq.heap.size) := Lib.hid fun wq h => h.size
    obtain ⟨A, hA⟩ := nat_var (numL (l0) 64 % ordL)
    have HA : Hid (A < ordL) := Lib.hid (by rw [hA]; exact Nat.mod_lt _ ordL_pos)
    have HNA := Lib.hid hA.symm
    clear hA
    obtain ⟨hx1, hx2⟩ := bd_i64 w1
    obtain ⟨R, hR⟩ : ∃ R : Nat, x1 % 100 = (R : Int) := ⟨(x1 % 100).toNat, by omega⟩
    obtain ⟨M, hM⟩ := nat_var (2 * R)
    have HML : Hid (M < 1000) := Lib.hid (by omega)
    have HM := Lib.hid hM
    have HRD := Lib.hid fun w => round_to x1 R w hx1 hx2 hR
    have hP := mulE_on ptB_on A
    have hRP : RQ (mulE A ptB) (qMul bT A) := RQ.mul RQ.base HA.out
    have Hp : Hid (LtT (qMul bT A)) := Lib.hid hRP.1
    obtain ⟨sb, hsb⟩ : ∃ sb, sb = decide (A = 0) := ⟨_, rfl⟩
    have HS1 : Hid (qSmall (qMul bT A) = sb) := Lib.hid (by rw [hsb, hRP.small]; exact decide_eq_decide.2 (order_eight HA.out))
    have HS2 : Hid (qSame (qMul bT A) (0, 0, 0) = sb) := Lib.hid (by rw [hsb, hRP.same RQ.none]; exact decide_eq_decide.2 (order_zero HA.out))
    have HS3 := Lib.hid hsb.symm
    obtain ⟨YL, hYL⟩ : ∃ YL, YL = litB (p25 - 1) 32 := ⟨_, rfl⟩
    have HYL : Hid (((fillL 32).set 0 (UInt8.ofNat 236)).set 31 (UInt8.ofNat 127) = YL) := Lib.hid (by rw [hYL]; exact fill_end)
    have hdy : decN YL = some ptH := by rw [hYL]; exact ptH_dec
    obtain ⟨q, hq⟩ : ∃ q, q = eT YL := ⟨_, rfl⟩
    have Rq : Hid (RQ ptH q) := Lib.hid (by have g := RQ.dec YL; rw [decP_some hdy, ← hq] at g; exact g)
    have Hq := Lib.hid Rq.out.1
    have HQ1 := Lib.hid hq.symm
    have HQ0 := Lib.hid (decE_some hdy)
    clear hx1 hx2 hR hM hsb hYL hdy hq hP hRP w1
    clear h0 hB0 e0 d0
    go_enter Try.func6, Try.ntmps6
    go_wp2_with (first
      | (have hgo := Bw0; clear hgo
         go_at_call 18
         refine (sWide_to _ (l0) _ f_s0 (A) HNA.out).mono ?_
         rintro e w5 ⟨rfl, kk⟩
         replace f_s0 := Bs.below f_s0 kk (Nat.le_refl _)
         have Bw1 := Bw0.trans (kk.mono (HGS.out _ Bw0))
         clear Bw0 kk)
      | (have hgo := Bw1; clear hgo
         refine wpList_alloc_row rfl 45 rfl 4 (u64f fun _ => 0) zeroS ?_
         intro b_t5 w6 lk r_t5 kk
         have l_t5 := Nat.le_trans (HGS.out _ Bw1) lk
         have a_s0_t5 := Bs.away f_s0 lk
         replace f_s0 := Bs.below f_s0 kk (Nat.le_refl _)
         have Bw2 := Bw1.trans (kk.mono (HGS.out _ Bw1))
         clear Bw1 kk lk)
      | (have hgo := Bw2; clear hgo
         refine wpList_store_as rfl 45 (.tmp 5) (.tmp 18) rfl 4 (ewF A) arrS r_t5 rfl rfl (by omega) (fun _ _ => rfl) (fun i hi => putN_whole hi) ?_
         intro w7 q gk
         replace r_t5 := q
         have Bw3 := Bw2.grown gk (HGS.out _ Bw2) (by intro k hk; cases hk; exact l_t5)
         replace f_s0 := gb_bs f_s0 gk a_s0_t5
         clear Bw2 gk q))
    have Bw4 := Bw3.drew
    replace r_t5 := World.rowIs.drew r_t5
    replace f_s0 := Bs.drew f_s0
    clear Bw3
    refine wp_region_po (Keep []) (Keep.refl _) (fun _ _ _ h1 h2 => h1.trans h2) (.rd 1 .done) #[false, true, false, false, false] [0, 2, 3, 4] [some 19, some 21, some 6, none] [[], [0], [], [0, 1, 2]] [(0, []), (1, []), (2, [0, 1, 0]), (3, []), (4, [3, 2, 2, 0, 1, 2, 3])] 2 (by as_aux_lemma => kernel_rfl) (by as_aux_lemma => kernel_rfl) (by decide) (by as_aux_lemma => kernel_rfl) (by as_aux_lemma => kernel_rfl) (by as_aux_lemma => kernel_rfl) rfl (fun d _ _ _ _ h => by cases d <;> exact h) ?_
    refine lintz_pure 20 (Op.load 45 (Operand.tmp 5)) 45 (.agg (arrOf 4 (ewF A))) rfl rfl rfl rfl rfl (fun w0 hb => by exact exec_load_as _ _ _ _ (ewF A) rfl arrS (Keep.row hb r_t5 rfl) (by omega) (fun i hi => by rw [Nat.zero_add])) ?_
    simp only [Act.put, List.setIfInBounds_toArray, List.set_cons_zero, List.set_cons_succ]
    refine lintz_leaf ?_
    have HWF : poWf [.val (.agg (arrOf 12 (qT bT))), .val (.agg (arrOf 12 (qT (qMul bT A)))), .row 29 12 (u64f fun _ => 0) 3 (qT (qMul bT A)), .nil] [] = true := by as_aux_lemma => kernel_rfl
    refine ⟨JG [.val (.agg (arrOf 12 (qT bT))), .val (.agg (arrOf 12 (qT (qMul bT A)))), .row 29 12 (u64f fun _ => 0) 3 (qT (qMul bT A)), .nil] [] _, JG.start (Nat.le_refl _) (fun i hi => absurd hi (Nat.not_lt_zero _)), fun m gz wa p az hp hm hmp hcl hdn hE hJ hS hO => ?_, fun gz wa hE hJ => ?_⟩
    · rcases (show p = 0 ∨ p = 1 ∨ p = 2 ∨ p = 3 by have h9 : p < 4 := hp; omega) with rfl | rfl | rfl | rfl
      · exact po_call 19 16 #[] #[] _ HWF hJ rfl hE (qTBase_any _) rfl rfl rfl rfl rfl Try.func16 (by kernel_rfl) (by kernel_rfl) (by simp only [List.map_toArray, List.map_cons, List.map_nil, eval_const, eval_func] <;> rfl)
      · have e19 := (hS 0 19 rfl (hdn 0 (by decide)) (Nat.le_of_ble_eq_true rfl)).trans (hJ.says (hdn 0 (by decide)) rfl)
        have e20 : az.eval (.tmp 20) = .agg (arrOf 4 (ewF A)) := hO 20 rfl
        exact po_call 21 17 #[Operand.tmp 19, Operand.tmp 20] #[29, 45] _ HWF hJ rfl hE (qTMul_any bT A _ LtT.base) rfl rfl rfl rfl rfl Try.func17 (by kernel_rfl) (by kernel_rfl) (by simp only [List.map_toArray, List.map_cons, List.map_nil, eval_const, eval_func, e19, e20] <;> rfl)
      · exact po_alloc 6 _ 29 12 (u64f fun _ => 0) _ _ HWF hJ rfl (po_notyet hcl hmp (by rw [hm]; exact hp) (by decide)) hE rfl rfl rfl rfl rfl rfl zeroQ
      · have e21 := (hS 1 21 rfl (hdn 1 (by decide)) (Nat.le_of_ble_eq_true rfl)).trans (hJ.says (hdn 1 (by decide)) rfl)
        exact po_storeRow 2 (.tmp 6) (.tmp 21) 29 12 _ _ (by rw [hm]; exact hp) hmp hJ rfl rfl (hdn 2 (by decide)) (by kernel_rfl) (fun i hi => absurd hi (Nat.not_lt_zero _)) hE rfl rfl rfl rfl rfl (hS 2 6 rfl (hdn 2 (by decide)) (Nat.le_of_ble_eq_true rfl)) e21 arrQ (fun j _ => qF_one _ _ _ j)
    · have q0 := hJ.told 0 (by decide) rfl
      have q1 := hJ.told 1 (by decide) rfl
      obtain ⟨b_t6, p_t6, lk_t6, r_t6, d_t6⟩ := hJ.row 2 (by decide) rfl (by decide)
      rw [putO_true _ _ _ _ _ rfl]
      simp only [putA, Nat.zero_add, Nat.reduceAdd]
      rw [q0, q1, p_t6]
      simp only [Act.put, List.setIfInBounds_toArray, List.set_cons_zero, List.set_cons_succ]
      refine po_end ?_
      have n_t5_t6 : b_t5 ≠ b_t6 := Nat.ne_of_lt (Nat.lt_of_lt_of_le (World.rowIs.lt r_t5) lk_t6)
      have l_t6 := Nat.le_trans (HGS.out _ Bw4) lk_t6
      have a_s0_t6 := Bs.away f_s0 lk_t6
      replace r_t5 := Keep.row hE r_t5 rfl
      replace f_s0 := Bs.below f_s0 (Keep.nil hE) (Nat.le_refl _)
      have Bw5 := hE.below Bw4 (HGS.out _ Bw4) rfl
      clear Bw4 hE hJ HWF q0 q1 p_t6 lk_t6 d_t6
      go_wp2_with (first
        | (have hgo := Bw5; clear hgo
           refine wpList_one rfl (.const (.int .u8 1)) rfl 1 rfl ?_
           intro v_s22 w8 f_s22 kk
           replace r_t5 := World.rowIs.of_block r_t5 (kk.block _ (World.rowIs.lt r_t5))
           replace r_t6 := World.rowIs.of_block r_t6 (kk.block _ (World.rowIs.lt r_t6))
           replace f_s0 := Bs.below f_s0 kk (Nat.le_refl _)
           have Bw6 := Bw5.trans (kk.mono (HGS.out _ Bw5))
           clear Bw5 kk)
        | (have hgo := Bw6; clear hgo
           go_at_call 18
           refine (sWide_to _ ([1]) _ f_s22 (1) one_wide).mono ?_
           rintro e w9 ⟨rfl, kk⟩
           replace r_t5 := World.rowIs.of_block r_t5 (kk.block _ (World.rowIs.lt r_t5))
           replace r_t6 := World.rowIs.of_block r_t6 (kk.block _ (World.rowIs.lt r_t6))
           replace f_s0 := Bs.below f_s0 kk (Nat.le_refl _)
           replace f_s22 := Bs.below f_s22 kk (Nat.le_refl _)
           have Bw7 := Bw6.trans (kk.mono (HGS.out _ Bw6))
           clear Bw6 kk)
        | (have hgo := Bw7; clear hgo
           go_at_call 30
           refine (sNeg_any 1 _ one_L).mono ?_
           rintro e w10 ⟨rfl, kk⟩
           replace r_t5 := World.rowIs.of_block r_t5 (kk.block _ (World.rowIs.lt r_t5))
           replace r_t6 := World.rowIs.of_block r_t6 (kk.block _ (World.rowIs.lt r_t6))
           replace f_s0 := Bs.below f_s0 kk (Nat.le_refl _)
           replace f_s22 := Bs.below f_s22 kk (Nat.le_refl _)
           have Bw8 := Bw7.trans (kk.mono (HGS.out _ Bw7))
           clear Bw7 kk)
        | (have hgo := Bw8; clear hgo
           refine wpList_alloc_row rfl 45 rfl 4 (u64f fun _ => 0) zeroS ?_
           intro b_t7 w11 lk r_t7 kk
           have n_t5_t7 : b_t5 ≠ b_t7 := Nat.ne_of_lt (Nat.lt_of_lt_of_le (World.rowIs.lt r_t5) lk)
           have n_t6_t7 : b_t6 ≠ b_t7 := Nat.ne_of_lt (Nat.lt_of_lt_of_le (World.rowIs.lt r_t6) lk)
           have l_t7 := Nat.le_trans (HGS.out _ Bw8) lk
           have a_s0_t7 := Bs.away f_s0 lk
           have a_s22_t7 := Bs.away f_s22 lk
           replace r_t5 := World.rowIs.of_block r_t5 (kk.block _ (World.rowIs.lt r_t5))
           replace r_t6 := World.rowIs.of_block r_t6 (kk.block _ (World.rowIs.lt r_t6))
           replace f_s0 := Bs.below f_s0 kk (Nat.le_refl _)
           replace f_s22 := Bs.below f_s22 kk (Nat.le_refl _)
           have Bw9 := Bw8.trans (kk.mono (HGS.out _ Bw8))
           clear Bw8 kk lk)
        | (have hgo := Bw9; clear hgo
           refine wpList_store_as rfl 45 (.tmp 7) (.tmp 24) rfl 4 (ewF (oppL 1)) arrS r_t7 rfl rfl (by omega) (fun _ _ => rfl) (fun i hi => putN_whole hi) ?_
           intro w12 q gk
           replace r_t5 := gb_rowIs r_t5 gk n_t5_t7
           replace r_t6 := gb_rowIs r_t6 gk n_t6_t7
           replace r_t7 := q
           have Bw10 := Bw9.grown gk (HGS.out _ Bw9) (by intro k hk; cases hk; exact l_t7)
           replace f_s0 := gb_bs f_s0 gk a_s0_t7
           replace f_s22 := gb_bs f_s22 gk a_s22_t7
           clear Bw9 gk q)
        | (have hgo := Bw10; clear hgo
           refine wpList_alloc_row rfl 29 rfl 12 (u64f fun _ => 0) zeroQ ?_
           intro b_t8 w13 lk r_t8 kk
           have n_t5_t8 : b_t5 ≠ b_t8 := Nat.ne_of_lt (Nat.lt_of_lt_of_le (World.rowIs.lt r_t5) lk)
           have n_t6_t8 : b_t6 ≠ b_t8 := Nat.ne_of_lt (Nat.lt_of_lt_of_le (World.rowIs.lt r_t6) lk)
           have n_t7_t8 : b_t7 ≠ b_t8 := Nat.ne_of_lt (Nat.lt_of_lt_of_le (World.rowIs.lt r_t7) lk)
           have l_t8 := Nat.le_trans (HGS.out _ Bw10) lk
           have a_s0_t8 := Bs.away f_s0 lk
           have a_s22_t8 := Bs.away f_s22 lk
           replace r_t5 := World.rowIs.of_block r_t5 (kk.block _ (World.rowIs.lt r_t5))
           replace r_t6 := World.rowIs.of_block r_t6 (kk.block _ (World.rowIs.lt r_t6))
           replace r_t7 := World.rowIs.of_block r_t7 (kk.block _ (World.rowIs.lt r_t7))
           replace f_s0 := Bs.below f_s0 kk (Nat.le_refl _)
           replace f_s22 := Bs.below f_s22 kk (Nat.le_refl _)
           have Bw11 := Bw10.trans (kk.mono (HGS.out _ Bw10))
           clear Bw10 kk lk
           replace r_t8 := World.rowIs.congr r_t8 zeroQT))
      have Bw12 := Bw11.drew
      replace r_t5 := World.rowIs.drew r_t5
      replace r_t6 := World.rowIs.drew r_t6
      replace r_t7 := World.rowIs.drew r_t7
      replace r_t8 := World.rowIs.drew r_t8
      replace f_s0 := Bs.drew f_s0
      replace f_s22 := Bs.drew f_s22
      clear Bw11
      refine wp_region_po (Keep []) (Keep.refl _) (fun _ _ _ h1 h2 => h1.trans h2) (.rd 0 (.rd 1 (.rd 3 .done))) #[true, true, false, true, false, false, false, false, false, false, false, false, false, false, false, false, false, false, false, false, false, false, false, false] [2, 4, 5, 6, 7, 8, 9, 10, 11, 12, 13, 14, 15, 16, 17, 18, 19, 20, 21, 22, 23] [some 27, some 29, some 30, some 31, some 32, some 33, some 34, some 35, some 36, some 37, some 38, some 39, some 40, some 41, some 42, some 43, some 44, some 45, some 46, some 47, some 48] [[], [0], [0, 1], [2], [2, 3], [4], [4, 5], [4], [4], [4, 6, 7, 8], [4, 6, 9], [4, 10], [9, 11], [12], [12], [12, 13, 14], [12], [12, 15], [12, 16, 17], [12, 15, 18], [12, 19]] [(0, []), (1, []), (2, [0, 1]), (3, []), (4, [3, 2]), (5, [2, 4, 4]), (6, [5]), (7, [6, 5]), (8, [7]), (9, [8, 7, 7]), (10, [7]), (11, [7]), (12, [10, 11, 9, 7]), (13, [9, 12, 7]), (14, [7, 13]), (15, [14, 12]), (16, [15]), (17, [15]), (18, [16, 17, 15, 15]), (19, [15]), (20, [18, 15]), (21, [19, 20, 20, 15]), (22, [18, 21, 15]), (23, [15, 22])] 11 (by as_aux_lemma => kernel_rfl) (by as_aux_lemma => kernel_rfl) (by decide) (by as_aux_lemma => kernel_rfl) (by as_aux_lemma => kernel_rfl) (by as_aux_lemma => kernel_rfl) rfl (fun d _ _ _ _ h => by cases d <;> exact h) ?_
      refine lintz_pure 25 (Op.load 29 (Operand.tmp 6)) 29 (.agg (arrOf 12 (qT (qMul bT A)))) rfl rfl rfl rfl rfl (fun w0 hb => by exact exec_load_as _ _ _ _ (qT (qMul bT A)) rfl arrQ (Keep.row hb r_t6 rfl) (by omega) (fun i hi => by rw [Nat.zero_add])) ?_
      simp only [Act.put, List.setIfInBounds_toArray, List.set_cons_zero, List.set_cons_succ]
      refine lintz_pure 26 (Op.load 45 (Operand.tmp 7)) 45 (.agg (arrOf 4 (ewF (oppL 1)))) rfl rfl rfl rfl rfl (fun w0 hb => by exact exec_load_as _ _ _ _ (ewF (oppL 1)) rfl arrS (Keep.row hb r_t7 rfl) (by omega) (fun i hi => by rw [Nat.zero_add])) ?_
      simp only [Act.put, List.setIfInBounds_toArray, List.set_cons_zero, List.set_cons_succ]
      refine lintz_pure 28 (Op.load 29 (Operand.tmp 6)) 29 (.agg (arrOf 12 (qT (qMul bT A)))) rfl rfl rfl rfl rfl (fun w0 hb => by exact exec_load_as _ _ _ _ (qT (qMul bT A)) rfl arrQ (Keep.row hb r_t6 rfl) (by omega) (fun i hi => by rw [Nat.zero_add])) ?_
      simp only [Act.put, List.setIfInBounds_toArray, List.set_cons_zero, List.set_cons_succ]
      refine lintz_leaf ?_
      have HWF : poWf [.val (.agg (arrOf 12 (qT (qMul (qMul bT A) (oppL 1))))), .val (.agg (arrOf 12 (qT (pneg (qMul bT A))))), .val (.bool true), .val (.bool false), .val (.bool false), .val (.agg (arrOf 12 (qT (qMul bT A)))), .val (.bool sb), .val (.agg (arrOf 12 (qT (qMul bT A)))), .val (.agg (arrOf 12 (qT (0, 0, 0)))), .val (.bool sb), .val (.bool false), .val (.bool false), .val (.bool false), .val (.agg (arrOf 12 (qT (qMul bT A)))), .val (.agg (arrOf 12 (qT (0, 0, 0)))), .val (.bool sb), .val (.agg (arrOf 4 (ewF A))), .val (.agg (arrOf 4 (ewF 0))), .val (.bool sb), .val (.bool false), .val (.bool false)] [] = true := by as_aux_lemma => kernel_rfl
      refine ⟨JG [.val (.agg (arrOf 12 (qT (qMul (qMul bT A) (oppL 1))))), .val (.agg (arrOf 12 (qT (pneg (qMul bT A))))), .val (.bool true), .val (.bool false), .val (.bool false), .val (.agg (arrOf 12 (qT (qMul bT A)))), .val (.bool sb), .val (.agg (arrOf 12 (qT (qMul bT A)))), .val (.agg (arrOf 12 (qT (0, 0, 0)))), .val (.bool sb), .val (.bool false), .val (.bool false), .val (.bool false), .val (.agg (arrOf 12 (qT (qMul bT A)))), .val (.agg (arrOf 12 (qT (0, 0, 0)))), .val (.bool sb), .val (.agg (arrOf 4 (ewF A))), .val (.agg (arrOf 4 (ewF 0))), .val (.bool sb), .val (.bool false), .val (.bool false)] [] _, JG.start (Nat.le_refl _) (fun i hi => absurd hi (Nat.not_lt_zero _)), fun m gz wa p az hp hm hmp hcl hdn hE hJ hS hO => ?_, fun gz wa hE hJ => ?_⟩
      · rcases (show p = 0 ∨ p = 1 ∨ p = 2 ∨ p = 3 ∨ p = 4 ∨ p = 5 ∨ p = 6 ∨ p = 7 ∨ p = 8 ∨ p = 9 ∨ p = 10 ∨ p = 11 ∨ p = 12 ∨ p = 13 ∨ p = 14 ∨ p = 15 ∨ p = 16 ∨ p = 17 ∨ p = 18 ∨ p = 19 ∨ p = 20 by have h9 : p < 21 := hp; omega) with rfl | rfl | rfl | rfl | rfl | rfl | rfl | rfl | rfl | rfl | rfl | rfl | rfl | rfl | rfl | rfl | rfl | rfl | rfl | rfl | rfl
        · have e25 : az.eval (.tmp 25) = .agg (arrOf 12 (qT (qMul bT A))) := hO 25 rfl
          have e26 : az.eval (.tmp 26) = .agg (arrOf 4 (ewF (oppL 1))) := hO 26 rfl
          exact po_call 27 17 #[Operand.tmp 25, Operand.tmp 26] #[29, 45] _ HWF hJ rfl hE (qTMul_any (qMul bT A) (oppL 1) _ (LtT.oft _ _ _)) rfl rfl rfl rfl rfl Try.func17 (by kernel_rfl) (by kernel_rfl) (by simp only [List.map_toArray, List.map_cons, List.map_nil, eval_const, eval_func, e25, e26] <;> rfl)
        · have e28 : az.eval (.tmp 28) = .agg (arrOf 12 (qT (qMul bT A))) := hO 28 rfl
          exact po_call 29 24 #[Operand.tmp 28] #[29] _ HWF hJ rfl hE (qTNeg_any (qMul bT A) _ (LtT.oft _ _ _)) rfl rfl rfl rfl rfl Try.func24 (by kernel_rfl) (by kernel_rfl) (by simp only [List.map_toArray, List.map_cons, List.map_nil, eval_const, eval_func, e28] <;> rfl)
        · have e27 := (hS 0 27 rfl (hdn 0 (by decide)) (Nat.le_of_ble_eq_true rfl)).trans (hJ.says (hdn 0 (by decide)) rfl)
          have e29 := (hS 1 29 rfl (hdn 1 (by decide)) (Nat.le_of_ble_eq_true rfl)).trans (hJ.says (hdn 1 (by decide)) rfl)
          exact po_call 30 26 #[Operand.tmp 27, Operand.tmp 29] #[29, 29] _ HWF hJ rfl hE (qTSame_to (qMul (qMul bT A) (oppL 1)) (pneg (qMul bT A)) true _ (LtT.oft _ _ _) (LtT.neg (LtT.oft _ _ _)) ((RQ.same (RQ.mul (RQ.mul RQ.base HA.out) (oppL_lt _)) (RQ.neg (RQ.mul RQ.base HA.out))).trans (decide_eq_true (minus_one A)))) rfl rfl rfl rfl rfl Try.func26 (by kernel_rfl) (by kernel_rfl) (by simp only [List.map_toArray, List.map_cons, List.map_nil, eval_const, eval_func, e27, e29] <;> rfl)
        · have e30 := (hS 2 30 rfl (hdn 2 (by decide)) (Nat.le_of_ble_eq_true rfl)).trans (hJ.says (hdn 2 (by decide)) rfl)
          exact po_run 31 (Op.unOp UnOp.not 4 (Operand.tmp 30)) _ HWF hJ rfl hE rfl rfl rfl rfl rfl rfl (by first | (simp only [execOp, mkOp, eval_const, e30]; done) | (simp only [execOp, mkOp, eval_const, e30]; go_simp))
        · have e31 := (hS 3 31 rfl (hdn 3 (by decide)) (Nat.le_of_ble_eq_true rfl)).trans (hJ.says (hdn 3 (by decide)) rfl)
          exact po_run 32 (Op.move (Operand.tmp 31)) _ HWF hJ rfl hE rfl rfl rfl rfl rfl rfl (by first | (simp only [execOp, mkOp, eval_const, e31]; done) | (simp only [execOp, mkOp, eval_const, e31]; go_simp))
        · have e32 := (hS 4 32 rfl (hdn 4 (by decide)) (Nat.le_of_ble_eq_true rfl)).trans (hJ.says (hdn 4 (by decide)) rfl)
          have e6 : az.eval (.tmp 6) = .pointer (some ⟨b_t6, 0, none⟩) := hO 6 rfl
          exact po_run 33 (Op.load 29 (Operand.tmp 6)) _ HWF hJ rfl hE rfl rfl rfl rfl rfl (wanted_of rfl rfl e32) (exec_load_as _ _ _ _ (qT (qMul bT A)) e6 arrQ (Keep.row hE r_t6 rfl) (by omega) (fun i hi => by rw [Nat.zero_add]))
        · have e32 := (hS 4 32 rfl (hdn 4 (by decide)) (Nat.le_of_ble_eq_true rfl)).trans (hJ.says (hdn 4 (by decide)) rfl)
          have e33 := (hS 5 33 rfl (hdn 5 (by decide)) (Nat.le_of_ble_eq_true rfl)).trans (hJ.says (hdn 5 (by decide)) rfl)
          exact po_call 34 14 #[Operand.tmp 33] #[29] _ HWF hJ rfl hE (small_to (qMul bT A) sb _ (LtT.oft _ _ _) HS1.out) rfl rfl rfl rfl (wanted_of rfl rfl e32) Try.func14 (by kernel_rfl) (by kernel_rfl) (by simp only [List.map_toArray, List.map_cons, List.map_nil, eval_const, eval_func, e33] <;> rfl)
        · have e32 := (hS 4 32 rfl (hdn 4 (by decide)) (Nat.le_of_ble_eq_true rfl)).trans (hJ.says (hdn 4 (by decide)) rfl)
          have e6 : az.eval (.tmp 6) = .pointer (some ⟨b_t6, 0, none⟩) := hO 6 rfl
          exact po_run 35 (Op.load 29 (Operand.tmp 6)) _ HWF hJ rfl hE rfl rfl rfl rfl rfl (wanted_of rfl rfl e32) (exec_load_as _ _ _ _ (qT (qMul bT A)) e6 arrQ (Keep.row hE r_t6 rfl) (by omega) (fun i hi => by rw [Nat.zero_add]))
        · have e32 := (hS 4 32 rfl (hdn 4 (by decide)) (Nat.le_of_ble_eq_true rfl)).trans (hJ.says (hdn 4 (by decide)) rfl)
          have e8 : az.eval (.tmp 8) = .pointer (some ⟨b_t8, 0, none⟩) := hO 8 rfl
          exact po_run 36 (Op.load 29 (Operand.tmp 8)) _ HWF hJ rfl hE rfl rfl rfl rfl rfl (wanted_of rfl rfl e32) (exec_load_as _ _ _ _ (qT (0, 0, 0)) e8 arrQ (Keep.row hE r_t8 rfl) (by omega) (fun i hi => by rw [Nat.zero_add]))
        · have e32 := (hS 4 32 rfl (hdn 4 (by decide)) (Nat.le_of_ble_eq_true rfl)).trans (hJ.says (hdn 4 (by decide)) rfl)
          have e35 := (hS 7 35 rfl (hdn 7 (by decide)) (Nat.le_of_ble_eq_true rfl)).trans (hJ.says (hdn 7 (by decide)) rfl)
          have e36 := (hS 8 36 rfl (hdn 8 (by decide)) (Nat.le_of_ble_eq_true rfl)).trans (hJ.says (hdn 8 (by decide)) rfl)
          exact po_call 37 26 #[Operand.tmp 35, Operand.tmp 36] #[29, 29] _ HWF hJ rfl hE (qTSame_to (qMul bT A) (0, 0, 0) sb _ (LtT.oft _ _ _) LtT.none HS2.out) rfl rfl rfl rfl (wanted_of rfl rfl e32) Try.func26 (by kernel_rfl) (by kernel_rfl) (by simp only [List.map_toArray, List.map_cons, List.map_nil, eval_const, eval_func, e35, e36] <;> rfl)
        · have e32 := (hS 4 32 rfl (hdn 4 (by decide)) (Nat.le_of_ble_eq_true rfl)).trans (hJ.says (hdn 4 (by decide)) rfl)
          have e34 := (hS 6 34 rfl (hdn 6 (by decide)) (Nat.le_of_ble_eq_true rfl)).trans (hJ.says (hdn 6 (by decide)) rfl)
          have e37 := (hS 9 37 rfl (hdn 9 (by decide)) (Nat.le_of_ble_eq_true rfl)).trans (hJ.says (hdn 9 (by decide)) rfl)
          exact po_run 38 (Op.binOp BinOp.neq 4 (Operand.tmp 34) (Operand.tmp 37) 4) _ HWF hJ rfl hE rfl rfl rfl rfl rfl (wanted_of rfl rfl e32) (exec_neq_self _ _ _ _ _ e34 e37)
        · have e32 := (hS 4 32 rfl (hdn 4 (by decide)) (Nat.le_of_ble_eq_true rfl)).trans (hJ.says (hdn 4 (by decide)) rfl)
          have e38 := (hS 10 38 rfl (hdn 10 (by decide)) (Nat.le_of_ble_eq_true rfl)).trans (hJ.says (hdn 10 (by decide)) rfl)
          exact po_run 39 (Op.pick (Operand.tmp 32) (Operand.const (Value.bool true)) (Operand.tmp 38)) _ HWF hJ rfl hE rfl rfl rfl rfl rfl rfl (by first | (simp only [execOp, mkOp, eval_const, e32, e38]; done) | (simp only [execOp, mkOp, eval_const, e32, e38]; go_simp))
        · have e39 := (hS 11 39 rfl (hdn 11 (by decide)) (Nat.le_of_ble_eq_true rfl)).trans (hJ.says (hdn 11 (by decide)) rfl)
          exact po_run 40 (Op.move (Operand.tmp 39)) _ HWF hJ rfl hE rfl rfl rfl rfl rfl rfl (by first | (simp only [execOp, mkOp, eval_const, e39]; done) | (simp only [execOp, mkOp, eval_const, e39]; go_simp))
        · have e40 := (hS 12 40 rfl (hdn 12 (by decide)) (Nat.le_of_ble_eq_true rfl)).trans (hJ.says (hdn 12 (by decide)) rfl)
          have e6 : az.eval (.tmp 6) = .pointer (some ⟨b_t6, 0, none⟩) := hO 6 rfl
          exact po_run 41 (Op.load 29 (Operand.tmp 6)) _ HWF hJ rfl hE rfl rfl rfl rfl rfl (wanted_of rfl rfl e40) (exec_load_as _ _ _ _ (qT (qMul bT A)) e6 arrQ (Keep.row hE r_t6 rfl) (by omega) (fun i hi => by rw [Nat.zero_add]))
        · have e40 := (hS 12 40 rfl (hdn 12 (by decide)) (Nat.le_of_ble_eq_true rfl)).trans (hJ.says (hdn 12 (by decide)) rfl)
          have e8 : az.eval (.tmp 8) = .pointer (some ⟨b_t8, 0, none⟩) := hO 8 rfl
          exact po_run 42 (Op.load 29 (Operand.tmp 8)) _ HWF hJ rfl hE rfl rfl rfl rfl rfl (wanted_of rfl rfl e40) (exec_load_as _ _ _ _ (qT (0, 0, 0)) e8 arrQ (Keep.row hE r_t8 rfl) (by omega) (fun i hi => by rw [Nat.zero_add]))
        · have e40 := (hS 12 40 rfl (hdn 12 (by decide)) (Nat.le_of_ble_eq_true rfl)).trans (hJ.says (hdn 12 (by decide)) rfl)
          have e41 := (hS 13 41 rfl (hdn 13 (by decide)) (Nat.le_of_ble_eq_true rfl)).trans (hJ.says (hdn 13 (by decide)) rfl)
          have e42 := (hS 14 42 rfl (hdn 14 (by decide)) (Nat.le_of_ble_eq_true rfl)).trans (hJ.says (hdn 14 (by decide)) rfl)
          exact po_call 43 26 #[Operand.tmp 41, Operand.tmp 42] #[29, 29] _ HWF hJ rfl hE (qTSame_to (qMul bT A) (0, 0, 0) sb _ (LtT.oft _ _ _) LtT.none HS2.out) rfl rfl rfl rfl (wanted_of rfl rfl e40) Try.func26 (by kernel_rfl) (by kernel_rfl) (by simp only [List.map_toArray, List.map_cons, List.map_nil, eval_const, eval_func, e41, e42] <;> rfl)
        · have e40 := (hS 12 40 rfl (hdn 12 (by decide)) (Nat.le_of_ble_eq_true rfl)).trans (hJ.says (hdn 12 (by decide)) rfl)
          have e5 : az.eval (.tmp 5) = .pointer (some ⟨b_t5, 0, none⟩) := hO 5 rfl
          exact po_run 44 (Op.load 45 (Operand.tmp 5)) _ HWF hJ rfl hE rfl rfl rfl rfl rfl (wanted_of rfl rfl e40) (exec_load_as _ _ _ _ (ewF A) e5 arrS (Keep.row hE r_t5 rfl) (by omega) (fun i hi => by rw [Nat.zero_add]))
        · have e40 := (hS 12 40 rfl (hdn 12 (by decide)) (Nat.le_of_ble_eq_true rfl)).trans (hJ.says (hdn 12 (by decide)) rfl)
          exact po_call 45 18 #[Operand.const (Value.slice none 0 0)] #[22] _ HWF hJ rfl hE (sWide_to _ ([]) _ (Bs.nil _) (0) nil_wide) rfl rfl rfl rfl (wanted_of rfl rfl e40) Try.func18 (by kernel_rfl) (by kernel_rfl) (by simp only [List.map_toArray, List.map_cons, List.map_nil, eval_const, eval_func] <;> rfl)
        · have e40 := (hS 12 40 rfl (hdn 12 (by decide)) (Nat.le_of_ble_eq_true rfl)).trans (hJ.says (hdn 12 (by decide)) rfl)
          have e44 := (hS 16 44 rfl (hdn 16 (by decide)) (Nat.le_of_ble_eq_true rfl)).trans (hJ.says (hdn 16 (by decide)) rfl)
          have e45 := (hS 17 45 rfl (hdn 17 (by decide)) (Nat.le_of_ble_eq_true rfl)).trans (hJ.says (hdn 17 (by decide)) rfl)
          exact po_call 46 31 #[Operand.tmp 44, Operand.tmp 45] #[45, 45] _ HWF hJ rfl hE (same_to A 0 _ HA.out ordL_pos HS3.out) rfl rfl rfl rfl (wanted_of rfl rfl e40) Try.func31 (by kernel_rfl) (by kernel_rfl) (by simp only [List.map_toArray, List.map_cons, List.map_nil, eval_const, eval_func, e44, e45] <;> rfl)
        · have e40 := (hS 12 40 rfl (hdn 12 (by decide)) (Nat.le_of_ble_eq_true rfl)).trans (hJ.says (hdn 12 (by decide)) rfl)
          have e43 := (hS 15 43 rfl (hdn 15 (by decide)) (Nat.le_of_ble_eq_true rfl)).trans (hJ.says (hdn 15 (by decide)) rfl)
          have e46 := (hS 18 46 rfl (hdn 18 (by decide)) (Nat.le_of_ble_eq_true rfl)).trans (hJ.says (hdn 18 (by decide)) rfl)
          exact po_run 47 (Op.binOp BinOp.neq 4 (Operand.tmp 43) (Operand.tmp 46) 4) _ HWF hJ rfl hE rfl rfl rfl rfl rfl (wanted_of rfl rfl e40) (exec_neq_self _ _ _ _ _ e43 e46)
        · have e40 := (hS 12 40 rfl (hdn 12 (by decide)) (Nat.le_of_ble_eq_true rfl)).trans (hJ.says (hdn 12 (by decide)) rfl)
          have e47 := (hS 19 47 rfl (hdn 19 (by decide)) (Nat.le_of_ble_eq_true rfl)).trans (hJ.says (hdn 19 (by decide)) rfl)
          exact po_run 48 (Op.pick (Operand.tmp 40) (Operand.const (Value.bool true)) (Operand.tmp 47)) _ HWF hJ rfl hE rfl rfl rfl rfl rfl rfl (by first | (simp only [execOp, mkOp, eval_const, e40, e47]; done) | (simp only [execOp, mkOp, eval_const, e40, e47]; go_simp))
      · have q0 := hJ.told 0 (by decide) rfl
        have q1 := hJ.told 1 (by decide) rfl
        have q2 := hJ.told 2 (by decide) rfl
        have q3 := hJ.told 3 (by decide) rfl
        have q4 := hJ.told 4 (by decide) rfl
        have q5 := hJ.told 5 (by decide) rfl
        have q6 := hJ.told 6 (by decide) rfl
        have q7 := hJ.told 7 (by decide) rfl
        have q8 := hJ.told 8 (by decide) rfl
        have q9 := hJ.told 9 (by decide) rfl
        have q10 := hJ.told 10 (by decide) rfl
        have q11 := hJ.told 11 (by decide) rfl
        have q12 := hJ.told 12 (by decide) rfl
        have q13 := hJ.told 13 (by decide) rfl
        have q14 := hJ.told 14 (by decide) rfl
        have q15 := hJ.told 15 (by decide) rfl
        have q16 := hJ.told 16 (by decide) rfl
        have q17 := hJ.told 17 (by decide) rfl
        have q18 := hJ.told 18 (by decide) rfl
        have q19 := hJ.told 19 (by decide) rfl
        have q20 := hJ.told 20 (by decide) rfl
        rw [putO_true _ _ _ _ _ rfl]
        simp only [putA, Nat.zero_add, Nat.reduceAdd]
        rw [q0, q1, q2, q3, q4, q5, q6, q7, q8, q9, q10, q11, q12, q13, q14, q15, q16, q17, q18, q19, q20]
        simp only [Act.put, List.setIfInBounds_toArray, List.set_cons_zero, List.set_cons_succ]
        refine po_end ?_
        replace r_t5 := Keep.row hE r_t5 rfl
        replace r_t6 := Keep.row hE r_t6 rfl
        replace r_t7 := Keep.row hE r_t7 rfl
        replace r_t8 := Keep.row hE r_t8 rfl
        replace f_s0 := Bs.below f_s0 (Keep.nil hE) (Nat.le_refl _)
        replace f_s22 := Bs.below f_s22 (Keep.nil hE) (Nat.le_refl _)
        have Bw13 := hE.below Bw12 (HGS.out _ Bw12) rfl
        clear Bw12 hE hJ HWF q0 q1 q2 q3 q4 q5 q6 q7 q8 q9 q10 q11 q12 q13 q14 q15 q16 q17 q18 q19 q20
        go_wp2_with (refine wpList_make32 rfl rfl ?_
                     intro gc w40 lk oc kk
                     have n_6 := Nat.ne_of_lt (Nat.lt_of_lt_of_le (World.rowIs.lt r_t6) lk)
                     have n_8 := Nat.ne_of_lt (Nat.lt_of_lt_of_le (World.rowIs.lt r_t8) lk)
                     have l_c := Nat.le_trans (HGS.out _ Bw13) lk
                     replace r_t6 := World.rowIs.of_block r_t6 (kk.block _ (World.rowIs.lt r_t6))
                     replace r_t8 := World.rowIs.of_block r_t8 (kk.block _ (World.rowIs.lt r_t8))
                     have Bw40 := Bw13.trans (kk.mono (HGS.out _ Bw13))
                     clear Bw13 kk lk r_t5 r_t7)
        go_loopw [10] (fun kk wr => ∃ k : Nat, k ≤ 32 ∧ kk = .int .i64 (k : Int) ∧ Owns wr gc (.slice (some ⟨gc, 0, none⟩) 32 32) (fillL k) ∧ wr.rowIs b_t6 29 12 (qT (qMul bT A)) ∧ wr.rowIs b_t8 29 12 (qT (0, 0, 0)) ∧ Below w.heap.size w wr) (fun kk _ => 32 - (intOf kk).toNat)
        case atStart => exact ⟨0, Nat.zero_le _, rfl, oc, r_t6, r_t8, Bw40⟩
        case round =>
          clear oc r_t6 r_t8 Bw40
          obtain ⟨k, hk, rfl, oc, r_t6, r_t8, Bw⟩ := hrel
          by_cases hlt : k < 32
          · have hkI : 0 ≤ (k : Int) ∧ (k : Int) < 32 := by omega
            have hin : IntKind.i64.wrap ((k : Int) + 1) = (k : Int) + 1 := IntWalk.i64_in _ (by omega)
            have HKN := Lib.hid (fillL_len k hk)
            have HKL := Lib.hid hlt
            have HST := Lib.hid (fillL_set k hlt)
            go_wp2_with (have hgo := Bw; clear hgo
                         refine wpList_store_byte rfl (.tmp 56) (.const (.int .u8 255)) rfl k 255 oc HKN.out.symm (Nat.le_refl _) (by rw [HKN.out]; exact HKL.out) rfl rfl (by decide) ?_
                         intro w50 od gk
                         rw [HST.out] at od
                         replace r_t6 := gb_rowIs r_t6 gk n_6
                         replace r_t8 := gb_rowIs r_t8 gk n_8
                         have Bw50 := Bw.grown gk (HGS.out _ Bw) (by intro k hk; cases hk; exact l_c)
                         clear Bw gk oc)
            go_roundw
            case rel => exact ⟨k + 1, by omega, by go_num, od, r_t6, r_t8, Bw50⟩
            case measure => (simp [intOf]; try omega)
          · obtain rfl : k = 32 := by omega
            clear hlt hk
            have HFL := Lib.hid (fillL_len 32 (Nat.le_refl _))
            have Bw60 := Bw
            clear Bw
            go_wp2_with (first
              | (have hgo := Bw60; clear hgo
                 refine wpList_store_byte rfl (.tmp 58) (.const (.int .u8 236)) rfl 0 236 oc HFL.out.symm (Nat.le_refl _) (by rw [HFL.out]; decide) rfl rfl (by decide) ?_
                 intro w61 od gk
                 replace r_t6 := gb_rowIs r_t6 gk n_6
                 replace r_t8 := gb_rowIs r_t8 gk n_8
                 have Bw61 := Bw60.grown gk (HGS.out _ Bw60) (by intro k hk; cases hk; exact l_c)
                 clear Bw60 gk oc)
              | (have hgo := Bw61; clear hgo
                 refine wpList_store_byte rfl (.tmp 60) (.const (.int .u8 127)) rfl 31 127 od (by rw [List.length_set]; exact HFL.out.symm) (Nat.le_refl _) (by rw [List.length_set]; rw [HFL.out]; decide) rfl rfl (by decide) ?_
                 intro w62 oe gk
                 replace r_t6 := gb_rowIs r_t6 gk n_6
                 replace r_t8 := gb_rowIs r_t8 gk n_8
                 have Bw62 := Bw61.grown gk (HGS.out _ Bw61) (by intro k hk; cases hk; exact l_c)
                 clear Bw61 gk od
                 rw [HYL.out] at oe
                 have f_y := oe.bs
                 clear oe)
              | (have hgo := Bw62; clear hgo
                 go_at_call 10
                 refine (qDec_to _ YL _ f_y q 0 HQ1.out HQ0.out).mono ?_
                 rintro e w602 ⟨rfl, kk⟩
                 replace r_t6 := World.rowIs.of_block r_t6 (kk.block _ (World.rowIs.lt r_t6))
                 replace r_t8 := World.rowIs.of_block r_t8 (kk.block _ (World.rowIs.lt r_t8))
                 replace f_y := Bs.below f_y kk (Nat.le_refl _)
                 have Bw63 := Bw62.trans (kk.mono (HGS.out _ Bw62))
                 clear Bw62 kk)
              | (have hgo := Bw63; clear hgo
                 refine wpList_alloc_row rfl 29 rfl 12 (u64f fun _ => 0) zeroQ ?_
                 intro b_t11 w606 lk r_t11 kk
                 have n_t6_t11 : b_t6 ≠ b_t11 := Nat.ne_of_lt (Nat.lt_of_lt_of_le (World.rowIs.lt r_t6) lk)
                 have n_t8_t11 : b_t8 ≠ b_t11 := Nat.ne_of_lt (Nat.lt_of_lt_of_le (World.rowIs.lt r_t8) lk)
                 have l_t11 := Nat.le_trans (HGS.out _ Bw63) lk
                 have a_y_t11 := Bs.away f_y lk
                 replace r_t6 := World.rowIs.of_block r_t6 (kk.block _ (World.rowIs.lt r_t6))
                 replace r_t8 := World.rowIs.of_block r_t8 (kk.block _ (World.rowIs.lt r_t8))
                 replace f_y := Bs.below f_y kk (Nat.le_refl _)
                 have Bw64 := Bw63.trans (kk.mono (HGS.out _ Bw63))
                 clear Bw63 kk lk
                 replace r_t11 := World.rowIs.congr r_t11 zeroQT)
              | (have hgo := Bw64; clear hgo
                 refine wpList_store_as rfl 29 (.tmp 11) (.tmp 64) rfl 12 (qT q) arrQ r_t11 rfl rfl (by omega) (fun j _ => qF_one _ _ _ j) (fun i hi => putN_whole hi) ?_
                 intro w607 q gk
                 replace r_t6 := gb_rowIs r_t6 gk n_t6_t11
                 replace r_t8 := gb_rowIs r_t8 gk n_t8_t11
                 replace r_t11 := q
                 have Bw65 := Bw64.grown gk (HGS.out _ Bw64) (by intro k hk; cases hk; exact l_t11)
                 replace f_y := gb_bs f_y gk a_y_t11
                 clear Bw64 gk q))
            clear f_y
            go_wp2
            have Bw66 := Bw65.drew
            replace r_t6 := World.rowIs.drew r_t6
            replace r_t8 := World.rowIs.drew r_t8
            replace r_t11 := World.rowIs.drew r_t11
            clear Bw65
            refine wp_region_po (Keep []) (Keep.refl _) (fun _ _ _ h1 h2 => h1.trans h2) (.rd 0 (.rd 1 (.rd 2 .done))) #[true, true, true, false, false, false, false, false, false, false, false, false, false, false, false, false, false, false, false, false, false, false, false, false, false, false, false, false, false, false, false, false, false, false, false, false, false, false, false, false, false, false, false, false, false] [3, 4, 5, 6, 7, 8, 9, 10, 11, 12, 13, 14, 15, 16, 17, 18, 19, 20, 21, 22, 23, 24, 25, 26, 27, 28, 29, 30, 31, 32, 33, 34, 35, 36, 37, 38, 39, 40, 41, 42, 43, 44] [some 69, some 70, some 71, some 72, some 73, some 74, some 75, some 76, some 77, some 78, some 79, some 80, some 81, some 82, some 83, some 84, some 85, some 86, some 87, some 88, some 89, some 90, some 91, some 92, some 93, some 94, some 95, some 96, some 97, some 98, some 99, some 100, some 101, some 102, some 103, some 104, some 105, some 106, some 107, some 108, some 109, some 4] [[], [0], [1], [1, 2], [3], [3, 4], [3], [3, 5, 6], [3, 7], [7, 8], [9], [9], [9, 10, 11], [9, 12], [9, 13], [12, 14], [15], [15], [15, 16, 17], [15], [15, 18, 19], [15, 20], [15, 21], [20, 22], [23], [23], [23, 24, 25], [23], [23, 26, 27], [23, 28], [23, 26, 28, 29], [23], [23], [23, 30, 32], [23, 33], [23, 31, 33, 34], [23, 30, 35], [23, 36], [36, 37], [38], [38, 39], [0, 1, 2, 3, 4, 5, 6, 7, 8, 9, 10, 11, 12, 13, 14, 15, 16, 17, 18, 19, 20, 21, 22, 23, 24, 25, 26, 27, 28, 29, 30, 31, 32, 33, 34, 35, 36, 37, 38, 39, 40]] [(0, []), (1, [0]), (2, [1]), (3, [2]), (4, [3, 2, 2]), (5, [2, 4]), (6, [5, 4]), (7, [6]), (8, [7, 6, 6]), (9, [6]), (10, [8, 9, 8, 6]), (11, [6, 10]), (12, [11, 10]), (13, [12]), (14, [12]), (15, [13, 14, 12, 12]), (16, [15, 12]), (17, [12, 16]), (18, [17, 15]), (19, [18]), (20, [18]), (21, [19, 20, 18, 18]), (22, [18]), (23, [21, 22, 21, 18]), (24, [23, 18]), (25, [18, 24]), (26, [25, 23]), (27, [26]), (28, [26]), (29, [27, 28, 26, 26]), (30, [26]), (31, [30, 29, 26]), (32, [31, 26]), (33, [29, 32, 31, 26]), (34, [26]), (35, [26]), (36, [35, 33, 26]), (37, [36, 26]), (38, [34, 37, 36, 26]), (39, [33, 38, 38, 26]), (40, [26, 39]), (41, [40, 39]), (42, [41, 41]), (43, [41, 42]), (44, [43, 42, 0, 1, 2, 3, 4, 5, 6, 7, 8, 9, 10, 11, 12, 13, 14, 15, 16, 17, 18, 19, 20, 21, 22, 23, 24, 25, 26, 27, 28, 29, 30, 31, 32, 33, 34, 35, 36, 37, 38, 39, 40, 41, 42, 43])] 7 (by as_aux_lemma => kernel_rfl) (by as_aux_lemma => kernel_rfl) (by decide) (by as_aux_lemma => kernel_rfl) (by as_aux_lemma => kernel_rfl) (by as_aux_lemma => kernel_rfl) rfl (fun d _ _ _ _ h => by cases d <;> exact h) ?_
            refine lintz_pure 66 (Op.move (Operand.tmp 12)) 30 ((.int .i64 0)) rfl rfl rfl rfl rfl (fun w0 hb => by unfold mkOp; go_simp; all_goals (with_reducible rfl)) ?_
            simp only [Act.put, List.setIfInBounds_toArray, List.set_cons_zero, List.set_cons_succ]
            refine lintz_pure 67 (Op.binOp BinOp.eql 30 (Operand.tmp 66) (Operand.const (Value.int IntKind.i64 0)) 30) 4 (.bool true) rfl rfl rfl rfl rfl (fun w0 hb => by unfold mkOp; go_simp) ?_
            simp only [Act.put, List.setIfInBounds_toArray, List.set_cons_zero, List.set_cons_succ]
            refine lintz_pure 68 (Op.move (Operand.tmp 67)) 4 (.bool true) rfl rfl rfl rfl rfl (fun w0 hb => by unfold mkOp; go_simp; all_goals (with_reducible rfl)) ?_
            simp only [Act.put, List.setIfInBounds_toArray, List.set_cons_zero, List.set_cons_succ]
            refine lintz_leaf ?_
            have HWF : poWf [.val (.agg (arrOf 12 (qT q))), .val (.bool true), .val (.bool true), .val (.bool true), .val (.agg (arrOf 12 (qT q))), .val (.agg (arrOf 12 (qT (qTim q 2)))), .val (.agg (arrOf 12 (qT (0, 0, 0)))), .val (.bool true), .val (.bool true), .val (.bool true), .val (.agg (arrOf 12 (qT q))), .val (.agg (arrOf 12 (qT (0, 0, 0)))), .val (.bool false), .val (.bool true), .val (.bool true), .val (.bool true), .val (.agg (arrOf 12 (qT (qMul bT A)))), .val (.agg (arrOf 12 (qT q))), .val (.agg (arrOf 12 (qT (qAdd (qMul bT A) q)))), .val (.agg (arrOf 12 (qT (qMul bT A)))), .val (.bool false), .val (.bool true), .val (.bool true), .val (.bool true), .val (.agg (arrOf 12 (qT (qMul bT A)))), .val (.agg (arrOf 12 (qT q))), .val (.agg (arrOf 12 (qT (qAdd (qMul bT A) q)))), .val (.int .i64 x1), .val (.int .i64 (R : Int)), .val (.int .i64 (M : Int)), .val (.agg (arrOf 12 (qT (qTim (qAdd (qMul bT A) q) M)))), .val (.agg (arrOf 12 (qT (qMul bT A)))), .val (.int .i64 x1), .val (.int .i64 (R : Int)), .val (.int .i64 (M : Int)), .val (.agg (arrOf 12 (qT (qTim (qMul bT A) M)))), .val (.bool true), .val (.bool true), .val (.bool true), .val (.bool true), .val (.bool true), .val (.bool true)] [] = true := by as_aux_lemma => kernel_rfl
            refine ⟨JG [.val (.agg (arrOf 12 (qT q))), .val (.bool true), .val (.bool true), .val (.bool true), .val (.agg (arrOf 12 (qT q))), .val (.agg (arrOf 12 (qT (qTim q 2)))), .val (.agg (arrOf 12 (qT (0, 0, 0)))), .val (.bool true), .val (.bool true), .val (.bool true), .val (.agg (arrOf 12 (qT q))), .val (.agg (arrOf 12 (qT (0, 0, 0)))), .val (.bool false), .val (.bool true), .val (.bool true), .val (.bool true), .val (.agg (arrOf 12 (qT (qMul bT A)))), .val (.agg (arrOf 12 (qT q))), .val (.agg (arrOf 12 (qT (qAdd (qMul bT A) q)))), .val (.agg (arrOf 12 (qT (qMul bT A)))), .val (.bool false), .val (.bool true), .val (.bool true), .val (.bool true), .val (.agg (arrOf 12 (qT (qMul bT A)))), .val (.agg (arrOf 12 (qT q))), .val (.agg (arrOf 12 (qT (qAdd (qMul bT A) q)))), .val (.int .i64 x1), .val (.int .i64 (R : Int)), .val (.int .i64 (M : Int)), .val (.agg (arrOf 12 (qT (qTim (qAdd (qMul bT A) q) M)))), .val (.agg (arrOf 12 (qT (qMul bT A)))), .val (.int .i64 x1), .val (.int .i64 (R : Int)), .val (.int .i64 (M : Int)), .val (.agg (arrOf 12 (qT (qTim (qMul bT A) M)))), .val (.bool true), .val (.bool true), .val (.bool true), .val (.bool true), .val (.bool true), .val (.bool true)] [] _, JG.start (Nat.le_refl _) (fun i hi => absurd hi (Nat.not_lt_zero _)), fun m gz wa p az hp hm hmp hcl hdn hE hJ hS hO => ?_, fun gz wa hE hJ => ?_⟩
            · rcases (show p = 0 ∨ p = 1 ∨ p = 2 ∨ p = 3 ∨ p = 4 ∨ p = 5 ∨ p = 6 ∨ p = 7 ∨ p = 8 ∨ p = 9 ∨ p = 10 ∨ p = 11 ∨ p = 12 ∨ p = 13 ∨ p = 14 ∨ p = 15 ∨ p = 16 ∨ p = 17 ∨ p = 18 ∨ p = 19 ∨ p = 20 ∨ p = 21 ∨ p = 22 ∨ p = 23 ∨ p = 24 ∨ p = 25 ∨ p = 26 ∨ p = 27 ∨ p = 28 ∨ p = 29 ∨ p = 30 ∨ p = 31 ∨ p = 32 ∨ p = 33 ∨ p = 34 ∨ p = 35 ∨ p = 36 ∨ p = 37 ∨ p = 38 ∨ p = 39 ∨ p = 40 ∨ p = 41 by have h9 : p < 42 := hp; omega) with rfl | rfl | rfl | rfl | rfl | rfl | rfl | rfl | rfl | rfl | rfl | rfl | rfl | rfl | rfl | rfl | rfl | rfl | rfl | rfl | rfl | rfl | rfl | rfl | rfl | rfl | rfl | rfl | rfl | rfl | rfl | rfl | rfl | rfl | rfl | rfl | rfl | rfl | rfl | rfl | rfl | rfl
              · have e68 : az.eval (.tmp 68) = .bool true := hO 68 rfl
                have e11 : az.eval (.tmp 11) = .pointer (some ⟨b_t11, 0, none⟩) := hO 11 rfl
                exact po_run 69 (Op.load 29 (Operand.tmp 11)) _ HWF hJ rfl hE rfl rfl rfl rfl rfl (wanted_of rfl rfl e68) (exec_load_as _ _ _ _ (qT q) e11 arrQ (Keep.row hE r_t11 rfl) (by omega) (fun i hi => by rw [Nat.zero_add]))
              · have e68 : az.eval (.tmp 68) = .bool true := hO 68 rfl
                have e69 := (hS 0 69 rfl (hdn 0 (by decide)) (Nat.le_of_ble_eq_true rfl)).trans (hJ.says (hdn 0 (by decide)) rfl)
                exact po_call 70 14 #[Operand.tmp 69] #[29] _ HWF hJ rfl hE (small_to q true _ Hq.out (by rw [Rq.out.small]; exact decide_eq_true ptH_8)) rfl rfl rfl rfl (wanted_of rfl rfl e68) Try.func14 (by kernel_rfl) (by kernel_rfl) (by simp only [List.map_toArray, List.map_cons, List.map_nil, eval_const, eval_func, e69] <;> rfl)
              · have e68 : az.eval (.tmp 68) = .bool true := hO 68 rfl
                have e70 := (hS 1 70 rfl (hdn 1 (by decide)) (Nat.le_of_ble_eq_true rfl)).trans (hJ.says (hdn 1 (by decide)) rfl)
                exact po_run 71 (Op.pick (Operand.tmp 68) (Operand.tmp 70) (Operand.const (Value.bool false))) _ HWF hJ rfl hE rfl rfl rfl rfl rfl rfl (by first | (simp only [execOp, mkOp, eval_const, e68, e70]; done) | (simp only [execOp, mkOp, eval_const, e68, e70]; go_simp))
              · have e71 := (hS 2 71 rfl (hdn 2 (by decide)) (Nat.le_of_ble_eq_true rfl)).trans (hJ.says (hdn 2 (by decide)) rfl)
                exact po_run 72 (Op.move (Operand.tmp 71)) _ HWF hJ rfl hE rfl rfl rfl rfl rfl rfl (by first | (simp only [execOp, mkOp, eval_const, e71]; done) | (simp only [execOp, mkOp, eval_const, e71]; go_simp))
              · have e72 := (hS 3 72 rfl (hdn 3 (by decide)) (Nat.le_of_ble_eq_true rfl)).trans (hJ.says (hdn 3 (by decide)) rfl)
                have e11 : az.eval (.tmp 11) = .pointer (some ⟨b_t11, 0, none⟩) := hO 11 rfl
                exact po_run 73 (Op.load 29 (Operand.tmp 11)) _ HWF hJ rfl hE rfl rfl rfl rfl rfl (wanted_of rfl rfl e72) (exec_load_as _ _ _ _ (qT q) e11 arrQ (Keep.row hE r_t11 rfl) (by omega) (fun i hi => by rw [Nat.zero_add]))
              · have e72 := (hS 3 72 rfl (hdn 3 (by decide)) (Nat.le_of_ble_eq_true rfl)).trans (hJ.says (hdn 3 (by decide)) rfl)
                have e73 := (hS 4 73 rfl (hdn 4 (by decide)) (Nat.le_of_ble_eq_true rfl)).trans (hJ.says (hdn 4 (by decide)) rfl)
                exact po_call 74 28 #[Operand.tmp 73, Operand.const (Value.int IntKind.i64 2)] #[29, 3] _ HWF hJ rfl hE (pTimes_c2 q _ Hq.out) rfl rfl rfl rfl (wanted_of rfl rfl e72) Try.func28 (by kernel_rfl) (by kernel_rfl) (by simp only [List.map_toArray, List.map_cons, List.map_nil, eval_const, eval_func, e73] <;> rfl)
              · have e72 := (hS 3 72 rfl (hdn 3 (by decide)) (Nat.le_of_ble_eq_true rfl)).trans (hJ.says (hdn 3 (by decide)) rfl)
                have e8 : az.eval (.tmp 8) = .pointer (some ⟨b_t8, 0, none⟩) := hO 8 rfl
                exact po_run 75 (Op.load 29 (Operand.tmp 8)) _ HWF hJ rfl hE rfl rfl rfl rfl rfl (wanted_of rfl rfl e72) (exec_load_as _ _ _ _ (qT (0, 0, 0)) e8 arrQ (Keep.row hE r_t8 rfl) (by omega) (fun i hi => by rw [Nat.zero_add]))
              · have e72 := (hS 3 72 rfl (hdn 3 (by decide)) (Nat.le_of_ble_eq_true rfl)).trans (hJ.says (hdn 3 (by decide)) rfl)
                have e74 := (hS 5 74 rfl (hdn 5 (by decide)) (Nat.le_of_ble_eq_true rfl)).trans (hJ.says (hdn 5 (by decide)) rfl)
                have e75 := (hS 6 75 rfl (hdn 6 (by decide)) (Nat.le_of_ble_eq_true rfl)).trans (hJ.says (hdn 6 (by decide)) rfl)
                exact po_call 76 26 #[Operand.tmp 74, Operand.tmp 75] #[29, 29] _ HWF hJ rfl hE (qTSame_to (qTim q 2) (0, 0, 0) true _ (LtT.oft _ _ _) LtT.none ((RQ.same (RQ.tim Rq.out (by decide)) RQ.none).trans (decide_eq_true (ptH_2)))) rfl rfl rfl rfl (wanted_of rfl rfl e72) Try.func26 (by kernel_rfl) (by kernel_rfl) (by simp only [List.map_toArray, List.map_cons, List.map_nil, eval_const, eval_func, e74, e75] <;> rfl)
              · have e72 := (hS 3 72 rfl (hdn 3 (by decide)) (Nat.le_of_ble_eq_true rfl)).trans (hJ.says (hdn 3 (by decide)) rfl)
                have e76 := (hS 7 76 rfl (hdn 7 (by decide)) (Nat.le_of_ble_eq_true rfl)).trans (hJ.says (hdn 7 (by decide)) rfl)
                exact po_run 77 (Op.pick (Operand.tmp 72) (Operand.tmp 76) (Operand.const (Value.bool false))) _ HWF hJ rfl hE rfl rfl rfl rfl rfl rfl (by first | (simp only [execOp, mkOp, eval_const, e72, e76]; done) | (simp only [execOp, mkOp, eval_const, e72, e76]; go_simp))
              · have e77 := (hS 8 77 rfl (hdn 8 (by decide)) (Nat.le_of_ble_eq_true rfl)).trans (hJ.says (hdn 8 (by decide)) rfl)
                exact po_run 78 (Op.move (Operand.tmp 77)) _ HWF hJ rfl hE rfl rfl rfl rfl rfl rfl (by first | (simp only [execOp, mkOp, eval_const, e77]; done) | (simp only [execOp, mkOp, eval_const, e77]; go_simp))
              · have e78 := (hS 9 78 rfl (hdn 9 (by decide)) (Nat.le_of_ble_eq_true rfl)).trans (hJ.says (hdn 9 (by decide)) rfl)
                have e11 : az.eval (.tmp 11) = .pointer (some ⟨b_t11, 0, none⟩) := hO 11 rfl
                exact po_run 79 (Op.load 29 (Operand.tmp 11)) _ HWF hJ rfl hE rfl rfl rfl rfl rfl (wanted_of rfl rfl e78) (exec_load_as _ _ _ _ (qT q) e11 arrQ (Keep.row hE r_t11 rfl) (by omega) (fun i hi => by rw [Nat.zero_add]))
              · have e78 := (hS 9 78 rfl (hdn 9 (by decide)) (Nat.le_of_ble_eq_true rfl)).trans (hJ.says (hdn 9 (by decide)) rfl)
                have e8 : az.eval (.tmp 8) = .pointer (some ⟨b_t8, 0, none⟩) := hO 8 rfl
                exact po_run 80 (Op.load 29 (Operand.tmp 8)) _ HWF hJ rfl hE rfl rfl rfl rfl rfl (wanted_of rfl rfl e78) (exec_load_as _ _ _ _ (qT (0, 0, 0)) e8 arrQ (Keep.row hE r_t8 rfl) (by omega) (fun i hi => by rw [Nat.zero_add]))
              · have e78 := (hS 9 78 rfl (hdn 9 (by decide)) (Nat.le_of_ble_eq_true rfl)).trans (hJ.says (hdn 9 (by decide)) rfl)
                have e79 := (hS 10 79 rfl (hdn 10 (by decide)) (Nat.le_of_ble_eq_true rfl)).trans (hJ.says (hdn 10 (by decide)) rfl)
                have e80 := (hS 11 80 rfl (hdn 11 (by decide)) (Nat.le_of_ble_eq_true rfl)).trans (hJ.says (hdn 11 (by decide)) rfl)
                exact po_call 81 26 #[Operand.tmp 79, Operand.tmp 80] #[29, 29] _ HWF hJ rfl hE (qTSame_to q (0, 0, 0) false _ Hq.out LtT.none ((RQ.same Rq.out RQ.none).trans (decide_eq_false (ptH_ne)))) rfl rfl rfl rfl (wanted_of rfl rfl e78) Try.func26 (by kernel_rfl) (by kernel_rfl) (by simp only [List.map_toArray, List.map_cons, List.map_nil, eval_const, eval_func, e79, e80] <;> rfl)
              · have e78 := (hS 9 78 rfl (hdn 9 (by decide)) (Nat.le_of_ble_eq_true rfl)).trans (hJ.says (hdn 9 (by decide)) rfl)
                have e81 := (hS 12 81 rfl (hdn 12 (by decide)) (Nat.le_of_ble_eq_true rfl)).trans (hJ.says (hdn 12 (by decide)) rfl)
                exact po_run 82 (Op.unOp UnOp.not 4 (Operand.tmp 81)) _ HWF hJ rfl hE rfl rfl rfl rfl rfl (wanted_of rfl rfl e78) (by first | (simp only [execOp, mkOp, eval_const, e81]; done) | (simp only [execOp, mkOp, eval_const, e81]; go_simp))
              · have e78 := (hS 9 78 rfl (hdn 9 (by decide)) (Nat.le_of_ble_eq_true rfl)).trans (hJ.says (hdn 9 (by decide)) rfl)
                have e82 := (hS 13 82 rfl (hdn 13 (by decide)) (Nat.le_of_ble_eq_true rfl)).trans (hJ.says (hdn 13 (by decide)) rfl)
                exact po_run 83 (Op.pick (Operand.tmp 78) (Operand.tmp 82) (Operand.const (Value.bool false))) _ HWF hJ rfl hE rfl rfl rfl rfl rfl rfl (by first | (simp only [execOp, mkOp, eval_const, e78, e82]; done) | (simp only [execOp, mkOp, eval_const, e78, e82]; go_simp))
              · have e83 := (hS 14 83 rfl (hdn 14 (by decide)) (Nat.le_of_ble_eq_true rfl)).trans (hJ.says (hdn 14 (by decide)) rfl)
                exact po_run 84 (Op.move (Operand.tmp 83)) _ HWF hJ rfl hE rfl rfl rfl rfl rfl rfl (by first | (simp only [execOp, mkOp, eval_const, e83]; done) | (simp only [execOp, mkOp, eval_const, e83]; go_simp))
              · have e84 := (hS 15 84 rfl (hdn 15 (by decide)) (Nat.le_of_ble_eq_true rfl)).trans (hJ.says (hdn 15 (by decide)) rfl)
                have e6 : az.eval (.tmp 6) = .pointer (some ⟨b_t6, 0, none⟩) := hO 6 rfl
                exact po_run 85 (Op.load 29 (Operand.tmp 6)) _ HWF hJ rfl hE rfl rfl rfl rfl rfl (wanted_of rfl rfl e84) (exec_load_as _ _ _ _ (qT (qMul bT A)) e6 arrQ (Keep.row hE r_t6 rfl) (by omega) (fun i hi => by rw [Nat.zero_add]))
              · have e84 := (hS 15 84 rfl (hdn 15 (by decide)) (Nat.le_of_ble_eq_true rfl)).trans (hJ.says (hdn 15 (by decide)) rfl)
                have e11 : az.eval (.tmp 11) = .pointer (some ⟨b_t11, 0, none⟩) := hO 11 rfl
                exact po_run 86 (Op.load 29 (Operand.tmp 11)) _ HWF hJ rfl hE rfl rfl rfl rfl rfl (wanted_of rfl rfl e84) (exec_load_as _ _ _ _ (qT q) e11 arrQ (Keep.row hE r_t11 rfl) (by omega) (fun i hi => by rw [Nat.zero_add]))
              · have e84 := (hS 15 84 rfl (hdn 15 (by decide)) (Nat.le_of_ble_eq_true rfl)).trans (hJ.says (hdn 15 (by decide)) rfl)
                have e85 := (hS 16 85 rfl (hdn 16 (by decide)) (Nat.le_of_ble_eq_true rfl)).trans (hJ.says (hdn 16 (by decide)) rfl)
                have e86 := (hS 17 86 rfl (hdn 17 (by decide)) (Nat.le_of_ble_eq_true rfl)).trans (hJ.says (hdn 17 (by decide)) rfl)
                exact po_call 87 22 #[Operand.tmp 85, Operand.tmp 86] #[29, 29] _ HWF hJ rfl hE (qTAdd_any (qMul bT A) q _ (LtT.oft _ _ _) Hq.out) rfl rfl rfl rfl (wanted_of rfl rfl e84) Try.func22 (by kernel_rfl) (by kernel_rfl) (by simp only [List.map_toArray, List.map_cons, List.map_nil, eval_const, eval_func, e85, e86] <;> rfl)
              · have e84 := (hS 15 84 rfl (hdn 15 (by decide)) (Nat.le_of_ble_eq_true rfl)).trans (hJ.says (hdn 15 (by decide)) rfl)
                have e6 : az.eval (.tmp 6) = .pointer (some ⟨b_t6, 0, none⟩) := hO 6 rfl
                exact po_run 88 (Op.load 29 (Operand.tmp 6)) _ HWF hJ rfl hE rfl rfl rfl rfl rfl (wanted_of rfl rfl e84) (exec_load_as _ _ _ _ (qT (qMul bT A)) e6 arrQ (Keep.row hE r_t6 rfl) (by omega) (fun i hi => by rw [Nat.zero_add]))
              · have e84 := (hS 15 84 rfl (hdn 15 (by decide)) (Nat.le_of_ble_eq_true rfl)).trans (hJ.says (hdn 15 (by decide)) rfl)
                have e87 := (hS 18 87 rfl (hdn 18 (by decide)) (Nat.le_of_ble_eq_true rfl)).trans (hJ.says (hdn 18 (by decide)) rfl)
                have e88 := (hS 19 88 rfl (hdn 19 (by decide)) (Nat.le_of_ble_eq_true rfl)).trans (hJ.says (hdn 19 (by decide)) rfl)
                exact po_call 89 26 #[Operand.tmp 87, Operand.tmp 88] #[29, 29] _ HWF hJ rfl hE (qTSame_to (qAdd (qMul bT A) q) (qMul bT A) false _ (LtT.qAdd _ _) (LtT.oft _ _ _) ((RQ.same (RQ.add (RQ.mul RQ.base HA.out) Rq.out) (RQ.mul RQ.base HA.out)).trans (decide_eq_false (addH_ne (RQ.mul RQ.base HA.out).on)))) rfl rfl rfl rfl (wanted_of rfl rfl e84) Try.func26 (by kernel_rfl) (by kernel_rfl) (by simp only [List.map_toArray, List.map_cons, List.map_nil, eval_const, eval_func, e87, e88] <;> rfl)
              · have e84 := (hS 15 84 rfl (hdn 15 (by decide)) (Nat.le_of_ble_eq_true rfl)).trans (hJ.says (hdn 15 (by decide)) rfl)
                have e89 := (hS 20 89 rfl (hdn 20 (by decide)) (Nat.le_of_ble_eq_true rfl)).trans (hJ.says (hdn 20 (by decide)) rfl)
                exact po_run 90 (Op.unOp UnOp.not 4 (Operand.tmp 89)) _ HWF hJ rfl hE rfl rfl rfl rfl rfl (wanted_of rfl rfl e84) (by first | (simp only [execOp, mkOp, eval_const, e89]; done) | (simp only [execOp, mkOp, eval_const, e89]; go_simp))
              · have e84 := (hS 15 84 rfl (hdn 15 (by decide)) (Nat.le_of_ble_eq_true rfl)).trans (hJ.says (hdn 15 (by decide)) rfl)
                have e90 := (hS 21 90 rfl (hdn 21 (by decide)) (Nat.le_of_ble_eq_true rfl)).trans (hJ.says (hdn 21 (by decide)) rfl)
                exact po_run 91 (Op.pick (Operand.tmp 84) (Operand.tmp 90) (Operand.const (Value.bool false))) _ HWF hJ rfl hE rfl rfl rfl rfl rfl rfl (by first | (simp only [execOp, mkOp, eval_const, e84, e90]; done) | (simp only [execOp, mkOp, eval_const, e84, e90]; go_simp))
              · have e91 := (hS 22 91 rfl (hdn 22 (by decide)) (Nat.le_of_ble_eq_true rfl)).trans (hJ.says (hdn 22 (by decide)) rfl)
                exact po_run 92 (Op.move (Operand.tmp 91)) _ HWF hJ rfl hE rfl rfl rfl rfl rfl rfl (by first | (simp only [execOp, mkOp, eval_const, e91]; done) | (simp only [execOp, mkOp, eval_const, e91]; go_simp))
              · have e92 := (hS 23 92 rfl (hdn 23 (by decide)) (Nat.le_of_ble_eq_true rfl)).trans (hJ.says (hdn 23 (by decide)) rfl)
                have e6 : az.eval (.tmp 6) = .pointer (some ⟨b_t6, 0, none⟩) := hO 6 rfl
                exact po_run 93 (Op.load 29 (Operand.tmp 6)) _ HWF hJ rfl hE rfl rfl rfl rfl rfl (wanted_of rfl rfl e92) (exec_load_as _ _ _ _ (qT (qMul bT A)) e6 arrQ (Keep.row hE r_t6 rfl) (by omega) (fun i hi => by rw [Nat.zero_add]))
              · have e92 := (hS 23 92 rfl (hdn 23 (by decide)) (Nat.le_of_ble_eq_true rfl)).trans (hJ.says (hdn 23 (by decide)) rfl)
                have e11 : az.eval (.tmp 11) = .pointer (some ⟨b_t11, 0, none⟩) := hO 11 rfl
                exact po_run 94 (Op.load 29 (Operand.tmp 11)) _ HWF hJ rfl hE rfl rfl rfl rfl rfl (wanted_of rfl rfl e92) (exec_load_as _ _ _ _ (qT q) e11 arrQ (Keep.row hE r_t11 rfl) (by omega) (fun i hi => by rw [Nat.zero_add]))
              · have e92 := (hS 23 92 rfl (hdn 23 (by decide)) (Nat.le_of_ble_eq_true rfl)).trans (hJ.says (hdn 23 (by decide)) rfl)
                have e93 := (hS 24 93 rfl (hdn 24 (by decide)) (Nat.le_of_ble_eq_true rfl)).trans (hJ.says (hdn 24 (by decide)) rfl)
                have e94 := (hS 25 94 rfl (hdn 25 (by decide)) (Nat.le_of_ble_eq_true rfl)).trans (hJ.says (hdn 25 (by decide)) rfl)
                exact po_call 95 22 #[Operand.tmp 93, Operand.tmp 94] #[29, 29] _ HWF hJ rfl hE (qTAdd_any (qMul bT A) q _ (LtT.oft _ _ _) Hq.out) rfl rfl rfl rfl (wanted_of rfl rfl e92) Try.func22 (by kernel_rfl) (by kernel_rfl) (by simp only [List.map_toArray, List.map_cons, List.map_nil, eval_const, eval_func, e93, e94] <;> rfl)
              · have e92 := (hS 23 92 rfl (hdn 23 (by decide)) (Nat.le_of_ble_eq_true rfl)).trans (hJ.says (hdn 23 (by decide)) rfl)
                have e1 : az.eval (.tmp 1) = .int .i64 x1 := hO 1 rfl
                exact po_run 96 (Op.move (Operand.tmp 1)) _ HWF hJ rfl hE rfl rfl rfl rfl rfl (wanted_of rfl rfl e92) (by first | (simp only [execOp, mkOp, eval_const, e1]; done) | (simp only [execOp, mkOp, eval_const, e1]; go_simp))
              · have e92 := (hS 23 92 rfl (hdn 23 (by decide)) (Nat.le_of_ble_eq_true rfl)).trans (hJ.says (hdn 23 (by decide)) rfl)
                have e96 := (hS 27 96 rfl (hdn 27 (by decide)) (Nat.le_of_ble_eq_true rfl)).trans (hJ.says (hdn 27 (by decide)) rfl)
                exact po_call 97 32 #[Operand.tmp 96, Operand.const (Value.int IntKind.i64 100)] #[3, 3] _ HWF hJ rfl hE (HRD.out _) rfl rfl rfl rfl (wanted_of rfl rfl e92) Try.func32 (by kernel_rfl) (by kernel_rfl) (by simp only [List.map_toArray, List.map_cons, List.map_nil, eval_const, eval_func, e96] <;> rfl)
              · have e92 := (hS 23 92 rfl (hdn 23 (by decide)) (Nat.le_of_ble_eq_true rfl)).trans (hJ.says (hdn 23 (by decide)) rfl)
                have e97 := (hS 28 97 rfl (hdn 28 (by decide)) (Nat.le_of_ble_eq_true rfl)).trans (hJ.says (hdn 28 (by decide)) rfl)
                exact po_run 98 (Op.binOp BinOp.mul 3 (Operand.const (Value.int IntKind.i64 2)) (Operand.tmp 97) 3) _ HWF hJ rfl hE rfl rfl rfl rfl rfl (wanted_of rfl rfl e92) (exec_mul2 _ _ _ _ R M (eval_const _ _) e97 HM.out.symm HML.out)
              · have e92 := (hS 23 92 rfl (hdn 23 (by decide)) (Nat.le_of_ble_eq_true rfl)).trans (hJ.says (hdn 23 (by decide)) rfl)
                have e95 := (hS 26 95 rfl (hdn 26 (by decide)) (Nat.le_of_ble_eq_true rfl)).trans (hJ.says (hdn 26 (by decide)) rfl)
                have e98 := (hS 29 98 rfl (hdn 29 (by decide)) (Nat.le_of_ble_eq_true rfl)).trans (hJ.says (hdn 29 (by decide)) rfl)
                exact po_call 99 28 #[Operand.tmp 95, Operand.tmp 98] #[29, 3] _ HWF hJ rfl hE (pTimes_in (qAdd (qMul bT A) q) M _ (LtT.qAdd _ _) (by have h := HML.out; omega)) rfl rfl rfl rfl (wanted_of rfl rfl e92) Try.func28 (by kernel_rfl) (by kernel_rfl) (by simp only [List.map_toArray, List.map_cons, List.map_nil, eval_const, eval_func, e95, e98] <;> rfl)
              · have e92 := (hS 23 92 rfl (hdn 23 (by decide)) (Nat.le_of_ble_eq_true rfl)).trans (hJ.says (hdn 23 (by decide)) rfl)
                have e6 : az.eval (.tmp 6) = .pointer (some ⟨b_t6, 0, none⟩) := hO 6 rfl
                exact po_run 100 (Op.load 29 (Operand.tmp 6)) _ HWF hJ rfl hE rfl rfl rfl rfl rfl (wanted_of rfl rfl e92) (exec_load_as _ _ _ _ (qT (qMul bT A)) e6 arrQ (Keep.row hE r_t6 rfl) (by omega) (fun i hi => by rw [Nat.zero_add]))
              · have e92 := (hS 23 92 rfl (hdn 23 (by decide)) (Nat.le_of_ble_eq_true rfl)).trans (hJ.says (hdn 23 (by decide)) rfl)
                have e1 : az.eval (.tmp 1) = .int .i64 x1 := hO 1 rfl
                exact po_run 101 (Op.move (Operand.tmp 1)) _ HWF hJ rfl hE rfl rfl rfl rfl rfl (wanted_of rfl rfl e92) (by first | (simp only [execOp, mkOp, eval_const, e1]; done) | (simp only [execOp, mkOp, eval_const, e1]; go_simp))
              · have e92 := (hS 23 92 rfl (hdn 23 (by decide)) (Nat.le_of_ble_eq_true rfl)).trans (hJ.says (hdn 23 (by decide)) rfl)
                have e101 := (hS 32 101 rfl (hdn 32 (by decide)) (Nat.le_of_ble_eq_true rfl)).trans (hJ.says (hdn 32 (by decide)) rfl)
                exact po_call 102 32 #[Operand.tmp 101, Operand.const (Value.int IntKind.i64 100)] #[3, 3] _ HWF hJ rfl hE (HRD.out _) rfl rfl rfl rfl (wanted_of rfl rfl e92) Try.func32 (by kernel_rfl) (by kernel_rfl) (by simp only [List.map_toArray, List.map_cons, List.map_nil, eval_const, eval_func, e101] <;> rfl)
              · have e92 := (hS 23 92 rfl (hdn 23 (by decide)) (Nat.le_of_ble_eq_true rfl)).trans (hJ.says (hdn 23 (by decide)) rfl)
                have e102 := (hS 33 102 rfl (hdn 33 (by decide)) (Nat.le_of_ble_eq_true rfl)).trans (hJ.says (hdn 33 (by decide)) rfl)
                exact po_run 103 (Op.binOp BinOp.mul 3 (Operand.const (Value.int IntKind.i64 2)) (Operand.tmp 102) 3) _ HWF hJ rfl hE rfl rfl rfl rfl rfl (wanted_of rfl rfl e92) (exec_mul2 _ _ _ _ R M (eval_const _ _) e102 HM.out.symm HML.out)
              · have e92 := (hS 23 92 rfl (hdn 23 (by decide)) (Nat.le_of_ble_eq_true rfl)).trans (hJ.says (hdn 23 (by decide)) rfl)
                have e100 := (hS 31 100 rfl (hdn 31 (by decide)) (Nat.le_of_ble_eq_true rfl)).trans (hJ.says (hdn 31 (by decide)) rfl)
                have e103 := (hS 34 103 rfl (hdn 34 (by decide)) (Nat.le_of_ble_eq_true rfl)).trans (hJ.says (hdn 34 (by decide)) rfl)
                exact po_call 104 28 #[Operand.tmp 100, Operand.tmp 103] #[29, 3] _ HWF hJ rfl hE (pTimes_in (qMul bT A) M _ (LtT.oft _ _ _) (by have h := HML.out; omega)) rfl rfl rfl rfl (wanted_of rfl rfl e92) Try.func28 (by kernel_rfl) (by kernel_rfl) (by simp only [List.map_toArray, List.map_cons, List.map_nil, eval_const, eval_func, e100, e103] <;> rfl)
              · have e92 := (hS 23 92 rfl (hdn 23 (by decide)) (Nat.le_of_ble_eq_true rfl)).trans (hJ.says (hdn 23 (by decide)) rfl)
                have e99 := (hS 30 99 rfl (hdn 30 (by decide)) (Nat.le_of_ble_eq_true rfl)).trans (hJ.says (hdn 30 (by decide)) rfl)
                have e104 := (hS 35 104 rfl (hdn 35 (by decide)) (Nat.le_of_ble_eq_true rfl)).trans (hJ.says (hdn 35 (by decide)) rfl)
                exact po_call 105 26 #[Operand.tmp 99, Operand.tmp 104] #[29, 29] _ HWF hJ rfl hE (qTSame_to (qTim (qAdd (qMul bT A) q) M) (qTim (qMul bT A) M) true _ (LtT.oft _ _ _) (LtT.oft _ _ _) ((RQ.same (RQ.tim (RQ.add (RQ.mul RQ.base HA.out) Rq.out) (by have h := HML.out; omega)) (RQ.tim (RQ.mul RQ.base HA.out) (by have h := HML.out; omega))).trans (decide_eq_true (by rw [HM.out]; exact even_H (RQ.mul RQ.base HA.out).on R)))) rfl rfl rfl rfl (wanted_of rfl rfl e92) Try.func26 (by kernel_rfl) (by kernel_rfl) (by simp only [List.map_toArray, List.map_cons, List.map_nil, eval_const, eval_func, e99, e104] <;> rfl)
              · have e92 := (hS 23 92 rfl (hdn 23 (by decide)) (Nat.le_of_ble_eq_true rfl)).trans (hJ.says (hdn 23 (by decide)) rfl)
                have e105 := (hS 36 105 rfl (hdn 36 (by decide)) (Nat.le_of_ble_eq_true rfl)).trans (hJ.says (hdn 36 (by decide)) rfl)
                exact po_run 106 (Op.pick (Operand.tmp 92) (Operand.tmp 105) (Operand.const (Value.bool false))) _ HWF hJ rfl hE rfl rfl rfl rfl rfl rfl (by first | (simp only [execOp, mkOp, eval_const, e92, e105]; done) | (simp only [execOp, mkOp, eval_const, e92, e105]; go_simp))
              · have e106 := (hS 37 106 rfl (hdn 37 (by decide)) (Nat.le_of_ble_eq_true rfl)).trans (hJ.says (hdn 37 (by decide)) rfl)
                exact po_run 107 (Op.move (Operand.tmp 106)) _ HWF hJ rfl hE rfl rfl rfl rfl rfl rfl (by first | (simp only [execOp, mkOp, eval_const, e106]; done) | (simp only [execOp, mkOp, eval_const, e106]; go_simp))
              · have e107 := (hS 38 107 rfl (hdn 38 (by decide)) (Nat.le_of_ble_eq_true rfl)).trans (hJ.says (hdn 38 (by decide)) rfl)
                exact po_call 108 9 #[] #[] _ HWF hJ rfl hE (awake8_any _) rfl rfl rfl rfl (wanted_of rfl rfl e107) Try.func9 (by kernel_rfl) (by kernel_rfl) (by simp only [List.map_toArray, List.map_cons, List.map_nil, eval_const, eval_func] <;> rfl)
              · have e107 := (hS 38 107 rfl (hdn 38 (by decide)) (Nat.le_of_ble_eq_true rfl)).trans (hJ.says (hdn 38 (by decide)) rfl)
                have e108 := (hS 39 108 rfl (hdn 39 (by decide)) (Nat.le_of_ble_eq_true rfl)).trans (hJ.says (hdn 39 (by decide)) rfl)
                exact po_run 109 (Op.pick (Operand.tmp 107) (Operand.tmp 108) (Operand.const (Value.bool false))) _ HWF hJ rfl hE rfl rfl rfl rfl rfl rfl (by first | (simp only [execOp, mkOp, eval_const, e107, e108]; done) | (simp only [execOp, mkOp, eval_const, e107, e108]; go_simp))
              · have e109 := (hS 40 109 rfl (hdn 40 (by decide)) (Nat.le_of_ble_eq_true rfl)).trans (hJ.says (hdn 40 (by decide)) rfl)
                exact po_run 4 (Op.assign (Operand.tmp 109)) _ HWF hJ rfl hE rfl rfl rfl rfl rfl rfl (by first | (simp only [execOp, mkOp, eval_const, e109]; done) | (simp only [execOp, mkOp, eval_const, e109]; go_simp))
            · have q0 := hJ.told 0 (by decide) rfl
              have q1 := hJ.told 1 (by decide) rfl
              have q2 := hJ.told 2 (by decide) rfl
              have q3 := hJ.told 3 (by decide) rfl
              have q4 := hJ.told 4 (by decide) rfl
              have q5 := hJ.told 5 (by decide) rfl
              have q6 := hJ.told 6 (by decide) rfl
              have q7 := hJ.told 7 (by decide) rfl
              have q8 := hJ.told 8 (by decide) rfl
              have q9 := hJ.told 9 (by decide) rfl
              have q10 := hJ.told 10 (by decide) rfl
              have q11 := hJ.told 11 (by decide) rfl
              have q12 := hJ.told 12 (by decide) rfl
              have q13 := hJ.told 13 (by decide) rfl
              have q14 := hJ.told 14 (by decide) rfl
              have q15 := hJ.told 15 (by decide) rfl
              have q16 := hJ.told 16 (by decide) rfl
              have q17 := hJ.told 17 (by decide) rfl
              have q18 := hJ.told 18 (by decide) rfl
              have q19 := hJ.told 19 (by decide) rfl
              have q20 := hJ.told 20 (by decide) rfl
              have q21 := hJ.told 21 (by decide) rfl
              have q22 := hJ.told 22 (by decide) rfl
              have q23 := hJ.told 23 (by decide) rfl
              have q24 := hJ.told 24 (by decide) rfl
              have q25 := hJ.told 25 (by decide) rfl
              have q26 := hJ.told 26 (by decide) rfl
              have q27 := hJ.told 27 (by decide) rfl
              have q28 := hJ.told 28 (by decide) rfl
              have q29 := hJ.told 29 (by decide) rfl
              have q30 := hJ.told 30 (by decide) rfl
              have q31 := hJ.told 31 (by decide) rfl
              have q32 := hJ.told 32 (by decide) rfl
              have q33 := hJ.told 33 (by decide) rfl
              have q34 := hJ.told 34 (by decide) rfl
              have q35 := hJ.told 35 (by decide) rfl
              have q36 := hJ.told 36 (by decide) rfl
              have q37 := hJ.told 37 (by decide) rfl
              have q38 := hJ.told 38 (by decide) rfl
              have q39 := hJ.told 39 (by decide) rfl
              have q40 := hJ.told 40 (by decide) rfl
              have q41 := hJ.told 41 (by decide) rfl
              rw [putO_true _ _ _ _ _ rfl]
              simp only [putA, Nat.zero_add, Nat.reduceAdd]
              rw [q0, q1, q2, q3, q4, q5, q6, q7, q8, q9, q10, q11, q12, q13, q14, q15, q16, q17, q18, q19, q20, q21, q22, q23, q24, q25, q26, q27, q28, q29, q30, q31, q32, q33, q34, q35, q36, q37, q38, q39, q40, q41]
              simp only [Act.put, List.setIfInBounds_toArray, List.set_cons_zero, List.set_cons_succ]
              refine po_end ?_
              replace r_t6 := Keep.row hE r_t6 rfl
              replace r_t8 := Keep.row hE r_t8 rfl
              replace r_t11 := Keep.row hE r_t11 rfl
              have Bw67 := hE.below Bw66 (HGS.out _ Bw66) rfl
              clear Bw66 hE hJ HWF q0 q1 q2 q3 q4 q5 q6 q7 q8 q9 q10 q11 q12 q13 q14 q15 q16 q17 q18 q19 q20 q21 q22 q23 q24 q25 q26 q27 q28 q29 q30 q31 q32 q33 q34 q35 q36 q37 q38 q39 q40 q41
              go_wp2
              go_ret
              exact ⟨rfl, Bw67⟩
  · have q0 : (100 : Int) < (n0 : Int) := by omega
    clear h0 hB0 e0 d0
    go_enter Try.func6, Try.ntmps6
    go_wp2_with (go_at_call 9; refine (awake8_any _).mono ?_; rintro e w9 ⟨rfl, hb9⟩)
    go_ret
    exact ⟨rfl, hb9⟩
end Go.Proofs.Ytphkmaihnbhgoaa
