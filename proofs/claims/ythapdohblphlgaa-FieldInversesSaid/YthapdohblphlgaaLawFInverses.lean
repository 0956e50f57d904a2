/- FieldInverses, walked. -/
import Derived.Test.YthapdohblphlgaaEwL
namespace Go.Proofs.Ythapdohblphlgaa
open Go.RowKit Go.Deep

set_option maxHeartbeats 16000000 in
set_option maxRecDepth 100000 in
theorem law_fieldInverses (w : World) (v0 : Value) (l0 : List UInt8) (h0 : Bs w v0 l0) (v1 : Value) (l1 : List UInt8) (h1 : Bs w v1 l1) : Calls Try.prog 9 #[v0, v1] w fun e w' => e = .returned (.bool true) ∧ Below w.heap.size w w' := by
  obtain ⟨a0, n0, c0, rfl, e0, f0, g0, hB0⟩ := h0.shape
  have H0 := Lib.hid hB0
  obtain ⟨a1, n1, c1, rfl, e1, f1, g1, hB1⟩ := h1.shape
  have H1 := Lib.hid hB1
  have HOF0 := Lib.hid fun v w (h : Bs w v l0) => of_any v l0 w h
  obtain ⟨A, hA⟩ := nat_var (ofL l0)
  have HA : Hid (A < p25) := Lib.hid (by rw [hA]; exact ofL_lt l0)
  rw [← hA] at HOF0
  clear hA
  have HOF1 := Lib.hid fun v w (h : Bs w v l1) => of_any v l1 w h
  obtain ⟨C, hC⟩ := nat_var (ofL l1)
  have HC : Hid (C < p25) := Lib.hid (by rw [hC]; exact ofL_lt l1)
  rw [← hC] at HOF1
  clear hC
  have B0 := Below.refl w.heap.size w
  have HGS : Hid (∀ wq : World, Below w.heap.size w wq → w.heap.size ≤ wq.heap.size) := Lib.hid fun wq h => h.size
  have hfew := few5_any _ _ l0 l1 w hB0 hB1
  by_cases d0 : ¬ (l0.length ≤ 100 ∧ l1.length ≤ 100)
  · rw [decide_eq_false d0] at hfew
    have HFEW := Lib.hid hfew
    clear hfew d0
    go_enter Try.func9, Try.ntmps9
    go_wp2_with (first
      | (go_at_call 11; refine HFEW.out.mono ?_; rintro e w1 ⟨rfl, rfl⟩)
      | (go_at_call 12; refine (awake5_any _).mono ?_; rintro e w9 ⟨rfl, hb9⟩))
    go_ret
    exact ⟨rfl, hb9⟩
  replace d0 := Classical.not_not.1 d0
  rw [decide_eq_true d0] at hfew
  have HFEW := Lib.hid hfew
  clear hfew d0 hB0 hB1 e0 e1 h0 h1
  go_enter Try.func9, Try.ntmps9
  go_wp2_with (first
    | (go_at_call 11; refine HFEW.out.mono ?_; rintro e w1 ⟨rfl, rfl⟩; clear HFEW)
    | (go_at_call 13; have hgo := B0; clear hgo; refine (HOF0.out _ _ (H0.out.below B0 (Nat.le_refl _))).mono ?_; rintro e w1 ⟨rfl, hb1⟩
       have B1 := B0.trans (hb1.mono (HGS.out _ B0))
       clear B0 hb1)
    | (go_at_call 13; have hgo := B1; clear hgo; refine (HOF1.out _ _ (H1.out.below B1 (Nat.le_refl _))).mono ?_; rintro e w2 ⟨rfl, hb2⟩
       have B2 := B1.trans (hb2.mono (HGS.out _ B1))
       clear B1 hb2
       have g3 := HGS.out _ B2
       try simp only [World.size_alloc] at g3
       have B3 := B2.alloc (HGS.out _ B2) (.cells (arrOf 4 (u64f fun _ => 0)) 28)
       have r3_t5 := rowIs_arr w2 4 (u64f fun _ => 0) 28
       try simp only [World.size_alloc] at r3_t5
       clear B2
       have lt4_t5 := World.rowIs.lt r3_t5
       try simp only [World.size_alloc] at lt4_t5
       have g4 := HGS.out _ B3
       try simp only [World.size_alloc] at g4
       have r4_t5 := World.rowIs.alloc r3_t5 (.cells (arrOf 4 (u64f fun _ => 0)) 28)
       have B4 := B3.alloc (HGS.out _ B3) (.cells (arrOf 4 (u64f fun _ => 0)) 28)
       have r4_t6 := rowIs_arr (w2.alloc (.cells (arrOf 4 (u64f fun _ => 0)) 28)) 4 (u64f fun _ => 0) 28
       try simp only [World.size_alloc] at r4_t6
       clear r3_t5 B3)
    | (refine wpList_alloc_arr rfl 28 rfl (arrOf 4 (u64f fun _ => 0)) zeroE ?_; try simp only [World.size_alloc])
    | (refine wpList_store_arr rfl 28 (.tmp 5) (.tmp 14) rfl 4 arrE r4_t5 rfl rfl (by omega) (fun _ _ => rfl) ?_; intro x5 hr5 hg5 hs5
       have r5_t5 : x5.rowIs (w2.heap.size) 28 4 (ewF A) := hr5.congr fun i hi => by unfold putN; rw [if_pos (by omega), Nat.sub_zero]
       have r5_t6 := gb_rowIs r4_t6 hg5 (Ne.symm (Nat.ne_of_lt lt4_t5))
       have B5 := B4.grown hg5 (HGS.out _ B4) (by intro k hk; cases hk; exact g3)
       clear r4_t5 r4_t6 B4 hr5 hg5 hs5)
    | (refine wpList_store_arr rfl 28 (.tmp 6) (.tmp 16) rfl 4 arrE r5_t6 rfl rfl (by omega) (fun _ _ => rfl) ?_; intro x6 hr6 hg6 hs6
       have r6_t6 : x6.rowIs (w2.heap.size + 1) 28 4 (ewF C) := hr6.congr fun i hi => by unfold putN; rw [if_pos (by omega), Nat.sub_zero]
       have r6_t5 := gb_rowIs r5_t5 hg6 (Nat.ne_of_lt lt4_t5)
       have B6 := B5.grown hg6 (HGS.out _ B5) (by intro k hk; cases hk; exact g4)
       clear r5_t6 r5_t5 B5 hr6 hg6 hs6))
  have B := B6.drew
  have rt5 := World.rowIs.drew r6_t5
  have rt6 := World.rowIs.drew r6_t6
  clear B6 r6_t5 r6_t6
  refine wp_region_lint (.rd 0 (.rd 1 (.rd 2 (.rd 5 (.rd 6 (.rd 8 (.rd 9 (.wr 3 (.wr 4 (.wr 7 (.wr 10 (.wr 11 (.wr 12 (.rd 13 (.rd 14 (.rd 15 (.rd 16 (.rd 19 (.wr 17 (.wr 18 (.wr 20 (.rd 21 (.rd 22 (.rd 23 (.rd 24 (.rd 27 (.rd 28 (.wr 25 (.wr 26 (.wr 29 (.wr 30 (.wr 31 (.rd 32 (.rd 33 (.wr 34 (.rd 35 (.rd 36 .done))))))))))))))))))))))))))))))))))))) (by kernel_rfl) (by kernel_rfl) (by decide) (by kernel_rfl) (fun d _ _ _ _ h => by cases d <;> exact h) ?_
  refine lint_pure 17 (Op.move (Operand.tmp 7)) 41 _ rfl rfl rfl rfl rfl (fun w0 hb0 => by unfold mkOp; go_simp; all_goals (with_reducible rfl)) ?_
  simp only [Act.put, List.setIfInBounds_toArray, List.set_cons_zero, List.set_cons_succ, Nat.zero_add]
  refine lint_pure 18 (Op.load 28 (Operand.tmp 5)) 28 (.agg (arrOf 4 fun i => ewF A (0 + i))) rfl rfl rfl rfl rfl (fun w0 hb0 => by exact exec_load_arr _ _ _ _ rfl arrE (World.rowIs.of_block rt5 (hb0.block _ (World.rowIs.lt rt5))) (by omega)) ?_
  simp only [Act.put, List.setIfInBounds_toArray, List.set_cons_zero, List.set_cons_succ, Nat.zero_add]
  refine lint_pure 19 (Op.load 28 (Operand.tmp 6)) 28 (.agg (arrOf 4 fun i => ewF C (0 + i))) rfl rfl rfl rfl rfl (fun w0 hb0 => by exact exec_load_arr _ _ _ _ rfl arrE (World.rowIs.of_block rt6 (hb0.block _ (World.rowIs.lt rt6))) (by omega)) ?_
  simp only [Act.put, List.setIfInBounds_toArray, List.set_cons_zero, List.set_cons_succ, Nat.zero_add]
  refine lint_pure 22 (Op.move (Operand.tmp 7)) 41 _ rfl rfl rfl rfl rfl (fun w0 hb0 => by unfold mkOp; go_simp; all_goals (with_reducible rfl)) ?_
  simp only [Act.put, List.setIfInBounds_toArray, List.set_cons_zero, List.set_cons_succ, Nat.zero_add]
  refine lint_pure 23 (Op.load 28 (Operand.tmp 5)) 28 (.agg (arrOf 4 fun i => ewF A (0 + i))) rfl rfl rfl rfl rfl (fun w0 hb0 => by exact exec_load_arr _ _ _ _ rfl arrE (World.rowIs.of_block rt5 (hb0.block _ (World.rowIs.lt rt5))) (by omega)) ?_
  simp only [Act.put, List.setIfInBounds_toArray, List.set_cons_zero, List.set_cons_succ, Nat.zero_add]
  refine lint_pure 25 (Op.move (Operand.tmp 7)) 41 _ rfl rfl rfl rfl rfl (fun w0 hb0 => by unfold mkOp; go_simp; all_goals (with_reducible rfl)) ?_
  simp only [Act.put, List.setIfInBounds_toArray, List.set_cons_zero, List.set_cons_succ, Nat.zero_add]
  refine lint_pure 26 (Op.load 28 (Operand.tmp 6)) 28 (.agg (arrOf 4 fun i => ewF C (0 + i))) rfl rfl rfl rfl rfl (fun w0 hb0 => by exact exec_load_arr _ _ _ _ rfl arrE (World.rowIs.of_block rt6 (hb0.block _ (World.rowIs.lt rt6))) (by omega)) ?_
  simp only [Act.put, List.setIfInBounds_toArray, List.set_cons_zero, List.set_cons_succ, Nat.zero_add]
  refine stp_fn 20 24 #[Operand.tmp 18, Operand.tmp 19] #[28, 28] _ (mul_any A C _ HA.out HC.out) rfl rfl rfl rfl Try.func24 (by kernel_rfl) (by kernel_rfl) (by go_simp) ?_
  rintro e w20 ⟨rfl, b20⟩
  replace B := B.trans (Below.mono b20 (HGS.out _ B))
  replace rt5 := World.rowIs.of_block rt5 (b20.block _ (World.rowIs.lt rt5))
  replace rt6 := World.rowIs.of_block rt6 (b20.block _ (World.rowIs.lt rt6))
  refine ⟨_, rfl, b20, ?_⟩
  simp only [Act.put, List.setIfInBounds_toArray, List.set_cons_zero, List.set_cons_succ, Nat.zero_add]
  refine stp_val 21 (Operand.tmp 17) 33 #[Operand.tmp 20] #[28] _ (inv_any (mulP A C) _ (mulP_lt _ _)) rfl rfl rfl rfl rfl Try.func33 (by kernel_rfl) (by kernel_rfl) (by go_simp) ?_
  rintro e w21 ⟨rfl, b21⟩
  replace B := B.trans (Below.mono b21 (HGS.out _ B))
  replace rt5 := World.rowIs.of_block rt5 (b21.block _ (World.rowIs.lt rt5))
  replace rt6 := World.rowIs.of_block rt6 (b21.block _ (World.rowIs.lt rt6))
  refine ⟨_, rfl, b21, ?_⟩
  simp only [Act.put, List.setIfInBounds_toArray, List.set_cons_zero, List.set_cons_succ, Nat.zero_add]
  refine stp_val 24 (Operand.tmp 22) 33 #[Operand.tmp 23] #[28] _ (inv_any A _ HA.out) rfl rfl rfl rfl rfl Try.func33 (by kernel_rfl) (by kernel_rfl) (by go_simp) ?_
  rintro e w24 ⟨rfl, b24⟩
  replace B := B.trans (Below.mono b24 (HGS.out _ B))
  replace rt5 := World.rowIs.of_block rt5 (b24.block _ (World.rowIs.lt rt5))
  replace rt6 := World.rowIs.of_block rt6 (b24.block _ (World.rowIs.lt rt6))
  refine ⟨_, rfl, b24, ?_⟩
  simp only [Act.put, List.setIfInBounds_toArray, List.set_cons_zero, List.set_cons_succ, Nat.zero_add]
  refine stp_val 27 (Operand.tmp 25) 33 #[Operand.tmp 26] #[28] _ (inv_any C _ HC.out) rfl rfl rfl rfl rfl Try.func33 (by kernel_rfl) (by kernel_rfl) (by go_simp) ?_
  rintro e w27 ⟨rfl, b27⟩
  replace B := B.trans (Below.mono b27 (HGS.out _ B))
  replace rt5 := World.rowIs.of_block rt5 (b27.block _ (World.rowIs.lt rt5))
  replace rt6 := World.rowIs.of_block rt6 (b27.block _ (World.rowIs.lt rt6))
  refine ⟨_, rfl, b27, ?_⟩
  simp only [Act.put, List.setIfInBounds_toArray, List.set_cons_zero, List.set_cons_succ, Nat.zero_add]
  refine stp_fn 28 24 #[Operand.tmp 24, Operand.tmp 27] #[28, 28] _ (mul_any (invP A) (invP C) _ (invP_lt _) (invP_lt _)) rfl rfl rfl rfl Try.func24 (by kernel_rfl) (by kernel_rfl) (by go_simp) ?_
  rintro e w28 ⟨rfl, b28⟩
  replace B := B.trans (Below.mono b28 (HGS.out _ B))
  replace rt5 := World.rowIs.of_block rt5 (b28.block _ (World.rowIs.lt rt5))
  replace rt6 := World.rowIs.of_block rt6 (b28.block _ (World.rowIs.lt rt6))
  refine ⟨_, rfl, b28, ?_⟩
  simp only [Act.put, List.setIfInBounds_toArray, List.set_cons_zero, List.set_cons_succ, Nat.zero_add]
  refine stp_fn 29 28 #[Operand.tmp 21, Operand.tmp 28] #[28, 28] _ (same5_yes (invP (mulP A C)) (mulP (invP A) (invP C)) _ (invP_lt _) (mulP_lt _ _) (invP_mul A C)) rfl rfl rfl rfl Try.func28 (by kernel_rfl) (by kernel_rfl) (by go_simp) ?_
  rintro e w29 ⟨rfl, b29⟩
  replace B := B.trans (Below.mono b29 (HGS.out _ B))
  replace rt5 := World.rowIs.of_block rt5 (b29.block _ (World.rowIs.lt rt5))
  replace rt6 := World.rowIs.of_block rt6 (b29.block _ (World.rowIs.lt rt6))
  refine ⟨_, rfl, b29, ?_⟩
  simp only [Act.put, List.setIfInBounds_toArray, List.set_cons_zero, List.set_cons_succ, Nat.zero_add]
  refine lint_pure 30 (Op.move (Operand.tmp 29)) 4 _ rfl rfl rfl rfl rfl (fun w0 hb0 => by unfold mkOp; go_simp; all_goals (with_reducible rfl)) ?_
  simp only [Act.put, List.setIfInBounds_toArray, List.set_cons_zero, List.set_cons_succ, Nat.zero_add]
  refine lint_pure 31 (Op.move (Operand.tmp 7)) 41 _ rfl rfl rfl rfl rfl (fun w0 hb0 => by unfold mkOp; go_simp; all_goals (with_reducible rfl)) ?_
  simp only [Act.put, List.setIfInBounds_toArray, List.set_cons_zero, List.set_cons_succ, Nat.zero_add]
  refine lint_pure 32 (Op.move (Operand.tmp 7)) 41 _ rfl rfl rfl rfl rfl (fun w0 hb0 => by unfold mkOp; go_simp; all_goals (with_reducible rfl)) ?_
  simp only [Act.put, List.setIfInBounds_toArray, List.set_cons_zero, List.set_cons_succ, Nat.zero_add]
  refine lint_pure 33 (Op.load 28 (Operand.tmp 5)) 28 (.agg (arrOf 4 fun i => ewF A (0 + i))) rfl rfl rfl rfl rfl (fun w0 hb0 => by exact exec_load_arr _ _ _ _ rfl arrE (World.rowIs.of_block rt5 (hb0.block _ (World.rowIs.lt rt5))) (by omega)) ?_
  simp only [Act.put, List.setIfInBounds_toArray, List.set_cons_zero, List.set_cons_succ, Nat.zero_add]
  refine lint_pure 36 (Op.load 28 (Operand.tmp 5)) 28 (.agg (arrOf 4 fun i => ewF A (0 + i))) rfl rfl rfl rfl rfl (fun w0 hb0 => by exact exec_load_arr _ _ _ _ rfl arrE (World.rowIs.of_block rt5 (hb0.block _ (World.rowIs.lt rt5))) (by omega)) ?_
  simp only [Act.put, List.setIfInBounds_toArray, List.set_cons_zero, List.set_cons_succ, Nat.zero_add]
  refine stp_val 34 (Operand.tmp 32) 33 #[Operand.tmp 33] #[28] _ (inv_any A _ HA.out) rfl rfl rfl rfl rfl Try.func33 (by kernel_rfl) (by kernel_rfl) (by go_simp) ?_
  rintro e w34 ⟨rfl, b34⟩
  replace B := B.trans (Below.mono b34 (HGS.out _ B))
  replace rt5 := World.rowIs.of_block rt5 (b34.block _ (World.rowIs.lt rt5))
  replace rt6 := World.rowIs.of_block rt6 (b34.block _ (World.rowIs.lt rt6))
  refine ⟨_, rfl, b34, ?_⟩
  simp only [Act.put, List.setIfInBounds_toArray, List.set_cons_zero, List.set_cons_succ, Nat.zero_add]
  refine stp_val 35 (Operand.tmp 31) 33 #[Operand.tmp 34] #[28] _ (inv_any (invP A) _ (invP_lt _)) rfl rfl rfl rfl rfl Try.func33 (by kernel_rfl) (by kernel_rfl) (by go_simp) ?_
  rintro e w35 ⟨rfl, b35⟩
  replace B := B.trans (Below.mono b35 (HGS.out _ B))
  replace rt5 := World.rowIs.of_block rt5 (b35.block _ (World.rowIs.lt rt5))
  replace rt6 := World.rowIs.of_block rt6 (b35.block _ (World.rowIs.lt rt6))
  refine ⟨_, rfl, b35, ?_⟩
  simp only [Act.put, List.setIfInBounds_toArray, List.set_cons_zero, List.set_cons_succ, Nat.zero_add]
  refine stp_fn 37 28 #[Operand.tmp 35, Operand.tmp 36] #[28, 28] _ (same5_yes (invP (invP A)) A _ (invP_lt _) HA.out (invP_invP A HA.out)) rfl rfl rfl rfl Try.func28 (by kernel_rfl) (by kernel_rfl) (by go_simp) ?_
  rintro e w37 ⟨rfl, b37⟩
  replace B := B.trans (Below.mono b37 (HGS.out _ B))
  replace rt5 := World.rowIs.of_block rt5 (b37.block _ (World.rowIs.lt rt5))
  replace rt6 := World.rowIs.of_block rt6 (b37.block _ (World.rowIs.lt rt6))
  refine ⟨_, rfl, b37, ?_⟩
  simp only [Act.put, List.setIfInBounds_toArray, List.set_cons_zero, List.set_cons_succ, Nat.zero_add]
  refine lint_pure 38 (Op.pick (Operand.tmp 30) (Operand.tmp 37) (Operand.const (Value.bool false))) 4 _ rfl rfl rfl rfl rfl (fun w0 hb0 => by unfold mkOp; go_simp; all_goals (with_reducible rfl)) ?_
  simp only [Act.put, List.setIfInBounds_toArray, List.set_cons_zero, List.set_cons_succ, Nat.zero_add]
  refine lint_pure 39 (Op.move (Operand.tmp 38)) 4 _ rfl rfl rfl rfl rfl (fun w0 hb0 => by unfold mkOp; go_simp; all_goals (with_reducible rfl)) ?_
  simp only [Act.put, List.setIfInBounds_toArray, List.set_cons_zero, List.set_cons_succ, Nat.zero_add]
  refine lint_pure 40 (Op.move (Operand.tmp 7)) 41 _ rfl rfl rfl rfl rfl (fun w0 hb0 => by unfold mkOp; go_simp; all_goals (with_reducible rfl)) ?_
  simp only [Act.put, List.setIfInBounds_toArray, List.set_cons_zero, List.set_cons_succ, Nat.zero_add]
  refine lint_pure 41 (Op.load 28 (Operand.tmp 5)) 28 (.agg (arrOf 4 fun i => ewF A (0 + i))) rfl rfl rfl rfl rfl (fun w0 hb0 => by exact exec_load_arr _ _ _ _ rfl arrE (World.rowIs.of_block rt5 (hb0.block _ (World.rowIs.lt rt5))) (by omega)) ?_
  simp only [Act.put, List.setIfInBounds_toArray, List.set_cons_zero, List.set_cons_succ, Nat.zero_add]
  refine lint_pure 44 (Op.move (Operand.tmp 7)) 41 _ rfl rfl rfl rfl rfl (fun w0 hb0 => by unfold mkOp; go_simp; all_goals (with_reducible rfl)) ?_
  simp only [Act.put, List.setIfInBounds_toArray, List.set_cons_zero, List.set_cons_succ, Nat.zero_add]
  refine lint_pure 45 (Op.load 28 (Operand.tmp 5)) 28 (.agg (arrOf 4 fun i => ewF A (0 + i))) rfl rfl rfl rfl rfl (fun w0 hb0 => by exact exec_load_arr _ _ _ _ rfl arrE (World.rowIs.of_block rt5 (hb0.block _ (World.rowIs.lt rt5))) (by omega)) ?_
  simp only [Act.put, List.setIfInBounds_toArray, List.set_cons_zero, List.set_cons_succ, Nat.zero_add]
  refine stp_fn 42 26 #[Operand.tmp 41] #[28] _ (neg_any A _ HA.out) rfl rfl rfl rfl Try.func26 (by kernel_rfl) (by kernel_rfl) (by go_simp) ?_
  rintro e w42 ⟨rfl, b42⟩
  replace B := B.trans (Below.mono b42 (HGS.out _ B))
  replace rt5 := World.rowIs.of_block rt5 (b42.block _ (World.rowIs.lt rt5))
  replace rt6 := World.rowIs.of_block rt6 (b42.block _ (World.rowIs.lt rt6))
  refine ⟨_, rfl, b42, ?_⟩
  simp only [Act.put, List.setIfInBounds_toArray, List.set_cons_zero, List.set_cons_succ, Nat.zero_add]
  refine stp_val 43 (Operand.tmp 40) 33 #[Operand.tmp 42] #[28] _ (inv_any (oppP A) _ (oppP_lt _)) rfl rfl rfl rfl rfl Try.func33 (by kernel_rfl) (by kernel_rfl) (by go_simp) ?_
  rintro e w43 ⟨rfl, b43⟩
  replace B := B.trans (Below.mono b43 (HGS.out _ B))
  replace rt5 := World.rowIs.of_block rt5 (b43.block _ (World.rowIs.lt rt5))
  replace rt6 := World.rowIs.of_block rt6 (b43.block _ (World.rowIs.lt rt6))
  refine ⟨_, rfl, b43, ?_⟩
  simp only [Act.put, List.setIfInBounds_toArray, List.set_cons_zero, List.set_cons_succ, Nat.zero_add]
  refine stp_val 46 (Operand.tmp 44) 33 #[Operand.tmp 45] #[28] _ (inv_any A _ HA.out) rfl rfl rfl rfl rfl Try.func33 (by kernel_rfl) (by kernel_rfl) (by go_simp) ?_
  rintro e w46 ⟨rfl, b46⟩
  replace B := B.trans (Below.mono b46 (HGS.out _ B))
  replace rt5 := World.rowIs.of_block rt5 (b46.block _ (World.rowIs.lt rt5))
  replace rt6 := World.rowIs.of_block rt6 (b46.block _ (World.rowIs.lt rt6))
  refine ⟨_, rfl, b46, ?_⟩
  simp only [Act.put, List.setIfInBounds_toArray, List.set_cons_zero, List.set_cons_succ, Nat.zero_add]
  refine stp_fn 47 26 #[Operand.tmp 46] #[28] _ (neg_any (invP A) _ (invP_lt _)) rfl rfl rfl rfl Try.func26 (by kernel_rfl) (by kernel_rfl) (by go_simp) ?_
  rintro e w47 ⟨rfl, b47⟩
  replace B := B.trans (Below.mono b47 (HGS.out _ B))
  replace rt5 := World.rowIs.of_block rt5 (b47.block _ (World.rowIs.lt rt5))
  replace rt6 := World.rowIs.of_block rt6 (b47.block _ (World.rowIs.lt rt6))
  refine ⟨_, rfl, b47, ?_⟩
  simp only [Act.put, List.setIfInBounds_toArray, List.set_cons_zero, List.set_cons_succ, Nat.zero_add]
  refine stp_fn 48 28 #[Operand.tmp 43, Operand.tmp 47] #[28, 28] _ (same5_yes (invP (oppP A)) (oppP (invP A)) _ (invP_lt _) (oppP_lt _) (invP_opp A HA.out)) rfl rfl rfl rfl Try.func28 (by kernel_rfl) (by kernel_rfl) (by go_simp) ?_
  rintro e w48 ⟨rfl, b48⟩
  replace B := B.trans (Below.mono b48 (HGS.out _ B))
  replace rt5 := World.rowIs.of_block rt5 (b48.block _ (World.rowIs.lt rt5))
  replace rt6 := World.rowIs.of_block rt6 (b48.block _ (World.rowIs.lt rt6))
  refine ⟨_, rfl, b48, ?_⟩
  simp only [Act.put, List.setIfInBounds_toArray, List.set_cons_zero, List.set_cons_succ, Nat.zero_add]
  refine lint_pure 49 (Op.pick (Operand.tmp 39) (Operand.tmp 48) (Operand.const (Value.bool false))) 4 _ rfl rfl rfl rfl rfl (fun w0 hb0 => by unfold mkOp; go_simp; all_goals (with_reducible rfl)) ?_
  simp only [Act.put, List.setIfInBounds_toArray, List.set_cons_zero, List.set_cons_succ, Nat.zero_add]
  refine lint_pure 50 (Op.move (Operand.tmp 49)) 4 _ rfl rfl rfl rfl rfl (fun w0 hb0 => by unfold mkOp; go_simp; all_goals (with_reducible rfl)) ?_
  simp only [Act.put, List.setIfInBounds_toArray, List.set_cons_zero, List.set_cons_succ, Nat.zero_add]
  refine stp_fn 51 12 #[] #[] _ (awake5_any _) rfl rfl rfl rfl Try.func12 (by kernel_rfl) (by kernel_rfl) (by go_simp) ?_
  rintro e w51 ⟨rfl, b51⟩
  replace B := B.trans (Below.mono b51 (HGS.out _ B))
  replace rt5 := World.rowIs.of_block rt5 (b51.block _ (World.rowIs.lt rt5))
  replace rt6 := World.rowIs.of_block rt6 (b51.block _ (World.rowIs.lt rt6))
  refine ⟨_, rfl, b51, ?_⟩
  simp only [Act.put, List.setIfInBounds_toArray, List.set_cons_zero, List.set_cons_succ, Nat.zero_add]
  refine lint_pure 52 (Op.pick (Operand.tmp 50) (Operand.tmp 51) (Operand.const (Value.bool false))) 4 _ rfl rfl rfl rfl rfl (fun w0 hb0 => by unfold mkOp; go_simp; all_goals (with_reducible rfl)) ?_
  simp only [Act.put, List.setIfInBounds_toArray, List.set_cons_zero, List.set_cons_succ, Nat.zero_add]
  refine lint_pure 4 (Op.assign (Operand.tmp 52)) 4 _ rfl rfl rfl rfl rfl (fun w0 hb0 => by unfold mkOp; go_simp; all_goals (with_reducible rfl)) ?_
  simp only [Act.put, List.setIfInBounds_toArray, List.set_cons_zero, List.set_cons_succ, Nat.zero_add]
  refine lint_end ?_
  go_wp2
  go_ret
  exact ⟨rfl, B⟩
end Go.Proofs.Ythapdohblphlgaa
