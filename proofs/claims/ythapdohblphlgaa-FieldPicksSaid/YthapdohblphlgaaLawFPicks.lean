/- FieldPicks, walked. -/
import Derived.Test.YthapdohblphlgaaEwL
namespace Go.Proofs.Ythapdohblphlgaa
open Go.RowKit Go.Deep
set_option linter.unusedSimpArgs false
set_option linter.unusedVariables false

set_option maxHeartbeats 16000000 in
set_option maxRecDepth 100000 in
theorem law_fieldPicks (w : World) (v0 : Value) (l0 : List UInt8) (h0 : Bs w v0 l0) (v1 : Value) (l1 : List UInt8) (h1 : Bs w v1 l1) (yes : Bool) : Calls Try.prog 10 #[v0, v1, .bool yes] w fun e w' => e = .returned (.bool true) ∧ Below w.heap.size w w' := by
  obtain ⟨a0, n0, c0, rfl, e0, f0, g0, hB0⟩ := h0.shape
  have H0 := Lib.hid hB0
  obtain ⟨a1, n1, c1, rfl, e1, f1, g1, hB1⟩ := h1.shape
  have H1 := Lib.hid hB1
  have HOF0 := Lib.hid fun v w (h : Bs w v l0) => of_any v l0 w h
  obtain ⟨A, hA⟩ := nat_var (ofL l0)
  have HA : Hid (A < p25) := Lib.hid (by rw [hA]; exact ofL_lt l0)
  rw [← hA] at HOF0
  clear hA
  have HOF1 := Lib.hid fun v w (h : Bs w v l1) => of_any v l1 w h
  obtain ⟨C, hC⟩ := nat_var (ofL l1)
  have HC : Hid (C < p25) := Lib.hid (by rw [hC]; exact ofL_lt l1)
  rw [← hC] at HOF1
  clear hC
  have B0 := Below.refl w.heap.size w
  have HGS : Hid (∀ wq : World, Below w.heap.size w wq → w.heap.size ≤ wq.heap.size) := Lib.hid fun wq h => h.size
  have hfew := few5_any _ _ l0 l1 w hB0 hB1
  by_cases d0 : ¬ (l0.length ≤ 100 ∧ l1.length ≤ 100)
  · rw [decide_eq_false d0] at hfew
    have HFEW := Lib.hid hfew
    clear hfew d0
    go_enter Try.func10, Try.ntmps10
    go_wp2_with (first
      | (go_at_call 11; refine HFEW.out.mono ?_; rintro e w1 ⟨rfl, rfl⟩)
      | (go_at_call 12; refine (awake5_any _).mono ?_; rintro e w9 ⟨rfl, hb9⟩))
    go_ret
    exact ⟨rfl, hb9⟩
  replace d0 := Classical.not_not.1 d0
  rw [decide_eq_true d0] at hfew
  have HFEW := Lib.hid hfew
  clear hfew d0 hB0 hB1 e0 e1 h0 h1
  go_enter Try.func10, Try.ntmps10
  cases yes
  · go_wp2_with (first
      | (go_at_call 11; refine HFEW.out.mono ?_; rintro e w1 ⟨rfl, rfl⟩; clear HFEW)
      | (go_at_call 13; have hgo := B0; clear hgo; refine (HOF0.out _ _ (H0.out.below B0 (Nat.le_refl _))).mono ?_; rintro e w1 ⟨rfl, hb1⟩
         have B1 := B0.trans (hb1.mono (HGS.out _ B0))
         clear B0 hb1)
      | (go_at_call 13; have hgo := B1; clear hgo; refine (HOF1.out _ _ (H1.out.below B1 (Nat.le_refl _))).mono ?_; rintro e w2 ⟨rfl, hb2⟩
         have B2 := B1.trans (hb2.mono (HGS.out _ B1))
         clear B1 hb2
         have g3 := HGS.out _ B2
         try simp only [World.size_alloc] at g3
         have B3 := B2.alloc (HGS.out _ B2) (.cells (arrOf 4 (u64f fun _ => 0)) 28)
         have r3_t7 := rowIs_arr w2 4 (u64f fun _ => 0) 28
         try simp only [World.size_alloc] at r3_t7
         clear B2
         have lt4_t7 := World.rowIs.lt r3_t7
         try simp only [World.size_alloc] at lt4_t7
         have g4 := HGS.out _ B3
         try simp only [World.size_alloc] at g4
         have r4_t7 := World.rowIs.alloc r3_t7 (.cells (arrOf 4 (u64f fun _ => 0)) 28)
         have B4 := B3.alloc (HGS.out _ B3) (.cells (arrOf 4 (u64f fun _ => 0)) 28)
         have r4_t8 := rowIs_arr (w2.alloc (.cells (arrOf 4 (u64f fun _ => 0)) 28)) 4 (u64f fun _ => 0) 28
         try simp only [World.size_alloc] at r4_t8
         clear B3)
      | (refine wpList_alloc_arr rfl 28 rfl (arrOf 4 (u64f fun _ => 0)) zeroE ?_; try simp only [World.size_alloc])
      | (refine wpList_store_arr rfl 28 (.tmp 7) (.tmp 17) rfl 4 arrE r4_t7 rfl rfl (by omega) (fun _ _ => rfl) ?_; intro x5 hr5 hg5 hs5
         have r5_t7 : x5.rowIs (w2.heap.size) 28 4 (ewF A) := hr5.congr fun i hi => by unfold putN; rw [if_pos (by omega), Nat.sub_zero]
         have r5_t8 := gb_rowIs r4_t8 hg5 (Ne.symm (Nat.ne_of_lt lt4_t7))
         have B5 := B4.grown hg5 (HGS.out _ B4) (by intro k hk; cases hk; exact g3)
         clear r4_t7 r4_t8 B4 hr5 hg5 hs5)
      | (refine wpList_store_arr rfl 28 (.tmp 8) (.tmp 19) rfl 4 arrE r5_t8 rfl rfl (by omega) (fun _ _ => rfl) ?_; intro x6 hr6 hg6 hs6
         have r6_t8 : x6.rowIs (w2.heap.size + 1) 28 4 (ewF C) := hr6.congr fun i hi => by unfold putN; rw [if_pos (by omega), Nat.sub_zero]
         have r6_t7 := gb_rowIs r5_t7 hg6 (Nat.ne_of_lt lt4_t7)
         have B6 := B5.grown hg6 (HGS.out _ B5) (by intro k hk; cases hk; exact g4)
         clear r5_t8 r5_t7 B5 hr6 hg6 hs6)
      | (refine wpList_load_arr rfl 28 (.tmp 7) rfl 4 arrE r6_t7 rfl (by omega) ?_; simp only [Nat.zero_add])
      | (refine wpList_load_arr rfl 28 (.tmp 8) rfl 4 arrE r6_t8 rfl (by omega) ?_; simp only [Nat.zero_add])
      | (go_at_call 30; have hgo := B6; clear hgo; refine (pick5_no A C _).mono ?_; rintro e w7 ⟨rfl, hb7⟩
         have r7_t7 := World.rowIs.of_block r6_t7 (hb7.block _ (World.rowIs.lt r6_t7))
         have r7_t8 := World.rowIs.of_block r6_t8 (hb7.block _ (World.rowIs.lt r6_t8))
         have B7 := B6.trans (hb7.mono (HGS.out _ B6))
         clear r6_t7 r6_t8 B6 hb7
         have lt8_t7 := World.rowIs.lt r7_t7
         try simp only [World.size_alloc] at lt8_t7
         have lt8_t8 := World.rowIs.lt r7_t8
         try simp only [World.size_alloc] at lt8_t8
         have g8 := HGS.out _ B7
         try simp only [World.size_alloc] at g8
         have r8_t7 := World.rowIs.alloc r7_t7 (.cells (arrOf 4 (u64f fun _ => 0)) 28)
         have r8_t8 := World.rowIs.alloc r7_t8 (.cells (arrOf 4 (u64f fun _ => 0)) 28)
         have B8 := B7.alloc (HGS.out _ B7) (.cells (arrOf 4 (u64f fun _ => 0)) 28)
         have r8_t9 := rowIs_arr w7 4 (u64f fun _ => 0) 28
         try simp only [World.size_alloc] at r8_t9
         clear B7)
      | (refine wpList_store_arr rfl 28 (.tmp 9) (.tmp 23) rfl 4 arrE r8_t9 rfl rfl (by omega) (fun _ _ => rfl) ?_; intro x9 hr9 hg9 hs9
         have r9_t9 : x9.rowIs (w7.heap.size) 28 4 (ewF C) := hr9.congr fun i hi => by unfold putN; rw [if_pos (by omega), Nat.sub_zero]
         have r9_t7 := gb_rowIs r8_t7 hg9 (Nat.ne_of_lt lt8_t7)
         have r9_t8 := gb_rowIs r8_t8 hg9 (Nat.ne_of_lt lt8_t8)
         have B9 := B8.grown hg9 (HGS.out _ B8) (by intro k hk; cases hk; exact g8)
         clear r8_t9 r8_t7 r8_t8 B8 hr9 hg9 hs9
         have lt10_t7 := World.rowIs.lt r9_t7
         try simp only [World.size_alloc] at lt10_t7
         have lt10_t8 := World.rowIs.lt r9_t8
         try simp only [World.size_alloc] at lt10_t8
         have lt10_t9 := World.rowIs.lt r9_t9
         try simp only [World.size_alloc] at lt10_t9
         have g10 := HGS.out _ B9
         try simp only [World.size_alloc] at g10
         have r10_t7 := World.rowIs.alloc r9_t7 (.cells (arrOf 4 (u64f fun _ => 0)) 28)
         have r10_t8 := World.rowIs.alloc r9_t8 (.cells (arrOf 4 (u64f fun _ => 0)) 28)
         have r10_t9 := World.rowIs.alloc r9_t9 (.cells (arrOf 4 (u64f fun _ => 0)) 28)
         have B10 := B9.alloc (HGS.out _ B9) (.cells (arrOf 4 (u64f fun _ => 0)) 28)
         have r10_t10 := rowIs_arr x9 4 (u64f fun _ => 0) 28
         try simp only [World.size_alloc] at r10_t10
         clear B9)
      | (refine wpList_load_arr rfl 28 (.tmp 8) rfl 4 arrE r9_t8 rfl (by omega) ?_; simp only [Nat.zero_add])
      | (refine wpList_store_arr rfl 28 (.tmp 10) (.tmp 24) rfl 4 arrE r10_t10 rfl rfl (by omega) (fun _ _ => rfl) ?_; intro x11 hr11 hg11 hs11
         have r11_t10 : x11.rowIs (x9.heap.size) 28 4 (ewF C) := hr11.congr fun i hi => by unfold putN; rw [if_pos (by omega), Nat.sub_zero]
         have r11_t7 := gb_rowIs r10_t7 hg11 (Nat.ne_of_lt lt10_t7)
         have r11_t8 := gb_rowIs r10_t8 hg11 (Nat.ne_of_lt lt10_t8)
         have r11_t9 := gb_rowIs r10_t9 hg11 (Nat.ne_of_lt lt10_t9)
         have B11 := B10.grown hg11 (HGS.out _ B10) (by intro k hk; cases hk; exact g10)
         clear r10_t10 r10_t7 r10_t8 r10_t9 B10 hr11 hg11 hs11))
    have B := B11.drew
    have rt7 := World.rowIs.drew r11_t7
    have rt8 := World.rowIs.drew r11_t8
    have rt9 := World.rowIs.drew r11_t9
    have rt10 := World.rowIs.drew r11_t10
    clear B11 r11_t7 r11_t8 r11_t9 r11_t10
    by_cases hz : A = C
    · subst hz
      refine wp_region_lint (.rd 0 (.rd 1 (.wr 2 (.rd 3 (.rd 4 (.rd 7 (.wr 5 (.rd 6 (.wr 8 (.rd 9 (.rd 10 (.rd 11 (.rd 12 (.rd 13 (.rd 14 (.rd 16 (.rd 19 (.wr 15 (.wr 17 (.rd 18 (.wr 20 (.rd 21 (.rd 22 (.rd 23 (.rd 24 (.rd 25 (.rd 26 (.rd 27 (.wr 28 (.wr 29 (.wr 30 (.rd 31 (.rd 32 (.rd 33 (.wr 34 (.rd 35 (.rd 36 (.rd 37 (.rd 38 (.wr 39 (.rd 40 (.rd 41 .done)))))))))))))))))))))))))))))))))))))))))) (by kernel_rfl) (by kernel_rfl) (by decide) (by kernel_rfl) (fun d _ _ _ _ h => by cases d <;> exact h) ?_
      refine lint_pure 27 (Op.load 28 (Operand.tmp 9)) 28 (.agg (arrOf 4 fun i => ewF A (0 + i))) rfl rfl rfl rfl rfl (fun w0 hb0 => by exact exec_load_arr _ _ _ _ rfl arrE (World.rowIs.of_block rt9 (hb0.block _ (World.rowIs.lt rt9))) (by omega)) ?_
      simp only [Act.put, List.setIfInBounds_toArray, List.set_cons_zero, List.set_cons_succ, Nat.zero_add]
      refine lint_pure 28 (Op.load 28 (Operand.tmp 10)) 28 (.agg (arrOf 4 fun i => ewF A (0 + i))) rfl rfl rfl rfl rfl (fun w0 hb0 => by exact exec_load_arr _ _ _ _ rfl arrE (World.rowIs.of_block rt10 (hb0.block _ (World.rowIs.lt rt10))) (by omega)) ?_
      simp only [Act.put, List.setIfInBounds_toArray, List.set_cons_zero, List.set_cons_succ, Nat.zero_add]
      refine stp_fn 29 28 #[Operand.tmp 27, Operand.tmp 28] #[28, 28] _ (same5_yes A A _ HA.out HA.out (rfl)) rfl rfl rfl rfl Try.func28 (by kernel_rfl) (by kernel_rfl) (by go_simp) ?_
      rintro e w29 ⟨rfl, b29⟩
      replace B := B.trans (Below.mono b29 (HGS.out _ B))
      replace rt7 := World.rowIs.of_block rt7 (b29.block _ (World.rowIs.lt rt7))
      replace rt8 := World.rowIs.of_block rt8 (b29.block _ (World.rowIs.lt rt8))
      replace rt9 := World.rowIs.of_block rt9 (b29.block _ (World.rowIs.lt rt9))
      replace rt10 := World.rowIs.of_block rt10 (b29.block _ (World.rowIs.lt rt10))
      refine ⟨_, rfl, b29, ?_⟩
      simp only [Act.put, List.setIfInBounds_toArray, List.set_cons_zero, List.set_cons_succ, Nat.zero_add]
      refine lint_pure 30 (Op.move (Operand.tmp 29)) 4 _ rfl rfl rfl rfl rfl (fun w0 hb0 => by unfold mkOp; go_simp; all_goals (with_reducible rfl)) ?_
      simp only [Act.put, List.setIfInBounds_toArray, List.set_cons_zero, List.set_cons_succ, Nat.zero_add]
      refine lint_pure 31 (Op.load 28 (Operand.tmp 9)) 28 (.agg (arrOf 4 fun i => ewF A (0 + i))) rfl rfl rfl rfl rfl (fun w0 hb0 => by exact exec_load_arr _ _ _ _ rfl arrE (World.rowIs.of_block rt9 (hb0.block _ (World.rowIs.lt rt9))) (by omega)) ?_
      simp only [Act.put, List.setIfInBounds_toArray, List.set_cons_zero, List.set_cons_succ, Nat.zero_add]
      refine lint_pure 34 (Op.load 28 (Operand.tmp 10)) 28 (.agg (arrOf 4 fun i => ewF A (0 + i))) rfl rfl rfl rfl rfl (fun w0 hb0 => by exact exec_load_arr _ _ _ _ rfl arrE (World.rowIs.of_block rt10 (hb0.block _ (World.rowIs.lt rt10))) (by omega)) ?_
      simp only [Act.put, List.setIfInBounds_toArray, List.set_cons_zero, List.set_cons_succ, Nat.zero_add]
      refine stp_fn 32 35 #[Operand.tmp 31] #[28] _ (bytes_any A _) rfl rfl rfl rfl Try.func35 (by kernel_rfl) (by kernel_rfl) (by go_simp) ?_
      rintro e w32 ⟨v32, rfl, hO32, b32⟩
      replace B := B.trans (Below.mono b32 (HGS.out _ B))
      replace rt7 := World.rowIs.of_block rt7 (b32.block _ (World.rowIs.lt rt7))
      replace rt8 := World.rowIs.of_block rt8 (b32.block _ (World.rowIs.lt rt8))
      replace rt9 := World.rowIs.of_block rt9 (b32.block _ (World.rowIs.lt rt9))
      replace rt10 := World.rowIs.of_block rt10 (b32.block _ (World.rowIs.lt rt10))
      obtain ⟨as32, ns32, cs32, rfl, es32, ys32, zs32, fs32⟩ := (Owns.bs hO32).shape
      rw [litB_length] at es32
      subst es32
      refine ⟨_, rfl, b32, ?_⟩
      simp only [Act.put, List.setIfInBounds_toArray, List.set_cons_zero, List.set_cons_succ, Nat.zero_add]
      refine lint_conv 33 (Operand.tmp 32) _ _ rfl rfl rfl rfl rfl fs32 ?_
      simp only [Act.put, List.setIfInBounds_toArray, List.set_cons_zero, List.set_cons_succ, Nat.zero_add]
      refine stp_fn 35 35 #[Operand.tmp 34] #[28] _ (bytes_any A _) rfl rfl rfl rfl Try.func35 (by kernel_rfl) (by kernel_rfl) (by go_simp) ?_
      rintro e w35 ⟨v35, rfl, hO35, b35⟩
      replace B := B.trans (Below.mono b35 (HGS.out _ B))
      replace rt7 := World.rowIs.of_block rt7 (b35.block _ (World.rowIs.lt rt7))
      replace rt8 := World.rowIs.of_block rt8 (b35.block _ (World.rowIs.lt rt8))
      replace rt9 := World.rowIs.of_block rt9 (b35.block _ (World.rowIs.lt rt9))
      replace rt10 := World.rowIs.of_block rt10 (b35.block _ (World.rowIs.lt rt10))
      replace fs32 := Bs.below fs32 b35 (Nat.le_refl _)
      obtain ⟨as35, ns35, cs35, rfl, es35, ys35, zs35, fs35⟩ := (Owns.bs hO35).shape
      rw [litB_length] at es35
      subst es35
      refine ⟨_, rfl, b35, ?_⟩
      simp only [Act.put, List.setIfInBounds_toArray, List.set_cons_zero, List.set_cons_succ, Nat.zero_add]
      refine lint_conv 36 (Operand.tmp 35) _ _ rfl rfl rfl rfl rfl fs35 ?_
      simp only [Act.put, List.setIfInBounds_toArray, List.set_cons_zero, List.set_cons_succ, Nat.zero_add]
      refine lint_pure 37 (Op.binOp BinOp.eql 9 (Operand.tmp 33) (Operand.tmp 36) 9) 4 (.bool true) rfl rfl rfl rfl rfl (fun w0 hb0 => by exact exec_str_yes _ _ _ _ rfl rfl rfl) ?_
      simp only [Act.put, List.setIfInBounds_toArray, List.set_cons_zero, List.set_cons_succ, Nat.zero_add]
      refine lint_pure 38 (Op.pick (Operand.tmp 30) (Operand.tmp 37) (Operand.const (Value.bool false))) 4 _ rfl rfl rfl rfl rfl (fun w0 hb0 => by unfold mkOp; go_simp; all_goals (with_reducible rfl)) ?_
      simp only [Act.put, List.setIfInBounds_toArray, List.set_cons_zero, List.set_cons_succ, Nat.zero_add]
      refine lint_pure 39 (Op.move (Operand.tmp 38)) 4 _ rfl rfl rfl rfl rfl (fun w0 hb0 => by unfold mkOp; go_simp; all_goals (with_reducible rfl)) ?_
      simp only [Act.put, List.setIfInBounds_toArray, List.set_cons_zero, List.set_cons_succ, Nat.zero_add]
      refine lint_pure 40 (Op.load 28 (Operand.tmp 7)) 28 (.agg (arrOf 4 fun i => ewF A (0 + i))) rfl rfl rfl rfl rfl (fun w0 hb0 => by exact exec_load_arr _ _ _ _ rfl arrE (World.rowIs.of_block rt7 (hb0.block _ (World.rowIs.lt rt7))) (by omega)) ?_
      simp only [Act.put, List.setIfInBounds_toArray, List.set_cons_zero, List.set_cons_succ, Nat.zero_add]
      refine lint_pure 41 (Op.load 28 (Operand.tmp 8)) 28 (.agg (arrOf 4 fun i => ewF A (0 + i))) rfl rfl rfl rfl rfl (fun w0 hb0 => by exact exec_load_arr _ _ _ _ rfl arrE (World.rowIs.of_block rt8 (hb0.block _ (World.rowIs.lt rt8))) (by omega)) ?_
      simp only [Act.put, List.setIfInBounds_toArray, List.set_cons_zero, List.set_cons_succ, Nat.zero_add]
      refine lint_pure 43 (Op.load 28 (Operand.tmp 7)) 28 (.agg (arrOf 4 fun i => ewF A (0 + i))) rfl rfl rfl rfl rfl (fun w0 hb0 => by exact exec_load_arr _ _ _ _ rfl arrE (World.rowIs.of_block rt7 (hb0.block _ (World.rowIs.lt rt7))) (by omega)) ?_
      simp only [Act.put, List.setIfInBounds_toArray, List.set_cons_zero, List.set_cons_succ, Nat.zero_add]
      refine lint_pure 46 (Op.load 28 (Operand.tmp 8)) 28 (.agg (arrOf 4 fun i => ewF A (0 + i))) rfl rfl rfl rfl rfl (fun w0 hb0 => by exact exec_load_arr _ _ _ _ rfl arrE (World.rowIs.of_block rt8 (hb0.block _ (World.rowIs.lt rt8))) (by omega)) ?_
      simp only [Act.put, List.setIfInBounds_toArray, List.set_cons_zero, List.set_cons_succ, Nat.zero_add]
      refine stp_fn 42 28 #[Operand.tmp 40, Operand.tmp 41] #[28, 28] _ (same5_yes A A _ HA.out HA.out (rfl)) rfl rfl rfl rfl Try.func28 (by kernel_rfl) (by kernel_rfl) (by go_simp) ?_
      rintro e w42 ⟨rfl, b42⟩
      replace B := B.trans (Below.mono b42 (HGS.out _ B))
      replace rt7 := World.rowIs.of_block rt7 (b42.block _ (World.rowIs.lt rt7))
      replace rt8 := World.rowIs.of_block rt8 (b42.block _ (World.rowIs.lt rt8))
      replace rt9 := World.rowIs.of_block rt9 (b42.block _ (World.rowIs.lt rt9))
      replace rt10 := World.rowIs.of_block rt10 (b42.block _ (World.rowIs.lt rt10))
      replace fs32 := Bs.below fs32 b42 (Nat.le_refl _)
      replace fs35 := Bs.below fs35 b42 (Nat.le_refl _)
      refine ⟨_, rfl, b42, ?_⟩
      simp only [Act.put, List.setIfInBounds_toArray, List.set_cons_zero, List.set_cons_succ, Nat.zero_add]
      refine stp_fn 44 35 #[Operand.tmp 43] #[28] _ (bytes_any A _) rfl rfl rfl rfl Try.func35 (by kernel_rfl) (by kernel_rfl) (by go_simp) ?_
      rintro e w44 ⟨v44, rfl, hO44, b44⟩
      replace B := B.trans (Below.mono b44 (HGS.out _ B))
      replace rt7 := World.rowIs.of_block rt7 (b44.block _ (World.rowIs.lt rt7))
      replace rt8 := World.rowIs.of_block rt8 (b44.block _ (World.rowIs.lt rt8))
      replace rt9 := World.rowIs.of_block rt9 (b44.block _ (World.rowIs.lt rt9))
      replace rt10 := World.rowIs.of_block rt10 (b44.block _ (World.rowIs.lt rt10))
      replace fs32 := Bs.below fs32 b44 (Nat.le_refl _)
      replace fs35 := Bs.below fs35 b44 (Nat.le_refl _)
      obtain ⟨as44, ns44, cs44, rfl, es44, ys44, zs44, fs44⟩ := (Owns.bs hO44).shape
      rw [litB_length] at es44
      subst es44
      refine ⟨_, rfl, b44, ?_⟩
      simp only [Act.put, List.setIfInBounds_toArray, List.set_cons_zero, List.set_cons_succ, Nat.zero_add]
      refine lint_conv 45 (Operand.tmp 44) _ _ rfl rfl rfl rfl rfl fs44 ?_
      simp only [Act.put, List.setIfInBounds_toArray, List.set_cons_zero, List.set_cons_succ, Nat.zero_add]
      refine stp_fn 47 35 #[Operand.tmp 46] #[28] _ (bytes_any A _) rfl rfl rfl rfl Try.func35 (by kernel_rfl) (by kernel_rfl) (by go_simp) ?_
      rintro e w47 ⟨v47, rfl, hO47, b47⟩
      replace B := B.trans (Below.mono b47 (HGS.out _ B))
      replace rt7 := World.rowIs.of_block rt7 (b47.block _ (World.rowIs.lt rt7))
      replace rt8 := World.rowIs.of_block rt8 (b47.block _ (World.rowIs.lt rt8))
      replace rt9 := World.rowIs.of_block rt9 (b47.block _ (World.rowIs.lt rt9))
      replace rt10 := World.rowIs.of_block rt10 (b47.block _ (World.rowIs.lt rt10))
      replace fs32 := Bs.below fs32 b47 (Nat.le_refl _)
      replace fs35 := Bs.below fs35 b47 (Nat.le_refl _)
      replace fs44 := Bs.below fs44 b47 (Nat.le_refl _)
      obtain ⟨as47, ns47, cs47, rfl, es47, ys47, zs47, fs47⟩ := (Owns.bs hO47).shape
      rw [litB_length] at es47
      subst es47
      refine ⟨_, rfl, b47, ?_⟩
      simp only [Act.put, List.setIfInBounds_toArray, List.set_cons_zero, List.set_cons_succ, Nat.zero_add]
      refine lint_conv 48 (Operand.tmp 47) _ _ rfl rfl rfl rfl rfl fs47 ?_
      simp only [Act.put, List.setIfInBounds_toArray, List.set_cons_zero, List.set_cons_succ, Nat.zero_add]
      refine lint_pure 49 (Op.binOp BinOp.eql 9 (Operand.tmp 45) (Operand.tmp 48) 9) 4 (.bool true) rfl rfl rfl rfl rfl (fun w0 hb0 => by exact exec_str_yes _ _ _ _ rfl rfl rfl) ?_
      simp only [Act.put, List.setIfInBounds_toArray, List.set_cons_zero, List.set_cons_succ, Nat.zero_add]
      refine lint_pure 50 (Op.binOp BinOp.eql 4 (Operand.tmp 42) (Operand.tmp 49) 4) 4 _ rfl rfl rfl rfl rfl (fun w0 hb0 => by unfold mkOp; go_simp; all_goals (with_reducible rfl)) ?_
      simp only [Act.put, List.setIfInBounds_toArray, List.set_cons_zero, List.set_cons_succ, Nat.zero_add]
      refine lint_pure 51 (Op.pick (Operand.tmp 39) (Operand.tmp 50) (Operand.const (Value.bool false))) 4 _ rfl rfl rfl rfl rfl (fun w0 hb0 => by unfold mkOp; go_simp; all_goals (with_reducible rfl)) ?_
      simp only [Act.put, List.setIfInBounds_toArray, List.set_cons_zero, List.set_cons_succ, Nat.zero_add]
      refine lint_pure 52 (Op.move (Operand.tmp 51)) 4 _ rfl rfl rfl rfl rfl (fun w0 hb0 => by unfold mkOp; go_simp; all_goals (with_reducible rfl)) ?_
      simp only [Act.put, List.setIfInBounds_toArray, List.set_cons_zero, List.set_cons_succ, Nat.zero_add]
      refine lint_pure 53 (Op.load 28 (Operand.tmp 7)) 28 (.agg (arrOf 4 fun i => ewF A (0 + i))) rfl rfl rfl rfl rfl (fun w0 hb0 => by exact exec_load_arr _ _ _ _ rfl arrE (World.rowIs.of_block rt7 (hb0.block _ (World.rowIs.lt rt7))) (by omega)) ?_
      simp only [Act.put, List.setIfInBounds_toArray, List.set_cons_zero, List.set_cons_succ, Nat.zero_add]
      refine lint_pure 54 (Op.load 28 (Operand.tmp 7)) 28 (.agg (arrOf 4 fun i => ewF A (0 + i))) rfl rfl rfl rfl rfl (fun w0 hb0 => by exact exec_load_arr _ _ _ _ rfl arrE (World.rowIs.of_block rt7 (hb0.block _ (World.rowIs.lt rt7))) (by omega)) ?_
      simp only [Act.put, List.setIfInBounds_toArray, List.set_cons_zero, List.set_cons_succ, Nat.zero_add]
      refine stp_fn 55 35 #[Operand.tmp 54] #[28] _ (bytes_any A _) rfl rfl rfl rfl Try.func35 (by kernel_rfl) (by kernel_rfl) (by go_simp) ?_
      rintro e w55 ⟨v55, rfl, hO55, b55⟩
      replace B := B.trans (Below.mono b55 (HGS.out _ B))
      replace rt7 := World.rowIs.of_block rt7 (b55.block _ (World.rowIs.lt rt7))
      replace rt8 := World.rowIs.of_block rt8 (b55.block _ (World.rowIs.lt rt8))
      replace rt9 := World.rowIs.of_block rt9 (b55.block _ (World.rowIs.lt rt9))
      replace rt10 := World.rowIs.of_block rt10 (b55.block _ (World.rowIs.lt rt10))
      replace fs32 := Bs.below fs32 b55 (Nat.le_refl _)
      replace fs35 := Bs.below fs35 b55 (Nat.le_refl _)
      replace fs44 := Bs.below fs44 b55 (Nat.le_refl _)
      replace fs47 := Bs.below fs47 b55 (Nat.le_refl _)
      obtain ⟨as55, ns55, cs55, rfl, es55, ys55, zs55, fs55⟩ := (Owns.bs hO55).shape
      rw [litB_length] at es55
      subst es55
      refine ⟨_, rfl, b55, ?_⟩
      simp only [Act.put, List.setIfInBounds_toArray, List.set_cons_zero, List.set_cons_succ, Nat.zero_add]
      refine stp_fn 56 13 #[Operand.tmp 55] #[22] _ (of5_own _ A _ fs55 HA.out) rfl rfl rfl rfl Try.func13 (by kernel_rfl) (by kernel_rfl) (by go_simp) ?_
      rintro e w56 ⟨rfl, b56⟩
      replace B := B.trans (Below.mono b56 (HGS.out _ B))
      replace rt7 := World.rowIs.of_block rt7 (b56.block _ (World.rowIs.lt rt7))
      replace rt8 := World.rowIs.of_block rt8 (b56.block _ (World.rowIs.lt rt8))
      replace rt9 := World.rowIs.of_block rt9 (b56.block _ (World.rowIs.lt rt9))
      replace rt10 := World.rowIs.of_block rt10 (b56.block _ (World.rowIs.lt rt10))
      replace fs32 := Bs.below fs32 b56 (Nat.le_refl _)
      replace fs35 := Bs.below fs35 b56 (Nat.le_refl _)
      replace fs44 := Bs.below fs44 b56 (Nat.le_refl _)
      replace fs47 := Bs.below fs47 b56 (Nat.le_refl _)
      replace fs55 := Bs.below fs55 b56 (Nat.le_refl _)
      refine ⟨_, rfl, b56, ?_⟩
      simp only [Act.put, List.setIfInBounds_toArray, List.set_cons_zero, List.set_cons_succ, Nat.zero_add]
      refine stp_fn 57 28 #[Operand.tmp 53, Operand.tmp 56] #[28, 28] _ (same5_yes A A _ HA.out HA.out (rfl)) rfl rfl rfl rfl Try.func28 (by kernel_rfl) (by kernel_rfl) (by go_simp) ?_
      rintro e w57 ⟨rfl, b57⟩
      replace B := B.trans (Below.mono b57 (HGS.out _ B))
      replace rt7 := World.rowIs.of_block rt7 (b57.block _ (World.rowIs.lt rt7))
      replace rt8 := World.rowIs.of_block rt8 (b57.block _ (World.rowIs.lt rt8))
      replace rt9 := World.rowIs.of_block rt9 (b57.block _ (World.rowIs.lt rt9))
      replace rt10 := World.rowIs.of_block rt10 (b57.block _ (World.rowIs.lt rt10))
      replace fs32 := Bs.below fs32 b57 (Nat.le_refl _)
      replace fs35 := Bs.below fs35 b57 (Nat.le_refl _)
      replace fs44 := Bs.below fs44 b57 (Nat.le_refl _)
      replace fs47 := Bs.below fs47 b57 (Nat.le_refl _)
      replace fs55 := Bs.below fs55 b57 (Nat.le_refl _)
      refine ⟨_, rfl, b57, ?_⟩
      simp only [Act.put, List.setIfInBounds_toArray, List.set_cons_zero, List.set_cons_succ, Nat.zero_add]
      refine lint_pure 58 (Op.pick (Operand.tmp 52) (Operand.tmp 57) (Operand.const (Value.bool false))) 4 _ rfl rfl rfl rfl rfl (fun w0 hb0 => by unfold mkOp; go_simp; all_goals (with_reducible rfl)) ?_
      simp only [Act.put, List.setIfInBounds_toArray, List.set_cons_zero, List.set_cons_succ, Nat.zero_add]
      refine lint_pure 59 (Op.move (Operand.tmp 58)) 4 _ rfl rfl rfl rfl rfl (fun w0 hb0 => by unfold mkOp; go_simp; all_goals (with_reducible rfl)) ?_
      simp only [Act.put, List.setIfInBounds_toArray, List.set_cons_zero, List.set_cons_succ, Nat.zero_add]
      refine lint_pure 60 (Op.load 28 (Operand.tmp 7)) 28 (.agg (arrOf 4 fun i => ewF A (0 + i))) rfl rfl rfl rfl rfl (fun w0 hb0 => by exact exec_load_arr _ _ _ _ rfl arrE (World.rowIs.of_block rt7 (hb0.block _ (World.rowIs.lt rt7))) (by omega)) ?_
      simp only [Act.put, List.setIfInBounds_toArray, List.set_cons_zero, List.set_cons_succ, Nat.zero_add]
      refine stp_fn 61 35 #[Operand.tmp 60] #[28] _ (bytes_any A _) rfl rfl rfl rfl Try.func35 (by kernel_rfl) (by kernel_rfl) (by go_simp) ?_
      rintro e w61 ⟨v61, rfl, hO61, b61⟩
      replace B := B.trans (Below.mono b61 (HGS.out _ B))
      replace rt7 := World.rowIs.of_block rt7 (b61.block _ (World.rowIs.lt rt7))
      replace rt8 := World.rowIs.of_block rt8 (b61.block _ (World.rowIs.lt rt8))
      replace rt9 := World.rowIs.of_block rt9 (b61.block _ (World.rowIs.lt rt9))
      replace rt10 := World.rowIs.of_block rt10 (b61.block _ (World.rowIs.lt rt10))
      replace fs32 := Bs.below fs32 b61 (Nat.le_refl _)
      replace fs35 := Bs.below fs35 b61 (Nat.le_refl _)
      replace fs44 := Bs.below fs44 b61 (Nat.le_refl _)
      replace fs47 := Bs.below fs47 b61 (Nat.le_refl _)
      replace fs55 := Bs.below fs55 b61 (Nat.le_refl _)
      obtain ⟨as61, ns61, cs61, rfl, es61, ys61, zs61, fs61⟩ := (Owns.bs hO61).shape
      rw [litB_length] at es61
      subst es61
      refine ⟨_, rfl, b61, ?_⟩
      simp only [Act.put, List.setIfInBounds_toArray, List.set_cons_zero, List.set_cons_succ, Nat.zero_add]
      refine lint_pure 62 (Op.call { callee := Callee.builtin Builtin.len, args := #[Operand.tmp 61], argTypes := #[22] }) 3 _ rfl rfl rfl rfl rfl (fun w0 hb0 => by unfold mkOp; go_simp; all_goals (with_reducible rfl)) ?_
      simp only [Act.put, List.setIfInBounds_toArray, List.set_cons_zero, List.set_cons_succ, Nat.zero_add]
      refine lint_pure 63 (Op.binOp BinOp.eql 3 (Operand.tmp 62) (Operand.const (Value.int IntKind.i64 32)) 3) 4 _ rfl rfl rfl rfl rfl (fun w0 hb0 => by unfold mkOp; go_simp; all_goals (with_reducible rfl)) ?_
      simp only [Act.put, List.setIfInBounds_toArray, List.set_cons_zero, List.set_cons_succ, Nat.zero_add]
      refine lint_pure 64 (Op.pick (Operand.tmp 59) (Operand.tmp 63) (Operand.const (Value.bool false))) 4 _ rfl rfl rfl rfl rfl (fun w0 hb0 => by unfold mkOp; go_simp; all_goals (with_reducible rfl)) ?_
      simp only [Act.put, List.setIfInBounds_toArray, List.set_cons_zero, List.set_cons_succ, Nat.zero_add]
      refine lint_pure 65 (Op.move (Operand.tmp 64)) 4 _ rfl rfl rfl rfl rfl (fun w0 hb0 => by unfold mkOp; go_simp; all_goals (with_reducible rfl)) ?_
      simp only [Act.put, List.setIfInBounds_toArray, List.set_cons_zero, List.set_cons_succ, Nat.zero_add]
      refine stp_fn 66 12 #[] #[] _ (awake5_any _) rfl rfl rfl rfl Try.func12 (by kernel_rfl) (by kernel_rfl) (by go_simp) ?_
      rintro e w66 ⟨rfl, b66⟩
      replace B := B.trans (Below.mono b66 (HGS.out _ B))
      replace rt7 := World.rowIs.of_block rt7 (b66.block _ (World.rowIs.lt rt7))
      replace rt8 := World.rowIs.of_block rt8 (b66.block _ (World.rowIs.lt rt8))
      replace rt9 := World.rowIs.of_block rt9 (b66.block _ (World.rowIs.lt rt9))
      replace rt10 := World.rowIs.of_block rt10 (b66.block _ (World.rowIs.lt rt10))
      replace fs32 := Bs.below fs32 b66 (Nat.le_refl _)
      replace fs35 := Bs.below fs35 b66 (Nat.le_refl _)
      replace fs44 := Bs.below fs44 b66 (Nat.le_refl _)
      replace fs47 := Bs.below fs47 b66 (Nat.le_refl _)
      replace fs55 := Bs.below fs55 b66 (Nat.le_refl _)
      replace fs61 := Bs.below fs61 b66 (Nat.le_refl _)
      refine ⟨_, rfl, b66, ?_⟩
      simp only [Act.put, List.setIfInBounds_toArray, List.set_cons_zero, List.set_cons_succ, Nat.zero_add]
      refine lint_pure 67 (Op.pick (Operand.tmp 65) (Operand.tmp 66) (Operand.const (Value.bool false))) 4 _ rfl rfl rfl rfl rfl (fun w0 hb0 => by unfold mkOp; go_simp; all_goals (with_reducible rfl)) ?_
      simp only [Act.put, List.setIfInBounds_toArray, List.set_cons_zero, List.set_cons_succ, Nat.zero_add]
      refine lint_pure 6 (Op.assign (Operand.tmp 67)) 4 _ rfl rfl rfl rfl rfl (fun w0 hb0 => by unfold mkOp; go_simp; all_goals (with_reducible rfl)) ?_
      simp only [Act.put, List.setIfInBounds_toArray, List.set_cons_zero, List.set_cons_succ, Nat.zero_add]
      refine lint_end ?_
      go_wp2
      go_ret
      exact ⟨rfl, B⟩
    · replace hz := Lib.hid hz
      refine wp_region_lint (.rd 0 (.rd 1 (.wr 2 (.rd 3 (.rd 4 (.rd 7 (.wr 5 (.rd 6 (.wr 8 (.rd 9 (.rd 10 (.rd 11 (.rd 12 (.rd 13 (.rd 14 (.rd 16 (.rd 19 (.wr 15 (.wr 17 (.rd 18 (.wr 20 (.rd 21 (.rd 22 (.rd 23 (.rd 24 (.rd 25 (.rd 26 (.rd 27 (.wr 28 (.wr 29 (.wr 30 (.rd 31 (.rd 32 (.rd 33 (.wr 34 (.rd 35 (.rd 36 (.rd 37 (.rd 38 (.wr 39 (.rd 40 (.rd 41 .done)))))))))))))))))))))))))))))))))))))))))) (by kernel_rfl) (by kernel_rfl) (by decide) (by kernel_rfl) (fun d _ _ _ _ h => by cases d <;> exact h) ?_
      refine lint_pure 27 (Op.load 28 (Operand.tmp 9)) 28 (.agg (arrOf 4 fun i => ewF C (0 + i))) rfl rfl rfl rfl rfl (fun w0 hb0 => by exact exec_load_arr _ _ _ _ rfl arrE (World.rowIs.of_block rt9 (hb0.block _ (World.rowIs.lt rt9))) (by omega)) ?_
      simp only [Act.put, List.setIfInBounds_toArray, List.set_cons_zero, List.set_cons_succ, Nat.zero_add]
      refine lint_pure 28 (Op.load 28 (Operand.tmp 10)) 28 (.agg (arrOf 4 fun i => ewF C (0 + i))) rfl rfl rfl rfl rfl (fun w0 hb0 => by exact exec_load_arr _ _ _ _ rfl arrE (World.rowIs.of_block rt10 (hb0.block _ (World.rowIs.lt rt10))) (by omega)) ?_
      simp only [Act.put, List.setIfInBounds_toArray, List.set_cons_zero, List.set_cons_succ, Nat.zero_add]
      refine stp_fn 29 28 #[Operand.tmp 27, Operand.tmp 28] #[28, 28] _ (same5_yes C C _ HC.out HC.out (rfl)) rfl rfl rfl rfl Try.func28 (by kernel_rfl) (by kernel_rfl) (by go_simp) ?_
      rintro e w29 ⟨rfl, b29⟩
      replace B := B.trans (Below.mono b29 (HGS.out _ B))
      replace rt7 := World.rowIs.of_block rt7 (b29.block _ (World.rowIs.lt rt7))
      replace rt8 := World.rowIs.of_block rt8 (b29.block _ (World.rowIs.lt rt8))
      replace rt9 := World.rowIs.of_block rt9 (b29.block _ (World.rowIs.lt rt9))
      replace rt10 := World.rowIs.of_block rt10 (b29.block _ (World.rowIs.lt rt10))
      refine ⟨_, rfl, b29, ?_⟩
      simp only [Act.put, List.setIfInBounds_toArray, List.set_cons_zero, List.set_cons_succ, Nat.zero_add]
      refine lint_pure 30 (Op.move (Operand.tmp 29)) 4 _ rfl rfl rfl rfl rfl (fun w0 hb0 => by unfold mkOp; go_simp; all_goals (with_reducible rfl)) ?_
      simp only [Act.put, List.setIfInBounds_toArray, List.set_cons_zero, List.set_cons_succ, Nat.zero_add]
      refine lint_pure 31 (Op.load 28 (Operand.tmp 9)) 28 (.agg (arrOf 4 fun i => ewF C (0 + i))) rfl rfl rfl rfl rfl (fun w0 hb0 => by exact exec_load_arr _ _ _ _ rfl arrE (World.rowIs.of_block rt9 (hb0.block _ (World.rowIs.lt rt9))) (by omega)) ?_
      simp only [Act.put, List.setIfInBounds_toArray, List.set_cons_zero, List.set_cons_succ, Nat.zero_add]
      refine lint_pure 34 (Op.load 28 (Operand.tmp 10)) 28 (.agg (arrOf 4 fun i => ewF C (0 + i))) rfl rfl rfl rfl rfl (fun w0 hb0 => by exact exec_load_arr _ _ _ _ rfl arrE (World.rowIs.of_block rt10 (hb0.block _ (World.rowIs.lt rt10))) (by omega)) ?_
      simp only [Act.put, List.setIfInBounds_toArray, List.set_cons_zero, List.set_cons_succ, Nat.zero_add]
      refine stp_fn 32 35 #[Operand.tmp 31] #[28] _ (bytes_any C _) rfl rfl rfl rfl Try.func35 (by kernel_rfl) (by kernel_rfl) (by go_simp) ?_
      rintro e w32 ⟨v32, rfl, hO32, b32⟩
      replace B := B.trans (Below.mono b32 (HGS.out _ B))
      replace rt7 := World.rowIs.of_block rt7 (b32.block _ (World.rowIs.lt rt7))
      replace rt8 := World.rowIs.of_block rt8 (b32.block _ (World.rowIs.lt rt8))
      replace rt9 := World.rowIs.of_block rt9 (b32.block _ (World.rowIs.lt rt9))
      replace rt10 := World.rowIs.of_block rt10 (b32.block _ (World.rowIs.lt rt10))
      obtain ⟨as32, ns32, cs32, rfl, es32, ys32, zs32, fs32⟩ := (Owns.bs hO32).shape
      rw [litB_length] at es32
      subst es32
      refine ⟨_, rfl, b32, ?_⟩
      simp only [Act.put, List.setIfInBounds_toArray, List.set_cons_zero, List.set_cons_succ, Nat.zero_add]
      refine lint_conv 33 (Operand.tmp 32) _ _ rfl rfl rfl rfl rfl fs32 ?_
      simp only [Act.put, List.setIfInBounds_toArray, List.set_cons_zero, List.set_cons_succ, Nat.zero_add]
      refine stp_fn 35 35 #[Operand.tmp 34] #[28] _ (bytes_any C _) rfl rfl rfl rfl Try.func35 (by kernel_rfl) (by kernel_rfl) (by go_simp) ?_
      rintro e w35 ⟨v35, rfl, hO35, b35⟩
      replace B := B.trans (Below.mono b35 (HGS.out _ B))
      replace rt7 := World.rowIs.of_block rt7 (b35.block _ (World.rowIs.lt rt7))
      replace rt8 := World.rowIs.of_block rt8 (b35.block _ (World.rowIs.lt rt8))
      replace rt9 := World.rowIs.of_block rt9 (b35.block _ (World.rowIs.lt rt9))
      replace rt10 := World.rowIs.of_block rt10 (b35.block _ (World.rowIs.lt rt10))
      replace fs32 := Bs.below fs32 b35 (Nat.le_refl _)
      obtain ⟨as35, ns35, cs35, rfl, es35, ys35, zs35, fs35⟩ := (Owns.bs hO35).shape
      rw [litB_length] at es35
      subst es35
      refine ⟨_, rfl, b35, ?_⟩
      simp only [Act.put, List.setIfInBounds_toArray, List.set_cons_zero, List.set_cons_succ, Nat.zero_add]
      refine lint_conv 36 (Operand.tmp 35) _ _ rfl rfl rfl rfl rfl fs35 ?_
      simp only [Act.put, List.setIfInBounds_toArray, List.set_cons_zero, List.set_cons_succ, Nat.zero_add]
      refine lint_pure 37 (Op.binOp BinOp.eql 9 (Operand.tmp 33) (Operand.tmp 36) 9) 4 (.bool true) rfl rfl rfl rfl rfl (fun w0 hb0 => by exact exec_str_yes _ _ _ _ rfl rfl rfl) ?_
      simp only [Act.put, List.setIfInBounds_toArray, List.set_cons_zero, List.set_cons_succ, Nat.zero_add]
      refine lint_pure 38 (Op.pick (Operand.tmp 30) (Operand.tmp 37) (Operand.const (Value.bool false))) 4 _ rfl rfl rfl rfl rfl (fun w0 hb0 => by unfold mkOp; go_simp; all_goals (with_reducible rfl)) ?_
      simp only [Act.put, List.setIfInBounds_toArray, List.set_cons_zero, List.set_cons_succ, Nat.zero_add]
      refine lint_pure 39 (Op.move (Operand.tmp 38)) 4 _ rfl rfl rfl rfl rfl (fun w0 hb0 => by unfold mkOp; go_simp; all_goals (with_reducible rfl)) ?_
      simp only [Act.put, List.setIfInBounds_toArray, List.set_cons_zero, List.set_cons_succ, Nat.zero_add]
      refine lint_pure 40 (Op.load 28 (Operand.tmp 7)) 28 (.agg (arrOf 4 fun i => ewF A (0 + i))) rfl rfl rfl rfl rfl (fun w0 hb0 => by exact exec_load_arr _ _ _ _ rfl arrE (World.rowIs.of_block rt7 (hb0.block _ (World.rowIs.lt rt7))) (by omega)) ?_
      simp only [Act.put, List.setIfInBounds_toArray, List.set_cons_zero, List.set_cons_succ, Nat.zero_add]
      refine lint_pure 41 (Op.load 28 (Operand.tmp 8)) 28 (.agg (arrOf 4 fun i => ewF C (0 + i))) rfl rfl rfl rfl rfl (fun w0 hb0 => by exact exec_load_arr _ _ _ _ rfl arrE (World.rowIs.of_block rt8 (hb0.block _ (World.rowIs.lt rt8))) (by omega)) ?_
      simp only [Act.put, List.setIfInBounds_toArray, List.set_cons_zero, List.set_cons_succ, Nat.zero_add]
      refine lint_pure 43 (Op.load 28 (Operand.tmp 7)) 28 (.agg (arrOf 4 fun i => ewF A (0 + i))) rfl rfl rfl rfl rfl (fun w0 hb0 => by exact exec_load_arr _ _ _ _ rfl arrE (World.rowIs.of_block rt7 (hb0.block _ (World.rowIs.lt rt7))) (by omega)) ?_
      simp only [Act.put, List.setIfInBounds_toArray, List.set_cons_zero, List.set_cons_succ, Nat.zero_add]
      refine lint_pure 46 (Op.load 28 (Operand.tmp 8)) 28 (.agg (arrOf 4 fun i => ewF C (0 + i))) rfl rfl rfl rfl rfl (fun w0 hb0 => by exact exec_load_arr _ _ _ _ rfl arrE (World.rowIs.of_block rt8 (hb0.block _ (World.rowIs.lt rt8))) (by omega)) ?_
      simp only [Act.put, List.setIfInBounds_toArray, List.set_cons_zero, List.set_cons_succ, Nat.zero_add]
      refine stp_fn 42 28 #[Operand.tmp 40, Operand.tmp 41] #[28, 28] _ (same5_no A C _ HA.out HC.out (hz.out)) rfl rfl rfl rfl Try.func28 (by kernel_rfl) (by kernel_rfl) (by go_simp) ?_
      rintro e w42 ⟨rfl, b42⟩
      replace B := B.trans (Below.mono b42 (HGS.out _ B))
      replace rt7 := World.rowIs.of_block rt7 (b42.block _ (World.rowIs.lt rt7))
      replace rt8 := World.rowIs.of_block rt8 (b42.block _ (World.rowIs.lt rt8))
      replace rt9 := World.rowIs.of_block rt9 (b42.block _ (World.rowIs.lt rt9))
      replace rt10 := World.rowIs.of_block rt10 (b42.block _ (World.rowIs.lt rt10))
      replace fs32 := Bs.below fs32 b42 (Nat.le_refl _)
      replace fs35 := Bs.below fs35 b42 (Nat.le_refl _)
      refine ⟨_, rfl, b42, ?_⟩
      simp only [Act.put, List.setIfInBounds_toArray, List.set_cons_zero, List.set_cons_succ, Nat.zero_add]
      refine stp_fn 44 35 #[Operand.tmp 43] #[28] _ (bytes_any A _) rfl rfl rfl rfl Try.func35 (by kernel_rfl) (by kernel_rfl) (by go_simp) ?_
      rintro e w44 ⟨v44, rfl, hO44, b44⟩
      replace B := B.trans (Below.mono b44 (HGS.out _ B))
      replace rt7 := World.rowIs.of_block rt7 (b44.block _ (World.rowIs.lt rt7))
      replace rt8 := World.rowIs.of_block rt8 (b44.block _ (World.rowIs.lt rt8))
      replace rt9 := World.rowIs.of_block rt9 (b44.block _ (World.rowIs.lt rt9))
      replace rt10 := World.rowIs.of_block rt10 (b44.block _ (World.rowIs.lt rt10))
      replace fs32 := Bs.below fs32 b44 (Nat.le_refl _)
      replace fs35 := Bs.below fs35 b44 (Nat.le_refl _)
      obtain ⟨as44, ns44, cs44, rfl, es44, ys44, zs44, fs44⟩ := (Owns.bs hO44).shape
      rw [litB_length] at es44
      subst es44
      refine ⟨_, rfl, b44, ?_⟩
      simp only [Act.put, List.setIfInBounds_toArray, List.set_cons_zero, List.set_cons_succ, Nat.zero_add]
      refine lint_conv 45 (Operand.tmp 44) _ _ rfl rfl rfl rfl rfl fs44 ?_
      simp only [Act.put, List.setIfInBounds_toArray, List.set_cons_zero, List.set_cons_succ, Nat.zero_add]
      refine stp_fn 47 35 #[Operand.tmp 46] #[28] _ (bytes_any C _) rfl rfl rfl rfl Try.func35 (by kernel_rfl) (by kernel_rfl) (by go_simp) ?_
      rintro e w47 ⟨v47, rfl, hO47, b47⟩
      replace B := B.trans (Below.mono b47 (HGS.out _ B))
      replace rt7 := World.rowIs.of_block rt7 (b47.block _ (World.rowIs.lt rt7))
      replace rt8 := World.rowIs.of_block rt8 (b47.block _ (World.rowIs.lt rt8))
      replace rt9 := World.rowIs.of_block rt9 (b47.block _ (World.rowIs.lt rt9))
      replace rt10 := World.rowIs.of_block rt10 (b47.block _ (World.rowIs.lt rt10))
      replace fs32 := Bs.below fs32 b47 (Nat.le_refl _)
      replace fs35 := Bs.below fs35 b47 (Nat.le_refl _)
      replace fs44 := Bs.below fs44 b47 (Nat.le_refl _)
      obtain ⟨as47, ns47, cs47, rfl, es47, ys47, zs47, fs47⟩ := (Owns.bs hO47).shape
      rw [litB_length] at es47
      subst es47
      refine ⟨_, rfl, b47, ?_⟩
      simp only [Act.put, List.setIfInBounds_toArray, List.set_cons_zero, List.set_cons_succ, Nat.zero_add]
      refine lint_conv 48 (Operand.tmp 47) _ _ rfl rfl rfl rfl rfl fs47 ?_
      simp only [Act.put, List.setIfInBounds_toArray, List.set_cons_zero, List.set_cons_succ, Nat.zero_add]
      refine lint_pure 49 (Op.binOp BinOp.eql 9 (Operand.tmp 45) (Operand.tmp 48) 9) 4 (.bool false) rfl rfl rfl rfl rfl (fun w0 hb0 => by exact exec_str_no _ _ _ _ (fun h => hz.out (litB_inj HA.out HC.out h)) rfl rfl) ?_
      simp only [Act.put, List.setIfInBounds_toArray, List.set_cons_zero, List.set_cons_succ, Nat.zero_add]
      refine lint_pure 50 (Op.binOp BinOp.eql 4 (Operand.tmp 42) (Operand.tmp 49) 4) 4 _ rfl rfl rfl rfl rfl (fun w0 hb0 => by unfold mkOp; go_simp; all_goals (with_reducible rfl)) ?_
      simp only [Act.put, List.setIfInBounds_toArray, List.set_cons_zero, List.set_cons_succ, Nat.zero_add]
      refine lint_pure 51 (Op.pick (Operand.tmp 39) (Operand.tmp 50) (Operand.const (Value.bool false))) 4 _ rfl rfl rfl rfl rfl (fun w0 hb0 => by unfold mkOp; go_simp; all_goals (with_reducible rfl)) ?_
      simp only [Act.put, List.setIfInBounds_toArray, List.set_cons_zero, List.set_cons_succ, Nat.zero_add]
      refine lint_pure 52 (Op.move (Operand.tmp 51)) 4 _ rfl rfl rfl rfl rfl (fun w0 hb0 => by unfold mkOp; go_simp; all_goals (with_reducible rfl)) ?_
      simp only [Act.put, List.setIfInBounds_toArray, List.set_cons_zero, List.set_cons_succ, Nat.zero_add]
      refine lint_pure 53 (Op.load 28 (Operand.tmp 7)) 28 (.agg (arrOf 4 fun i => ewF A (0 + i))) rfl rfl rfl rfl rfl (fun w0 hb0 => by exact exec_load_arr _ _ _ _ rfl arrE (World.rowIs.of_block rt7 (hb0.block _ (World.rowIs.lt rt7))) (by omega)) ?_
      simp only [Act.put, List.setIfInBounds_toArray, List.set_cons_zero, List.set_cons_succ, Nat.zero_add]
      refine lint_pure 54 (Op.load 28 (Operand.tmp 7)) 28 (.agg (arrOf 4 fun i => ewF A (0 + i))) rfl rfl rfl rfl rfl (fun w0 hb0 => by exact exec_load_arr _ _ _ _ rfl arrE (World.rowIs.of_block rt7 (hb0.block _ (World.rowIs.lt rt7))) (by omega)) ?_
      simp only [Act.put, List.setIfInBounds_toArray, List.set_cons_zero, List.set_cons_succ, Nat.zero_add]
      refine stp_fn 55 35 #[Operand.tmp 54] #[28] _ (bytes_any A _) rfl rfl rfl rfl Try.func35 (by kernel_rfl) (by kernel_rfl) (by go_simp) ?_
      rintro e w55 ⟨v55, rfl, hO55, b55⟩
      replace B := B.trans (Below.mono b55 (HGS.out _ B))
      replace rt7 := World.rowIs.of_block rt7 (b55.block _ (World.rowIs.lt rt7))
      replace rt8 := World.rowIs.of_block rt8 (b55.block _ (World.rowIs.lt rt8))
      replace rt9 := World.rowIs.of_block rt9 (b55.block _ (World.rowIs.lt rt9))
      replace rt10 := World.rowIs.of_block rt10 (b55.block _ (World.rowIs.lt rt10))
      replace fs32 := Bs.below fs32 b55 (Nat.le_refl _)
      replace fs35 := Bs.below fs35 b55 (Nat.le_refl _)
      replace fs44 := Bs.below fs44 b55 (Nat.le_refl _)
      replace fs47 := Bs.below fs47 b55 (Nat.le_refl _)
      obtain ⟨as55, ns55, cs55, rfl, es55, ys55, zs55, fs55⟩ := (Owns.bs hO55).shape
      rw [litB_length] at es55
      subst es55
      refine ⟨_, rfl, b55, ?_⟩
      simp only [Act.put, List.setIfInBounds_toArray, List.set_cons_zero, List.set_cons_succ, Nat.zero_add]
      refine stp_fn 56 13 #[Operand.tmp 55] #[22] _ (of5_own _ A _ fs55 HA.out) rfl rfl rfl rfl Try.func13 (by kernel_rfl) (by kernel_rfl) (by go_simp) ?_
      rintro e w56 ⟨rfl, b56⟩
      replace B := B.trans (Below.mono b56 (HGS.out _ B))
      replace rt7 := World.rowIs.of_block rt7 (b56.block _ (World.rowIs.lt rt7))
      replace rt8 := World.rowIs.of_block rt8 (b56.block _ (World.rowIs.lt rt8))
      replace rt9 := World.rowIs.of_block rt9 (b56.block _ (World.rowIs.lt rt9))
      replace rt10 := World.rowIs.of_block rt10 (b56.block _ (World.rowIs.lt rt10))
      replace fs32 := Bs.below fs32 b56 (Nat.le_refl _)
      replace fs35 := Bs.below fs35 b56 (Nat.le_refl _)
      replace fs44 := Bs.below fs44 b56 (Nat.le_refl _)
      replace fs47 := Bs.below fs47 b56 (Nat.le_refl _)
      replace fs55 := Bs.below fs55 b56 (Nat.le_refl _)
      refine ⟨_, rfl, b56, ?_⟩
      simp only [Act.put, List.setIfInBounds_toArray, List.set_cons_zero, List.set_cons_succ, Nat.zero_add]
      refine stp_fn 57 28 #[Operand.tmp 53, Operand.tmp 56] #[28, 28] _ (same5_yes A A _ HA.out HA.out (rfl)) rfl rfl rfl rfl Try.func28 (by kernel_rfl) (by kernel_rfl) (by go_simp) ?_
      rintro e w57 ⟨rfl, b57⟩
      replace B := B.trans (Below.mono b57 (HGS.out _ B))
      replace rt7 := World.rowIs.of_block rt7 (b57.block _ (World.rowIs.lt rt7))
      replace rt8 := World.rowIs.of_block rt8 (b57.block _ (World.rowIs.lt rt8))
      replace rt9 := World.rowIs.of_block rt9 (b57.block _ (World.rowIs.lt rt9))
      replace rt10 := World.rowIs.of_block rt10 (b57.block _ (World.rowIs.lt rt10))
      replace fs32 := Bs.below fs32 b57 (Nat.le_refl _)
      replace fs35 := Bs.below fs35 b57 (Nat.le_refl _)
      replace fs44 := Bs.below fs44 b57 (Nat.le_refl _)
      replace fs47 := Bs.below fs47 b57 (Nat.le_refl _)
      replace fs55 := Bs.below fs55 b57 (Nat.le_refl _)
      refine ⟨_, rfl, b57, ?_⟩
      simp only [Act.put, List.setIfInBounds_toArray, List.set_cons_zero, List.set_cons_succ, Nat.zero_add]
      refine lint_pure 58 (Op.pick (Operand.tmp 52) (Operand.tmp 57) (Operand.const (Value.bool false))) 4 _ rfl rfl rfl rfl rfl (fun w0 hb0 => by unfold mkOp; go_simp; all_goals (with_reducible rfl)) ?_
      simp only [Act.put, List.setIfInBounds_toArray, List.set_cons_zero, List.set_cons_succ, Nat.zero_add]
      refine lint_pure 59 (Op.move (Operand.tmp 58)) 4 _ rfl rfl rfl rfl rfl (fun w0 hb0 => by unfold mkOp; go_simp; all_goals (with_reducible rfl)) ?_
      simp only [Act.put, List.setIfInBounds_toArray, List.set_cons_zero, List.set_cons_succ, Nat.zero_add]
      refine lint_pure 60 (Op.load 28 (Operand.tmp 7)) 28 (.agg (arrOf 4 fun i => ewF A (0 + i))) rfl rfl rfl rfl rfl (fun w0 hb0 => by exact exec_load_arr _ _ _ _ rfl arrE (World.rowIs.of_block rt7 (hb0.block _ (World.rowIs.lt rt7))) (by omega)) ?_
      simp only [Act.put, List.setIfInBounds_toArray, List.set_cons_zero, List.set_cons_succ, Nat.zero_add]
      refine stp_fn 61 35 #[Operand.tmp 60] #[28] _ (bytes_any A _) rfl rfl rfl rfl Try.func35 (by kernel_rfl) (by kernel_rfl) (by go_simp) ?_
      rintro e w61 ⟨v61, rfl, hO61, b61⟩
      replace B := B.trans (Below.mono b61 (HGS.out _ B))
      replace rt7 := World.rowIs.of_block rt7 (b61.block _ (World.rowIs.lt rt7))
      replace rt8 := World.rowIs.of_block rt8 (b61.block _ (World.rowIs.lt rt8))
      replace rt9 := World.rowIs.of_block rt9 (b61.block _ (World.rowIs.lt rt9))
      replace rt10 := World.rowIs.of_block rt10 (b61.block _ (World.rowIs.lt rt10))
      replace fs32 := Bs.below fs32 b61 (Nat.le_refl _)
      replace fs35 := Bs.below fs35 b61 (Nat.le_refl _)
      replace fs44 := Bs.below fs44 b61 (Nat.le_refl _)
      replace fs47 := Bs.below fs47 b61 (Nat.le_refl _)
      replace fs55 := Bs.below fs55 b61 (Nat.le_refl _)
      obtain ⟨as61, ns61, cs61, rfl, es61, ys61, zs61, fs61⟩ := (Owns.bs hO61).shape
      rw [litB_length] at es61
      subst es61
      refine ⟨_, rfl, b61, ?_⟩
      simp only [Act.put, List.setIfInBounds_toArray, List.set_cons_zero, List.set_cons_succ, Nat.zero_add]
      refine lint_pure 62 (Op.call { callee := Callee.builtin Builtin.len, args := #[Operand.tmp 61], argTypes := #[22] }) 3 _ rfl rfl rfl rfl rfl (fun w0 hb0 => by unfold mkOp; go_simp; all_goals (with_reducible rfl)) ?_
      simp only [Act.put, List.setIfInBounds_toArray, List.set_cons_zero, List.set_cons_succ, Nat.zero_add]
      refine lint_pure 63 (Op.binOp BinOp.eql 3 (Operand.tmp 62) (Operand.const (Value.int IntKind.i64 32)) 3) 4 _ rfl rfl rfl rfl rfl (fun w0 hb0 => by unfold mkOp; go_simp; all_goals (with_reducible rfl)) ?_
      simp only [Act.put, List.setIfInBounds_toArray, List.set_cons_zero, List.set_cons_succ, Nat.zero_add]
      refine lint_pure 64 (Op.pick (Operand.tmp 59) (Operand.tmp 63) (Operand.const (Value.bool false))) 4 _ rfl rfl rfl rfl rfl (fun w0 hb0 => by unfold mkOp; go_simp; all_goals (with_reducible rfl)) ?_
      simp only [Act.put, List.setIfInBounds_toArray, List.set_cons_zero, List.set_cons_succ, Nat.zero_add]
      refine lint_pure 65 (Op.move (Operand.tmp 64)) 4 _ rfl rfl rfl rfl rfl (fun w0 hb0 => by unfold mkOp; go_simp; all_goals (with_reducible rfl)) ?_
      simp only [Act.put, List.setIfInBounds_toArray, List.set_cons_zero, List.set_cons_succ, Nat.zero_add]
      refine stp_fn 66 12 #[] #[] _ (awake5_any _) rfl rfl rfl rfl Try.func12 (by kernel_rfl) (by kernel_rfl) (by go_simp) ?_
      rintro e w66 ⟨rfl, b66⟩
      replace B := B.trans (Below.mono b66 (HGS.out _ B))
      replace rt7 := World.rowIs.of_block rt7 (b66.block _ (World.rowIs.lt rt7))
      replace rt8 := World.rowIs.of_block rt8 (b66.block _ (World.rowIs.lt rt8))
      replace rt9 := World.rowIs.of_block rt9 (b66.block _ (World.rowIs.lt rt9))
      replace rt10 := World.rowIs.of_block rt10 (b66.block _ (World.rowIs.lt rt10))
      replace fs32 := Bs.below fs32 b66 (Nat.le_refl _)
      replace fs35 := Bs.below fs35 b66 (Nat.le_refl _)
      replace fs44 := Bs.below fs44 b66 (Nat.le_refl _)
      replace fs47 := Bs.below fs47 b66 (Nat.le_refl _)
      replace fs55 := Bs.below fs55 b66 (Nat.le_refl _)
      replace fs61 := Bs.below fs61 b66 (Nat.le_refl _)
      refine ⟨_, rfl, b66, ?_⟩
      simp only [Act.put, List.setIfInBounds_toArray, List.set_cons_zero, List.set_cons_succ, Nat.zero_add]
      refine lint_pure 67 (Op.pick (Operand.tmp 65) (Operand.tmp 66) (Operand.const (Value.bool false))) 4 _ rfl rfl rfl rfl rfl (fun w0 hb0 => by unfold mkOp; go_simp; all_goals (with_reducible rfl)) ?_
      simp only [Act.put, List.setIfInBounds_toArray, List.set_cons_zero, List.set_cons_succ, Nat.zero_add]
      refine lint_pure 6 (Op.assign (Operand.tmp 67)) 4 _ rfl rfl rfl rfl rfl (fun w0 hb0 => by unfold mkOp; go_simp; all_goals (with_reducible rfl)) ?_
      simp only [Act.put, List.setIfInBounds_toArray, List.set_cons_zero, List.set_cons_succ, Nat.zero_add]
      refine lint_end ?_
      go_wp2
      go_ret
      exact ⟨rfl, B⟩
  · go_wp2_with (first
      | (go_at_call 11; refine HFEW.out.mono ?_; rintro e w1 ⟨rfl, rfl⟩; clear HFEW)
      | (go_at_call 13; have hgo := B0; clear hgo; refine (HOF0.out _ _ (H0.out.below B0 (Nat.le_refl _))).mono ?_; rintro e w1 ⟨rfl, hb1⟩
         have B1 := B0.trans (hb1.mono (HGS.out _ B0))
         clear B0 hb1)
      | (go_at_call 13; have hgo := B1; clear hgo; refine (HOF1.out _ _ (H1.out.below B1 (Nat.le_refl _))).mono ?_; rintro e w2 ⟨rfl, hb2⟩
         have B2 := B1.trans (hb2.mono (HGS.out _ B1))
         clear B1 hb2
         have g3 := HGS.out _ B2
         try simp only [World.size_alloc] at g3
         have B3 := B2.alloc (HGS.out _ B2) (.cells (arrOf 4 (u64f fun _ => 0)) 28)
         have r3_t7 := rowIs_arr w2 4 (u64f fun _ => 0) 28
         try simp only [World.size_alloc] at r3_t7
         clear B2
         have lt4_t7 := World.rowIs.lt r3_t7
         try simp only [World.size_alloc] at lt4_t7
         have g4 := HGS.out _ B3
         try simp only [World.size_alloc] at g4
         have r4_t7 := World.rowIs.alloc r3_t7 (.cells (arrOf 4 (u64f fun _ => 0)) 28)
         have B4 := B3.alloc (HGS.out _ B3) (.cells (arrOf 4 (u64f fun _ => 0)) 28)
         have r4_t8 := rowIs_arr (w2.alloc (.cells (arrOf 4 (u64f fun _ => 0)) 28)) 4 (u64f fun _ => 0) 28
         try simp only [World.size_alloc] at r4_t8
         clear B3)
      | (refine wpList_alloc_arr rfl 28 rfl (arrOf 4 (u64f fun _ => 0)) zeroE ?_; try simp only [World.size_alloc])
      | (refine wpList_store_arr rfl 28 (.tmp 7) (.tmp 17) rfl 4 arrE r4_t7 rfl rfl (by omega) (fun _ _ => rfl) ?_; intro x5 hr5 hg5 hs5
         have r5_t7 : x5.rowIs (w2.heap.size) 28 4 (ewF A) := hr5.congr fun i hi => by unfold putN; rw [if_pos (by omega), Nat.sub_zero]
         have r5_t8 := gb_rowIs r4_t8 hg5 (Ne.symm (Nat.ne_of_lt lt4_t7))
         have B5 := B4.grown hg5 (HGS.out _ B4) (by intro k hk; cases hk; exact g3)
         clear r4_t7 r4_t8 B4 hr5 hg5 hs5)
      | (refine wpList_store_arr rfl 28 (.tmp 8) (.tmp 19) rfl 4 arrE r5_t8 rfl rfl (by omega) (fun _ _ => rfl) ?_; intro x6 hr6 hg6 hs6
         have r6_t8 : x6.rowIs (w2.heap.size + 1) 28 4 (ewF C) := hr6.congr fun i hi => by unfold putN; rw [if_pos (by omega), Nat.sub_zero]
         have r6_t7 := gb_rowIs r5_t7 hg6 (Nat.ne_of_lt lt4_t7)
         have B6 := B5.grown hg6 (HGS.out _ B5) (by intro k hk; cases hk; exact g4)
         clear r5_t8 r5_t7 B5 hr6 hg6 hs6)
      | (refine wpList_load_arr rfl 28 (.tmp 7) rfl 4 arrE r6_t7 rfl (by omega) ?_; simp only [Nat.zero_add])
      | (refine wpList_load_arr rfl 28 (.tmp 8) rfl 4 arrE r6_t8 rfl (by omega) ?_; simp only [Nat.zero_add])
      | (go_at_call 30; have hgo := B6; clear hgo; refine (pick5_yes A C _).mono ?_; rintro e w7 ⟨rfl, hb7⟩
         have r7_t7 := World.rowIs.of_block r6_t7 (hb7.block _ (World.rowIs.lt r6_t7))
         have r7_t8 := World.rowIs.of_block r6_t8 (hb7.block _ (World.rowIs.lt r6_t8))
         have B7 := B6.trans (hb7.mono (HGS.out _ B6))
         clear r6_t7 r6_t8 B6 hb7
         have lt8_t7 := World.rowIs.lt r7_t7
         try simp only [World.size_alloc] at lt8_t7
         have lt8_t8 := World.rowIs.lt r7_t8
         try simp only [World.size_alloc] at lt8_t8
         have g8 := HGS.out _ B7
         try simp only [World.size_alloc] at g8
         have r8_t7 := World.rowIs.alloc r7_t7 (.cells (arrOf 4 (u64f fun _ => 0)) 28)
         have r8_t8 := World.rowIs.alloc r7_t8 (.cells (arrOf 4 (u64f fun _ => 0)) 28)
         have B8 := B7.alloc (HGS.out _ B7) (.cells (arrOf 4 (u64f fun _ => 0)) 28)
         have r8_t9 := rowIs_arr w7 4 (u64f fun _ => 0) 28
         try simp only [World.size_alloc] at r8_t9
         clear B7)
      | (refine wpList_store_arr rfl 28 (.tmp 9) (.tmp 23) rfl 4 arrE r8_t9 rfl rfl (by omega) (fun _ _ => rfl) ?_; intro x9 hr9 hg9 hs9
         have r9_t9 : x9.rowIs (w7.heap.size) 28 4 (ewF A) := hr9.congr fun i hi => by unfold putN; rw [if_pos (by omega), Nat.sub_zero]
         have r9_t7 := gb_rowIs r8_t7 hg9 (Nat.ne_of_lt lt8_t7)
         have r9_t8 := gb_rowIs r8_t8 hg9 (Nat.ne_of_lt lt8_t8)
         have B9 := B8.grown hg9 (HGS.out _ B8) (by intro k hk; cases hk; exact g8)
         clear r8_t9 r8_t7 r8_t8 B8 hr9 hg9 hs9
         have lt10_t7 := World.rowIs.lt r9_t7
         try simp only [World.size_alloc] at lt10_t7
         have lt10_t8 := World.rowIs.lt r9_t8
         try simp only [World.size_alloc] at lt10_t8
         have lt10_t9 := World.rowIs.lt r9_t9
         try simp only [World.size_alloc] at lt10_t9
         have g10 := HGS.out _ B9
         try simp only [World.size_alloc] at g10
         have r10_t7 := World.rowIs.alloc r9_t7 (.cells (arrOf 4 (u64f fun _ => 0)) 28)
         have r10_t8 := World.rowIs.alloc r9_t8 (.cells (arrOf 4 (u64f fun _ => 0)) 28)
         have r10_t9 := World.rowIs.alloc r9_t9 (.cells (arrOf 4 (u64f fun _ => 0)) 28)
         have B10 := B9.alloc (HGS.out _ B9) (.cells (arrOf 4 (u64f fun _ => 0)) 28)
         have r10_t10 := rowIs_arr x9 4 (u64f fun _ => 0) 28
         try simp only [World.size_alloc] at r10_t10
         clear B9)
      | (refine wpList_load_arr rfl 28 (.tmp 8) rfl 4 arrE r9_t8 rfl (by omega) ?_; simp only [Nat.zero_add])
      | (refine wpList_store_arr rfl 28 (.tmp 10) (.tmp 24) rfl 4 arrE r10_t10 rfl rfl (by omega) (fun _ _ => rfl) ?_; intro x11 hr11 hg11 hs11
         have r11_t10 : x11.rowIs (x9.heap.size) 28 4 (ewF C) := hr11.congr fun i hi => by unfold putN; rw [if_pos (by omega), Nat.sub_zero]
         have r11_t7 := gb_rowIs r10_t7 hg11 (Nat.ne_of_lt lt10_t7)
         have r11_t8 := gb_rowIs r10_t8 hg11 (Nat.ne_of_lt lt10_t8)
         have r11_t9 := gb_rowIs r10_t9 hg11 (Nat.ne_of_lt lt10_t9)
         have B11 := B10.grown hg11 (HGS.out _ B10) (by intro k hk; cases hk; exact g10)
         clear r10_t10 r10_t7 r10_t8 r10_t9 B10 hr11 hg11 hs11)
      | (refine wpList_load_arr rfl 28 (.tmp 7) rfl 4 arrE r11_t7 rfl (by omega) ?_; simp only [Nat.zero_add])
      | (refine wpList_store_arr rfl 28 (.tmp 10) (.tmp 26) rfl 4 arrE r11_t10 rfl rfl (by omega) (fun _ _ => rfl) ?_; intro x12 hr12 hg12 hs12
         have r12_t10 : x12.rowIs (x9.heap.size) 28 4 (ewF A) := hr12.congr fun i hi => by unfold putN; rw [if_pos (by omega), Nat.sub_zero]
         have r12_t7 := gb_rowIs r11_t7 hg12 (Nat.ne_of_lt lt10_t7)
         have r12_t8 := gb_rowIs r11_t8 hg12 (Nat.ne_of_lt lt10_t8)
         have r12_t9 := gb_rowIs r11_t9 hg12 (Nat.ne_of_lt lt10_t9)
         have B12 := B11.grown hg12 (HGS.out _ B11) (by intro k hk; cases hk; exact g10)
         clear r11_t10 r11_t7 r11_t8 r11_t9 B11 hr12 hg12 hs12))
    have B := B12.drew
    have rt7 := World.rowIs.drew r12_t7
    have rt8 := World.rowIs.drew r12_t8
    have rt9 := World.rowIs.drew r12_t9
    have rt10 := World.rowIs.drew r12_t10
    clear B12 r12_t7 r12_t8 r12_t9 r12_t10
    by_cases hz : A = C
    · subst hz
      refine wp_region_lint (.rd 0 (.rd 1 (.wr 2 (.rd 3 (.rd 4 (.rd 7 (.wr 5 (.rd 6 (.wr 8 (.rd 9 (.rd 10 (.rd 11 (.rd 12 (.rd 13 (.rd 14 (.rd 16 (.rd 19 (.wr 15 (.wr 17 (.rd 18 (.wr 20 (.rd 21 (.rd 22 (.rd 23 (.rd 24 (.rd 25 (.rd 26 (.rd 27 (.wr 28 (.wr 29 (.wr 30 (.rd 31 (.rd 32 (.rd 33 (.wr 34 (.rd 35 (.rd 36 (.rd 37 (.rd 38 (.wr 39 (.rd 40 (.rd 41 .done)))))))))))))))))))))))))))))))))))))))))) (by kernel_rfl) (by kernel_rfl) (by decide) (by kernel_rfl) (fun d _ _ _ _ h => by cases d <;> exact h) ?_
      refine lint_pure 27 (Op.load 28 (Operand.tmp 9)) 28 (.agg (arrOf 4 fun i => ewF A (0 + i))) rfl rfl rfl rfl rfl (fun w0 hb0 => by exact exec_load_arr _ _ _ _ rfl arrE (World.rowIs.of_block rt9 (hb0.block _ (World.rowIs.lt rt9))) (by omega)) ?_
      simp only [Act.put, List.setIfInBounds_toArray, List.set_cons_zero, List.set_cons_succ, Nat.zero_add]
      refine lint_pure 28 (Op.load 28 (Operand.tmp 10)) 28 (.agg (arrOf 4 fun i => ewF A (0 + i))) rfl rfl rfl rfl rfl (fun w0 hb0 => by exact exec_load_arr _ _ _ _ rfl arrE (World.rowIs.of_block rt10 (hb0.block _ (World.rowIs.lt rt10))) (by omega)) ?_
      simp only [Act.put, List.setIfInBounds_toArray, List.set_cons_zero, List.set_cons_succ, Nat.zero_add]
      refine stp_fn 29 28 #[Operand.tmp 27, Operand.tmp 28] #[28, 28] _ (same5_yes A A _ HA.out HA.out (rfl)) rfl rfl rfl rfl Try.func28 (by kernel_rfl) (by kernel_rfl) (by go_simp) ?_
      rintro e w29 ⟨rfl, b29⟩
      replace B := B.trans (Below.mono b29 (HGS.out _ B))
      replace rt7 := World.rowIs.of_block rt7 (b29.block _ (World.rowIs.lt rt7))
      replace rt8 := World.rowIs.of_block rt8 (b29.block _ (World.rowIs.lt rt8))
      replace rt9 := World.rowIs.of_block rt9 (b29.block _ (World.rowIs.lt rt9))
      replace rt10 := World.rowIs.of_block rt10 (b29.block _ (World.rowIs.lt rt10))
      refine ⟨_, rfl, b29, ?_⟩
      simp only [Act.put, List.setIfInBounds_toArray, List.set_cons_zero, List.set_cons_succ, Nat.zero_add]
      refine lint_pure 30 (Op.move (Operand.tmp 29)) 4 _ rfl rfl rfl rfl rfl (fun w0 hb0 => by unfold mkOp; go_simp; all_goals (with_reducible rfl)) ?_
      simp only [Act.put, List.setIfInBounds_toArray, List.set_cons_zero, List.set_cons_succ, Nat.zero_add]
      refine lint_pure 31 (Op.load 28 (Operand.tmp 9)) 28 (.agg (arrOf 4 fun i => ewF A (0 + i))) rfl rfl rfl rfl rfl (fun w0 hb0 => by exact exec_load_arr _ _ _ _ rfl arrE (World.rowIs.of_block rt9 (hb0.block _ (World.rowIs.lt rt9))) (by omega)) ?_
      simp only [Act.put, List.setIfInBounds_toArray, List.set_cons_zero, List.set_cons_succ, Nat.zero_add]
      refine lint_pure 34 (Op.load 28 (Operand.tmp 10)) 28 (.agg (arrOf 4 fun i => ewF A (0 + i))) rfl rfl rfl rfl rfl (fun w0 hb0 => by exact exec_load_arr _ _ _ _ rfl arrE (World.rowIs.of_block rt10 (hb0.block _ (World.rowIs.lt rt10))) (by omega)) ?_
      simp only [Act.put, List.setIfInBounds_toArray, List.set_cons_zero, List.set_cons_succ, Nat.zero_add]
      refine stp_fn 32 35 #[Operand.tmp 31] #[28] _ (bytes_any A _) rfl rfl rfl rfl Try.func35 (by kernel_rfl) (by kernel_rfl) (by go_simp) ?_
      rintro e w32 ⟨v32, rfl, hO32, b32⟩
      replace B := B.trans (Below.mono b32 (HGS.out _ B))
      replace rt7 := World.rowIs.of_block rt7 (b32.block _ (World.rowIs.lt rt7))
      replace rt8 := World.rowIs.of_block rt8 (b32.block _ (World.rowIs.lt rt8))
      replace rt9 := World.rowIs.of_block rt9 (b32.block _ (World.rowIs.lt rt9))
      replace rt10 := World.rowIs.of_block rt10 (b32.block _ (World.rowIs.lt rt10))
      obtain ⟨as32, ns32, cs32, rfl, es32, ys32, zs32, fs32⟩ := (Owns.bs hO32).shape
      rw [litB_length] at es32
      subst es32
      refine ⟨_, rfl, b32, ?_⟩
      simp only [Act.put, List.setIfInBounds_toArray, List.set_cons_zero, List.set_cons_succ, Nat.zero_add]
      refine lint_conv 33 (Operand.tmp 32) _ _ rfl rfl rfl rfl rfl fs32 ?_
      simp only [Act.put, List.setIfInBounds_toArray, List.set_cons_zero, List.set_cons_succ, Nat.zero_add]
      refine stp_fn 35 35 #[Operand.tmp 34] #[28] _ (bytes_any A _) rfl rfl rfl rfl Try.func35 (by kernel_rfl) (by kernel_rfl) (by go_simp) ?_
      rintro e w35 ⟨v35, rfl, hO35, b35⟩
      replace B := B.trans (Below.mono b35 (HGS.out _ B))
      replace rt7 := World.rowIs.of_block rt7 (b35.block _ (World.rowIs.lt rt7))
      replace rt8 := World.rowIs.of_block rt8 (b35.block _ (World.rowIs.lt rt8))
      replace rt9 := World.rowIs.of_block rt9 (b35.block _ (World.rowIs.lt rt9))
      replace rt10 := World.rowIs.of_block rt10 (b35.block _ (World.rowIs.lt rt10))
      replace fs32 := Bs.below fs32 b35 (Nat.le_refl _)
      obtain ⟨as35, ns35, cs35, rfl, es35, ys35, zs35, fs35⟩ := (Owns.bs hO35).shape
      rw [litB_length] at es35
      subst es35
      refine ⟨_, rfl, b35, ?_⟩
      simp only [Act.put, List.setIfInBounds_toArray, List.set_cons_zero, List.set_cons_succ, Nat.zero_add]
      refine lint_conv 36 (Operand.tmp 35) _ _ rfl rfl rfl rfl rfl fs35 ?_
      simp only [Act.put, List.setIfInBounds_toArray, List.set_cons_zero, List.set_cons_succ, Nat.zero_add]
      refine lint_pure 37 (Op.binOp BinOp.eql 9 (Operand.tmp 33) (Operand.tmp 36) 9) 4 (.bool true) rfl rfl rfl rfl rfl (fun w0 hb0 => by exact exec_str_yes _ _ _ _ rfl rfl rfl) ?_
      simp only [Act.put, List.setIfInBounds_toArray, List.set_cons_zero, List.set_cons_succ, Nat.zero_add]
      refine lint_pure 38 (Op.pick (Operand.tmp 30) (Operand.tmp 37) (Operand.const (Value.bool false))) 4 _ rfl rfl rfl rfl rfl (fun w0 hb0 => by unfold mkOp; go_simp; all_goals (with_reducible rfl)) ?_
      simp only [Act.put, List.setIfInBounds_toArray, List.set_cons_zero, List.set_cons_succ, Nat.zero_add]
      refine lint_pure 39 (Op.move (Operand.tmp 38)) 4 _ rfl rfl rfl rfl rfl (fun w0 hb0 => by unfold mkOp; go_simp; all_goals (with_reducible rfl)) ?_
      simp only [Act.put, List.setIfInBounds_toArray, List.set_cons_zero, List.set_cons_succ, Nat.zero_add]
      refine lint_pure 40 (Op.load 28 (Operand.tmp 7)) 28 (.agg (arrOf 4 fun i => ewF A (0 + i))) rfl rfl rfl rfl rfl (fun w0 hb0 => by exact exec_load_arr _ _ _ _ rfl arrE (World.rowIs.of_block rt7 (hb0.block _ (World.rowIs.lt rt7))) (by omega)) ?_
      simp only [Act.put, List.setIfInBounds_toArray, List.set_cons_zero, List.set_cons_succ, Nat.zero_add]
      refine lint_pure 41 (Op.load 28 (Operand.tmp 8)) 28 (.agg (arrOf 4 fun i => ewF A (0 + i))) rfl rfl rfl rfl rfl (fun w0 hb0 => by exact exec_load_arr _ _ _ _ rfl arrE (World.rowIs.of_block rt8 (hb0.block _ (World.rowIs.lt rt8))) (by omega)) ?_
      simp only [Act.put, List.setIfInBounds_toArray, List.set_cons_zero, List.set_cons_succ, Nat.zero_add]
      refine lint_pure 43 (Op.load 28 (Operand.tmp 7)) 28 (.agg (arrOf 4 fun i => ewF A (0 + i))) rfl rfl rfl rfl rfl (fun w0 hb0 => by exact exec_load_arr _ _ _ _ rfl arrE (World.rowIs.of_block rt7 (hb0.block _ (World.rowIs.lt rt7))) (by omega)) ?_
      simp only [Act.put, List.setIfInBounds_toArray, List.set_cons_zero, List.set_cons_succ, Nat.zero_add]
      refine lint_pure 46 (Op.load 28 (Operand.tmp 8)) 28 (.agg (arrOf 4 fun i => ewF A (0 + i))) rfl rfl rfl rfl rfl (fun w0 hb0 => by exact exec_load_arr _ _ _ _ rfl arrE (World.rowIs.of_block rt8 (hb0.block _ (World.rowIs.lt rt8))) (by omega)) ?_
      simp only [Act.put, List.setIfInBounds_toArray, List.set_cons_zero, List.set_cons_succ, Nat.zero_add]
      refine stp_fn 42 28 #[Operand.tmp 40, Operand.tmp 41] #[28, 28] _ (same5_yes A A _ HA.out HA.out (rfl)) rfl rfl rfl rfl Try.func28 (by kernel_rfl) (by kernel_rfl) (by go_simp) ?_
      rintro e w42 ⟨rfl, b42⟩
      replace B := B.trans (Below.mono b42 (HGS.out _ B))
      replace rt7 := World.rowIs.of_block rt7 (b42.block _ (World.rowIs.lt rt7))
      replace rt8 := World.rowIs.of_block rt8 (b42.block _ (World.rowIs.lt rt8))
      replace rt9 := World.rowIs.of_block rt9 (b42.block _ (World.rowIs.lt rt9))
      replace rt10 := World.rowIs.of_block rt10 (b42.block _ (World.rowIs.lt rt10))
      replace fs32 := Bs.below fs32 b42 (Nat.le_refl _)
      replace fs35 := Bs.below fs35 b42 (Nat.le_refl _)
      refine ⟨_, rfl, b42, ?_⟩
      simp only [Act.put, List.setIfInBounds_toArray, List.set_cons_zero, List.set_cons_succ, Nat.zero_add]
      refine stp_fn 44 35 #[Operand.tmp 43] #[28] _ (bytes_any A _) rfl rfl rfl rfl Try.func35 (by kernel_rfl) (by kernel_rfl) (by go_simp) ?_
      rintro e w44 ⟨v44, rfl, hO44, b44⟩
      replace B := B.trans (Below.mono b44 (HGS.out _ B))
      replace rt7 := World.rowIs.of_block rt7 (b44.block _ (World.rowIs.lt rt7))
      replace rt8 := World.rowIs.of_block rt8 (b44.block _ (World.rowIs.lt rt8))
      replace rt9 := World.rowIs.of_block rt9 (b44.block _ (World.rowIs.lt rt9))
      replace rt10 := World.rowIs.of_block rt10 (b44.block _ (World.rowIs.lt rt10))
      replace fs32 := Bs.below fs32 b44 (Nat.le_refl _)
      replace fs35 := Bs.below fs35 b44 (Nat.le_refl _)
      obtain ⟨as44, ns44, cs44, rfl, es44, ys44, zs44, fs44⟩ := (Owns.bs hO44).shape
      rw [litB_length] at es44
      subst es44
      refine ⟨_, rfl, b44, ?_⟩
      simp only [Act.put, List.setIfInBounds_toArray, List.set_cons_zero, List.set_cons_succ, Nat.zero_add]
      refine lint_conv 45 (Operand.tmp 44) _ _ rfl rfl rfl rfl rfl fs44 ?_
      simp only [Act.put, List.setIfInBounds_toArray, List.set_cons_zero, List.set_cons_succ, Nat.zero_add]
      refine stp_fn 47 35 #[Operand.tmp 46] #[28] _ (bytes_any A _) rfl rfl rfl rfl Try.func35 (by kernel_rfl) (by kernel_rfl) (by go_simp) ?_
      rintro e w47 ⟨v47, rfl, hO47, b47⟩
      replace B := B.trans (Below.mono b47 (HGS.out _ B))
      replace rt7 := World.rowIs.of_block rt7 (b47.block _ (World.rowIs.lt rt7))
      replace rt8 := World.rowIs.of_block rt8 (b47.block _ (World.rowIs.lt rt8))
      replace rt9 := World.rowIs.of_block rt9 (b47.block _ (World.rowIs.lt rt9))
      replace rt10 := World.rowIs.of_block rt10 (b47.block _ (World.rowIs.lt rt10))
      replace fs32 := Bs.below fs32 b47 (Nat.le_refl _)
      replace fs35 := Bs.below fs35 b47 (Nat.le_refl _)
      replace fs44 := Bs.below fs44 b47 (Nat.le_refl _)
      obtain ⟨as47, ns47, cs47, rfl, es47, ys47, zs47, fs47⟩ := (Owns.bs hO47).shape
      rw [litB_length] at es47
      subst es47
      refine ⟨_, rfl, b47, ?_⟩
      simp only [Act.put, List.setIfInBounds_toArray, List.set_cons_zero, List.set_cons_succ, Nat.zero_add]
      refine lint_conv 48 (Operand.tmp 47) _ _ rfl rfl rfl rfl rfl fs47 ?_
      simp only [Act.put, List.setIfInBounds_toArray, List.set_cons_zero, List.set_cons_succ, Nat.zero_add]
      refine lint_pure 49 (Op.binOp BinOp.eql 9 (Operand.tmp 45) (Operand.tmp 48) 9) 4 (.bool true) rfl rfl rfl rfl rfl (fun w0 hb0 => by exact exec_str_yes _ _ _ _ rfl rfl rfl) ?_
      simp only [Act.put, List.setIfInBounds_toArray, List.set_cons_zero, List.set_cons_succ, Nat.zero_add]
      refine lint_pure 50 (Op.binOp BinOp.eql 4 (Operand.tmp 42) (Operand.tmp 49) 4) 4 _ rfl rfl rfl rfl rfl (fun w0 hb0 => by unfold mkOp; go_simp; all_goals (with_reducible rfl)) ?_
      simp only [Act.put, List.setIfInBounds_toArray, List.set_cons_zero, List.set_cons_succ, Nat.zero_add]
      refine lint_pure 51 (Op.pick (Operand.tmp 39) (Operand.tmp 50) (Operand.const (Value.bool false))) 4 _ rfl rfl rfl rfl rfl (fun w0 hb0 => by unfold mkOp; go_simp; all_goals (with_reducible rfl)) ?_
      simp only [Act.put, List.setIfInBounds_toArray, List.set_cons_zero, List.set_cons_succ, Nat.zero_add]
      refine lint_pure 52 (Op.move (Operand.tmp 51)) 4 _ rfl rfl rfl rfl rfl (fun w0 hb0 => by unfold mkOp; go_simp; all_goals (with_reducible rfl)) ?_
      simp only [Act.put, List.setIfInBounds_toArray, List.set_cons_zero, List.set_cons_succ, Nat.zero_add]
      refine lint_pure 53 (Op.load 28 (Operand.tmp 7)) 28 (.agg (arrOf 4 fun i => ewF A (0 + i))) rfl rfl rfl rfl rfl (fun w0 hb0 => by exact exec_load_arr _ _ _ _ rfl arrE (World.rowIs.of_block rt7 (hb0.block _ (World.rowIs.lt rt7))) (by omega)) ?_
      simp only [Act.put, List.setIfInBounds_toArray, List.set_cons_zero, List.set_cons_succ, Nat.zero_add]
      refine lint_pure 54 (Op.load 28 (Operand.tmp 7)) 28 (.agg (arrOf 4 fun i => ewF A (0 + i))) rfl rfl rfl rfl rfl (fun w0 hb0 => by exact exec_load_arr _ _ _ _ rfl arrE (World.rowIs.of_block rt7 (hb0.block _ (World.rowIs.lt rt7))) (by omega)) ?_
      simp only [Act.put, List.setIfInBounds_toArray, List.set_cons_zero, List.set_cons_succ, Nat.zero_add]
      refine stp_fn 55 35 #[Operand.tmp 54] #[28] _ (bytes_any A _) rfl rfl rfl rfl Try.func35 (by kernel_rfl) (by kernel_rfl) (by go_simp) ?_
      rintro e w55 ⟨v55, rfl, hO55, b55⟩
      replace B := B.trans (Below.mono b55 (HGS.out _ B))
      replace rt7 := World.rowIs.of_block rt7 (b55.block _ (World.rowIs.lt rt7))
      replace rt8 := World.rowIs.of_block rt8 (b55.block _ (World.rowIs.lt rt8))
      replace rt9 := World.rowIs.of_block rt9 (b55.block _ (World.rowIs.lt rt9))
      replace rt10 := World.rowIs.of_block rt10 (b55.block _ (World.rowIs.lt rt10))
      replace fs32 := Bs.below fs32 b55 (Nat.le_refl _)
      replace fs35 := Bs.below fs35 b55 (Nat.le_refl _)
      replace fs44 := Bs.below fs44 b55 (Nat.le_refl _)
      replace fs47 := Bs.below fs47 b55 (Nat.le_refl _)
      obtain ⟨as55, ns55, cs55, rfl, es55, ys55, zs55, fs55⟩ := (Owns.bs hO55).shape
      rw [litB_length] at es55
      subst es55
      refine ⟨_, rfl, b55, ?_⟩
      simp only [Act.put, List.setIfInBounds_toArray, List.set_cons_zero, List.set_cons_succ, Nat.zero_add]
      refine stp_fn 56 13 #[Operand.tmp 55] #[22] _ (of5_own _ A _ fs55 HA.out) rfl rfl rfl rfl Try.func13 (by kernel_rfl) (by kernel_rfl) (by go_simp) ?_
      rintro e w56 ⟨rfl, b56⟩
      replace B := B.trans (Below.mono b56 (HGS.out _ B))
      replace rt7 := World.rowIs.of_block rt7 (b56.block _ (World.rowIs.lt rt7))
      replace rt8 := World.rowIs.of_block rt8 (b56.block _ (World.rowIs.lt rt8))
      replace rt9 := World.rowIs.of_block rt9 (b56.block _ (World.rowIs.lt rt9))
      replace rt10 := World.rowIs.of_block rt10 (b56.block _ (World.rowIs.lt rt10))
      replace fs32 := Bs.below fs32 b56 (Nat.le_refl _)
      replace fs35 := Bs.below fs35 b56 (Nat.le_refl _)
      replace fs44 := Bs.below fs44 b56 (Nat.le_refl _)
      replace fs47 := Bs.below fs47 b56 (Nat.le_refl _)
      replace fs55 := Bs.below fs55 b56 (Nat.le_refl _)
      refine ⟨_, rfl, b56, ?_⟩
      simp only [Act.put, List.setIfInBounds_toArray, List.set_cons_zero, List.set_cons_succ, Nat.zero_add]
      refine stp_fn 57 28 #[Operand.tmp 53, Operand.tmp 56] #[28, 28] _ (same5_yes A A _ HA.out HA.out (rfl)) rfl rfl rfl rfl Try.func28 (by kernel_rfl) (by kernel_rfl) (by go_simp) ?_
      rintro e w57 ⟨rfl, b57⟩
      replace B := B.trans (Below.mono b57 (HGS.out _ B))
      replace rt7 := World.rowIs.of_block rt7 (b57.block _ (World.rowIs.lt rt7))
      replace rt8 := World.rowIs.of_block rt8 (b57.block _ (World.rowIs.lt rt8))
      replace rt9 := World.rowIs.of_block rt9 (b57.block _ (World.rowIs.lt rt9))
      replace rt10 := World.rowIs.of_block rt10 (b57.block _ (World.rowIs.lt rt10))
      replace fs32 := Bs.below fs32 b57 (Nat.le_refl _)
      replace fs35 := Bs.below fs35 b57 (Nat.le_refl _)
      replace fs44 := Bs.below fs44 b57 (Nat.le_refl _)
      replace fs47 := Bs.below fs47 b57 (Nat.le_refl _)
      replace fs55 := Bs.below fs55 b57 (Nat.le_refl _)
      refine ⟨_, rfl, b57, ?_⟩
      simp only [Act.put, List.setIfInBounds_toArray, List.set_cons_zero, List.set_cons_succ, Nat.zero_add]
      refine lint_pure 58 (Op.pick (Operand.tmp 52) (Operand.tmp 57) (Operand.const (Value.bool false))) 4 _ rfl rfl rfl rfl rfl (fun w0 hb0 => by unfold mkOp; go_simp; all_goals (with_reducible rfl)) ?_
      simp only [Act.put, List.setIfInBounds_toArray, List.set_cons_zero, List.set_cons_succ, Nat.zero_add]
      refine lint_pure 59 (Op.move (Operand.tmp 58)) 4 _ rfl rfl rfl rfl rfl (fun w0 hb0 => by unfold mkOp; go_simp; all_goals (with_reducible rfl)) ?_
      simp only [Act.put, List.setIfInBounds_toArray, List.set_cons_zero, List.set_cons_succ, Nat.zero_add]
      refine lint_pure 60 (Op.load 28 (Operand.tmp 7)) 28 (.agg (arrOf 4 fun i => ewF A (0 + i))) rfl rfl rfl rfl rfl (fun w0 hb0 => by exact exec_load_arr _ _ _ _ rfl arrE (World.rowIs.of_block rt7 (hb0.block _ (World.rowIs.lt rt7))) (by omega)) ?_
      simp only [Act.put, List.setIfInBounds_toArray, List.set_cons_zero, List.set_cons_succ, Nat.zero_add]
      refine stp_fn 61 35 #[Operand.tmp 60] #[28] _ (bytes_any A _) rfl rfl rfl rfl Try.func35 (by kernel_rfl) (by kernel_rfl) (by go_simp) ?_
      rintro e w61 ⟨v61, rfl, hO61, b61⟩
      replace B := B.trans (Below.mono b61 (HGS.out _ B))
      replace rt7 := World.rowIs.of_block rt7 (b61.block _ (World.rowIs.lt rt7))
      replace rt8 := World.rowIs.of_block rt8 (b61.block _ (World.rowIs.lt rt8))
      replace rt9 := World.rowIs.of_block rt9 (b61.block _ (World.rowIs.lt rt9))
      replace rt10 := World.rowIs.of_block rt10 (b61.block _ (World.rowIs.lt rt10))
      replace fs32 := Bs.below fs32 b61 (Nat.le_refl _)
      replace fs35 := Bs.below fs35 b61 (Nat.le_refl _)
      replace fs44 := Bs.below fs44 b61 (Nat.le_refl _)
      replace fs47 := Bs.below fs47 b61 (Nat.le_refl _)
      replace fs55 := Bs.below fs55 b61 (Nat.le_refl _)
      obtain ⟨as61, ns61, cs61, rfl, es61, ys61, zs61, fs61⟩ := (Owns.bs hO61).shape
      rw [litB_length] at es61
      subst es61
      refine ⟨_, rfl, b61, ?_⟩
      simp only [Act.put, List.setIfInBounds_toArray, List.set_cons_zero, List.set_cons_succ, Nat.zero_add]
      refine lint_pure 62 (Op.call { callee := Callee.builtin Builtin.len, args := #[Operand.tmp 61], argTypes := #[22] }) 3 _ rfl rfl rfl rfl rfl (fun w0 hb0 => by unfold mkOp; go_simp; all_goals (with_reducible rfl)) ?_
      simp only [Act.put, List.setIfInBounds_toArray, List.set_cons_zero, List.set_cons_succ, Nat.zero_add]
      refine lint_pure 63 (Op.binOp BinOp.eql 3 (Operand.tmp 62) (Operand.const (Value.int IntKind.i64 32)) 3) 4 _ rfl rfl rfl rfl rfl (fun w0 hb0 => by unfold mkOp; go_simp; all_goals (with_reducible rfl)) ?_
      simp only [Act.put, List.setIfInBounds_toArray, List.set_cons_zero, List.set_cons_succ, Nat.zero_add]
      refine lint_pure 64 (Op.pick (Operand.tmp 59) (Operand.tmp 63) (Operand.const (Value.bool false))) 4 _ rfl rfl rfl rfl rfl (fun w0 hb0 => by unfold mkOp; go_simp; all_goals (with_reducible rfl)) ?_
      simp only [Act.put, List.setIfInBounds_toArray, List.set_cons_zero, List.set_cons_succ, Nat.zero_add]
      refine lint_pure 65 (Op.move (Operand.tmp 64)) 4 _ rfl rfl rfl rfl rfl (fun w0 hb0 => by unfold mkOp; go_simp; all_goals (with_reducible rfl)) ?_
      simp only [Act.put, List.setIfInBounds_toArray, List.set_cons_zero, List.set_cons_succ, Nat.zero_add]
      refine stp_fn 66 12 #[] #[] _ (awake5_any _) rfl rfl rfl rfl Try.func12 (by kernel_rfl) (by kernel_rfl) (by go_simp) ?_
      rintro e w66 ⟨rfl, b66⟩
      replace B := B.trans (Below.mono b66 (HGS.out _ B))
      replace rt7 := World.rowIs.of_block rt7 (b66.block _ (World.rowIs.lt rt7))
      replace rt8 := World.rowIs.of_block rt8 (b66.block _ (World.rowIs.lt rt8))
      replace rt9 := World.rowIs.of_block rt9 (b66.block _ (World.rowIs.lt rt9))
      replace rt10 := World.rowIs.of_block rt10 (b66.block _ (World.rowIs.lt rt10))
      replace fs32 := Bs.below fs32 b66 (Nat.le_refl _)
      replace fs35 := Bs.below fs35 b66 (Nat.le_refl _)
      replace fs44 := Bs.below fs44 b66 (Nat.le_refl _)
      replace fs47 := Bs.below fs47 b66 (Nat.le_refl _)
      replace fs55 := Bs.below fs55 b66 (Nat.le_refl _)
      replace fs61 := Bs.below fs61 b66 (Nat.le_refl _)
      refine ⟨_, rfl, b66, ?_⟩
      simp only [Act.put, List.setIfInBounds_toArray, List.set_cons_zero, List.set_cons_succ, Nat.zero_add]
      refine lint_pure 67 (Op.pick (Operand.tmp 65) (Operand.tmp 66) (Operand.const (Value.bool false))) 4 _ rfl rfl rfl rfl rfl (fun w0 hb0 => by unfold mkOp; go_simp; all_goals (with_reducible rfl)) ?_
      simp only [Act.put, List.setIfInBounds_toArray, List.set_cons_zero, List.set_cons_succ, Nat.zero_add]
      refine lint_pure 6 (Op.assign (Operand.tmp 67)) 4 _ rfl rfl rfl rfl rfl (fun w0 hb0 => by unfold mkOp; go_simp; all_goals (with_reducible rfl)) ?_
      simp only [Act.put, List.setIfInBounds_toArray, List.set_cons_zero, List.set_cons_succ, Nat.zero_add]
      refine lint_end ?_
      go_wp2
      go_ret
      exact ⟨rfl, B⟩
    · replace hz := Lib.hid hz
      refine wp_region_lint (.rd 0 (.rd 1 (.wr 2 (.rd 3 (.rd 4 (.rd 7 (.wr 5 (.rd 6 (.wr 8 (.rd 9 (.rd 10 (.rd 11 (.rd 12 (.rd 13 (.rd 14 (.rd 16 (.rd 19 (.wr 15 (.wr 17 (.rd 18 (.wr 20 (.rd 21 (.rd 22 (.rd 23 (.rd 24 (.rd 25 (.rd 26 (.rd 27 (.wr 28 (.wr 29 (.wr 30 (.rd 31 (.rd 32 (.rd 33 (.wr 34 (.rd 35 (.rd 36 (.rd 37 (.rd 38 (.wr 39 (.rd 40 (.rd 41 .done)))))))))))))))))))))))))))))))))))))))))) (by kernel_rfl) (by kernel_rfl) (by decide) (by kernel_rfl) (fun d _ _ _ _ h => by cases d <;> exact h) ?_
      refine lint_pure 27 (Op.load 28 (Operand.tmp 9)) 28 (.agg (arrOf 4 fun i => ewF A (0 + i))) rfl rfl rfl rfl rfl (fun w0 hb0 => by exact exec_load_arr _ _ _ _ rfl arrE (World.rowIs.of_block rt9 (hb0.block _ (World.rowIs.lt rt9))) (by omega)) ?_
      simp only [Act.put, List.setIfInBounds_toArray, List.set_cons_zero, List.set_cons_succ, Nat.zero_add]
      refine lint_pure 28 (Op.load 28 (Operand.tmp 10)) 28 (.agg (arrOf 4 fun i => ewF A (0 + i))) rfl rfl rfl rfl rfl (fun w0 hb0 => by exact exec_load_arr _ _ _ _ rfl arrE (World.rowIs.of_block rt10 (hb0.block _ (World.rowIs.lt rt10))) (by omega)) ?_
      simp only [Act.put, List.setIfInBounds_toArray, List.set_cons_zero, List.set_cons_succ, Nat.zero_add]
      refine stp_fn 29 28 #[Operand.tmp 27, Operand.tmp 28] #[28, 28] _ (same5_yes A A _ HA.out HA.out (rfl)) rfl rfl rfl rfl Try.func28 (by kernel_rfl) (by kernel_rfl) (by go_simp) ?_
      rintro e w29 ⟨rfl, b29⟩
      replace B := B.trans (Below.mono b29 (HGS.out _ B))
      replace rt7 := World.rowIs.of_block rt7 (b29.block _ (World.rowIs.lt rt7))
      replace rt8 := World.rowIs.of_block rt8 (b29.block _ (World.rowIs.lt rt8))
      replace rt9 := World.rowIs.of_block rt9 (b29.block _ (World.rowIs.lt rt9))
      replace rt10 := World.rowIs.of_block rt10 (b29.block _ (World.rowIs.lt rt10))
      refine ⟨_, rfl, b29, ?_⟩
      simp only [Act.put, List.setIfInBounds_toArray, List.set_cons_zero, List.set_cons_succ, Nat.zero_add]
      refine lint_pure 30 (Op.move (Operand.tmp 29)) 4 _ rfl rfl rfl rfl rfl (fun w0 hb0 => by unfold mkOp; go_simp; all_goals (with_reducible rfl)) ?_
      simp only [Act.put, List.setIfInBounds_toArray, List.set_cons_zero, List.set_cons_succ, Nat.zero_add]
      refine lint_pure 31 (Op.load 28 (Operand.tmp 9)) 28 (.agg (arrOf 4 fun i => ewF A (0 + i))) rfl rfl rfl rfl rfl (fun w0 hb0 => by exact exec_load_arr _ _ _ _ rfl arrE (World.rowIs.of_block rt9 (hb0.block _ (World.rowIs.lt rt9))) (by omega)) ?_
      simp only [Act.put, List.setIfInBounds_toArray, List.set_cons_zero, List.set_cons_succ, Nat.zero_add]
      refine lint_pure 34 (Op.load 28 (Operand.tmp 10)) 28 (.agg (arrOf 4 fun i => ewF A (0 + i))) rfl rfl rfl rfl rfl (fun w0 hb0 => by exact exec_load_arr _ _ _ _ rfl arrE (World.rowIs.of_block rt10 (hb0.block _ (World.rowIs.lt rt10))) (by omega)) ?_
      simp only [Act.put, List.setIfInBounds_toArray, List.set_cons_zero, List.set_cons_succ, Nat.zero_add]
      refine stp_fn 32 35 #[Operand.tmp 31] #[28] _ (bytes_any A _) rfl rfl rfl rfl Try.func35 (by kernel_rfl) (by kernel_rfl) (by go_simp) ?_
      rintro e w32 ⟨v32, rfl, hO32, b32⟩
      replace B := B.trans (Below.mono b32 (HGS.out _ B))
      replace rt7 := World.rowIs.of_block rt7 (b32.block _ (World.rowIs.lt rt7))
      replace rt8 := World.rowIs.of_block rt8 (b32.block _ (World.rowIs.lt rt8))
      replace rt9 := World.rowIs.of_block rt9 (b32.block _ (World.rowIs.lt rt9))
      replace rt10 := World.rowIs.of_block rt10 (b32.block _ (World.rowIs.lt rt10))
      obtain ⟨as32, ns32, cs32, rfl, es32, ys32, zs32, fs32⟩ := (Owns.bs hO32).shape
      rw [litB_length] at es32
      subst es32
      refine ⟨_, rfl, b32, ?_⟩
      simp only [Act.put, List.setIfInBounds_toArray, List.set_cons_zero, List.set_cons_succ, Nat.zero_add]
      refine lint_conv 33 (Operand.tmp 32) _ _ rfl rfl rfl rfl rfl fs32 ?_
      simp only [Act.put, List.setIfInBounds_toArray, List.set_cons_zero, List.set_cons_succ, Nat.zero_add]
      refine stp_fn 35 35 #[Operand.tmp 34] #[28] _ (bytes_any A _) rfl rfl rfl rfl Try.func35 (by kernel_rfl) (by kernel_rfl) (by go_simp) ?_
      rintro e w35 ⟨v35, rfl, hO35, b35⟩
      replace B := B.trans (Below.mono b35 (HGS.out _ B))
      replace rt7 := World.rowIs.of_block rt7 (b35.block _ (World.rowIs.lt rt7))
      replace rt8 := World.rowIs.of_block rt8 (b35.block _ (World.rowIs.lt rt8))
      replace rt9 := World.rowIs.of_block rt9 (b35.block _ (World.rowIs.lt rt9))
      replace rt10 := World.rowIs.of_block rt10 (b35.block _ (World.rowIs.lt rt10))
      replace fs32 := Bs.below fs32 b35 (Nat.le_refl _)
      obtain ⟨as35, ns35, cs35, rfl, es35, ys35, zs35, fs35⟩ := (Owns.bs hO35).shape
      rw [litB_length] at es35
      subst es35
      refine ⟨_, rfl, b35, ?_⟩
      simp only [Act.put, List.setIfInBounds_toArray, List.set_cons_zero, List.set_cons_succ, Nat.zero_add]
      refine lint_conv 36 (Operand.tmp 35) _ _ rfl rfl rfl rfl rfl fs35 ?_
      simp only [Act.put, List.setIfInBounds_toArray, List.set_cons_zero, List.set_cons_succ, Nat.zero_add]
      refine lint_pure 37 (Op.binOp BinOp.eql 9 (Operand.tmp 33) (Operand.tmp 36) 9) 4 (.bool true) rfl rfl rfl rfl rfl (fun w0 hb0 => by exact exec_str_yes _ _ _ _ rfl rfl rfl) ?_
      simp only [Act.put, List.setIfInBounds_toArray, List.set_cons_zero, List.set_cons_succ, Nat.zero_add]
      refine lint_pure 38 (Op.pick (Operand.tmp 30) (Operand.tmp 37) (Operand.const (Value.bool false))) 4 _ rfl rfl rfl rfl rfl (fun w0 hb0 => by unfold mkOp; go_simp; all_goals (with_reducible rfl)) ?_
      simp only [Act.put, List.setIfInBounds_toArray, List.set_cons_zero, List.set_cons_succ, Nat.zero_add]
      refine lint_pure 39 (Op.move (Operand.tmp 38)) 4 _ rfl rfl rfl rfl rfl (fun w0 hb0 => by unfold mkOp; go_simp; all_goals (with_reducible rfl)) ?_
      simp only [Act.put, List.setIfInBounds_toArray, List.set_cons_zero, List.set_cons_succ, Nat.zero_add]
      refine lint_pure 40 (Op.load 28 (Operand.tmp 7)) 28 (.agg (arrOf 4 fun i => ewF A (0 + i))) rfl rfl rfl rfl rfl (fun w0 hb0 => by exact exec_load_arr _ _ _ _ rfl arrE (World.rowIs.of_block rt7 (hb0.block _ (World.rowIs.lt rt7))) (by omega)) ?_
      simp only [Act.put, List.setIfInBounds_toArray, List.set_cons_zero, List.set_cons_succ, Nat.zero_add]
      refine lint_pure 41 (Op.load 28 (Operand.tmp 8)) 28 (.agg (arrOf 4 fun i => ewF C (0 + i))) rfl rfl rfl rfl rfl (fun w0 hb0 => by exact exec_load_arr _ _ _ _ rfl arrE (World.rowIs.of_block rt8 (hb0.block _ (World.rowIs.lt rt8))) (by omega)) ?_
      simp only [Act.put, List.setIfInBounds_toArray, List.set_cons_zero, List.set_cons_succ, Nat.zero_add]
      refine lint_pure 43 (Op.load 28 (Operand.tmp 7)) 28 (.agg (arrOf 4 fun i => ewF A (0 + i))) rfl rfl rfl rfl rfl (fun w0 hb0 => by exact exec_load_arr _ _ _ _ rfl arrE (World.rowIs.of_block rt7 (hb0.block _ (World.rowIs.lt rt7))) (by omega)) ?_
      simp only [Act.put, List.setIfInBounds_toArray, List.set_cons_zero, List.set_cons_succ, Nat.zero_add]
      refine lint_pure 46 (Op.load 28 (Operand.tmp 8)) 28 (.agg (arrOf 4 fun i => ewF C (0 + i))) rfl rfl rfl rfl rfl (fun w0 hb0 => by exact exec_load_arr _ _ _ _ rfl arrE (World.rowIs.of_block rt8 (hb0.block _ (World.rowIs.lt rt8))) (by omega)) ?_
      simp only [Act.put, List.setIfInBounds_toArray, List.set_cons_zero, List.set_cons_succ, Nat.zero_add]
      refine stp_fn 42 28 #[Operand.tmp 40, Operand.tmp 41] #[28, 28] _ (same5_no A C _ HA.out HC.out (hz.out)) rfl rfl rfl rfl Try.func28 (by kernel_rfl) (by kernel_rfl) (by go_simp) ?_
      rintro e w42 ⟨rfl, b42⟩
      replace B := B.trans (Below.mono b42 (HGS.out _ B))
      replace rt7 := World.rowIs.of_block rt7 (b42.block _ (World.rowIs.lt rt7))
      replace rt8 := World.rowIs.of_block rt8 (b42.block _ (World.rowIs.lt rt8))
      replace rt9 := World.rowIs.of_block rt9 (b42.block _ (World.rowIs.lt rt9))
      replace rt10 := World.rowIs.of_block rt10 (b42.block _ (World.rowIs.lt rt10))
      replace fs32 := Bs.below fs32 b42 (Nat.le_refl _)
      replace fs35 := Bs.below fs35 b42 (Nat.le_refl _)
      refine ⟨_, rfl, b42, ?_⟩
      simp only [Act.put, List.setIfInBounds_toArray, List.set_cons_zero, List.set_cons_succ, Nat.zero_add]
      refine stp_fn 44 35 #[Operand.tmp 43] #[28] _ (bytes_any A _) rfl rfl rfl rfl Try.func35 (by kernel_rfl) (by kernel_rfl) (by go_simp) ?_
      rintro e w44 ⟨v44, rfl, hO44, b44⟩
      replace B := B.trans (Below.mono b44 (HGS.out _ B))
      replace rt7 := World.rowIs.of_block rt7 (b44.block _ (World.rowIs.lt rt7))
      replace rt8 := World.rowIs.of_block rt8 (b44.block _ (World.rowIs.lt rt8))
      replace rt9 := World.rowIs.of_block rt9 (b44.block _ (World.rowIs.lt rt9))
      replace rt10 := World.rowIs.of_block rt10 (b44.block _ (World.rowIs.lt rt10))
      replace fs32 := Bs.below fs32 b44 (Nat.le_refl _)
      replace fs35 := Bs.below fs35 b44 (Nat.le_refl _)
      obtain ⟨as44, ns44, cs44, rfl, es44, ys44, zs44, fs44⟩ := (Owns.bs hO44).shape
      rw [litB_length] at es44
      subst es44
      refine ⟨_, rfl, b44, ?_⟩
      simp only [Act.put, List.setIfInBounds_toArray, List.set_cons_zero, List.set_cons_succ, Nat.zero_add]
      refine lint_conv 45 (Operand.tmp 44) _ _ rfl rfl rfl rfl rfl fs44 ?_
      simp only [Act.put, List.setIfInBounds_toArray, List.set_cons_zero, List.set_cons_succ, Nat.zero_add]
      refine stp_fn 47 35 #[Operand.tmp 46] #[28] _ (bytes_any C _) rfl rfl rfl rfl Try.func35 (by kernel_rfl) (by kernel_rfl) (by go_simp) ?_
      rintro e w47 ⟨v47, rfl, hO47, b47⟩
      replace B := B.trans (Below.mono b47 (HGS.out _ B))
      replace rt7 := World.rowIs.of_block rt7 (b47.block _ (World.rowIs.lt rt7))
      replace rt8 := World.rowIs.of_block rt8 (b47.block _ (World.rowIs.lt rt8))
      replace rt9 := World.rowIs.of_block rt9 (b47.block _ (World.rowIs.lt rt9))
      replace rt10 := World.rowIs.of_block rt10 (b47.block _ (World.rowIs.lt rt10))
      replace fs32 := Bs.below fs32 b47 (Nat.le_refl _)
      replace fs35 := Bs.below fs35 b47 (Nat.le_refl _)
      replace fs44 := Bs.below fs44 b47 (Nat.le_refl _)
      obtain ⟨as47, ns47, cs47, rfl, es47, ys47, zs47, fs47⟩ := (Owns.bs hO47).shape
      rw [litB_length] at es47
      subst es47
      refine ⟨_, rfl, b47, ?_⟩
      simp only [Act.put, List.setIfInBounds_toArray, List.set_cons_zero, List.set_cons_succ, Nat.zero_add]
      refine lint_conv 48 (Operand.tmp 47) _ _ rfl rfl rfl rfl rfl fs47 ?_
      simp only [Act.put, List.setIfInBounds_toArray, List.set_cons_zero, List.set_cons_succ, Nat.zero_add]
      refine lint_pure 49 (Op.binOp BinOp.eql 9 (Operand.tmp 45) (Operand.tmp 48) 9) 4 (.bool false) rfl rfl rfl rfl rfl (fun w0 hb0 => by exact exec_str_no _ _ _ _ (fun h => hz.out (litB_inj HA.out HC.out h)) rfl rfl) ?_
      simp only [Act.put, List.setIfInBounds_toArray, List.set_cons_zero, List.set_cons_succ, Nat.zero_add]
      refine lint_pure 50 (Op.binOp BinOp.eql 4 (Operand.tmp 42) (Operand.tmp 49) 4) 4 _ rfl rfl rfl rfl rfl (fun w0 hb0 => by unfold mkOp; go_simp; all_goals (with_reducible rfl)) ?_
      simp only [Act.put, List.setIfInBounds_toArray, List.set_cons_zero, List.set_cons_succ, Nat.zero_add]
      refine lint_pure 51 (Op.pick (Operand.tmp 39) (Operand.tmp 50) (Operand.const (Value.bool false))) 4 _ rfl rfl rfl rfl rfl (fun w0 hb0 => by unfold mkOp; go_simp; all_goals (with_reducible rfl)) ?_
      simp only [Act.put, List.setIfInBounds_toArray, List.set_cons_zero, List.set_cons_succ, Nat.zero_add]
      refine lint_pure 52 (Op.move (Operand.tmp 51)) 4 _ rfl rfl rfl rfl rfl (fun w0 hb0 => by unfold mkOp; go_simp; all_goals (with_reducible rfl)) ?_
      simp only [Act.put, List.setIfInBounds_toArray, List.set_cons_zero, List.set_cons_succ, Nat.zero_add]
      refine lint_pure 53 (Op.load 28 (Operand.tmp 7)) 28 (.agg (arrOf 4 fun i => ewF A (0 + i))) rfl rfl rfl rfl rfl (fun w0 hb0 => by exact exec_load_arr _ _ _ _ rfl arrE (World.rowIs.of_block rt7 (hb0.block _ (World.rowIs.lt rt7))) (by omega)) ?_
      simp only [Act.put, List.setIfInBounds_toArray, List.set_cons_zero, List.set_cons_succ, Nat.zero_add]
      refine lint_pure 54 (Op.load 28 (Operand.tmp 7)) 28 (.agg (arrOf 4 fun i => ewF A (0 + i))) rfl rfl rfl rfl rfl (fun w0 hb0 => by exact exec_load_arr _ _ _ _ rfl arrE (World.rowIs.of_block rt7 (hb0.block _ (World.rowIs.lt rt7))) (by omega)) ?_
      simp only [Act.put, List.setIfInBounds_toArray, List.set_cons_zero, List.set_cons_succ, Nat.zero_add]
      refine stp_fn 55 35 #[Operand.tmp 54] #[28] _ (bytes_any A _) rfl rfl rfl rfl Try.func35 (by kernel_rfl) (by kernel_rfl) (by go_simp) ?_
      rintro e w55 ⟨v55, rfl, hO55, b55⟩
      replace B := B.trans (Below.mono b55 (HGS.out _ B))
      replace rt7 := World.rowIs.of_block rt7 (b55.block _ (World.rowIs.lt rt7))
      replace rt8 := World.rowIs.of_block rt8 (b55.block _ (World.rowIs.lt rt8))
      replace rt9 := World.rowIs.of_block rt9 (b55.block _ (World.rowIs.lt rt9))
      replace rt10 := World.rowIs.of_block rt10 (b55.block _ (World.rowIs.lt rt10))
      replace fs32 := Bs.below fs32 b55 (Nat.le_refl _)
      replace fs35 := Bs.below fs35 b55 (Nat.le_refl _)
      replace fs44 := Bs.below fs44 b55 (Nat.le_refl _)
      replace fs47 := Bs.below fs47 b55 (Nat.le_refl _)
      obtain ⟨as55, ns55, cs55, rfl, es55, ys55, zs55, fs55⟩ := (Owns.bs hO55).shape
      rw [litB_length] at es55
      subst es55
      refine ⟨_, rfl, b55, ?_⟩
      simp only [Act.put, List.setIfInBounds_toArray, List.set_cons_zero, List.set_cons_succ, Nat.zero_add]
      refine stp_fn 56 13 #[Operand.tmp 55] #[22] _ (of5_own _ A _ fs55 HA.out) rfl rfl rfl rfl Try.func13 (by kernel_rfl) (by kernel_rfl) (by go_simp) ?_
      rintro e w56 ⟨rfl, b56⟩
      replace B := B.trans (Below.mono b56 (HGS.out _ B))
      replace rt7 := World.rowIs.of_block rt7 (b56.block _ (World.rowIs.lt rt7))
      replace rt8 := World.rowIs.of_block rt8 (b56.block _ (World.rowIs.lt rt8))
      replace rt9 := World.rowIs.of_block rt9 (b56.block _ (World.rowIs.lt rt9))
      replace rt10 := World.rowIs.of_block rt10 (b56.block _ (World.rowIs.lt rt10))
      replace fs32 := Bs.below fs32 b56 (Nat.le_refl _)
      replace fs35 := Bs.below fs35 b56 (Nat.le_refl _)
      replace fs44 := Bs.below fs44 b56 (Nat.le_refl _)
      replace fs47 := Bs.below fs47 b56 (Nat.le_refl _)
      replace fs55 := Bs.below fs55 b56 (Nat.le_refl _)
      refine ⟨_, rfl, b56, ?_⟩
      simp only [Act.put, List.setIfInBounds_toArray, List.set_cons_zero, List.set_cons_succ, Nat.zero_add]
      refine stp_fn 57 28 #[Operand.tmp 53, Operand.tmp 56] #[28, 28] _ (same5_yes A A _ HA.out HA.out (rfl)) rfl rfl rfl rfl Try.func28 (by kernel_rfl) (by kernel_rfl) (by go_simp) ?_
      rintro e w57 ⟨rfl, b57⟩
      replace B := B.trans (Below.mono b57 (HGS.out _ B))
      replace rt7 := World.rowIs.of_block rt7 (b57.block _ (World.rowIs.lt rt7))
      replace rt8 := World.rowIs.of_block rt8 (b57.block _ (World.rowIs.lt rt8))
      replace rt9 := World.rowIs.of_block rt9 (b57.block _ (World.rowIs.lt rt9))
      replace rt10 := World.rowIs.of_block rt10 (b57.block _ (World.rowIs.lt rt10))
      replace fs32 := Bs.below fs32 b57 (Nat.le_refl _)
      replace fs35 := Bs.below fs35 b57 (Nat.le_refl _)
      replace fs44 := Bs.below fs44 b57 (Nat.le_refl _)
      replace fs47 := Bs.below fs47 b57 (Nat.le_refl _)
      replace fs55 := Bs.below fs55 b57 (Nat.le_refl _)
      refine ⟨_, rfl, b57, ?_⟩
      simp only [Act.put, List.setIfInBounds_toArray, List.set_cons_zero, List.set_cons_succ, Nat.zero_add]
      refine lint_pure 58 (Op.pick (Operand.tmp 52) (Operand.tmp 57) (Operand.const (Value.bool false))) 4 _ rfl rfl rfl rfl rfl (fun w0 hb0 => by unfold mkOp; go_simp; all_goals (with_reducible rfl)) ?_
      simp only [Act.put, List.setIfInBounds_toArray, List.set_cons_zero, List.set_cons_succ, Nat.zero_add]
      refine lint_pure 59 (Op.move (Operand.tmp 58)) 4 _ rfl rfl rfl rfl rfl (fun w0 hb0 => by unfold mkOp; go_simp; all_goals (with_reducible rfl)) ?_
      simp only [Act.put, List.setIfInBounds_toArray, List.set_cons_zero, List.set_cons_succ, Nat.zero_add]
      refine lint_pure 60 (Op.load 28 (Operand.tmp 7)) 28 (.agg (arrOf 4 fun i => ewF A (0 + i))) rfl rfl rfl rfl rfl (fun w0 hb0 => by exact exec_load_arr _ _ _ _ rfl arrE (World.rowIs.of_block rt7 (hb0.block _ (World.rowIs.lt rt7))) (by omega)) ?_
      simp only [Act.put, List.setIfInBounds_toArray, List.set_cons_zero, List.set_cons_succ, Nat.zero_add]
      refine stp_fn 61 35 #[Operand.tmp 60] #[28] _ (bytes_any A _) rfl rfl rfl rfl Try.func35 (by kernel_rfl) (by kernel_rfl) (by go_simp) ?_
      rintro e w61 ⟨v61, rfl, hO61, b61⟩
      replace B := B.trans (Below.mono b61 (HGS.out _ B))
      replace rt7 := World.rowIs.of_block rt7 (b61.block _ (World.rowIs.lt rt7))
      replace rt8 := World.rowIs.of_block rt8 (b61.block _ (World.rowIs.lt rt8))
      replace rt9 := World.rowIs.of_block rt9 (b61.block _ (World.rowIs.lt rt9))
      replace rt10 := World.rowIs.of_block rt10 (b61.block _ (World.rowIs.lt rt10))
      replace fs32 := Bs.below fs32 b61 (Nat.le_refl _)
      replace fs35 := Bs.below fs35 b61 (Nat.le_refl _)
      replace fs44 := Bs.below fs44 b61 (Nat.le_refl _)
      replace fs47 := Bs.below fs47 b61 (Nat.le_refl _)
      replace fs55 := Bs.below fs55 b61 (Nat.le_refl _)
      obtain ⟨as61, ns61, cs61, rfl, es61, ys61, zs61, fs61⟩ := (Owns.bs hO61).shape
      rw [litB_length] at es61
      subst es61
      refine ⟨_, rfl, b61, ?_⟩
      simp only [Act.put, List.setIfInBounds_toArray, List.set_cons_zero, List.set_cons_succ, Nat.zero_add]
      refine lint_pure 62 (Op.call { callee := Callee.builtin Builtin.len, args := #[Operand.tmp 61], argTypes := #[22] }) 3 _ rfl rfl rfl rfl rfl (fun w0 hb0 => by unfold mkOp; go_simp; all_goals (with_reducible rfl)) ?_
      simp only [Act.put, List.setIfInBounds_toArray, List.set_cons_zero, List.set_cons_succ, Nat.zero_add]
      refine lint_pure 63 (Op.binOp BinOp.eql 3 (Operand.tmp 62) (Operand.const (Value.int IntKind.i64 32)) 3) 4 _ rfl rfl rfl rfl rfl (fun w0 hb0 => by unfold mkOp; go_simp; all_goals (with_reducible rfl)) ?_
      simp only [Act.put, List.setIfInBounds_toArray, List.set_cons_zero, List.set_cons_succ, Nat.zero_add]
      refine lint_pure 64 (Op.pick (Operand.tmp 59) (Operand.tmp 63) (Operand.const (Value.bool false))) 4 _ rfl rfl rfl rfl rfl (fun w0 hb0 => by unfold mkOp; go_simp; all_goals (with_reducible rfl)) ?_
      simp only [Act.put, List.setIfInBounds_toArray, List.set_cons_zero, List.set_cons_succ, Nat.zero_add]
      refine lint_pure 65 (Op.move (Operand.tmp 64)) 4 _ rfl rfl rfl rfl rfl (fun w0 hb0 => by unfold mkOp; go_simp; all_goals (with_reducible rfl)) ?_
      simp only [Act.put, List.setIfInBounds_toArray, List.set_cons_zero, List.set_cons_succ, Nat.zero_add]
      refine stp_fn 66 12 #[] #[] _ (awake5_any _) rfl rfl rfl rfl Try.func12 (by kernel_rfl) (by kernel_rfl) (by go_simp) ?_
      rintro e w66 ⟨rfl, b66⟩
      replace B := B.trans (Below.mono b66 (HGS.out _ B))
      replace rt7 := World.rowIs.of_block rt7 (b66.block _ (World.rowIs.lt rt7))
      replace rt8 := World.rowIs.of_block rt8 (b66.block _ (World.rowIs.lt rt8))
      replace rt9 := World.rowIs.of_block rt9 (b66.block _ (World.rowIs.lt rt9))
      replace rt10 := World.rowIs.of_block rt10 (b66.block _ (World.rowIs.lt rt10))
      replace fs32 := Bs.below fs32 b66 (Nat.le_refl _)
      replace fs35 := Bs.below fs35 b66 (Nat.le_refl _)
      replace fs44 := Bs.below fs44 b66 (Nat.le_refl _)
      replace fs47 := Bs.below fs47 b66 (Nat.le_refl _)
      replace fs55 := Bs.below fs55 b66 (Nat.le_refl _)
      replace fs61 := Bs.below fs61 b66 (Nat.le_refl _)
      refine ⟨_, rfl, b66, ?_⟩
      simp only [Act.put, List.setIfInBounds_toArray, List.set_cons_zero, List.set_cons_succ, Nat.zero_add]
      refine lint_pure 67 (Op.pick (Operand.tmp 65) (Operand.tmp 66) (Operand.const (Value.bool false))) 4 _ rfl rfl rfl rfl rfl (fun w0 hb0 => by unfold mkOp; go_simp; all_goals (with_reducible rfl)) ?_
      simp only [Act.put, List.setIfInBounds_toArray, List.set_cons_zero, List.set_cons_succ, Nat.zero_add]
      refine lint_pure 6 (Op.assign (Operand.tmp 67)) 4 _ rfl rfl rfl rfl rfl (fun w0 hb0 => by unfold mkOp; go_simp; all_goals (with_reducible rfl)) ?_
      simp only [Act.put, List.setIfInBounds_toArray, List.set_cons_zero, List.set_cons_succ, Nat.zero_add]
      refine lint_end ?_
      go_wp2
      go_ret
      exact ⟨rfl, B⟩
end Go.Proofs.Ythapdohblphlgaa
