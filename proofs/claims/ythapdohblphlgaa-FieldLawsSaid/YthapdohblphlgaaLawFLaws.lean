/- FieldLaws, walked. -/
import Derived.Test.YthapdohblphlgaaEwL
namespace Go.Proofs.Ythapdohblphlgaa
open Go.RowKit Go.Deep
set_option linter.unusedSimpArgs false
set_option linter.unusedVariables false

set_option maxHeartbeats 16000000 in
set_option maxRecDepth 100000 in
theorem law_fieldLaws (w : World) (v0 : Value) (l0 : List UInt8) (h0 : Bs w v0 l0) (v1 : Value) (l1 : List UInt8) (h1 : Bs w v1 l1) (v2 : Value) (l2 : List UInt8) (h2 : Bs w v2 l2) : Calls Try.prog 5 #[v0, v1, v2] w fun e w' => e = .returned (.bool true) ∧ Below w.heap.size w w' := by
  obtain ⟨a0, n0, c0, rfl, e0, f0, g0, hB0⟩ := h0.shape
  have H0 := Lib.hid hB0
  obtain ⟨a1, n1, c1, rfl, e1, f1, g1, hB1⟩ := h1.shape
  have H1 := Lib.hid hB1
  obtain ⟨a2, n2, c2, rfl, e2, f2, g2, hB2⟩ := h2.shape
  have H2 := Lib.hid hB2
  have HOF0 := Lib.hid fun v w (h : Bs w v l0) => of_any v l0 w h
  obtain ⟨A, hA⟩ := nat_var (ofL l0)
  have HA : Hid (A < p25) := Lib.hid (by rw [hA]; exact ofL_lt l0)
  rw [← hA] at HOF0
  clear hA
  have HOF1 := Lib.hid fun v w (h : Bs w v l1) => of_any v l1 w h
  obtain ⟨C, hC⟩ := nat_var (ofL l1)
  have HC : Hid (C < p25) := Lib.hid (by rw [hC]; exact ofL_lt l1)
  rw [← hC] at HOF1
  clear hC
  have HOF2 := Lib.hid fun v w (h : Bs w v l2) => of_any v l2 w h
  obtain ⟨D, hD⟩ := nat_var (ofL l2)
  have HD : Hid (D < p25) := Lib.hid (by rw [hD]; exact ofL_lt l2)
  rw [← hD] at HOF2
  clear hD
  have B0 := Below.refl w.heap.size w
  have HGS : Hid (∀ wq : World, Below w.heap.size w wq → w.heap.size ≤ wq.heap.size) := Lib.hid fun wq h => h.size
  have hfew := few5_any _ _ l0 l1 w hB0 hB1
  by_cases d0 : ¬ (l0.length ≤ 100 ∧ l1.length ≤ 100)
  · rw [decide_eq_false d0] at hfew
    have HFEW := Lib.hid hfew
    clear hfew d0
    go_enter Try.func5, Try.ntmps5
    go_wp2_with (first
      | (go_at_call 11; refine HFEW.out.mono ?_; rintro e w1 ⟨rfl, rfl⟩)
      | (go_at_call 12; refine (awake5_any _).mono ?_; rintro e w9 ⟨rfl, hb9⟩))
    go_ret
    exact ⟨rfl, hb9⟩
  replace d0 := Classical.not_not.1 d0
  rw [decide_eq_true d0] at hfew
  have HFEW := Lib.hid hfew
  clear hfew d0 hB0 hB1 hB2 e0 e1 e2 h0 h1 h2
  go_enter Try.func5, Try.ntmps5
  by_cases d2 : (100 : Int) < (n2 : Int)
  · go_wp2_with (first
      | (go_at_call 11; refine HFEW.out.mono ?_; rintro e w1 ⟨rfl, rfl⟩)
      | (go_at_call 12; refine (awake5_any _).mono ?_; rintro e w9 ⟨rfl, hb9⟩))
    go_ret
    exact ⟨rfl, hb9⟩
  go_wp2_with (first
    | (go_at_call 11; refine HFEW.out.mono ?_; rintro e w1 ⟨rfl, rfl⟩; clear HFEW)
    | (go_at_call 13; have hgo := B0; clear hgo; refine (HOF0.out _ _ (H0.out.below B0 (Nat.le_refl _))).mono ?_; rintro e w1 ⟨rfl, hb1⟩
       have B1 := B0.trans (hb1.mono (HGS.out _ B0))
       clear B0 hb1)
    | (go_at_call 13; have hgo := B1; clear hgo; refine (HOF1.out _ _ (H1.out.below B1 (Nat.le_refl _))).mono ?_; rintro e w2 ⟨rfl, hb2⟩
       have B2 := B1.trans (hb2.mono (HGS.out _ B1))
       clear B1 hb2)
    | (go_at_call 13; have hgo := B2; clear hgo; refine (HOF2.out _ _ (H2.out.below B2 (Nat.le_refl _))).mono ?_; rintro e w3 ⟨rfl, hb3⟩
       have B3 := B2.trans (hb3.mono (HGS.out _ B2))
       clear B2 hb3
       have g4 := HGS.out _ B3
       try simp only [World.size_alloc] at g4
       have B4 := B3.alloc (HGS.out _ B3) (.cells (arrOf 4 (u64f fun _ => 0)) 28)
       have r4_t7 := rowIs_arr w3 4 (u64f fun _ => 0) 28
       try simp only [World.size_alloc] at r4_t7
       clear B3
       have lt5_t7 := World.rowIs.lt r4_t7
       try simp only [World.size_alloc] at lt5_t7
       have g5 := HGS.out _ B4
       try simp only [World.size_alloc] at g5
       have r5_t7 := World.rowIs.alloc r4_t7 (.cells (arrOf 4 (u64f fun _ => 0)) 28)
       have B5 := B4.alloc (HGS.out _ B4) (.cells (arrOf 4 (u64f fun _ => 0)) 28)
       have r5_t8 := rowIs_arr (w3.alloc (.cells (arrOf 4 (u64f fun _ => 0)) 28)) 4 (u64f fun _ => 0) 28
       try simp only [World.size_alloc] at r5_t8
       clear r4_t7 B4
       have lt6_t7 := World.rowIs.lt r5_t7
       try simp only [World.size_alloc] at lt6_t7
       have lt6_t8 := World.rowIs.lt r5_t8
       try simp only [World.size_alloc] at lt6_t8
       have g6 := HGS.out _ B5
       try simp only [World.size_alloc] at g6
       have r6_t7 := World.rowIs.alloc r5_t7 (.cells (arrOf 4 (u64f fun _ => 0)) 28)
       have r6_t8 := World.rowIs.alloc r5_t8 (.cells (arrOf 4 (u64f fun _ => 0)) 28)
       have B6 := B5.alloc (HGS.out _ B5) (.cells (arrOf 4 (u64f fun _ => 0)) 28)
       have r6_t9 := rowIs_arr ((w3.alloc (.cells (arrOf 4 (u64f fun _ => 0)) 28)).alloc (.cells (arrOf 4 (u64f fun _ => 0)) 28)) 4 (u64f fun _ => 0) 28
       try simp only [World.size_alloc] at r6_t9
       clear r5_t7 r5_t8 B5)
    | (refine wpList_alloc_arr rfl 28 rfl (arrOf 4 (u64f fun _ => 0)) zeroE ?_; try simp only [World.size_alloc])
    | (refine wpList_store_arr rfl 28 (.tmp 7) (.tmp 23) rfl 4 arrE r6_t7 rfl rfl (by omega) (fun _ _ => rfl) ?_; intro x7 hr7 hg7 hs7
       have r7_t7 : x7.rowIs (w3.heap.size) 28 4 (ewF A) := hr7.congr fun i hi => by unfold putN; rw [if_pos (by omega), Nat.sub_zero]
       have r7_t8 := gb_rowIs r6_t8 hg7 (Ne.symm (Nat.ne_of_lt lt5_t7))
       have r7_t9 := gb_rowIs r6_t9 hg7 (Ne.symm (Nat.ne_of_lt lt6_t7))
       have B7 := B6.grown hg7 (HGS.out _ B6) (by intro k hk; cases hk; exact g4)
       clear r6_t7 r6_t8 r6_t9 B6 hr7 hg7 hs7)
    | (refine wpList_store_arr rfl 28 (.tmp 8) (.tmp 25) rfl 4 arrE r7_t8 rfl rfl (by omega) (fun _ _ => rfl) ?_; intro x8 hr8 hg8 hs8
       have r8_t8 : x8.rowIs (w3.heap.size + 1) 28 4 (ewF C) := hr8.congr fun i hi => by unfold putN; rw [if_pos (by omega), Nat.sub_zero]
       have r8_t7 := gb_rowIs r7_t7 hg8 (Nat.ne_of_lt lt5_t7)
       have r8_t9 := gb_rowIs r7_t9 hg8 (Ne.symm (Nat.ne_of_lt lt6_t8))
       have B8 := B7.grown hg8 (HGS.out _ B7) (by intro k hk; cases hk; exact g5)
       clear r7_t8 r7_t7 r7_t9 B7 hr8 hg8 hs8)
    | (refine wpList_store_arr rfl 28 (.tmp 9) (.tmp 27) rfl 4 arrE r8_t9 rfl rfl (by omega) (fun _ _ => rfl) ?_; intro x9 hr9 hg9 hs9
       have r9_t9 : x9.rowIs (w3.heap.size + 1 + 1) 28 4 (ewF D) := hr9.congr fun i hi => by unfold putN; rw [if_pos (by omega), Nat.sub_zero]
       have r9_t7 := gb_rowIs r8_t7 hg9 (Nat.ne_of_lt lt6_t7)
       have r9_t8 := gb_rowIs r8_t8 hg9 (Nat.ne_of_lt lt6_t8)
       have B9 := B8.grown hg9 (HGS.out _ B8) (by intro k hk; cases hk; exact g6)
       clear r8_t9 r8_t7 r8_t8 B8 hr9 hg9 hs9)
    | (go_at_call 18; have hgo := B9; clear hgo; refine (small_any 1 _ (by decide)).mono ?_; rintro e w10 ⟨rfl, hb10⟩
       have r10_t7 := World.rowIs.of_block r9_t7 (hb10.block _ (World.rowIs.lt r9_t7))
       have r10_t8 := World.rowIs.of_block r9_t8 (hb10.block _ (World.rowIs.lt r9_t8))
       have r10_t9 := World.rowIs.of_block r9_t9 (hb10.block _ (World.rowIs.lt r9_t9))
       have B10 := B9.trans (hb10.mono (HGS.out _ B9))
       clear r9_t7 r9_t8 r9_t9 B9 hb10
       have lt11_t7 := World.rowIs.lt r10_t7
       try simp only [World.size_alloc] at lt11_t7
       have lt11_t8 := World.rowIs.lt r10_t8
       try simp only [World.size_alloc] at lt11_t8
       have lt11_t9 := World.rowIs.lt r10_t9
       try simp only [World.size_alloc] at lt11_t9
       have g11 := HGS.out _ B10
       try simp only [World.size_alloc] at g11
       have r11_t7 := World.rowIs.alloc r10_t7 (.cells (arrOf 4 (u64f fun _ => 0)) 28)
       have r11_t8 := World.rowIs.alloc r10_t8 (.cells (arrOf 4 (u64f fun _ => 0)) 28)
       have r11_t9 := World.rowIs.alloc r10_t9 (.cells (arrOf 4 (u64f fun _ => 0)) 28)
       have B11 := B10.alloc (HGS.out _ B10) (.cells (arrOf 4 (u64f fun _ => 0)) 28)
       have r11_t10 := rowIs_arr w10 4 (u64f fun _ => 0) 28
       try simp only [World.size_alloc] at r11_t10
       clear r10_t7 r10_t8 r10_t9 B10)
    | (refine wpList_store_arr rfl 28 (.tmp 10) (.tmp 28) rfl 4 arrE r11_t10 rfl rfl (by omega) (fun _ _ => rfl) ?_; intro x12 hr12 hg12 hs12
       have r12_t10 : x12.rowIs (w10.heap.size) 28 4 (ewF 1) := hr12.congr fun i hi => by unfold putN; rw [if_pos (by omega), Nat.sub_zero]
       have r12_t7 := gb_rowIs r11_t7 hg12 (Nat.ne_of_lt lt11_t7)
       have r12_t8 := gb_rowIs r11_t8 hg12 (Nat.ne_of_lt lt11_t8)
       have r12_t9 := gb_rowIs r11_t9 hg12 (Nat.ne_of_lt lt11_t9)
       have B12 := B11.grown hg12 (HGS.out _ B11) (by intro k hk; cases hk; exact g11)
       clear r11_t10 r11_t7 r11_t8 r11_t9 B11 hr12 hg12 hs12))
  have B := B12.drew
  have rt7 := World.rowIs.drew r12_t7
  have rt8 := World.rowIs.drew r12_t8
  have rt9 := World.rowIs.drew r12_t9
  have rt10 := World.rowIs.drew r12_t10
  clear B12 r12_t7 r12_t8 r12_t9 r12_t10
  by_cases hz : A = 0
  · refine wp_region_lint (.rd 0 (.wr 1 (.wr 2 (.rd 3 (.rd 4 (.rd 5 (.rd 6 (.rd 9 (.wr 7 (.wr 8 (.wr 10 (.rd 11 (.rd 12 (.rd 13 (.rd 14 (.wr 15 (.wr 16 (.rd 17 (.rd 18 (.rd 20 (.wr 19 (.wr 21 (.rd 22 (.rd 23 (.rd 24 .done))))))))))))))))))))))))) (by kernel_rfl) (by kernel_rfl) (by decide) (by kernel_rfl) (fun d _ _ _ _ h => by cases d <;> exact h) ?_
    refine lint_pure 29 (Op.load 28 (Operand.tmp 7)) 28 (.agg (arrOf 4 fun i => ewF A (0 + i))) rfl rfl rfl rfl rfl (fun w0 hb0 => by exact exec_load_arr _ _ _ _ rfl arrE (World.rowIs.of_block rt7 (hb0.block _ (World.rowIs.lt rt7))) (by omega)) ?_
    simp only [Act.put, List.setIfInBounds_toArray, List.set_cons_zero, List.set_cons_succ, Nat.zero_add]
    refine stp_fn 30 18 #[Operand.const (Value.int IntKind.u64 0)] #[23] _ (small_any 0 _ (by decide)) rfl rfl rfl rfl Try.func18 (by kernel_rfl) (by kernel_rfl) (by go_simp) ?_
    rintro e w30 ⟨rfl, b30⟩
    replace B := B.trans (Below.mono b30 (HGS.out _ B))
    replace rt7 := World.rowIs.of_block rt7 (b30.block _ (World.rowIs.lt rt7))
    replace rt8 := World.rowIs.of_block rt8 (b30.block _ (World.rowIs.lt rt8))
    replace rt9 := World.rowIs.of_block rt9 (b30.block _ (World.rowIs.lt rt9))
    replace rt10 := World.rowIs.of_block rt10 (b30.block _ (World.rowIs.lt rt10))
    refine ⟨_, rfl, b30, ?_⟩
    simp only [Act.put, List.setIfInBounds_toArray, List.set_cons_zero, List.set_cons_succ, Nat.zero_add]
    refine stp_fn 31 28 #[Operand.tmp 29, Operand.tmp 30] #[28, 28] _ (same5_yes A 0 _ HA.out (by decide +kernel) (hz)) rfl rfl rfl rfl Try.func28 (by kernel_rfl) (by kernel_rfl) (by go_simp) ?_
    rintro e w31 ⟨rfl, b31⟩
    replace B := B.trans (Below.mono b31 (HGS.out _ B))
    replace rt7 := World.rowIs.of_block rt7 (b31.block _ (World.rowIs.lt rt7))
    replace rt8 := World.rowIs.of_block rt8 (b31.block _ (World.rowIs.lt rt8))
    replace rt9 := World.rowIs.of_block rt9 (b31.block _ (World.rowIs.lt rt9))
    replace rt10 := World.rowIs.of_block rt10 (b31.block _ (World.rowIs.lt rt10))
    refine ⟨_, rfl, b31, ?_⟩
    simp only [Act.put, List.setIfInBounds_toArray, List.set_cons_zero, List.set_cons_succ, Nat.zero_add]
    refine lint_pure 32 (Op.unOp UnOp.not 4 (Operand.tmp 31)) 4 _ rfl rfl rfl rfl rfl (fun w0 hb0 => by unfold mkOp; go_simp; all_goals (with_reducible rfl)) ?_
    simp only [Act.put, List.setIfInBounds_toArray, List.set_cons_zero, List.set_cons_succ, Nat.zero_add]
    refine lint_pure 33 (Op.move (Operand.tmp 32)) 4 _ rfl rfl rfl rfl rfl (fun w0 hb0 => by unfold mkOp; go_simp; all_goals (with_reducible rfl)) ?_
    simp only [Act.put, List.setIfInBounds_toArray, List.set_cons_zero, List.set_cons_succ, Nat.zero_add]
    refine lint_none 34 rfl rfl rfl ?_
    simp only [Act.put, List.setIfInBounds_toArray, List.set_cons_zero, List.set_cons_succ, Nat.zero_add]
    refine lint_none 35 rfl rfl rfl ?_
    simp only [Act.put, List.setIfInBounds_toArray, List.set_cons_zero, List.set_cons_succ, Nat.zero_add]
    refine lint_none 38 rfl rfl rfl ?_
    simp only [Act.put, List.setIfInBounds_toArray, List.set_cons_zero, List.set_cons_succ, Nat.zero_add]
    refine stp_none 36 rfl rfl rfl ?_
    simp only [Act.put, List.setIfInBounds_toArray, List.set_cons_zero, List.set_cons_succ, Nat.zero_add]
    refine stp_none 37 rfl rfl rfl ?_
    simp only [Act.put, List.setIfInBounds_toArray, List.set_cons_zero, List.set_cons_succ, Nat.zero_add]
    refine stp_none 39 rfl rfl rfl ?_
    simp only [Act.put, List.setIfInBounds_toArray, List.set_cons_zero, List.set_cons_succ, Nat.zero_add]
    refine lint_none 40 rfl rfl rfl ?_
    simp only [Act.put, List.setIfInBounds_toArray, List.set_cons_zero, List.set_cons_succ, Nat.zero_add]
    refine lint_pure 41 (Op.pick (Operand.tmp 33) (Operand.tmp 40) (Operand.const (Value.bool false))) 4 _ rfl rfl rfl rfl rfl (fun w0 hb0 => by unfold mkOp; go_simp; all_goals (with_reducible rfl)) ?_
    simp only [Act.put, List.setIfInBounds_toArray, List.set_cons_zero, List.set_cons_succ, Nat.zero_add]
    refine lint_pure 42 (Op.move (Operand.tmp 41)) 4 _ rfl rfl rfl rfl rfl (fun w0 hb0 => by unfold mkOp; go_simp; all_goals (with_reducible rfl)) ?_
    simp only [Act.put, List.setIfInBounds_toArray, List.set_cons_zero, List.set_cons_succ, Nat.zero_add]
    refine lint_pure 43 (Op.load 28 (Operand.tmp 7)) 28 (.agg (arrOf 4 fun i => ewF A (0 + i))) rfl rfl rfl rfl rfl (fun w0 hb0 => by exact exec_load_arr _ _ _ _ rfl arrE (World.rowIs.of_block rt7 (hb0.block _ (World.rowIs.lt rt7))) (by omega)) ?_
    simp only [Act.put, List.setIfInBounds_toArray, List.set_cons_zero, List.set_cons_succ, Nat.zero_add]
    refine stp_fn 44 18 #[Operand.const (Value.int IntKind.u64 0)] #[23] _ (small_any 0 _ (by decide)) rfl rfl rfl rfl Try.func18 (by kernel_rfl) (by kernel_rfl) (by go_simp) ?_
    rintro e w44 ⟨rfl, b44⟩
    replace B := B.trans (Below.mono b44 (HGS.out _ B))
    replace rt7 := World.rowIs.of_block rt7 (b44.block _ (World.rowIs.lt rt7))
    replace rt8 := World.rowIs.of_block rt8 (b44.block _ (World.rowIs.lt rt8))
    replace rt9 := World.rowIs.of_block rt9 (b44.block _ (World.rowIs.lt rt9))
    replace rt10 := World.rowIs.of_block rt10 (b44.block _ (World.rowIs.lt rt10))
    refine ⟨_, rfl, b44, ?_⟩
    simp only [Act.put, List.setIfInBounds_toArray, List.set_cons_zero, List.set_cons_succ, Nat.zero_add]
    refine stp_fn 45 28 #[Operand.tmp 43, Operand.tmp 44] #[28, 28] _ (same5_yes A 0 _ HA.out (by decide +kernel) (hz)) rfl rfl rfl rfl Try.func28 (by kernel_rfl) (by kernel_rfl) (by go_simp) ?_
    rintro e w45 ⟨rfl, b45⟩
    replace B := B.trans (Below.mono b45 (HGS.out _ B))
    replace rt7 := World.rowIs.of_block rt7 (b45.block _ (World.rowIs.lt rt7))
    replace rt8 := World.rowIs.of_block rt8 (b45.block _ (World.rowIs.lt rt8))
    replace rt9 := World.rowIs.of_block rt9 (b45.block _ (World.rowIs.lt rt9))
    replace rt10 := World.rowIs.of_block rt10 (b45.block _ (World.rowIs.lt rt10))
    refine ⟨_, rfl, b45, ?_⟩
    simp only [Act.put, List.setIfInBounds_toArray, List.set_cons_zero, List.set_cons_succ, Nat.zero_add]
    refine lint_pure 46 (Op.move (Operand.tmp 45)) 4 _ rfl rfl rfl rfl rfl (fun w0 hb0 => by unfold mkOp; go_simp; all_goals (with_reducible rfl)) ?_
    simp only [Act.put, List.setIfInBounds_toArray, List.set_cons_zero, List.set_cons_succ, Nat.zero_add]
    refine lint_pure 47 (Op.load 28 (Operand.tmp 7)) 28 (.agg (arrOf 4 fun i => ewF A (0 + i))) rfl rfl rfl rfl rfl (fun w0 hb0 => by exact exec_load_arr _ _ _ _ rfl arrE (World.rowIs.of_block rt7 (hb0.block _ (World.rowIs.lt rt7))) (by omega)) ?_
    simp only [Act.put, List.setIfInBounds_toArray, List.set_cons_zero, List.set_cons_succ, Nat.zero_add]
    refine lint_pure 49 (Op.load 28 (Operand.tmp 7)) 28 (.agg (arrOf 4 fun i => ewF A (0 + i))) rfl rfl rfl rfl rfl (fun w0 hb0 => by exact exec_load_arr _ _ _ _ rfl arrE (World.rowIs.of_block rt7 (hb0.block _ (World.rowIs.lt rt7))) (by omega)) ?_
    simp only [Act.put, List.setIfInBounds_toArray, List.set_cons_zero, List.set_cons_succ, Nat.zero_add]
    refine stp_fn 48 33 #[Operand.tmp 47] #[28] _ (inv_any A _ HA.out) rfl rfl rfl rfl Try.func33 (by kernel_rfl) (by kernel_rfl) (by go_simp) ?_
    rintro e w48 ⟨rfl, b48⟩
    replace B := B.trans (Below.mono b48 (HGS.out _ B))
    replace rt7 := World.rowIs.of_block rt7 (b48.block _ (World.rowIs.lt rt7))
    replace rt8 := World.rowIs.of_block rt8 (b48.block _ (World.rowIs.lt rt8))
    replace rt9 := World.rowIs.of_block rt9 (b48.block _ (World.rowIs.lt rt9))
    replace rt10 := World.rowIs.of_block rt10 (b48.block _ (World.rowIs.lt rt10))
    refine ⟨_, rfl, b48, ?_⟩
    simp only [Act.put, List.setIfInBounds_toArray, List.set_cons_zero, List.set_cons_succ, Nat.zero_add]
    refine stp_fn 50 28 #[Operand.tmp 48, Operand.tmp 49] #[28, 28] _ (same5_yes (invP A) A _ (invP_lt _) HA.out (by rw [hz, invP_zero])) rfl rfl rfl rfl Try.func28 (by kernel_rfl) (by kernel_rfl) (by go_simp) ?_
    rintro e w50 ⟨rfl, b50⟩
    replace B := B.trans (Below.mono b50 (HGS.out _ B))
    replace rt7 := World.rowIs.of_block rt7 (b50.block _ (World.rowIs.lt rt7))
    replace rt8 := World.rowIs.of_block rt8 (b50.block _ (World.rowIs.lt rt8))
    replace rt9 := World.rowIs.of_block rt9 (b50.block _ (World.rowIs.lt rt9))
    replace rt10 := World.rowIs.of_block rt10 (b50.block _ (World.rowIs.lt rt10))
    refine ⟨_, rfl, b50, ?_⟩
    simp only [Act.put, List.setIfInBounds_toArray, List.set_cons_zero, List.set_cons_succ, Nat.zero_add]
    refine lint_pure 51 (Op.unOp UnOp.not 4 (Operand.tmp 50)) 4 _ rfl rfl rfl rfl rfl (fun w0 hb0 => by unfold mkOp; go_simp; all_goals (with_reducible rfl)) ?_
    simp only [Act.put, List.setIfInBounds_toArray, List.set_cons_zero, List.set_cons_succ, Nat.zero_add]
    refine lint_pure 52 (Op.pick (Operand.tmp 46) (Operand.tmp 51) (Operand.const (Value.bool false))) 4 _ rfl rfl rfl rfl rfl (fun w0 hb0 => by unfold mkOp; go_simp; all_goals (with_reducible rfl)) ?_
    simp only [Act.put, List.setIfInBounds_toArray, List.set_cons_zero, List.set_cons_succ, Nat.zero_add]
    refine lint_pure 53 (Op.pick (Operand.tmp 42) (Operand.const (Value.bool true)) (Operand.tmp 52)) 4 _ rfl rfl rfl rfl rfl (fun w0 hb0 => by unfold mkOp; go_simp; all_goals (with_reducible rfl)) ?_
    simp only [Act.put, List.setIfInBounds_toArray, List.set_cons_zero, List.set_cons_succ, Nat.zero_add]
    refine lint_end ?_
    go_wp2
    replace B := B.drew
    replace rt7 := World.rowIs.drew rt7
    replace rt8 := World.rowIs.drew rt8
    replace rt9 := World.rowIs.drew rt9
    replace rt10 := World.rowIs.drew rt10
    refine wp_region_lint (.rd 0 (.rd 1 (.rd 2 (.rd 4 (.rd 5 (.rd 6 (.wr 3 (.wr 7 (.wr 8 (.rd 9 (.rd 10 (.rd 11 (.rd 12 (.rd 13 (.rd 16 (.rd 17 (.rd 18 (.rd 20 (.rd 21 (.rd 22 (.wr 14 (.wr 15 (.wr 19 (.wr 23 (.wr 24 (.wr 25 (.rd 26 (.rd 27 (.rd 28 (.rd 29 (.rd 30 (.rd 31 (.rd 33 (.rd 35 (.rd 36 (.rd 37 (.rd 38 (.rd 39 (.wr 32 (.wr 34 (.wr 40 (.wr 41 (.wr 42 (.rd 43 (.rd 44 (.rd 45 (.rd 46 (.rd 48 (.rd 50 (.wr 47 (.wr 49 (.wr 51 (.rd 52 (.rd 53 (.rd 54 (.rd 55 (.wr 56 (.wr 57 (.wr 58 (.wr 59 (.rd 60 (.rd 61 (.rd 62 (.rd 63 (.rd 64 (.rd 66 (.wr 65 (.wr 67 (.rd 68 (.rd 69 (.wr 70 (.rd 71 (.rd 72 .done))))))))))))))))))))))))))))))))))))))))))))))))))))))))))))))))))))))))) (by kernel_rfl) (by kernel_rfl) (by decide) (by kernel_rfl) (fun d _ _ _ _ h => by cases d <;> exact h) ?_
    refine lint_pure 54 (Op.move (Operand.tmp 11)) 51 _ rfl rfl rfl rfl rfl (fun w0 hb0 => by unfold mkOp; go_simp; all_goals (with_reducible rfl)) ?_
    simp only [Act.put, List.setIfInBounds_toArray, List.set_cons_zero, List.set_cons_succ, Nat.zero_add]
    refine lint_pure 55 (Op.load 28 (Operand.tmp 7)) 28 (.agg (arrOf 4 fun i => ewF A (0 + i))) rfl rfl rfl rfl rfl (fun w0 hb0 => by exact exec_load_arr _ _ _ _ rfl arrE (World.rowIs.of_block rt7 (hb0.block _ (World.rowIs.lt rt7))) (by omega)) ?_
    simp only [Act.put, List.setIfInBounds_toArray, List.set_cons_zero, List.set_cons_succ, Nat.zero_add]
    refine lint_pure 56 (Op.load 28 (Operand.tmp 8)) 28 (.agg (arrOf 4 fun i => ewF C (0 + i))) rfl rfl rfl rfl rfl (fun w0 hb0 => by exact exec_load_arr _ _ _ _ rfl arrE (World.rowIs.of_block rt8 (hb0.block _ (World.rowIs.lt rt8))) (by omega)) ?_
    simp only [Act.put, List.setIfInBounds_toArray, List.set_cons_zero, List.set_cons_succ, Nat.zero_add]
    refine lint_pure 58 (Op.move (Operand.tmp 11)) 51 _ rfl rfl rfl rfl rfl (fun w0 hb0 => by unfold mkOp; go_simp; all_goals (with_reducible rfl)) ?_
    simp only [Act.put, List.setIfInBounds_toArray, List.set_cons_zero, List.set_cons_succ, Nat.zero_add]
    refine lint_pure 59 (Op.load 28 (Operand.tmp 8)) 28 (.agg (arrOf 4 fun i => ewF C (0 + i))) rfl rfl rfl rfl rfl (fun w0 hb0 => by exact exec_load_arr _ _ _ _ rfl arrE (World.rowIs.of_block rt8 (hb0.block _ (World.rowIs.lt rt8))) (by omega)) ?_
    simp only [Act.put, List.setIfInBounds_toArray, List.set_cons_zero, List.set_cons_succ, Nat.zero_add]
    refine lint_pure 60 (Op.load 28 (Operand.tmp 7)) 28 (.agg (arrOf 4 fun i => ewF A (0 + i))) rfl rfl rfl rfl rfl (fun w0 hb0 => by exact exec_load_arr _ _ _ _ rfl arrE (World.rowIs.of_block rt7 (hb0.block _ (World.rowIs.lt rt7))) (by omega)) ?_
    simp only [Act.put, List.setIfInBounds_toArray, List.set_cons_zero, List.set_cons_succ, Nat.zero_add]
    refine stp_val 57 (Operand.tmp 54) 24 #[Operand.tmp 55, Operand.tmp 56] #[28, 28] _ (mul_any A C _ HA.out HC.out) rfl rfl rfl rfl rfl Try.func24 (by kernel_rfl) (by kernel_rfl) (by go_simp) ?_
    rintro e w57 ⟨rfl, b57⟩
    replace B := B.trans (Below.mono b57 (HGS.out _ B))
    replace rt7 := World.rowIs.of_block rt7 (b57.block _ (World.rowIs.lt rt7))
    replace rt8 := World.rowIs.of_block rt8 (b57.block _ (World.rowIs.lt rt8))
    replace rt9 := World.rowIs.of_block rt9 (b57.block _ (World.rowIs.lt rt9))
    replace rt10 := World.rowIs.of_block rt10 (b57.block _ (World.rowIs.lt rt10))
    refine ⟨_, rfl, b57, ?_⟩
    simp only [Act.put, List.setIfInBounds_toArray, List.set_cons_zero, List.set_cons_succ, Nat.zero_add]
    refine stp_val 61 (Operand.tmp 58) 24 #[Operand.tmp 59, Operand.tmp 60] #[28, 28] _ (mul_any C A _ HC.out HA.out) rfl rfl rfl rfl rfl Try.func24 (by kernel_rfl) (by kernel_rfl) (by go_simp) ?_
    rintro e w61 ⟨rfl, b61⟩
    replace B := B.trans (Below.mono b61 (HGS.out _ B))
    replace rt7 := World.rowIs.of_block rt7 (b61.block _ (World.rowIs.lt rt7))
    replace rt8 := World.rowIs.of_block rt8 (b61.block _ (World.rowIs.lt rt8))
    replace rt9 := World.rowIs.of_block rt9 (b61.block _ (World.rowIs.lt rt9))
    replace rt10 := World.rowIs.of_block rt10 (b61.block _ (World.rowIs.lt rt10))
    refine ⟨_, rfl, b61, ?_⟩
    simp only [Act.put, List.setIfInBounds_toArray, List.set_cons_zero, List.set_cons_succ, Nat.zero_add]
    refine stp_fn 62 28 #[Operand.tmp 57, Operand.tmp 61] #[28, 28] _ (same5_yes (mulP A C) (mulP C A) _ (mulP_lt _ _) (mulP_lt _ _) (mulP_comm A C)) rfl rfl rfl rfl Try.func28 (by kernel_rfl) (by kernel_rfl) (by go_simp) ?_
    rintro e w62 ⟨rfl, b62⟩
    replace B := B.trans (Below.mono b62 (HGS.out _ B))
    replace rt7 := World.rowIs.of_block rt7 (b62.block _ (World.rowIs.lt rt7))
    replace rt8 := World.rowIs.of_block rt8 (b62.block _ (World.rowIs.lt rt8))
    replace rt9 := World.rowIs.of_block rt9 (b62.block _ (World.rowIs.lt rt9))
    replace rt10 := World.rowIs.of_block rt10 (b62.block _ (World.rowIs.lt rt10))
    refine ⟨_, rfl, b62, ?_⟩
    simp only [Act.put, List.setIfInBounds_toArray, List.set_cons_zero, List.set_cons_succ, Nat.zero_add]
    refine lint_pure 63 (Op.move (Operand.tmp 62)) 4 _ rfl rfl rfl rfl rfl (fun w0 hb0 => by unfold mkOp; go_simp; all_goals (with_reducible rfl)) ?_
    simp only [Act.put, List.setIfInBounds_toArray, List.set_cons_zero, List.set_cons_succ, Nat.zero_add]
    refine lint_pure 64 (Op.move (Operand.tmp 11)) 51 _ rfl rfl rfl rfl rfl (fun w0 hb0 => by unfold mkOp; go_simp; all_goals (with_reducible rfl)) ?_
    simp only [Act.put, List.setIfInBounds_toArray, List.set_cons_zero, List.set_cons_succ, Nat.zero_add]
    refine lint_pure 65 (Op.load 28 (Operand.tmp 7)) 28 (.agg (arrOf 4 fun i => ewF A (0 + i))) rfl rfl rfl rfl rfl (fun w0 hb0 => by exact exec_load_arr _ _ _ _ rfl arrE (World.rowIs.of_block rt7 (hb0.block _ (World.rowIs.lt rt7))) (by omega)) ?_
    simp only [Act.put, List.setIfInBounds_toArray, List.set_cons_zero, List.set_cons_succ, Nat.zero_add]
    refine lint_pure 66 (Op.load 28 (Operand.tmp 8)) 28 (.agg (arrOf 4 fun i => ewF C (0 + i))) rfl rfl rfl rfl rfl (fun w0 hb0 => by exact exec_load_arr _ _ _ _ rfl arrE (World.rowIs.of_block rt8 (hb0.block _ (World.rowIs.lt rt8))) (by omega)) ?_
    simp only [Act.put, List.setIfInBounds_toArray, List.set_cons_zero, List.set_cons_succ, Nat.zero_add]
    refine lint_pure 67 (Op.load 28 (Operand.tmp 9)) 28 (.agg (arrOf 4 fun i => ewF D (0 + i))) rfl rfl rfl rfl rfl (fun w0 hb0 => by exact exec_load_arr _ _ _ _ rfl arrE (World.rowIs.of_block rt9 (hb0.block _ (World.rowIs.lt rt9))) (by omega)) ?_
    simp only [Act.put, List.setIfInBounds_toArray, List.set_cons_zero, List.set_cons_succ, Nat.zero_add]
    refine lint_pure 70 (Op.move (Operand.tmp 11)) 51 _ rfl rfl rfl rfl rfl (fun w0 hb0 => by unfold mkOp; go_simp; all_goals (with_reducible rfl)) ?_
    simp only [Act.put, List.setIfInBounds_toArray, List.set_cons_zero, List.set_cons_succ, Nat.zero_add]
    refine lint_pure 71 (Op.load 28 (Operand.tmp 7)) 28 (.agg (arrOf 4 fun i => ewF A (0 + i))) rfl rfl rfl rfl rfl (fun w0 hb0 => by exact exec_load_arr _ _ _ _ rfl arrE (World.rowIs.of_block rt7 (hb0.block _ (World.rowIs.lt rt7))) (by omega)) ?_
    simp only [Act.put, List.setIfInBounds_toArray, List.set_cons_zero, List.set_cons_succ, Nat.zero_add]
    refine lint_pure 72 (Op.load 28 (Operand.tmp 8)) 28 (.agg (arrOf 4 fun i => ewF C (0 + i))) rfl rfl rfl rfl rfl (fun w0 hb0 => by exact exec_load_arr _ _ _ _ rfl arrE (World.rowIs.of_block rt8 (hb0.block _ (World.rowIs.lt rt8))) (by omega)) ?_
    simp only [Act.put, List.setIfInBounds_toArray, List.set_cons_zero, List.set_cons_succ, Nat.zero_add]
    refine lint_pure 74 (Op.move (Operand.tmp 11)) 51 _ rfl rfl rfl rfl rfl (fun w0 hb0 => by unfold mkOp; go_simp; all_goals (with_reducible rfl)) ?_
    simp only [Act.put, List.setIfInBounds_toArray, List.set_cons_zero, List.set_cons_succ, Nat.zero_add]
    refine lint_pure 75 (Op.load 28 (Operand.tmp 7)) 28 (.agg (arrOf 4 fun i => ewF A (0 + i))) rfl rfl rfl rfl rfl (fun w0 hb0 => by exact exec_load_arr _ _ _ _ rfl arrE (World.rowIs.of_block rt7 (hb0.block _ (World.rowIs.lt rt7))) (by omega)) ?_
    simp only [Act.put, List.setIfInBounds_toArray, List.set_cons_zero, List.set_cons_succ, Nat.zero_add]
    refine lint_pure 76 (Op.load 28 (Operand.tmp 9)) 28 (.agg (arrOf 4 fun i => ewF D (0 + i))) rfl rfl rfl rfl rfl (fun w0 hb0 => by exact exec_load_arr _ _ _ _ rfl arrE (World.rowIs.of_block rt9 (hb0.block _ (World.rowIs.lt rt9))) (by omega)) ?_
    simp only [Act.put, List.setIfInBounds_toArray, List.set_cons_zero, List.set_cons_succ, Nat.zero_add]
    refine stp_fn 68 20 #[Operand.tmp 66, Operand.tmp 67] #[28, 28] _ (add_any C D _ HC.out HD.out) rfl rfl rfl rfl Try.func20 (by kernel_rfl) (by kernel_rfl) (by go_simp) ?_
    rintro e w68 ⟨rfl, b68⟩
    replace B := B.trans (Below.mono b68 (HGS.out _ B))
    replace rt7 := World.rowIs.of_block rt7 (b68.block _ (World.rowIs.lt rt7))
    replace rt8 := World.rowIs.of_block rt8 (b68.block _ (World.rowIs.lt rt8))
    replace rt9 := World.rowIs.of_block rt9 (b68.block _ (World.rowIs.lt rt9))
    replace rt10 := World.rowIs.of_block rt10 (b68.block _ (World.rowIs.lt rt10))
    refine ⟨_, rfl, b68, ?_⟩
    simp only [Act.put, List.setIfInBounds_toArray, List.set_cons_zero, List.set_cons_succ, Nat.zero_add]
    refine stp_val 69 (Operand.tmp 64) 24 #[Operand.tmp 65, Operand.tmp 68] #[28, 28] _ (mul_any A (addP C D) _ HA.out (addP_lt _ _)) rfl rfl rfl rfl rfl Try.func24 (by kernel_rfl) (by kernel_rfl) (by go_simp) ?_
    rintro e w69 ⟨rfl, b69⟩
    replace B := B.trans (Below.mono b69 (HGS.out _ B))
    replace rt7 := World.rowIs.of_block rt7 (b69.block _ (World.rowIs.lt rt7))
    replace rt8 := World.rowIs.of_block rt8 (b69.block _ (World.rowIs.lt rt8))
    replace rt9 := World.rowIs.of_block rt9 (b69.block _ (World.rowIs.lt rt9))
    replace rt10 := World.rowIs.of_block rt10 (b69.block _ (World.rowIs.lt rt10))
    refine ⟨_, rfl, b69, ?_⟩
    simp only [Act.put, List.setIfInBounds_toArray, List.set_cons_zero, List.set_cons_succ, Nat.zero_add]
    refine stp_val 73 (Operand.tmp 70) 24 #[Operand.tmp 71, Operand.tmp 72] #[28, 28] _ (mul_any A C _ HA.out HC.out) rfl rfl rfl rfl rfl Try.func24 (by kernel_rfl) (by kernel_rfl) (by go_simp) ?_
    rintro e w73 ⟨rfl, b73⟩
    replace B := B.trans (Below.mono b73 (HGS.out _ B))
    replace rt7 := World.rowIs.of_block rt7 (b73.block _ (World.rowIs.lt rt7))
    replace rt8 := World.rowIs.of_block rt8 (b73.block _ (World.rowIs.lt rt8))
    replace rt9 := World.rowIs.of_block rt9 (b73.block _ (World.rowIs.lt rt9))
    replace rt10 := World.rowIs.of_block rt10 (b73.block _ (World.rowIs.lt rt10))
    refine ⟨_, rfl, b73, ?_⟩
    simp only [Act.put, List.setIfInBounds_toArray, List.set_cons_zero, List.set_cons_succ, Nat.zero_add]
    refine stp_val 77 (Operand.tmp 74) 24 #[Operand.tmp 75, Operand.tmp 76] #[28, 28] _ (mul_any A D _ HA.out HD.out) rfl rfl rfl rfl rfl Try.func24 (by kernel_rfl) (by kernel_rfl) (by go_simp) ?_
    rintro e w77 ⟨rfl, b77⟩
    replace B := B.trans (Below.mono b77 (HGS.out _ B))
    replace rt7 := World.rowIs.of_block rt7 (b77.block _ (World.rowIs.lt rt7))
    replace rt8 := World.rowIs.of_block rt8 (b77.block _ (World.rowIs.lt rt8))
    replace rt9 := World.rowIs.of_block rt9 (b77.block _ (World.rowIs.lt rt9))
    replace rt10 := World.rowIs.of_block rt10 (b77.block _ (World.rowIs.lt rt10))
    refine ⟨_, rfl, b77, ?_⟩
    simp only [Act.put, List.setIfInBounds_toArray, List.set_cons_zero, List.set_cons_succ, Nat.zero_add]
    refine stp_fn 78 20 #[Operand.tmp 73, Operand.tmp 77] #[28, 28] _ (add_any (mulP A C) (mulP A D) _ (mulP_lt _ _) (mulP_lt _ _)) rfl rfl rfl rfl Try.func20 (by kernel_rfl) (by kernel_rfl) (by go_simp) ?_
    rintro e w78 ⟨rfl, b78⟩
    replace B := B.trans (Below.mono b78 (HGS.out _ B))
    replace rt7 := World.rowIs.of_block rt7 (b78.block _ (World.rowIs.lt rt7))
    replace rt8 := World.rowIs.of_block rt8 (b78.block _ (World.rowIs.lt rt8))
    replace rt9 := World.rowIs.of_block rt9 (b78.block _ (World.rowIs.lt rt9))
    replace rt10 := World.rowIs.of_block rt10 (b78.block _ (World.rowIs.lt rt10))
    refine ⟨_, rfl, b78, ?_⟩
    simp only [Act.put, List.setIfInBounds_toArray, List.set_cons_zero, List.set_cons_succ, Nat.zero_add]
    refine stp_fn 79 28 #[Operand.tmp 69, Operand.tmp 78] #[28, 28] _ (same5_yes (mulP A (addP C D)) (addP (mulP A C) (mulP A D)) _ (mulP_lt _ _) (addP_lt _ _) (mulP_add A C D)) rfl rfl rfl rfl Try.func28 (by kernel_rfl) (by kernel_rfl) (by go_simp) ?_
    rintro e w79 ⟨rfl, b79⟩
    replace B := B.trans (Below.mono b79 (HGS.out _ B))
    replace rt7 := World.rowIs.of_block rt7 (b79.block _ (World.rowIs.lt rt7))
    replace rt8 := World.rowIs.of_block rt8 (b79.block _ (World.rowIs.lt rt8))
    replace rt9 := World.rowIs.of_block rt9 (b79.block _ (World.rowIs.lt rt9))
    replace rt10 := World.rowIs.of_block rt10 (b79.block _ (World.rowIs.lt rt10))
    refine ⟨_, rfl, b79, ?_⟩
    simp only [Act.put, List.setIfInBounds_toArray, List.set_cons_zero, List.set_cons_succ, Nat.zero_add]
    refine lint_pure 80 (Op.pick (Operand.tmp 63) (Operand.tmp 79) (Operand.const (Value.bool false))) 4 _ rfl rfl rfl rfl rfl (fun w0 hb0 => by unfold mkOp; go_simp; all_goals (with_reducible rfl)) ?_
    simp only [Act.put, List.setIfInBounds_toArray, List.set_cons_zero, List.set_cons_succ, Nat.zero_add]
    refine lint_pure 81 (Op.move (Operand.tmp 80)) 4 _ rfl rfl rfl rfl rfl (fun w0 hb0 => by unfold mkOp; go_simp; all_goals (with_reducible rfl)) ?_
    simp only [Act.put, List.setIfInBounds_toArray, List.set_cons_zero, List.set_cons_succ, Nat.zero_add]
    refine lint_pure 82 (Op.move (Operand.tmp 11)) 51 _ rfl rfl rfl rfl rfl (fun w0 hb0 => by unfold mkOp; go_simp; all_goals (with_reducible rfl)) ?_
    simp only [Act.put, List.setIfInBounds_toArray, List.set_cons_zero, List.set_cons_succ, Nat.zero_add]
    refine lint_pure 83 (Op.move (Operand.tmp 11)) 51 _ rfl rfl rfl rfl rfl (fun w0 hb0 => by unfold mkOp; go_simp; all_goals (with_reducible rfl)) ?_
    simp only [Act.put, List.setIfInBounds_toArray, List.set_cons_zero, List.set_cons_succ, Nat.zero_add]
    refine lint_pure 84 (Op.load 28 (Operand.tmp 7)) 28 (.agg (arrOf 4 fun i => ewF A (0 + i))) rfl rfl rfl rfl rfl (fun w0 hb0 => by exact exec_load_arr _ _ _ _ rfl arrE (World.rowIs.of_block rt7 (hb0.block _ (World.rowIs.lt rt7))) (by omega)) ?_
    simp only [Act.put, List.setIfInBounds_toArray, List.set_cons_zero, List.set_cons_succ, Nat.zero_add]
    refine lint_pure 85 (Op.load 28 (Operand.tmp 8)) 28 (.agg (arrOf 4 fun i => ewF C (0 + i))) rfl rfl rfl rfl rfl (fun w0 hb0 => by exact exec_load_arr _ _ _ _ rfl arrE (World.rowIs.of_block rt8 (hb0.block _ (World.rowIs.lt rt8))) (by omega)) ?_
    simp only [Act.put, List.setIfInBounds_toArray, List.set_cons_zero, List.set_cons_succ, Nat.zero_add]
    refine lint_pure 87 (Op.load 28 (Operand.tmp 9)) 28 (.agg (arrOf 4 fun i => ewF D (0 + i))) rfl rfl rfl rfl rfl (fun w0 hb0 => by exact exec_load_arr _ _ _ _ rfl arrE (World.rowIs.of_block rt9 (hb0.block _ (World.rowIs.lt rt9))) (by omega)) ?_
    simp only [Act.put, List.setIfInBounds_toArray, List.set_cons_zero, List.set_cons_succ, Nat.zero_add]
    refine lint_pure 89 (Op.move (Operand.tmp 11)) 51 _ rfl rfl rfl rfl rfl (fun w0 hb0 => by unfold mkOp; go_simp; all_goals (with_reducible rfl)) ?_
    simp only [Act.put, List.setIfInBounds_toArray, List.set_cons_zero, List.set_cons_succ, Nat.zero_add]
    refine lint_pure 90 (Op.load 28 (Operand.tmp 7)) 28 (.agg (arrOf 4 fun i => ewF A (0 + i))) rfl rfl rfl rfl rfl (fun w0 hb0 => by exact exec_load_arr _ _ _ _ rfl arrE (World.rowIs.of_block rt7 (hb0.block _ (World.rowIs.lt rt7))) (by omega)) ?_
    simp only [Act.put, List.setIfInBounds_toArray, List.set_cons_zero, List.set_cons_succ, Nat.zero_add]
    refine lint_pure 91 (Op.move (Operand.tmp 11)) 51 _ rfl rfl rfl rfl rfl (fun w0 hb0 => by unfold mkOp; go_simp; all_goals (with_reducible rfl)) ?_
    simp only [Act.put, List.setIfInBounds_toArray, List.set_cons_zero, List.set_cons_succ, Nat.zero_add]
    refine lint_pure 92 (Op.load 28 (Operand.tmp 8)) 28 (.agg (arrOf 4 fun i => ewF C (0 + i))) rfl rfl rfl rfl rfl (fun w0 hb0 => by exact exec_load_arr _ _ _ _ rfl arrE (World.rowIs.of_block rt8 (hb0.block _ (World.rowIs.lt rt8))) (by omega)) ?_
    simp only [Act.put, List.setIfInBounds_toArray, List.set_cons_zero, List.set_cons_succ, Nat.zero_add]
    refine lint_pure 93 (Op.load 28 (Operand.tmp 9)) 28 (.agg (arrOf 4 fun i => ewF D (0 + i))) rfl rfl rfl rfl rfl (fun w0 hb0 => by exact exec_load_arr _ _ _ _ rfl arrE (World.rowIs.of_block rt9 (hb0.block _ (World.rowIs.lt rt9))) (by omega)) ?_
    simp only [Act.put, List.setIfInBounds_toArray, List.set_cons_zero, List.set_cons_succ, Nat.zero_add]
    refine stp_val 86 (Operand.tmp 83) 24 #[Operand.tmp 84, Operand.tmp 85] #[28, 28] _ (mul_any A C _ HA.out HC.out) rfl rfl rfl rfl rfl Try.func24 (by kernel_rfl) (by kernel_rfl) (by go_simp) ?_
    rintro e w86 ⟨rfl, b86⟩
    replace B := B.trans (Below.mono b86 (HGS.out _ B))
    replace rt7 := World.rowIs.of_block rt7 (b86.block _ (World.rowIs.lt rt7))
    replace rt8 := World.rowIs.of_block rt8 (b86.block _ (World.rowIs.lt rt8))
    replace rt9 := World.rowIs.of_block rt9 (b86.block _ (World.rowIs.lt rt9))
    replace rt10 := World.rowIs.of_block rt10 (b86.block _ (World.rowIs.lt rt10))
    refine ⟨_, rfl, b86, ?_⟩
    simp only [Act.put, List.setIfInBounds_toArray, List.set_cons_zero, List.set_cons_succ, Nat.zero_add]
    refine stp_val 88 (Operand.tmp 82) 24 #[Operand.tmp 86, Operand.tmp 87] #[28, 28] _ (mul_any (mulP A C) D _ (mulP_lt _ _) HD.out) rfl rfl rfl rfl rfl Try.func24 (by kernel_rfl) (by kernel_rfl) (by go_simp) ?_
    rintro e w88 ⟨rfl, b88⟩
    replace B := B.trans (Below.mono b88 (HGS.out _ B))
    replace rt7 := World.rowIs.of_block rt7 (b88.block _ (World.rowIs.lt rt7))
    replace rt8 := World.rowIs.of_block rt8 (b88.block _ (World.rowIs.lt rt8))
    replace rt9 := World.rowIs.of_block rt9 (b88.block _ (World.rowIs.lt rt9))
    replace rt10 := World.rowIs.of_block rt10 (b88.block _ (World.rowIs.lt rt10))
    refine ⟨_, rfl, b88, ?_⟩
    simp only [Act.put, List.setIfInBounds_toArray, List.set_cons_zero, List.set_cons_succ, Nat.zero_add]
    refine stp_val 94 (Operand.tmp 91) 24 #[Operand.tmp 92, Operand.tmp 93] #[28, 28] _ (mul_any C D _ HC.out HD.out) rfl rfl rfl rfl rfl Try.func24 (by kernel_rfl) (by kernel_rfl) (by go_simp) ?_
    rintro e w94 ⟨rfl, b94⟩
    replace B := B.trans (Below.mono b94 (HGS.out _ B))
    replace rt7 := World.rowIs.of_block rt7 (b94.block _ (World.rowIs.lt rt7))
    replace rt8 := World.rowIs.of_block rt8 (b94.block _ (World.rowIs.lt rt8))
    replace rt9 := World.rowIs.of_block rt9 (b94.block _ (World.rowIs.lt rt9))
    replace rt10 := World.rowIs.of_block rt10 (b94.block _ (World.rowIs.lt rt10))
    refine ⟨_, rfl, b94, ?_⟩
    simp only [Act.put, List.setIfInBounds_toArray, List.set_cons_zero, List.set_cons_succ, Nat.zero_add]
    refine stp_val 95 (Operand.tmp 89) 24 #[Operand.tmp 90, Operand.tmp 94] #[28, 28] _ (mul_any A (mulP C D) _ HA.out (mulP_lt _ _)) rfl rfl rfl rfl rfl Try.func24 (by kernel_rfl) (by kernel_rfl) (by go_simp) ?_
    rintro e w95 ⟨rfl, b95⟩
    replace B := B.trans (Below.mono b95 (HGS.out _ B))
    replace rt7 := World.rowIs.of_block rt7 (b95.block _ (World.rowIs.lt rt7))
    replace rt8 := World.rowIs.of_block rt8 (b95.block _ (World.rowIs.lt rt8))
    replace rt9 := World.rowIs.of_block rt9 (b95.block _ (World.rowIs.lt rt9))
    replace rt10 := World.rowIs.of_block rt10 (b95.block _ (World.rowIs.lt rt10))
    refine ⟨_, rfl, b95, ?_⟩
    simp only [Act.put, List.setIfInBounds_toArray, List.set_cons_zero, List.set_cons_succ, Nat.zero_add]
    refine stp_fn 96 28 #[Operand.tmp 88, Operand.tmp 95] #[28, 28] _ (same5_yes (mulP (mulP A C) D) (mulP A (mulP C D)) _ (mulP_lt _ _) (mulP_lt _ _) (mulP_assoc A C D)) rfl rfl rfl rfl Try.func28 (by kernel_rfl) (by kernel_rfl) (by go_simp) ?_
    rintro e w96 ⟨rfl, b96⟩
    replace B := B.trans (Below.mono b96 (HGS.out _ B))
    replace rt7 := World.rowIs.of_block rt7 (b96.block _ (World.rowIs.lt rt7))
    replace rt8 := World.rowIs.of_block rt8 (b96.block _ (World.rowIs.lt rt8))
    replace rt9 := World.rowIs.of_block rt9 (b96.block _ (World.rowIs.lt rt9))
    replace rt10 := World.rowIs.of_block rt10 (b96.block _ (World.rowIs.lt rt10))
    refine ⟨_, rfl, b96, ?_⟩
    simp only [Act.put, List.setIfInBounds_toArray, List.set_cons_zero, List.set_cons_succ, Nat.zero_add]
    refine lint_pure 97 (Op.pick (Operand.tmp 81) (Operand.tmp 96) (Operand.const (Value.bool false))) 4 _ rfl rfl rfl rfl rfl (fun w0 hb0 => by unfold mkOp; go_simp; all_goals (with_reducible rfl)) ?_
    simp only [Act.put, List.setIfInBounds_toArray, List.set_cons_zero, List.set_cons_succ, Nat.zero_add]
    refine lint_pure 98 (Op.move (Operand.tmp 97)) 4 _ rfl rfl rfl rfl rfl (fun w0 hb0 => by unfold mkOp; go_simp; all_goals (with_reducible rfl)) ?_
    simp only [Act.put, List.setIfInBounds_toArray, List.set_cons_zero, List.set_cons_succ, Nat.zero_add]
    refine lint_pure 99 (Op.load 28 (Operand.tmp 7)) 28 (.agg (arrOf 4 fun i => ewF A (0 + i))) rfl rfl rfl rfl rfl (fun w0 hb0 => by exact exec_load_arr _ _ _ _ rfl arrE (World.rowIs.of_block rt7 (hb0.block _ (World.rowIs.lt rt7))) (by omega)) ?_
    simp only [Act.put, List.setIfInBounds_toArray, List.set_cons_zero, List.set_cons_succ, Nat.zero_add]
    refine lint_pure 100 (Op.load 28 (Operand.tmp 8)) 28 (.agg (arrOf 4 fun i => ewF C (0 + i))) rfl rfl rfl rfl rfl (fun w0 hb0 => by exact exec_load_arr _ _ _ _ rfl arrE (World.rowIs.of_block rt8 (hb0.block _ (World.rowIs.lt rt8))) (by omega)) ?_
    simp only [Act.put, List.setIfInBounds_toArray, List.set_cons_zero, List.set_cons_succ, Nat.zero_add]
    refine lint_pure 102 (Op.load 28 (Operand.tmp 8)) 28 (.agg (arrOf 4 fun i => ewF C (0 + i))) rfl rfl rfl rfl rfl (fun w0 hb0 => by exact exec_load_arr _ _ _ _ rfl arrE (World.rowIs.of_block rt8 (hb0.block _ (World.rowIs.lt rt8))) (by omega)) ?_
    simp only [Act.put, List.setIfInBounds_toArray, List.set_cons_zero, List.set_cons_succ, Nat.zero_add]
    refine lint_pure 104 (Op.load 28 (Operand.tmp 7)) 28 (.agg (arrOf 4 fun i => ewF A (0 + i))) rfl rfl rfl rfl rfl (fun w0 hb0 => by exact exec_load_arr _ _ _ _ rfl arrE (World.rowIs.of_block rt7 (hb0.block _ (World.rowIs.lt rt7))) (by omega)) ?_
    simp only [Act.put, List.setIfInBounds_toArray, List.set_cons_zero, List.set_cons_succ, Nat.zero_add]
    refine stp_fn 101 22 #[Operand.tmp 99, Operand.tmp 100] #[28, 28] _ (sub_any A C _ HA.out HC.out) rfl rfl rfl rfl Try.func22 (by kernel_rfl) (by kernel_rfl) (by go_simp) ?_
    rintro e w101 ⟨rfl, b101⟩
    replace B := B.trans (Below.mono b101 (HGS.out _ B))
    replace rt7 := World.rowIs.of_block rt7 (b101.block _ (World.rowIs.lt rt7))
    replace rt8 := World.rowIs.of_block rt8 (b101.block _ (World.rowIs.lt rt8))
    replace rt9 := World.rowIs.of_block rt9 (b101.block _ (World.rowIs.lt rt9))
    replace rt10 := World.rowIs.of_block rt10 (b101.block _ (World.rowIs.lt rt10))
    refine ⟨_, rfl, b101, ?_⟩
    simp only [Act.put, List.setIfInBounds_toArray, List.set_cons_zero, List.set_cons_succ, Nat.zero_add]
    refine stp_fn 103 20 #[Operand.tmp 101, Operand.tmp 102] #[28, 28] _ (add_any (subP p25 A C) C _ (subP_lt _ _) HC.out) rfl rfl rfl rfl Try.func20 (by kernel_rfl) (by kernel_rfl) (by go_simp) ?_
    rintro e w103 ⟨rfl, b103⟩
    replace B := B.trans (Below.mono b103 (HGS.out _ B))
    replace rt7 := World.rowIs.of_block rt7 (b103.block _ (World.rowIs.lt rt7))
    replace rt8 := World.rowIs.of_block rt8 (b103.block _ (World.rowIs.lt rt8))
    replace rt9 := World.rowIs.of_block rt9 (b103.block _ (World.rowIs.lt rt9))
    replace rt10 := World.rowIs.of_block rt10 (b103.block _ (World.rowIs.lt rt10))
    refine ⟨_, rfl, b103, ?_⟩
    simp only [Act.put, List.setIfInBounds_toArray, List.set_cons_zero, List.set_cons_succ, Nat.zero_add]
    refine stp_fn 105 28 #[Operand.tmp 103, Operand.tmp 104] #[28, 28] _ (same5_yes (addP (subP p25 A C) C) A _ (addP_lt _ _) HA.out (subP_add A C HA.out)) rfl rfl rfl rfl Try.func28 (by kernel_rfl) (by kernel_rfl) (by go_simp) ?_
    rintro e w105 ⟨rfl, b105⟩
    replace B := B.trans (Below.mono b105 (HGS.out _ B))
    replace rt7 := World.rowIs.of_block rt7 (b105.block _ (World.rowIs.lt rt7))
    replace rt8 := World.rowIs.of_block rt8 (b105.block _ (World.rowIs.lt rt8))
    replace rt9 := World.rowIs.of_block rt9 (b105.block _ (World.rowIs.lt rt9))
    replace rt10 := World.rowIs.of_block rt10 (b105.block _ (World.rowIs.lt rt10))
    refine ⟨_, rfl, b105, ?_⟩
    simp only [Act.put, List.setIfInBounds_toArray, List.set_cons_zero, List.set_cons_succ, Nat.zero_add]
    refine lint_pure 106 (Op.pick (Operand.tmp 98) (Operand.tmp 105) (Operand.const (Value.bool false))) 4 _ rfl rfl rfl rfl rfl (fun w0 hb0 => by unfold mkOp; go_simp; all_goals (with_reducible rfl)) ?_
    simp only [Act.put, List.setIfInBounds_toArray, List.set_cons_zero, List.set_cons_succ, Nat.zero_add]
    refine lint_pure 107 (Op.move (Operand.tmp 106)) 4 _ rfl rfl rfl rfl rfl (fun w0 hb0 => by unfold mkOp; go_simp; all_goals (with_reducible rfl)) ?_
    simp only [Act.put, List.setIfInBounds_toArray, List.set_cons_zero, List.set_cons_succ, Nat.zero_add]
    refine lint_pure 108 (Op.load 28 (Operand.tmp 7)) 28 (.agg (arrOf 4 fun i => ewF A (0 + i))) rfl rfl rfl rfl rfl (fun w0 hb0 => by exact exec_load_arr _ _ _ _ rfl arrE (World.rowIs.of_block rt7 (hb0.block _ (World.rowIs.lt rt7))) (by omega)) ?_
    simp only [Act.put, List.setIfInBounds_toArray, List.set_cons_zero, List.set_cons_succ, Nat.zero_add]
    refine lint_pure 109 (Op.load 28 (Operand.tmp 7)) 28 (.agg (arrOf 4 fun i => ewF A (0 + i))) rfl rfl rfl rfl rfl (fun w0 hb0 => by exact exec_load_arr _ _ _ _ rfl arrE (World.rowIs.of_block rt7 (hb0.block _ (World.rowIs.lt rt7))) (by omega)) ?_
    simp only [Act.put, List.setIfInBounds_toArray, List.set_cons_zero, List.set_cons_succ, Nat.zero_add]
    refine stp_fn 110 26 #[Operand.tmp 109] #[28] _ (neg_any A _ HA.out) rfl rfl rfl rfl Try.func26 (by kernel_rfl) (by kernel_rfl) (by go_simp) ?_
    rintro e w110 ⟨rfl, b110⟩
    replace B := B.trans (Below.mono b110 (HGS.out _ B))
    replace rt7 := World.rowIs.of_block rt7 (b110.block _ (World.rowIs.lt rt7))
    replace rt8 := World.rowIs.of_block rt8 (b110.block _ (World.rowIs.lt rt8))
    replace rt9 := World.rowIs.of_block rt9 (b110.block _ (World.rowIs.lt rt9))
    replace rt10 := World.rowIs.of_block rt10 (b110.block _ (World.rowIs.lt rt10))
    refine ⟨_, rfl, b110, ?_⟩
    simp only [Act.put, List.setIfInBounds_toArray, List.set_cons_zero, List.set_cons_succ, Nat.zero_add]
    refine stp_fn 111 20 #[Operand.tmp 108, Operand.tmp 110] #[28, 28] _ (add_any A (oppP A) _ HA.out (oppP_lt _)) rfl rfl rfl rfl Try.func20 (by kernel_rfl) (by kernel_rfl) (by go_simp) ?_
    rintro e w111 ⟨rfl, b111⟩
    replace B := B.trans (Below.mono b111 (HGS.out _ B))
    replace rt7 := World.rowIs.of_block rt7 (b111.block _ (World.rowIs.lt rt7))
    replace rt8 := World.rowIs.of_block rt8 (b111.block _ (World.rowIs.lt rt8))
    replace rt9 := World.rowIs.of_block rt9 (b111.block _ (World.rowIs.lt rt9))
    replace rt10 := World.rowIs.of_block rt10 (b111.block _ (World.rowIs.lt rt10))
    refine ⟨_, rfl, b111, ?_⟩
    simp only [Act.put, List.setIfInBounds_toArray, List.set_cons_zero, List.set_cons_succ, Nat.zero_add]
    refine stp_fn 112 18 #[Operand.const (Value.int IntKind.u64 0)] #[23] _ (small_any 0 _ (by decide)) rfl rfl rfl rfl Try.func18 (by kernel_rfl) (by kernel_rfl) (by go_simp) ?_
    rintro e w112 ⟨rfl, b112⟩
    replace B := B.trans (Below.mono b112 (HGS.out _ B))
    replace rt7 := World.rowIs.of_block rt7 (b112.block _ (World.rowIs.lt rt7))
    replace rt8 := World.rowIs.of_block rt8 (b112.block _ (World.rowIs.lt rt8))
    replace rt9 := World.rowIs.of_block rt9 (b112.block _ (World.rowIs.lt rt9))
    replace rt10 := World.rowIs.of_block rt10 (b112.block _ (World.rowIs.lt rt10))
    refine ⟨_, rfl, b112, ?_⟩
    simp only [Act.put, List.setIfInBounds_toArray, List.set_cons_zero, List.set_cons_succ, Nat.zero_add]
    refine stp_fn 113 28 #[Operand.tmp 111, Operand.tmp 112] #[28, 28] _ (same5_yes (addP A (oppP A)) 0 _ (addP_lt _ _) (by decide +kernel) (add_oppP A)) rfl rfl rfl rfl Try.func28 (by kernel_rfl) (by kernel_rfl) (by go_simp) ?_
    rintro e w113 ⟨rfl, b113⟩
    replace B := B.trans (Below.mono b113 (HGS.out _ B))
    replace rt7 := World.rowIs.of_block rt7 (b113.block _ (World.rowIs.lt rt7))
    replace rt8 := World.rowIs.of_block rt8 (b113.block _ (World.rowIs.lt rt8))
    replace rt9 := World.rowIs.of_block rt9 (b113.block _ (World.rowIs.lt rt9))
    replace rt10 := World.rowIs.of_block rt10 (b113.block _ (World.rowIs.lt rt10))
    refine ⟨_, rfl, b113, ?_⟩
    simp only [Act.put, List.setIfInBounds_toArray, List.set_cons_zero, List.set_cons_succ, Nat.zero_add]
    refine lint_pure 114 (Op.pick (Operand.tmp 107) (Operand.tmp 113) (Operand.const (Value.bool false))) 4 _ rfl rfl rfl rfl rfl (fun w0 hb0 => by unfold mkOp; go_simp; all_goals (with_reducible rfl)) ?_
    simp only [Act.put, List.setIfInBounds_toArray, List.set_cons_zero, List.set_cons_succ, Nat.zero_add]
    refine lint_pure 115 (Op.move (Operand.tmp 114)) 4 _ rfl rfl rfl rfl rfl (fun w0 hb0 => by unfold mkOp; go_simp; all_goals (with_reducible rfl)) ?_
    simp only [Act.put, List.setIfInBounds_toArray, List.set_cons_zero, List.set_cons_succ, Nat.zero_add]
    refine lint_pure 116 (Op.move (Operand.tmp 11)) 51 _ rfl rfl rfl rfl rfl (fun w0 hb0 => by unfold mkOp; go_simp; all_goals (with_reducible rfl)) ?_
    simp only [Act.put, List.setIfInBounds_toArray, List.set_cons_zero, List.set_cons_succ, Nat.zero_add]
    refine lint_pure 117 (Op.load 28 (Operand.tmp 7)) 28 (.agg (arrOf 4 fun i => ewF A (0 + i))) rfl rfl rfl rfl rfl (fun w0 hb0 => by exact exec_load_arr _ _ _ _ rfl arrE (World.rowIs.of_block rt7 (hb0.block _ (World.rowIs.lt rt7))) (by omega)) ?_
    simp only [Act.put, List.setIfInBounds_toArray, List.set_cons_zero, List.set_cons_succ, Nat.zero_add]
    refine lint_pure 118 (Op.load 28 (Operand.tmp 10)) 28 (.agg (arrOf 4 fun i => ewF 1 (0 + i))) rfl rfl rfl rfl rfl (fun w0 hb0 => by exact exec_load_arr _ _ _ _ rfl arrE (World.rowIs.of_block rt10 (hb0.block _ (World.rowIs.lt rt10))) (by omega)) ?_
    simp only [Act.put, List.setIfInBounds_toArray, List.set_cons_zero, List.set_cons_succ, Nat.zero_add]
    refine lint_pure 120 (Op.load 28 (Operand.tmp 7)) 28 (.agg (arrOf 4 fun i => ewF A (0 + i))) rfl rfl rfl rfl rfl (fun w0 hb0 => by exact exec_load_arr _ _ _ _ rfl arrE (World.rowIs.of_block rt7 (hb0.block _ (World.rowIs.lt rt7))) (by omega)) ?_
    simp only [Act.put, List.setIfInBounds_toArray, List.set_cons_zero, List.set_cons_succ, Nat.zero_add]
    refine stp_val 119 (Operand.tmp 116) 24 #[Operand.tmp 117, Operand.tmp 118] #[28, 28] _ (mul_any A 1 _ HA.out (by decide +kernel)) rfl rfl rfl rfl rfl Try.func24 (by kernel_rfl) (by kernel_rfl) (by go_simp) ?_
    rintro e w119 ⟨rfl, b119⟩
    replace B := B.trans (Below.mono b119 (HGS.out _ B))
    replace rt7 := World.rowIs.of_block rt7 (b119.block _ (World.rowIs.lt rt7))
    replace rt8 := World.rowIs.of_block rt8 (b119.block _ (World.rowIs.lt rt8))
    replace rt9 := World.rowIs.of_block rt9 (b119.block _ (World.rowIs.lt rt9))
    replace rt10 := World.rowIs.of_block rt10 (b119.block _ (World.rowIs.lt rt10))
    refine ⟨_, rfl, b119, ?_⟩
    simp only [Act.put, List.setIfInBounds_toArray, List.set_cons_zero, List.set_cons_succ, Nat.zero_add]
    refine stp_fn 121 28 #[Operand.tmp 119, Operand.tmp 120] #[28, 28] _ (same5_yes (mulP A 1) A _ (mulP_lt _ _) HA.out (mulP_one A HA.out)) rfl rfl rfl rfl Try.func28 (by kernel_rfl) (by kernel_rfl) (by go_simp) ?_
    rintro e w121 ⟨rfl, b121⟩
    replace B := B.trans (Below.mono b121 (HGS.out _ B))
    replace rt7 := World.rowIs.of_block rt7 (b121.block _ (World.rowIs.lt rt7))
    replace rt8 := World.rowIs.of_block rt8 (b121.block _ (World.rowIs.lt rt8))
    replace rt9 := World.rowIs.of_block rt9 (b121.block _ (World.rowIs.lt rt9))
    replace rt10 := World.rowIs.of_block rt10 (b121.block _ (World.rowIs.lt rt10))
    refine ⟨_, rfl, b121, ?_⟩
    simp only [Act.put, List.setIfInBounds_toArray, List.set_cons_zero, List.set_cons_succ, Nat.zero_add]
    refine lint_pure 122 (Op.pick (Operand.tmp 115) (Operand.tmp 121) (Operand.const (Value.bool false))) 4 _ rfl rfl rfl rfl rfl (fun w0 hb0 => by unfold mkOp; go_simp; all_goals (with_reducible rfl)) ?_
    simp only [Act.put, List.setIfInBounds_toArray, List.set_cons_zero, List.set_cons_succ, Nat.zero_add]
    refine lint_pure 123 (Op.move (Operand.tmp 122)) 4 _ rfl rfl rfl rfl rfl (fun w0 hb0 => by unfold mkOp; go_simp; all_goals (with_reducible rfl)) ?_
    simp only [Act.put, List.setIfInBounds_toArray, List.set_cons_zero, List.set_cons_succ, Nat.zero_add]
    refine stp_fn 124 12 #[] #[] _ (awake5_any _) rfl rfl rfl rfl Try.func12 (by kernel_rfl) (by kernel_rfl) (by go_simp) ?_
    rintro e w124 ⟨rfl, b124⟩
    replace B := B.trans (Below.mono b124 (HGS.out _ B))
    replace rt7 := World.rowIs.of_block rt7 (b124.block _ (World.rowIs.lt rt7))
    replace rt8 := World.rowIs.of_block rt8 (b124.block _ (World.rowIs.lt rt8))
    replace rt9 := World.rowIs.of_block rt9 (b124.block _ (World.rowIs.lt rt9))
    replace rt10 := World.rowIs.of_block rt10 (b124.block _ (World.rowIs.lt rt10))
    refine ⟨_, rfl, b124, ?_⟩
    simp only [Act.put, List.setIfInBounds_toArray, List.set_cons_zero, List.set_cons_succ, Nat.zero_add]
    refine lint_pure 125 (Op.pick (Operand.tmp 123) (Operand.tmp 124) (Operand.const (Value.bool false))) 4 _ rfl rfl rfl rfl rfl (fun w0 hb0 => by unfold mkOp; go_simp; all_goals (with_reducible rfl)) ?_
    simp only [Act.put, List.setIfInBounds_toArray, List.set_cons_zero, List.set_cons_succ, Nat.zero_add]
    refine lint_pure 6 (Op.assign (Operand.tmp 125)) 4 _ rfl rfl rfl rfl rfl (fun w0 hb0 => by unfold mkOp; go_simp; all_goals (with_reducible rfl)) ?_
    simp only [Act.put, List.setIfInBounds_toArray, List.set_cons_zero, List.set_cons_succ, Nat.zero_add]
    refine lint_end ?_
    go_wp2
    go_ret
    exact ⟨rfl, B⟩
  · refine wp_region_lint (.rd 0 (.wr 1 (.wr 2 (.rd 3 (.rd 4 (.rd 5 (.rd 6 (.rd 9 (.wr 7 (.wr 8 (.wr 10 (.rd 11 (.rd 12 (.rd 13 (.rd 14 (.wr 15 (.wr 16 (.rd 17 (.rd 18 (.rd 20 (.wr 19 (.wr 21 (.rd 22 (.rd 23 (.rd 24 .done))))))))))))))))))))))))) (by kernel_rfl) (by kernel_rfl) (by decide) (by kernel_rfl) (fun d _ _ _ _ h => by cases d <;> exact h) ?_
    refine lint_pure 29 (Op.load 28 (Operand.tmp 7)) 28 (.agg (arrOf 4 fun i => ewF A (0 + i))) rfl rfl rfl rfl rfl (fun w0 hb0 => by exact exec_load_arr _ _ _ _ rfl arrE (World.rowIs.of_block rt7 (hb0.block _ (World.rowIs.lt rt7))) (by omega)) ?_
    simp only [Act.put, List.setIfInBounds_toArray, List.set_cons_zero, List.set_cons_succ, Nat.zero_add]
    refine stp_fn 30 18 #[Operand.const (Value.int IntKind.u64 0)] #[23] _ (small_any 0 _ (by decide)) rfl rfl rfl rfl Try.func18 (by kernel_rfl) (by kernel_rfl) (by go_simp) ?_
    rintro e w30 ⟨rfl, b30⟩
    replace B := B.trans (Below.mono b30 (HGS.out _ B))
    replace rt7 := World.rowIs.of_block rt7 (b30.block _ (World.rowIs.lt rt7))
    replace rt8 := World.rowIs.of_block rt8 (b30.block _ (World.rowIs.lt rt8))
    replace rt9 := World.rowIs.of_block rt9 (b30.block _ (World.rowIs.lt rt9))
    replace rt10 := World.rowIs.of_block rt10 (b30.block _ (World.rowIs.lt rt10))
    refine ⟨_, rfl, b30, ?_⟩
    simp only [Act.put, List.setIfInBounds_toArray, List.set_cons_zero, List.set_cons_succ, Nat.zero_add]
    refine stp_fn 31 28 #[Operand.tmp 29, Operand.tmp 30] #[28, 28] _ (same5_no A 0 _ HA.out (by decide +kernel) (hz)) rfl rfl rfl rfl Try.func28 (by kernel_rfl) (by kernel_rfl) (by go_simp) ?_
    rintro e w31 ⟨rfl, b31⟩
    replace B := B.trans (Below.mono b31 (HGS.out _ B))
    replace rt7 := World.rowIs.of_block rt7 (b31.block _ (World.rowIs.lt rt7))
    replace rt8 := World.rowIs.of_block rt8 (b31.block _ (World.rowIs.lt rt8))
    replace rt9 := World.rowIs.of_block rt9 (b31.block _ (World.rowIs.lt rt9))
    replace rt10 := World.rowIs.of_block rt10 (b31.block _ (World.rowIs.lt rt10))
    refine ⟨_, rfl, b31, ?_⟩
    simp only [Act.put, List.setIfInBounds_toArray, List.set_cons_zero, List.set_cons_succ, Nat.zero_add]
    refine lint_pure 32 (Op.unOp UnOp.not 4 (Operand.tmp 31)) 4 _ rfl rfl rfl rfl rfl (fun w0 hb0 => by unfold mkOp; go_simp; all_goals (with_reducible rfl)) ?_
    simp only [Act.put, List.setIfInBounds_toArray, List.set_cons_zero, List.set_cons_succ, Nat.zero_add]
    refine lint_pure 33 (Op.move (Operand.tmp 32)) 4 _ rfl rfl rfl rfl rfl (fun w0 hb0 => by unfold mkOp; go_simp; all_goals (with_reducible rfl)) ?_
    simp only [Act.put, List.setIfInBounds_toArray, List.set_cons_zero, List.set_cons_succ, Nat.zero_add]
    refine lint_pure 34 (Op.load 28 (Operand.tmp 7)) 28 (.agg (arrOf 4 fun i => ewF A (0 + i))) rfl rfl rfl rfl rfl (fun w0 hb0 => by exact exec_load_arr _ _ _ _ rfl arrE (World.rowIs.of_block rt7 (hb0.block _ (World.rowIs.lt rt7))) (by omega)) ?_
    simp only [Act.put, List.setIfInBounds_toArray, List.set_cons_zero, List.set_cons_succ, Nat.zero_add]
    refine lint_pure 35 (Op.load 28 (Operand.tmp 7)) 28 (.agg (arrOf 4 fun i => ewF A (0 + i))) rfl rfl rfl rfl rfl (fun w0 hb0 => by exact exec_load_arr _ _ _ _ rfl arrE (World.rowIs.of_block rt7 (hb0.block _ (World.rowIs.lt rt7))) (by omega)) ?_
    simp only [Act.put, List.setIfInBounds_toArray, List.set_cons_zero, List.set_cons_succ, Nat.zero_add]
    refine lint_pure 38 (Op.load 28 (Operand.tmp 10)) 28 (.agg (arrOf 4 fun i => ewF 1 (0 + i))) rfl rfl rfl rfl rfl (fun w0 hb0 => by exact exec_load_arr _ _ _ _ rfl arrE (World.rowIs.of_block rt10 (hb0.block _ (World.rowIs.lt rt10))) (by omega)) ?_
    simp only [Act.put, List.setIfInBounds_toArray, List.set_cons_zero, List.set_cons_succ, Nat.zero_add]
    refine stp_fn 36 33 #[Operand.tmp 35] #[28] _ (inv_any A _ HA.out) rfl rfl rfl rfl Try.func33 (by kernel_rfl) (by kernel_rfl) (by go_simp) ?_
    rintro e w36 ⟨rfl, b36⟩
    replace B := B.trans (Below.mono b36 (HGS.out _ B))
    replace rt7 := World.rowIs.of_block rt7 (b36.block _ (World.rowIs.lt rt7))
    replace rt8 := World.rowIs.of_block rt8 (b36.block _ (World.rowIs.lt rt8))
    replace rt9 := World.rowIs.of_block rt9 (b36.block _ (World.rowIs.lt rt9))
    replace rt10 := World.rowIs.of_block rt10 (b36.block _ (World.rowIs.lt rt10))
    refine ⟨_, rfl, b36, ?_⟩
    simp only [Act.put, List.setIfInBounds_toArray, List.set_cons_zero, List.set_cons_succ, Nat.zero_add]
    refine stp_fn 37 24 #[Operand.tmp 34, Operand.tmp 36] #[28, 28] _ (mul_any A (invP A) _ HA.out (invP_lt _)) rfl rfl rfl rfl Try.func24 (by kernel_rfl) (by kernel_rfl) (by go_simp) ?_
    rintro e w37 ⟨rfl, b37⟩
    replace B := B.trans (Below.mono b37 (HGS.out _ B))
    replace rt7 := World.rowIs.of_block rt7 (b37.block _ (World.rowIs.lt rt7))
    replace rt8 := World.rowIs.of_block rt8 (b37.block _ (World.rowIs.lt rt8))
    replace rt9 := World.rowIs.of_block rt9 (b37.block _ (World.rowIs.lt rt9))
    replace rt10 := World.rowIs.of_block rt10 (b37.block _ (World.rowIs.lt rt10))
    refine ⟨_, rfl, b37, ?_⟩
    simp only [Act.put, List.setIfInBounds_toArray, List.set_cons_zero, List.set_cons_succ, Nat.zero_add]
    refine stp_fn 39 28 #[Operand.tmp 37, Operand.tmp 38] #[28, 28] _ (same5_yes (mulP A (invP A)) 1 _ (mulP_lt _ _) (by decide +kernel) (mul_invP A HA.out hz)) rfl rfl rfl rfl Try.func28 (by kernel_rfl) (by kernel_rfl) (by go_simp) ?_
    rintro e w39 ⟨rfl, b39⟩
    replace B := B.trans (Below.mono b39 (HGS.out _ B))
    replace rt7 := World.rowIs.of_block rt7 (b39.block _ (World.rowIs.lt rt7))
    replace rt8 := World.rowIs.of_block rt8 (b39.block _ (World.rowIs.lt rt8))
    replace rt9 := World.rowIs.of_block rt9 (b39.block _ (World.rowIs.lt rt9))
    replace rt10 := World.rowIs.of_block rt10 (b39.block _ (World.rowIs.lt rt10))
    refine ⟨_, rfl, b39, ?_⟩
    simp only [Act.put, List.setIfInBounds_toArray, List.set_cons_zero, List.set_cons_succ, Nat.zero_add]
    refine lint_pure 40 (Op.unOp UnOp.not 4 (Operand.tmp 39)) 4 _ rfl rfl rfl rfl rfl (fun w0 hb0 => by unfold mkOp; go_simp; all_goals (with_reducible rfl)) ?_
    simp only [Act.put, List.setIfInBounds_toArray, List.set_cons_zero, List.set_cons_succ, Nat.zero_add]
    refine lint_pure 41 (Op.pick (Operand.tmp 33) (Operand.tmp 40) (Operand.const (Value.bool false))) 4 _ rfl rfl rfl rfl rfl (fun w0 hb0 => by unfold mkOp; go_simp; all_goals (with_reducible rfl)) ?_
    simp only [Act.put, List.setIfInBounds_toArray, List.set_cons_zero, List.set_cons_succ, Nat.zero_add]
    refine lint_pure 42 (Op.move (Operand.tmp 41)) 4 _ rfl rfl rfl rfl rfl (fun w0 hb0 => by unfold mkOp; go_simp; all_goals (with_reducible rfl)) ?_
    simp only [Act.put, List.setIfInBounds_toArray, List.set_cons_zero, List.set_cons_succ, Nat.zero_add]
    refine lint_pure 43 (Op.load 28 (Operand.tmp 7)) 28 (.agg (arrOf 4 fun i => ewF A (0 + i))) rfl rfl rfl rfl rfl (fun w0 hb0 => by exact exec_load_arr _ _ _ _ rfl arrE (World.rowIs.of_block rt7 (hb0.block _ (World.rowIs.lt rt7))) (by omega)) ?_
    simp only [Act.put, List.setIfInBounds_toArray, List.set_cons_zero, List.set_cons_succ, Nat.zero_add]
    refine stp_fn 44 18 #[Operand.const (Value.int IntKind.u64 0)] #[23] _ (small_any 0 _ (by decide)) rfl rfl rfl rfl Try.func18 (by kernel_rfl) (by kernel_rfl) (by go_simp) ?_
    rintro e w44 ⟨rfl, b44⟩
    replace B := B.trans (Below.mono b44 (HGS.out _ B))
    replace rt7 := World.rowIs.of_block rt7 (b44.block _ (World.rowIs.lt rt7))
    replace rt8 := World.rowIs.of_block rt8 (b44.block _ (World.rowIs.lt rt8))
    replace rt9 := World.rowIs.of_block rt9 (b44.block _ (World.rowIs.lt rt9))
    replace rt10 := World.rowIs.of_block rt10 (b44.block _ (World.rowIs.lt rt10))
    refine ⟨_, rfl, b44, ?_⟩
    simp only [Act.put, List.setIfInBounds_toArray, List.set_cons_zero, List.set_cons_succ, Nat.zero_add]
    refine stp_fn 45 28 #[Operand.tmp 43, Operand.tmp 44] #[28, 28] _ (same5_no A 0 _ HA.out (by decide +kernel) (hz)) rfl rfl rfl rfl Try.func28 (by kernel_rfl) (by kernel_rfl) (by go_simp) ?_
    rintro e w45 ⟨rfl, b45⟩
    replace B := B.trans (Below.mono b45 (HGS.out _ B))
    replace rt7 := World.rowIs.of_block rt7 (b45.block _ (World.rowIs.lt rt7))
    replace rt8 := World.rowIs.of_block rt8 (b45.block _ (World.rowIs.lt rt8))
    replace rt9 := World.rowIs.of_block rt9 (b45.block _ (World.rowIs.lt rt9))
    replace rt10 := World.rowIs.of_block rt10 (b45.block _ (World.rowIs.lt rt10))
    refine ⟨_, rfl, b45, ?_⟩
    simp only [Act.put, List.setIfInBounds_toArray, List.set_cons_zero, List.set_cons_succ, Nat.zero_add]
    refine lint_pure 46 (Op.move (Operand.tmp 45)) 4 _ rfl rfl rfl rfl rfl (fun w0 hb0 => by unfold mkOp; go_simp; all_goals (with_reducible rfl)) ?_
    simp only [Act.put, List.setIfInBounds_toArray, List.set_cons_zero, List.set_cons_succ, Nat.zero_add]
    refine lint_none 47 rfl rfl rfl ?_
    simp only [Act.put, List.setIfInBounds_toArray, List.set_cons_zero, List.set_cons_succ, Nat.zero_add]
    refine lint_none 49 rfl rfl rfl ?_
    simp only [Act.put, List.setIfInBounds_toArray, List.set_cons_zero, List.set_cons_succ, Nat.zero_add]
    refine stp_none 48 rfl rfl rfl ?_
    simp only [Act.put, List.setIfInBounds_toArray, List.set_cons_zero, List.set_cons_succ, Nat.zero_add]
    refine stp_none 50 rfl rfl rfl ?_
    simp only [Act.put, List.setIfInBounds_toArray, List.set_cons_zero, List.set_cons_succ, Nat.zero_add]
    refine lint_none 51 rfl rfl rfl ?_
    simp only [Act.put, List.setIfInBounds_toArray, List.set_cons_zero, List.set_cons_succ, Nat.zero_add]
    refine lint_pure 52 (Op.pick (Operand.tmp 46) (Operand.tmp 51) (Operand.const (Value.bool false))) 4 _ rfl rfl rfl rfl rfl (fun w0 hb0 => by unfold mkOp; go_simp; all_goals (with_reducible rfl)) ?_
    simp only [Act.put, List.setIfInBounds_toArray, List.set_cons_zero, List.set_cons_succ, Nat.zero_add]
    refine lint_pure 53 (Op.pick (Operand.tmp 42) (Operand.const (Value.bool true)) (Operand.tmp 52)) 4 _ rfl rfl rfl rfl rfl (fun w0 hb0 => by unfold mkOp; go_simp; all_goals (with_reducible rfl)) ?_
    simp only [Act.put, List.setIfInBounds_toArray, List.set_cons_zero, List.set_cons_succ, Nat.zero_add]
    refine lint_end ?_
    go_wp2
    replace B := B.drew
    replace rt7 := World.rowIs.drew rt7
    replace rt8 := World.rowIs.drew rt8
    replace rt9 := World.rowIs.drew rt9
    replace rt10 := World.rowIs.drew rt10
    refine wp_region_lint (.rd 0 (.rd 1 (.rd 2 (.rd 4 (.rd 5 (.rd 6 (.wr 3 (.wr 7 (.wr 8 (.rd 9 (.rd 10 (.rd 11 (.rd 12 (.rd 13 (.rd 16 (.rd 17 (.rd 18 (.rd 20 (.rd 21 (.rd 22 (.wr 14 (.wr 15 (.wr 19 (.wr 23 (.wr 24 (.wr 25 (.rd 26 (.rd 27 (.rd 28 (.rd 29 (.rd 30 (.rd 31 (.rd 33 (.rd 35 (.rd 36 (.rd 37 (.rd 38 (.rd 39 (.wr 32 (.wr 34 (.wr 40 (.wr 41 (.wr 42 (.rd 43 (.rd 44 (.rd 45 (.rd 46 (.rd 48 (.rd 50 (.wr 47 (.wr 49 (.wr 51 (.rd 52 (.rd 53 (.rd 54 (.rd 55 (.wr 56 (.wr 57 (.wr 58 (.wr 59 (.rd 60 (.rd 61 (.rd 62 (.rd 63 (.rd 64 (.rd 66 (.wr 65 (.wr 67 (.rd 68 (.rd 69 (.wr 70 (.rd 71 (.rd 72 .done))))))))))))))))))))))))))))))))))))))))))))))))))))))))))))))))))))))))) (by kernel_rfl) (by kernel_rfl) (by decide) (by kernel_rfl) (fun d _ _ _ _ h => by cases d <;> exact h) ?_
    refine lint_pure 54 (Op.move (Operand.tmp 11)) 51 _ rfl rfl rfl rfl rfl (fun w0 hb0 => by unfold mkOp; go_simp; all_goals (with_reducible rfl)) ?_
    simp only [Act.put, List.setIfInBounds_toArray, List.set_cons_zero, List.set_cons_succ, Nat.zero_add]
    refine lint_pure 55 (Op.load 28 (Operand.tmp 7)) 28 (.agg (arrOf 4 fun i => ewF A (0 + i))) rfl rfl rfl rfl rfl (fun w0 hb0 => by exact exec_load_arr _ _ _ _ rfl arrE (World.rowIs.of_block rt7 (hb0.block _ (World.rowIs.lt rt7))) (by omega)) ?_
    simp only [Act.put, List.setIfInBounds_toArray, List.set_cons_zero, List.set_cons_succ, Nat.zero_add]
    refine lint_pure 56 (Op.load 28 (Operand.tmp 8)) 28 (.agg (arrOf 4 fun i => ewF C (0 + i))) rfl rfl rfl rfl rfl (fun w0 hb0 => by exact exec_load_arr _ _ _ _ rfl arrE (World.rowIs.of_block rt8 (hb0.block _ (World.rowIs.lt rt8))) (by omega)) ?_
    simp only [Act.put, List.setIfInBounds_toArray, List.set_cons_zero, List.set_cons_succ, Nat.zero_add]
    refine lint_pure 58 (Op.move (Operand.tmp 11)) 51 _ rfl rfl rfl rfl rfl (fun w0 hb0 => by unfold mkOp; go_simp; all_goals (with_reducible rfl)) ?_
    simp only [Act.put, List.setIfInBounds_toArray, List.set_cons_zero, List.set_cons_succ, Nat.zero_add]
    refine lint_pure 59 (Op.load 28 (Operand.tmp 8)) 28 (.agg (arrOf 4 fun i => ewF C (0 + i))) rfl rfl rfl rfl rfl (fun w0 hb0 => by exact exec_load_arr _ _ _ _ rfl arrE (World.rowIs.of_block rt8 (hb0.block _ (World.rowIs.lt rt8))) (by omega)) ?_
    simp only [Act.put, List.setIfInBounds_toArray, List.set_cons_zero, List.set_cons_succ, Nat.zero_add]
    refine lint_pure 60 (Op.load 28 (Operand.tmp 7)) 28 (.agg (arrOf 4 fun i => ewF A (0 + i))) rfl rfl rfl rfl rfl (fun w0 hb0 => by exact exec_load_arr _ _ _ _ rfl arrE (World.rowIs.of_block rt7 (hb0.block _ (World.rowIs.lt rt7))) (by omega)) ?_
    simp only [Act.put, List.setIfInBounds_toArray, List.set_cons_zero, List.set_cons_succ, Nat.zero_add]
    refine stp_val 57 (Operand.tmp 54) 24 #[Operand.tmp 55, Operand.tmp 56] #[28, 28] _ (mul_any A C _ HA.out HC.out) rfl rfl rfl rfl rfl Try.func24 (by kernel_rfl) (by kernel_rfl) (by go_simp) ?_
    rintro e w57 ⟨rfl, b57⟩
    replace B := B.trans (Below.mono b57 (HGS.out _ B))
    replace rt7 := World.rowIs.of_block rt7 (b57.block _ (World.rowIs.lt rt7))
    replace rt8 := World.rowIs.of_block rt8 (b57.block _ (World.rowIs.lt rt8))
    replace rt9 := World.rowIs.of_block rt9 (b57.block _ (World.rowIs.lt rt9))
    replace rt10 := World.rowIs.of_block rt10 (b57.block _ (World.rowIs.lt rt10))
    refine ⟨_, rfl, b57, ?_⟩
    simp only [Act.put, List.setIfInBounds_toArray, List.set_cons_zero, List.set_cons_succ, Nat.zero_add]
    refine stp_val 61 (Operand.tmp 58) 24 #[Operand.tmp 59, Operand.tmp 60] #[28, 28] _ (mul_any C A _ HC.out HA.out) rfl rfl rfl rfl rfl Try.func24 (by kernel_rfl) (by kernel_rfl) (by go_simp) ?_
    rintro e w61 ⟨rfl, b61⟩
    replace B := B.trans (Below.mono b61 (HGS.out _ B))
    replace rt7 := World.rowIs.of_block rt7 (b61.block _ (World.rowIs.lt rt7))
    replace rt8 := World.rowIs.of_block rt8 (b61.block _ (World.rowIs.lt rt8))
    replace rt9 := World.rowIs.of_block rt9 (b61.block _ (World.rowIs.lt rt9))
    replace rt10 := World.rowIs.of_block rt10 (b61.block _ (World.rowIs.lt rt10))
    refine ⟨_, rfl, b61, ?_⟩
    simp only [Act.put, List.setIfInBounds_toArray, List.set_cons_zero, List.set_cons_succ, Nat.zero_add]
    refine stp_fn 62 28 #[Operand.tmp 57, Operand.tmp 61] #[28, 28] _ (same5_yes (mulP A C) (mulP C A) _ (mulP_lt _ _) (mulP_lt _ _) (mulP_comm A C)) rfl rfl rfl rfl Try.func28 (by kernel_rfl) (by kernel_rfl) (by go_simp) ?_
    rintro e w62 ⟨rfl, b62⟩
    replace B := B.trans (Below.mono b62 (HGS.out _ B))
    replace rt7 := World.rowIs.of_block rt7 (b62.block _ (World.rowIs.lt rt7))
    replace rt8 := World.rowIs.of_block rt8 (b62.block _ (World.rowIs.lt rt8))
    replace rt9 := World.rowIs.of_block rt9 (b62.block _ (World.rowIs.lt rt9))
    replace rt10 := World.rowIs.of_block rt10 (b62.block _ (World.rowIs.lt rt10))
    refine ⟨_, rfl, b62, ?_⟩
    simp only [Act.put, List.setIfInBounds_toArray, List.set_cons_zero, List.set_cons_succ, Nat.zero_add]
    refine lint_pure 63 (Op.move (Operand.tmp 62)) 4 _ rfl rfl rfl rfl rfl (fun w0 hb0 => by unfold mkOp; go_simp; all_goals (with_reducible rfl)) ?_
    simp only [Act.put, List.setIfInBounds_toArray, List.set_cons_zero, List.set_cons_succ, Nat.zero_add]
    refine lint_pure 64 (Op.move (Operand.tmp 11)) 51 _ rfl rfl rfl rfl rfl (fun w0 hb0 => by unfold mkOp; go_simp; all_goals (with_reducible rfl)) ?_
    simp only [Act.put, List.setIfInBounds_toArray, List.set_cons_zero, List.set_cons_succ, Nat.zero_add]
    refine lint_pure 65 (Op.load 28 (Operand.tmp 7)) 28 (.agg (arrOf 4 fun i => ewF A (0 + i))) rfl rfl rfl rfl rfl (fun w0 hb0 => by exact exec_load_arr _ _ _ _ rfl arrE (World.rowIs.of_block rt7 (hb0.block _ (World.rowIs.lt rt7))) (by omega)) ?_
    simp only [Act.put, List.setIfInBounds_toArray, List.set_cons_zero, List.set_cons_succ, Nat.zero_add]
    refine lint_pure 66 (Op.load 28 (Operand.tmp 8)) 28 (.agg (arrOf 4 fun i => ewF C (0 + i))) rfl rfl rfl rfl rfl (fun w0 hb0 => by exact exec_load_arr _ _ _ _ rfl arrE (World.rowIs.of_block rt8 (hb0.block _ (World.rowIs.lt rt8))) (by omega)) ?_
    simp only [Act.put, List.setIfInBounds_toArray, List.set_cons_zero, List.set_cons_succ, Nat.zero_add]
    refine lint_pure 67 (Op.load 28 (Operand.tmp 9)) 28 (.agg (arrOf 4 fun i => ewF D (0 + i))) rfl rfl rfl rfl rfl (fun w0 hb0 => by exact exec_load_arr _ _ _ _ rfl arrE (World.rowIs.of_block rt9 (hb0.block _ (World.rowIs.lt rt9))) (by omega)) ?_
    simp only [Act.put, List.setIfInBounds_toArray, List.set_cons_zero, List.set_cons_succ, Nat.zero_add]
    refine lint_pure 70 (Op.move (Operand.tmp 11)) 51 _ rfl rfl rfl rfl rfl (fun w0 hb0 => by unfold mkOp; go_simp; all_goals (with_reducible rfl)) ?_
    simp only [Act.put, List.setIfInBounds_toArray, List.set_cons_zero, List.set_cons_succ, Nat.zero_add]
    refine lint_pure 71 (Op.load 28 (Operand.tmp 7)) 28 (.agg (arrOf 4 fun i => ewF A (0 + i))) rfl rfl rfl rfl rfl (fun w0 hb0 => by exact exec_load_arr _ _ _ _ rfl arrE (World.rowIs.of_block rt7 (hb0.block _ (World.rowIs.lt rt7))) (by omega)) ?_
    simp only [Act.put, List.setIfInBounds_toArray, List.set_cons_zero, List.set_cons_succ, Nat.zero_add]
    refine lint_pure 72 (Op.load 28 (Operand.tmp 8)) 28 (.agg (arrOf 4 fun i => ewF C (0 + i))) rfl rfl rfl rfl rfl (fun w0 hb0 => by exact exec_load_arr _ _ _ _ rfl arrE (World.rowIs.of_block rt8 (hb0.block _ (World.rowIs.lt rt8))) (by omega)) ?_
    simp only [Act.put, List.setIfInBounds_toArray, List.set_cons_zero, List.set_cons_succ, Nat.zero_add]
    refine lint_pure 74 (Op.move (Operand.tmp 11)) 51 _ rfl rfl rfl rfl rfl (fun w0 hb0 => by unfold mkOp; go_simp; all_goals (with_reducible rfl)) ?_
    simp only [Act.put, List.setIfInBounds_toArray, List.set_cons_zero, List.set_cons_succ, Nat.zero_add]
    refine lint_pure 75 (Op.load 28 (Operand.tmp 7)) 28 (.agg (arrOf 4 fun i => ewF A (0 + i))) rfl rfl rfl rfl rfl (fun w0 hb0 => by exact exec_load_arr _ _ _ _ rfl arrE (World.rowIs.of_block rt7 (hb0.block _ (World.rowIs.lt rt7))) (by omega)) ?_
    simp only [Act.put, List.setIfInBounds_toArray, List.set_cons_zero, List.set_cons_succ, Nat.zero_add]
    refine lint_pure 76 (Op.load 28 (Operand.tmp 9)) 28 (.agg (arrOf 4 fun i => ewF D (0 + i))) rfl rfl rfl rfl rfl (fun w0 hb0 => by exact exec_load_arr _ _ _ _ rfl arrE (World.rowIs.of_block rt9 (hb0.block _ (World.rowIs.lt rt9))) (by omega)) ?_
    simp only [Act.put, List.setIfInBounds_toArray, List.set_cons_zero, List.set_cons_succ, Nat.zero_add]
    refine stp_fn 68 20 #[Operand.tmp 66, Operand.tmp 67] #[28, 28] _ (add_any C D _ HC.out HD.out) rfl rfl rfl rfl Try.func20 (by kernel_rfl) (by kernel_rfl) (by go_simp) ?_
    rintro e w68 ⟨rfl, b68⟩
    replace B := B.trans (Below.mono b68 (HGS.out _ B))
    replace rt7 := World.rowIs.of_block rt7 (b68.block _ (World.rowIs.lt rt7))
    replace rt8 := World.rowIs.of_block rt8 (b68.block _ (World.rowIs.lt rt8))
    replace rt9 := World.rowIs.of_block rt9 (b68.block _ (World.rowIs.lt rt9))
    replace rt10 := World.rowIs.of_block rt10 (b68.block _ (World.rowIs.lt rt10))
    refine ⟨_, rfl, b68, ?_⟩
    simp only [Act.put, List.setIfInBounds_toArray, List.set_cons_zero, List.set_cons_succ, Nat.zero_add]
    refine stp_val 69 (Operand.tmp 64) 24 #[Operand.tmp 65, Operand.tmp 68] #[28, 28] _ (mul_any A (addP C D) _ HA.out (addP_lt _ _)) rfl rfl rfl rfl rfl Try.func24 (by kernel_rfl) (by kernel_rfl) (by go_simp) ?_
    rintro e w69 ⟨rfl, b69⟩
    replace B := B.trans (Below.mono b69 (HGS.out _ B))
    replace rt7 := World.rowIs.of_block rt7 (b69.block _ (World.rowIs.lt rt7))
    replace rt8 := World.rowIs.of_block rt8 (b69.block _ (World.rowIs.lt rt8))
    replace rt9 := World.rowIs.of_block rt9 (b69.block _ (World.rowIs.lt rt9))
    replace rt10 := World.rowIs.of_block rt10 (b69.block _ (World.rowIs.lt rt10))
    refine ⟨_, rfl, b69, ?_⟩
    simp only [Act.put, List.setIfInBounds_toArray, List.set_cons_zero, List.set_cons_succ, Nat.zero_add]
    refine stp_val 73 (Operand.tmp 70) 24 #[Operand.tmp 71, Operand.tmp 72] #[28, 28] _ (mul_any A C _ HA.out HC.out) rfl rfl rfl rfl rfl Try.func24 (by kernel_rfl) (by kernel_rfl) (by go_simp) ?_
    rintro e w73 ⟨rfl, b73⟩
    replace B := B.trans (Below.mono b73 (HGS.out _ B))
    replace rt7 := World.rowIs.of_block rt7 (b73.block _ (World.rowIs.lt rt7))
    replace rt8 := World.rowIs.of_block rt8 (b73.block _ (World.rowIs.lt rt8))
    replace rt9 := World.rowIs.of_block rt9 (b73.block _ (World.rowIs.lt rt9))
    replace rt10 := World.rowIs.of_block rt10 (b73.block _ (World.rowIs.lt rt10))
    refine ⟨_, rfl, b73, ?_⟩
    simp only [Act.put, List.setIfInBounds_toArray, List.set_cons_zero, List.set_cons_succ, Nat.zero_add]
    refine stp_val 77 (Operand.tmp 74) 24 #[Operand.tmp 75, Operand.tmp 76] #[28, 28] _ (mul_any A D _ HA.out HD.out) rfl rfl rfl rfl rfl Try.func24 (by kernel_rfl) (by kernel_rfl) (by go_simp) ?_
    rintro e w77 ⟨rfl, b77⟩
    replace B := B.trans (Below.mono b77 (HGS.out _ B))
    replace rt7 := World.rowIs.of_block rt7 (b77.block _ (World.rowIs.lt rt7))
    replace rt8 := World.rowIs.of_block rt8 (b77.block _ (World.rowIs.lt rt8))
    replace rt9 := World.rowIs.of_block rt9 (b77.block _ (World.rowIs.lt rt9))
    replace rt10 := World.rowIs.of_block rt10 (b77.block _ (World.rowIs.lt rt10))
    refine ⟨_, rfl, b77, ?_⟩
    simp only [Act.put, List.setIfInBounds_toArray, List.set_cons_zero, List.set_cons_succ, Nat.zero_add]
    refine stp_fn 78 20 #[Operand.tmp 73, Operand.tmp 77] #[28, 28] _ (add_any (mulP A C) (mulP A D) _ (mulP_lt _ _) (mulP_lt _ _)) rfl rfl rfl rfl Try.func20 (by kernel_rfl) (by kernel_rfl) (by go_simp) ?_
    rintro e w78 ⟨rfl, b78⟩
    replace B := B.trans (Below.mono b78 (HGS.out _ B))
    replace rt7 := World.rowIs.of_block rt7 (b78.block _ (World.rowIs.lt rt7))
    replace rt8 := World.rowIs.of_block rt8 (b78.block _ (World.rowIs.lt rt8))
    replace rt9 := World.rowIs.of_block rt9 (b78.block _ (World.rowIs.lt rt9))
    replace rt10 := World.rowIs.of_block rt10 (b78.block _ (World.rowIs.lt rt10))
    refine ⟨_, rfl, b78, ?_⟩
    simp only [Act.put, List.setIfInBounds_toArray, List.set_cons_zero, List.set_cons_succ, Nat.zero_add]
    refine stp_fn 79 28 #[Operand.tmp 69, Operand.tmp 78] #[28, 28] _ (same5_yes (mulP A (addP C D)) (addP (mulP A C) (mulP A D)) _ (mulP_lt _ _) (addP_lt _ _) (mulP_add A C D)) rfl rfl rfl rfl Try.func28 (by kernel_rfl) (by kernel_rfl) (by go_simp) ?_
    rintro e w79 ⟨rfl, b79⟩
    replace B := B.trans (Below.mono b79 (HGS.out _ B))
    replace rt7 := World.rowIs.of_block rt7 (b79.block _ (World.rowIs.lt rt7))
    replace rt8 := World.rowIs.of_block rt8 (b79.block _ (World.rowIs.lt rt8))
    replace rt9 := World.rowIs.of_block rt9 (b79.block _ (World.rowIs.lt rt9))
    replace rt10 := World.rowIs.of_block rt10 (b79.block _ (World.rowIs.lt rt10))
    refine ⟨_, rfl, b79, ?_⟩
    simp only [Act.put, List.setIfInBounds_toArray, List.set_cons_zero, List.set_cons_succ, Nat.zero_add]
    refine lint_pure 80 (Op.pick (Operand.tmp 63) (Operand.tmp 79) (Operand.const (Value.bool false))) 4 _ rfl rfl rfl rfl rfl (fun w0 hb0 => by unfold mkOp; go_simp; all_goals (with_reducible rfl)) ?_
    simp only [Act.put, List.setIfInBounds_toArray, List.set_cons_zero, List.set_cons_succ, Nat.zero_add]
    refine lint_pure 81 (Op.move (Operand.tmp 80)) 4 _ rfl rfl rfl rfl rfl (fun w0 hb0 => by unfold mkOp; go_simp; all_goals (with_reducible rfl)) ?_
    simp only [Act.put, List.setIfInBounds_toArray, List.set_cons_zero, List.set_cons_succ, Nat.zero_add]
    refine lint_pure 82 (Op.move (Operand.tmp 11)) 51 _ rfl rfl rfl rfl rfl (fun w0 hb0 => by unfold mkOp; go_simp; all_goals (with_reducible rfl)) ?_
    simp only [Act.put, List.setIfInBounds_toArray, List.set_cons_zero, List.set_cons_succ, Nat.zero_add]
    refine lint_pure 83 (Op.move (Operand.tmp 11)) 51 _ rfl rfl rfl rfl rfl (fun w0 hb0 => by unfold mkOp; go_simp; all_goals (with_reducible rfl)) ?_
    simp only [Act.put, List.setIfInBounds_toArray, List.set_cons_zero, List.set_cons_succ, Nat.zero_add]
    refine lint_pure 84 (Op.load 28 (Operand.tmp 7)) 28 (.agg (arrOf 4 fun i => ewF A (0 + i))) rfl rfl rfl rfl rfl (fun w0 hb0 => by exact exec_load_arr _ _ _ _ rfl arrE (World.rowIs.of_block rt7 (hb0.block _ (World.rowIs.lt rt7))) (by omega)) ?_
    simp only [Act.put, List.setIfInBounds_toArray, List.set_cons_zero, List.set_cons_succ, Nat.zero_add]
    refine lint_pure 85 (Op.load 28 (Operand.tmp 8)) 28 (.agg (arrOf 4 fun i => ewF C (0 + i))) rfl rfl rfl rfl rfl (fun w0 hb0 => by exact exec_load_arr _ _ _ _ rfl arrE (World.rowIs.of_block rt8 (hb0.block _ (World.rowIs.lt rt8))) (by omega)) ?_
    simp only [Act.put, List.setIfInBounds_toArray, List.set_cons_zero, List.set_cons_succ, Nat.zero_add]
    refine lint_pure 87 (Op.load 28 (Operand.tmp 9)) 28 (.agg (arrOf 4 fun i => ewF D (0 + i))) rfl rfl rfl rfl rfl (fun w0 hb0 => by exact exec_load_arr _ _ _ _ rfl arrE (World.rowIs.of_block rt9 (hb0.block _ (World.rowIs.lt rt9))) (by omega)) ?_
    simp only [Act.put, List.setIfInBounds_toArray, List.set_cons_zero, List.set_cons_succ, Nat.zero_add]
    refine lint_pure 89 (Op.move (Operand.tmp 11)) 51 _ rfl rfl rfl rfl rfl (fun w0 hb0 => by unfold mkOp; go_simp; all_goals (with_reducible rfl)) ?_
    simp only [Act.put, List.setIfInBounds_toArray, List.set_cons_zero, List.set_cons_succ, Nat.zero_add]
    refine lint_pure 90 (Op.load 28 (Operand.tmp 7)) 28 (.agg (arrOf 4 fun i => ewF A (0 + i))) rfl rfl rfl rfl rfl (fun w0 hb0 => by exact exec_load_arr _ _ _ _ rfl arrE (World.rowIs.of_block rt7 (hb0.block _ (World.rowIs.lt rt7))) (by omega)) ?_
    simp only [Act.put, List.setIfInBounds_toArray, List.set_cons_zero, List.set_cons_succ, Nat.zero_add]
    refine lint_pure 91 (Op.move (Operand.tmp 11)) 51 _ rfl rfl rfl rfl rfl (fun w0 hb0 => by unfold mkOp; go_simp; all_goals (with_reducible rfl)) ?_
    simp only [Act.put, List.setIfInBounds_toArray, List.set_cons_zero, List.set_cons_succ, Nat.zero_add]
    refine lint_pure 92 (Op.load 28 (Operand.tmp 8)) 28 (.agg (arrOf 4 fun i => ewF C (0 + i))) rfl rfl rfl rfl rfl (fun w0 hb0 => by exact exec_load_arr _ _ _ _ rfl arrE (World.rowIs.of_block rt8 (hb0.block _ (World.rowIs.lt rt8))) (by omega)) ?_
    simp only [Act.put, List.setIfInBounds_toArray, List.set_cons_zero, List.set_cons_succ, Nat.zero_add]
    refine lint_pure 93 (Op.load 28 (Operand.tmp 9)) 28 (.agg (arrOf 4 fun i => ewF D (0 + i))) rfl rfl rfl rfl rfl (fun w0 hb0 => by exact exec_load_arr _ _ _ _ rfl arrE (World.rowIs.of_block rt9 (hb0.block _ (World.rowIs.lt rt9))) (by omega)) ?_
    simp only [Act.put, List.setIfInBounds_toArray, List.set_cons_zero, List.set_cons_succ, Nat.zero_add]
    refine stp_val 86 (Operand.tmp 83) 24 #[Operand.tmp 84, Operand.tmp 85] #[28, 28] _ (mul_any A C _ HA.out HC.out) rfl rfl rfl rfl rfl Try.func24 (by kernel_rfl) (by kernel_rfl) (by go_simp) ?_
    rintro e w86 ⟨rfl, b86⟩
    replace B := B.trans (Below.mono b86 (HGS.out _ B))
    replace rt7 := World.rowIs.of_block rt7 (b86.block _ (World.rowIs.lt rt7))
    replace rt8 := World.rowIs.of_block rt8 (b86.block _ (World.rowIs.lt rt8))
    replace rt9 := World.rowIs.of_block rt9 (b86.block _ (World.rowIs.lt rt9))
    replace rt10 := World.rowIs.of_block rt10 (b86.block _ (World.rowIs.lt rt10))
    refine ⟨_, rfl, b86, ?_⟩
    simp only [Act.put, List.setIfInBounds_toArray, List.set_cons_zero, List.set_cons_succ, Nat.zero_add]
    refine stp_val 88 (Operand.tmp 82) 24 #[Operand.tmp 86, Operand.tmp 87] #[28, 28] _ (mul_any (mulP A C) D _ (mulP_lt _ _) HD.out) rfl rfl rfl rfl rfl Try.func24 (by kernel_rfl) (by kernel_rfl) (by go_simp) ?_
    rintro e w88 ⟨rfl, b88⟩
    replace B := B.trans (Below.mono b88 (HGS.out _ B))
    replace rt7 := World.rowIs.of_block rt7 (b88.block _ (World.rowIs.lt rt7))
    replace rt8 := World.rowIs.of_block rt8 (b88.block _ (World.rowIs.lt rt8))
    replace rt9 := World.rowIs.of_block rt9 (b88.block _ (World.rowIs.lt rt9))
    replace rt10 := World.rowIs.of_block rt10 (b88.block _ (World.rowIs.lt rt10))
    refine ⟨_, rfl, b88, ?_⟩
    simp only [Act.put, List.setIfInBounds_toArray, List.set_cons_zero, List.set_cons_succ, Nat.zero_add]
    refine stp_val 94 (Operand.tmp 91) 24 #[Operand.tmp 92, Operand.tmp 93] #[28, 28] _ (mul_any C D _ HC.out HD.out) rfl rfl rfl rfl rfl Try.func24 (by kernel_rfl) (by kernel_rfl) (by go_simp) ?_
    rintro e w94 ⟨rfl, b94⟩
    replace B := B.trans (Below.mono b94 (HGS.out _ B))
    replace rt7 := World.rowIs.of_block rt7 (b94.block _ (World.rowIs.lt rt7))
    replace rt8 := World.rowIs.of_block rt8 (b94.block _ (World.rowIs.lt rt8))
    replace rt9 := World.rowIs.of_block rt9 (b94.block _ (World.rowIs.lt rt9))
    replace rt10 := World.rowIs.of_block rt10 (b94.block _ (World.rowIs.lt rt10))
    refine ⟨_, rfl, b94, ?_⟩
    simp only [Act.put, List.setIfInBounds_toArray, List.set_cons_zero, List.set_cons_succ, Nat.zero_add]
    refine stp_val 95 (Operand.tmp 89) 24 #[Operand.tmp 90, Operand.tmp 94] #[28, 28] _ (mul_any A (mulP C D) _ HA.out (mulP_lt _ _)) rfl rfl rfl rfl rfl Try.func24 (by kernel_rfl) (by kernel_rfl) (by go_simp) ?_
    rintro e w95 ⟨rfl, b95⟩
    replace B := B.trans (Below.mono b95 (HGS.out _ B))
    replace rt7 := World.rowIs.of_block rt7 (b95.block _ (World.rowIs.lt rt7))
    replace rt8 := World.rowIs.of_block rt8 (b95.block _ (World.rowIs.lt rt8))
    replace rt9 := World.rowIs.of_block rt9 (b95.block _ (World.rowIs.lt rt9))
    replace rt10 := World.rowIs.of_block rt10 (b95.block _ (World.rowIs.lt rt10))
    refine ⟨_, rfl, b95, ?_⟩
    simp only [Act.put, List.setIfInBounds_toArray, List.set_cons_zero, List.set_cons_succ, Nat.zero_add]
    refine stp_fn 96 28 #[Operand.tmp 88, Operand.tmp 95] #[28, 28] _ (same5_yes (mulP (mulP A C) D) (mulP A (mulP C D)) _ (mulP_lt _ _) (mulP_lt _ _) (mulP_assoc A C D)) rfl rfl rfl rfl Try.func28 (by kernel_rfl) (by kernel_rfl) (by go_simp) ?_
    rintro e w96 ⟨rfl, b96⟩
    replace B := B.trans (Below.mono b96 (HGS.out _ B))
    replace rt7 := World.rowIs.of_block rt7 (b96.block _ (World.rowIs.lt rt7))
    replace rt8 := World.rowIs.of_block rt8 (b96.block _ (World.rowIs.lt rt8))
    replace rt9 := World.rowIs.of_block rt9 (b96.block _ (World.rowIs.lt rt9))
    replace rt10 := World.rowIs.of_block rt10 (b96.block _ (World.rowIs.lt rt10))
    refine ⟨_, rfl, b96, ?_⟩
    simp only [Act.put, List.setIfInBounds_toArray, List.set_cons_zero, List.set_cons_succ, Nat.zero_add]
    refine lint_pure 97 (Op.pick (Operand.tmp 81) (Operand.tmp 96) (Operand.const (Value.bool false))) 4 _ rfl rfl rfl rfl rfl (fun w0 hb0 => by unfold mkOp; go_simp; all_goals (with_reducible rfl)) ?_
    simp only [Act.put, List.setIfInBounds_toArray, List.set_cons_zero, List.set_cons_succ, Nat.zero_add]
    refine lint_pure 98 (Op.move (Operand.tmp 97)) 4 _ rfl rfl rfl rfl rfl (fun w0 hb0 => by unfold mkOp; go_simp; all_goals (with_reducible rfl)) ?_
    simp only [Act.put, List.setIfInBounds_toArray, List.set_cons_zero, List.set_cons_succ, Nat.zero_add]
    refine lint_pure 99 (Op.load 28 (Operand.tmp 7)) 28 (.agg (arrOf 4 fun i => ewF A (0 + i))) rfl rfl rfl rfl rfl (fun w0 hb0 => by exact exec_load_arr _ _ _ _ rfl arrE (World.rowIs.of_block rt7 (hb0.block _ (World.rowIs.lt rt7))) (by omega)) ?_
    simp only [Act.put, List.setIfInBounds_toArray, List.set_cons_zero, List.set_cons_succ, Nat.zero_add]
    refine lint_pure 100 (Op.load 28 (Operand.tmp 8)) 28 (.agg (arrOf 4 fun i => ewF C (0 + i))) rfl rfl rfl rfl rfl (fun w0 hb0 => by exact exec_load_arr _ _ _ _ rfl arrE (World.rowIs.of_block rt8 (hb0.block _ (World.rowIs.lt rt8))) (by omega)) ?_
    simp only [Act.put, List.setIfInBounds_toArray, List.set_cons_zero, List.set_cons_succ, Nat.zero_add]
    refine lint_pure 102 (Op.load 28 (Operand.tmp 8)) 28 (.agg (arrOf 4 fun i => ewF C (0 + i))) rfl rfl rfl rfl rfl (fun w0 hb0 => by exact exec_load_arr _ _ _ _ rfl arrE (World.rowIs.of_block rt8 (hb0.block _ (World.rowIs.lt rt8))) (by omega)) ?_
    simp only [Act.put, List.setIfInBounds_toArray, List.set_cons_zero, List.set_cons_succ, Nat.zero_add]
    refine lint_pure 104 (Op.load 28 (Operand.tmp 7)) 28 (.agg (arrOf 4 fun i => ewF A (0 + i))) rfl rfl rfl rfl rfl (fun w0 hb0 => by exact exec_load_arr _ _ _ _ rfl arrE (World.rowIs.of_block rt7 (hb0.block _ (World.rowIs.lt rt7))) (by omega)) ?_
    simp only [Act.put, List.setIfInBounds_toArray, List.set_cons_zero, List.set_cons_succ, Nat.zero_add]
    refine stp_fn 101 22 #[Operand.tmp 99, Operand.tmp 100] #[28, 28] _ (sub_any A C _ HA.out HC.out) rfl rfl rfl rfl Try.func22 (by kernel_rfl) (by kernel_rfl) (by go_simp) ?_
    rintro e w101 ⟨rfl, b101⟩
    replace B := B.trans (Below.mono b101 (HGS.out _ B))
    replace rt7 := World.rowIs.of_block rt7 (b101.block _ (World.rowIs.lt rt7))
    replace rt8 := World.rowIs.of_block rt8 (b101.block _ (World.rowIs.lt rt8))
    replace rt9 := World.rowIs.of_block rt9 (b101.block _ (World.rowIs.lt rt9))
    replace rt10 := World.rowIs.of_block rt10 (b101.block _ (World.rowIs.lt rt10))
    refine ⟨_, rfl, b101, ?_⟩
    simp only [Act.put, List.setIfInBounds_toArray, List.set_cons_zero, List.set_cons_succ, Nat.zero_add]
    refine stp_fn 103 20 #[Operand.tmp 101, Operand.tmp 102] #[28, 28] _ (add_any (subP p25 A C) C _ (subP_lt _ _) HC.out) rfl rfl rfl rfl Try.func20 (by kernel_rfl) (by kernel_rfl) (by go_simp) ?_
    rintro e w103 ⟨rfl, b103⟩
    replace B := B.trans (Below.mono b103 (HGS.out _ B))
    replace rt7 := World.rowIs.of_block rt7 (b103.block _ (World.rowIs.lt rt7))
    replace rt8 := World.rowIs.of_block rt8 (b103.block _ (World.rowIs.lt rt8))
    replace rt9 := World.rowIs.of_block rt9 (b103.block _ (World.rowIs.lt rt9))
    replace rt10 := World.rowIs.of_block rt10 (b103.block _ (World.rowIs.lt rt10))
    refine ⟨_, rfl, b103, ?_⟩
    simp only [Act.put, List.setIfInBounds_toArray, List.set_cons_zero, List.set_cons_succ, Nat.zero_add]
    refine stp_fn 105 28 #[Operand.tmp 103, Operand.tmp 104] #[28, 28] _ (same5_yes (addP (subP p25 A C) C) A _ (addP_lt _ _) HA.out (subP_add A C HA.out)) rfl rfl rfl rfl Try.func28 (by kernel_rfl) (by kernel_rfl) (by go_simp) ?_
    rintro e w105 ⟨rfl, b105⟩
    replace B := B.trans (Below.mono b105 (HGS.out _ B))
    replace rt7 := World.rowIs.of_block rt7 (b105.block _ (World.rowIs.lt rt7))
    replace rt8 := World.rowIs.of_block rt8 (b105.block _ (World.rowIs.lt rt8))
    replace rt9 := World.rowIs.of_block rt9 (b105.block _ (World.rowIs.lt rt9))
    replace rt10 := World.rowIs.of_block rt10 (b105.block _ (World.rowIs.lt rt10))
    refine ⟨_, rfl, b105, ?_⟩
    simp only [Act.put, List.setIfInBounds_toArray, List.set_cons_zero, List.set_cons_succ, Nat.zero_add]
    refine lint_pure 106 (Op.pick (Operand.tmp 98) (Operand.tmp 105) (Operand.const (Value.bool false))) 4 _ rfl rfl rfl rfl rfl (fun w0 hb0 => by unfold mkOp; go_simp; all_goals (with_reducible rfl)) ?_
    simp only [Act.put, List.setIfInBounds_toArray, List.set_cons_zero, List.set_cons_succ, Nat.zero_add]
    refine lint_pure 107 (Op.move (Operand.tmp 106)) 4 _ rfl rfl rfl rfl rfl (fun w0 hb0 => by unfold mkOp; go_simp; all_goals (with_reducible rfl)) ?_
    simp only [Act.put, List.setIfInBounds_toArray, List.set_cons_zero, List.set_cons_succ, Nat.zero_add]
    refine lint_pure 108 (Op.load 28 (Operand.tmp 7)) 28 (.agg (arrOf 4 fun i => ewF A (0 + i))) rfl rfl rfl rfl rfl (fun w0 hb0 => by exact exec_load_arr _ _ _ _ rfl arrE (World.rowIs.of_block rt7 (hb0.block _ (World.rowIs.lt rt7))) (by omega)) ?_
    simp only [Act.put, List.setIfInBounds_toArray, List.set_cons_zero, List.set_cons_succ, Nat.zero_add]
    refine lint_pure 109 (Op.load 28 (Operand.tmp 7)) 28 (.agg (arrOf 4 fun i => ewF A (0 + i))) rfl rfl rfl rfl rfl (fun w0 hb0 => by exact exec_load_arr _ _ _ _ rfl arrE (World.rowIs.of_block rt7 (hb0.block _ (World.rowIs.lt rt7))) (by omega)) ?_
    simp only [Act.put, List.setIfInBounds_toArray, List.set_cons_zero, List.set_cons_succ, Nat.zero_add]
    refine stp_fn 110 26 #[Operand.tmp 109] #[28] _ (neg_any A _ HA.out) rfl rfl rfl rfl Try.func26 (by kernel_rfl) (by kernel_rfl) (by go_simp) ?_
    rintro e w110 ⟨rfl, b110⟩
    replace B := B.trans (Below.mono b110 (HGS.out _ B))
    replace rt7 := World.rowIs.of_block rt7 (b110.block _ (World.rowIs.lt rt7))
    replace rt8 := World.rowIs.of_block rt8 (b110.block _ (World.rowIs.lt rt8))
    replace rt9 := World.rowIs.of_block rt9 (b110.block _ (World.rowIs.lt rt9))
    replace rt10 := World.rowIs.of_block rt10 (b110.block _ (World.rowIs.lt rt10))
    refine ⟨_, rfl, b110, ?_⟩
    simp only [Act.put, List.setIfInBounds_toArray, List.set_cons_zero, List.set_cons_succ, Nat.zero_add]
    refine stp_fn 111 20 #[Operand.tmp 108, Operand.tmp 110] #[28, 28] _ (add_any A (oppP A) _ HA.out (oppP_lt _)) rfl rfl rfl rfl Try.func20 (by kernel_rfl) (by kernel_rfl) (by go_simp) ?_
    rintro e w111 ⟨rfl, b111⟩
    replace B := B.trans (Below.mono b111 (HGS.out _ B))
    replace rt7 := World.rowIs.of_block rt7 (b111.block _ (World.rowIs.lt rt7))
    replace rt8 := World.rowIs.of_block rt8 (b111.block _ (World.rowIs.lt rt8))
    replace rt9 := World.rowIs.of_block rt9 (b111.block _ (World.rowIs.lt rt9))
    replace rt10 := World.rowIs.of_block rt10 (b111.block _ (World.rowIs.lt rt10))
    refine ⟨_, rfl, b111, ?_⟩
    simp only [Act.put, List.setIfInBounds_toArray, List.set_cons_zero, List.set_cons_succ, Nat.zero_add]
    refine stp_fn 112 18 #[Operand.const (Value.int IntKind.u64 0)] #[23] _ (small_any 0 _ (by decide)) rfl rfl rfl rfl Try.func18 (by kernel_rfl) (by kernel_rfl) (by go_simp) ?_
    rintro e w112 ⟨rfl, b112⟩
    replace B := B.trans (Below.mono b112 (HGS.out _ B))
    replace rt7 := World.rowIs.of_block rt7 (b112.block _ (World.rowIs.lt rt7))
    replace rt8 := World.rowIs.of_block rt8 (b112.block _ (World.rowIs.lt rt8))
    replace rt9 := World.rowIs.of_block rt9 (b112.block _ (World.rowIs.lt rt9))
    replace rt10 := World.rowIs.of_block rt10 (b112.block _ (World.rowIs.lt rt10))
    refine ⟨_, rfl, b112, ?_⟩
    simp only [Act.put, List.setIfInBounds_toArray, List.set_cons_zero, List.set_cons_succ, Nat.zero_add]
    refine stp_fn 113 28 #[Operand.tmp 111, Operand.tmp 112] #[28, 28] _ (same5_yes (addP A (oppP A)) 0 _ (addP_lt _ _) (by decide +kernel) (add_oppP A)) rfl rfl rfl rfl Try.func28 (by kernel_rfl) (by kernel_rfl) (by go_simp) ?_
    rintro e w113 ⟨rfl, b113⟩
    replace B := B.trans (Below.mono b113 (HGS.out _ B))
    replace rt7 := World.rowIs.of_block rt7 (b113.block _ (World.rowIs.lt rt7))
    replace rt8 := World.rowIs.of_block rt8 (b113.block _ (World.rowIs.lt rt8))
    replace rt9 := World.rowIs.of_block rt9 (b113.block _ (World.rowIs.lt rt9))
    replace rt10 := World.rowIs.of_block rt10 (b113.block _ (World.rowIs.lt rt10))
    refine ⟨_, rfl, b113, ?_⟩
    simp only [Act.put, List.setIfInBounds_toArray, List.set_cons_zero, List.set_cons_succ, Nat.zero_add]
    refine lint_pure 114 (Op.pick (Operand.tmp 107) (Operand.tmp 113) (Operand.const (Value.bool false))) 4 _ rfl rfl rfl rfl rfl (fun w0 hb0 => by unfold mkOp; go_simp; all_goals (with_reducible rfl)) ?_
    simp only [Act.put, List.setIfInBounds_toArray, List.set_cons_zero, List.set_cons_succ, Nat.zero_add]
    refine lint_pure 115 (Op.move (Operand.tmp 114)) 4 _ rfl rfl rfl rfl rfl (fun w0 hb0 => by unfold mkOp; go_simp; all_goals (with_reducible rfl)) ?_
    simp only [Act.put, List.setIfInBounds_toArray, List.set_cons_zero, List.set_cons_succ, Nat.zero_add]
    refine lint_pure 116 (Op.move (Operand.tmp 11)) 51 _ rfl rfl rfl rfl rfl (fun w0 hb0 => by unfold mkOp; go_simp; all_goals (with_reducible rfl)) ?_
    simp only [Act.put, List.setIfInBounds_toArray, List.set_cons_zero, List.set_cons_succ, Nat.zero_add]
    refine lint_pure 117 (Op.load 28 (Operand.tmp 7)) 28 (.agg (arrOf 4 fun i => ewF A (0 + i))) rfl rfl rfl rfl rfl (fun w0 hb0 => by exact exec_load_arr _ _ _ _ rfl arrE (World.rowIs.of_block rt7 (hb0.block _ (World.rowIs.lt rt7))) (by omega)) ?_
    simp only [Act.put, List.setIfInBounds_toArray, List.set_cons_zero, List.set_cons_succ, Nat.zero_add]
    refine lint_pure 118 (Op.load 28 (Operand.tmp 10)) 28 (.agg (arrOf 4 fun i => ewF 1 (0 + i))) rfl rfl rfl rfl rfl (fun w0 hb0 => by exact exec_load_arr _ _ _ _ rfl arrE (World.rowIs.of_block rt10 (hb0.block _ (World.rowIs.lt rt10))) (by omega)) ?_
    simp only [Act.put, List.setIfInBounds_toArray, List.set_cons_zero, List.set_cons_succ, Nat.zero_add]
    refine lint_pure 120 (Op.load 28 (Operand.tmp 7)) 28 (.agg (arrOf 4 fun i => ewF A (0 + i))) rfl rfl rfl rfl rfl (fun w0 hb0 => by exact exec_load_arr _ _ _ _ rfl arrE (World.rowIs.of_block rt7 (hb0.block _ (World.rowIs.lt rt7))) (by omega)) ?_
    simp only [Act.put, List.setIfInBounds_toArray, List.set_cons_zero, List.set_cons_succ, Nat.zero_add]
    refine stp_val 119 (Operand.tmp 116) 24 #[Operand.tmp 117, Operand.tmp 118] #[28, 28] _ (mul_any A 1 _ HA.out (by decide +kernel)) rfl rfl rfl rfl rfl Try.func24 (by kernel_rfl) (by kernel_rfl) (by go_simp) ?_
    rintro e w119 ⟨rfl, b119⟩
    replace B := B.trans (Below.mono b119 (HGS.out _ B))
    replace rt7 := World.rowIs.of_block rt7 (b119.block _ (World.rowIs.lt rt7))
    replace rt8 := World.rowIs.of_block rt8 (b119.block _ (World.rowIs.lt rt8))
    replace rt9 := World.rowIs.of_block rt9 (b119.block _ (World.rowIs.lt rt9))
    replace rt10 := World.rowIs.of_block rt10 (b119.block _ (World.rowIs.lt rt10))
    refine ⟨_, rfl, b119, ?_⟩
    simp only [Act.put, List.setIfInBounds_toArray, List.set_cons_zero, List.set_cons_succ, Nat.zero_add]
    refine stp_fn 121 28 #[Operand.tmp 119, Operand.tmp 120] #[28, 28] _ (same5_yes (mulP A 1) A _ (mulP_lt _ _) HA.out (mulP_one A HA.out)) rfl rfl rfl rfl Try.func28 (by kernel_rfl) (by kernel_rfl) (by go_simp) ?_
    rintro e w121 ⟨rfl, b121⟩
    replace B := B.trans (Below.mono b121 (HGS.out _ B))
    replace rt7 := World.rowIs.of_block rt7 (b121.block _ (World.rowIs.lt rt7))
    replace rt8 := World.rowIs.of_block rt8 (b121.block _ (World.rowIs.lt rt8))
    replace rt9 := World.rowIs.of_block rt9 (b121.block _ (World.rowIs.lt rt9))
    replace rt10 := World.rowIs.of_block rt10 (b121.block _ (World.rowIs.lt rt10))
    refine ⟨_, rfl, b121, ?_⟩
    simp only [Act.put, List.setIfInBounds_toArray, List.set_cons_zero, List.set_cons_succ, Nat.zero_add]
    refine lint_pure 122 (Op.pick (Operand.tmp 115) (Operand.tmp 121) (Operand.const (Value.bool false))) 4 _ rfl rfl rfl rfl rfl (fun w0 hb0 => by unfold mkOp; go_simp; all_goals (with_reducible rfl)) ?_
    simp only [Act.put, List.setIfInBounds_toArray, List.set_cons_zero, List.set_cons_succ, Nat.zero_add]
    refine lint_pure 123 (Op.move (Operand.tmp 122)) 4 _ rfl rfl rfl rfl rfl (fun w0 hb0 => by unfold mkOp; go_simp; all_goals (with_reducible rfl)) ?_
    simp only [Act.put, List.setIfInBounds_toArray, List.set_cons_zero, List.set_cons_succ, Nat.zero_add]
    refine stp_fn 124 12 #[] #[] _ (awake5_any _) rfl rfl rfl rfl Try.func12 (by kernel_rfl) (by kernel_rfl) (by go_simp) ?_
    rintro e w124 ⟨rfl, b124⟩
    replace B := B.trans (Below.mono b124 (HGS.out _ B))
    replace rt7 := World.rowIs.of_block rt7 (b124.block _ (World.rowIs.lt rt7))
    replace rt8 := World.rowIs.of_block rt8 (b124.block _ (World.rowIs.lt rt8))
    replace rt9 := World.rowIs.of_block rt9 (b124.block _ (World.rowIs.lt rt9))
    replace rt10 := World.rowIs.of_block rt10 (b124.block _ (World.rowIs.lt rt10))
    refine ⟨_, rfl, b124, ?_⟩
    simp only [Act.put, List.setIfInBounds_toArray, List.set_cons_zero, List.set_cons_succ, Nat.zero_add]
    refine lint_pure 125 (Op.pick (Operand.tmp 123) (Operand.tmp 124) (Operand.const (Value.bool false))) 4 _ rfl rfl rfl rfl rfl (fun w0 hb0 => by unfold mkOp; go_simp; all_goals (with_reducible rfl)) ?_
    simp only [Act.put, List.setIfInBounds_toArray, List.set_cons_zero, List.set_cons_succ, Nat.zero_add]
    refine lint_pure 6 (Op.assign (Operand.tmp 125)) 4 _ rfl rfl rfl rfl rfl (fun w0 hb0 => by unfold mkOp; go_simp; all_goals (with_reducible rfl)) ?_
    simp only [Act.put, List.setIfInBounds_toArray, List.set_cons_zero, List.set_cons_succ, Nat.zero_add]
    refine lint_end ?_
    go_wp2
    go_ret
    exact ⟨rfl, B⟩
end Go.Proofs.Ythapdohblphlgaa
