/- FieldSquares, walked. -/
import Derived.Test.YthapdohblphlgaaEwL
namespace Go.Proofs.Ythapdohblphlgaa
open Go.RowKit Go.Deep

set_option maxHeartbeats 16000000 in
set_option maxRecDepth 100000 in
theorem law_fieldSquares (w : World) (v0 : Value) (l0 : List UInt8) (h0 : Bs w v0 l0) : Calls Try.prog 6 #[v0] w fun e w' => e = .returned (.bool true) ∧ Below w.heap.size w w' := by
  obtain ⟨a0, n0, c0, rfl, e0, f0, g0, hB0⟩ := h0.shape
  have H0 := Lib.hid hB0
  have HOF0 := Lib.hid fun v w (h : Bs w v l0) => of_any v l0 w h
  obtain ⟨A, hA⟩ := nat_var (ofL l0)
  have HA : Hid (A < p25) := Lib.hid (by rw [hA]; exact ofL_lt l0)
  rw [← hA] at HOF0
  clear hA
  have B0 := Below.refl w.heap.size w
  have HGS : Hid (∀ wq : World, Below w.heap.size w wq → w.heap.size ≤ wq.heap.size) := Lib.hid fun wq h => h.size
  obtain ⟨R, hr1, hr2, hr3, hr4, hr5⟩ := root_square A HA.out
  have HR : Hid (R < p25) := Lib.hid hr4
  have HR2 := Lib.hid hr2
  have HR3 : Hid (¬ R % 2 = 1) := Lib.hid (by omega)
  have HR5 := Lib.hid hr5
  have HRT : Hid (∀ w, Calls Try.prog 31 #[.agg (arrOf 4 (ewF (mulP A A)))] w fun e w' => e = .returned (.tuple #[.agg (arrOf 4 (ewF R)), .int .i64 0]) ∧ Below w.heap.size w w') := Lib.hid fun w => by
    have h := root_any (mulP A A) w (mulP_lt _ _)
    rw [hr1] at h
    exact h
  clear h0 hB0 e0 hr1 hr2 hr3 hr4 hr5
  go_enter Try.func6, Try.ntmps6
  by_cases d0 : (100 : Int) < (n0 : Int)
  · go_wp2_with (go_at_call 12; refine (awake5_any _).mono ?_; rintro e w9 ⟨rfl, hb9⟩)
    go_ret
    exact ⟨rfl, hb9⟩
  go_wp2_with (first
    | (go_at_call 13; have hgo := B0; clear hgo; refine (HOF0.out _ _ (H0.out.below B0 (Nat.le_refl _))).mono ?_; rintro e w1 ⟨rfl, hb1⟩
       have B1 := B0.trans (hb1.mono (HGS.out _ B0))
       clear B0 hb1
       have g2 := HGS.out _ B1
       try simp only [World.size_alloc] at g2
       have B2 := B1.alloc (HGS.out _ B1) (.cells (arrOf 4 (u64f fun _ => 0)) 28)
       have r2_t3 := rowIs_arr w1 4 (u64f fun _ => 0) 28
       try simp only [World.size_alloc] at r2_t3
       clear B1)
    | (refine wpList_alloc_arr rfl 28 rfl (arrOf 4 (u64f fun _ => 0)) zeroE ?_; try simp only [World.size_alloc])
    | (refine wpList_store_arr rfl 28 (.tmp 3) (.tmp 14) rfl 4 arrE r2_t3 rfl rfl (by omega) (fun _ _ => rfl) ?_; intro x3 hr3 hg3 hs3
       have r3_t3 : x3.rowIs (w1.heap.size) 28 4 (ewF A) := hr3.congr fun i hi => by unfold putN; rw [if_pos (by omega), Nat.sub_zero]
       have B3 := B2.grown hg3 (HGS.out _ B2) (by intro k hk; cases hk; exact g2)
       clear r2_t3 B2 hr3 hg3 hs3)
    | (refine wpList_load_arr rfl 28 (.tmp 3) rfl 4 arrE r3_t3 rfl (by omega) ?_; simp only [Nat.zero_add])
    | (go_at_call 24; have hgo := B3; clear hgo; refine (mul_any A A _ HA.out HA.out).mono ?_; rintro e w4 ⟨rfl, hb4⟩
       have r4_t3 := World.rowIs.of_block r3_t3 (hb4.block _ (World.rowIs.lt r3_t3))
       have B4 := B3.trans (hb4.mono (HGS.out _ B3))
       clear r3_t3 B3 hb4
       have lt5_t3 := World.rowIs.lt r4_t3
       try simp only [World.size_alloc] at lt5_t3
       have g5 := HGS.out _ B4
       try simp only [World.size_alloc] at g5
       have r5_t3 := World.rowIs.alloc r4_t3 (.cells (arrOf 4 (u64f fun _ => 0)) 28)
       have B5 := B4.alloc (HGS.out _ B4) (.cells (arrOf 4 (u64f fun _ => 0)) 28)
       have r5_t4 := rowIs_arr w4 4 (u64f fun _ => 0) 28
       try simp only [World.size_alloc] at r5_t4
       clear r4_t3 B4)
    | (refine wpList_store_arr rfl 28 (.tmp 4) (.tmp 17) rfl 4 arrE r5_t4 rfl rfl (by omega) (fun _ _ => rfl) ?_; intro x6 hr6 hg6 hs6
       have r6_t4 : x6.rowIs (w4.heap.size) 28 4 (ewF (mulP A A)) := hr6.congr fun i hi => by unfold putN; rw [if_pos (by omega), Nat.sub_zero]
       have r6_t3 := gb_rowIs r5_t3 hg6 (Nat.ne_of_lt lt5_t3)
       have B6 := B5.grown hg6 (HGS.out _ B5) (by intro k hk; cases hk; exact g5)
       clear r5_t4 r5_t3 B5 hr6 hg6 hs6)
    | (refine wpList_load_arr rfl 28 (.tmp 4) rfl 4 arrE r6_t4 rfl (by omega) ?_; simp only [Nat.zero_add])
    | (go_at_call 31; have hgo := B6; clear hgo; refine (HRT.out _).mono ?_; rintro e w7 ⟨rfl, hb7⟩
       have r7_t3 := World.rowIs.of_block r6_t3 (hb7.block _ (World.rowIs.lt r6_t3))
       have r7_t4 := World.rowIs.of_block r6_t4 (hb7.block _ (World.rowIs.lt r6_t4))
       have B7 := B6.trans (hb7.mono (HGS.out _ B6))
       clear r6_t3 r6_t4 B6 hb7
       have lt8_t3 := World.rowIs.lt r7_t3
       try simp only [World.size_alloc] at lt8_t3
       have lt8_t4 := World.rowIs.lt r7_t4
       try simp only [World.size_alloc] at lt8_t4
       have g8 := HGS.out _ B7
       try simp only [World.size_alloc] at g8
       have r8_t3 := World.rowIs.alloc r7_t3 (.cells (arrOf 4 (u64f fun _ => 0)) 28)
       have r8_t4 := World.rowIs.alloc r7_t4 (.cells (arrOf 4 (u64f fun _ => 0)) 28)
       have B8 := B7.alloc (HGS.out _ B7) (.cells (arrOf 4 (u64f fun _ => 0)) 28)
       have r8_t5 := rowIs_arr w7 4 (u64f fun _ => 0) 28
       try simp only [World.size_alloc] at r8_t5
       clear r7_t3 r7_t4 B7)
    | (refine wpList_store_arr rfl 28 (.tmp 5) (.tmp 21) rfl 4 arrE r8_t5 rfl rfl (by omega) (fun _ _ => rfl) ?_; intro x9 hr9 hg9 hs9
       have r9_t5 : x9.rowIs (w7.heap.size) 28 4 (ewF R) := hr9.congr fun i hi => by unfold putN; rw [if_pos (by omega), Nat.sub_zero]
       have r9_t3 := gb_rowIs r8_t3 hg9 (Nat.ne_of_lt lt8_t3)
       have r9_t4 := gb_rowIs r8_t4 hg9 (Nat.ne_of_lt lt8_t4)
       have B9 := B8.grown hg9 (HGS.out _ B8) (by intro k hk; cases hk; exact g8)
       clear r8_t5 r8_t3 r8_t4 B8 hr9 hg9 hs9))
  have B := B9.drew
  have rt3 := World.rowIs.drew r9_t3
  have rt4 := World.rowIs.drew r9_t4
  have rt5 := World.rowIs.drew r9_t5
  clear B9 r9_t3 r9_t4 r9_t5
  by_cases hra : R = A
  · refine wp_region_lint (.rd 0 (.rd 1 (.rd 2 (.rd 3 (.wr 4 (.rd 5 (.rd 6 (.rd 7 (.rd 8 (.rd 10 (.wr 9 (.wr 11 (.rd 12 (.rd 13 (.rd 14 (.rd 15 (.rd 16 (.wr 17 (.rd 18 (.rd 19 (.rd 20 (.rd 21 (.wr 22 (.wr 23 (.rd 24 (.rd 25 (.rd 26 .done))))))))))))))))))))))))))) (by kernel_rfl) (by kernel_rfl) (by decide) (by kernel_rfl) (fun d _ _ _ _ h => by cases d <;> exact h) ?_
    refine lint_pure 23 (Op.move (Operand.tmp 6)) 33 _ rfl rfl rfl rfl rfl (fun w0 hb0 => by unfold mkOp; go_simp; all_goals (with_reducible rfl)) ?_
    simp only [Act.put, List.setIfInBounds_toArray, List.set_cons_zero, List.set_cons_succ, Nat.zero_add]
    refine lint_pure 24 (Op.binOp BinOp.neq 33 (Operand.tmp 23) (Operand.const (Value.int IntKind.i64 0)) 33) 4 _ rfl rfl rfl rfl rfl (fun w0 hb0 => by unfold mkOp; go_simp; all_goals (with_reducible rfl)) ?_
    simp only [Act.put, List.setIfInBounds_toArray, List.set_cons_zero, List.set_cons_succ, Nat.zero_add]
    refine lint_pure 25 (Op.move (Operand.tmp 24)) 4 _ rfl rfl rfl rfl rfl (fun w0 hb0 => by unfold mkOp; go_simp; all_goals (with_reducible rfl)) ?_
    simp only [Act.put, List.setIfInBounds_toArray, List.set_cons_zero, List.set_cons_succ, Nat.zero_add]
    refine lint_pure 26 (Op.load 28 (Operand.tmp 5)) 28 (.agg (arrOf 4 fun i => ewF R (0 + i))) rfl rfl rfl rfl rfl (fun w0 hb0 => by exact exec_load_arr _ _ _ _ rfl arrE (World.rowIs.of_block rt5 (hb0.block _ (World.rowIs.lt rt5))) (by omega)) ?_
    simp only [Act.put, List.setIfInBounds_toArray, List.set_cons_zero, List.set_cons_succ, Nat.zero_add]
    refine stp_fn 27 29 #[Operand.tmp 26] #[28] _ (odd5_no R _ (HR3.out)) rfl rfl rfl rfl Try.func29 (by kernel_rfl) (by kernel_rfl) (by go_simp) ?_
    rintro e w27 ⟨rfl, b27⟩
    replace B := B.trans (Below.mono b27 (HGS.out _ B))
    replace rt3 := World.rowIs.of_block rt3 (b27.block _ (World.rowIs.lt rt3))
    replace rt4 := World.rowIs.of_block rt4 (b27.block _ (World.rowIs.lt rt4))
    replace rt5 := World.rowIs.of_block rt5 (b27.block _ (World.rowIs.lt rt5))
    refine ⟨_, rfl, b27, ?_⟩
    simp only [Act.put, List.setIfInBounds_toArray, List.set_cons_zero, List.set_cons_succ, Nat.zero_add]
    refine lint_pure 28 (Op.pick (Operand.tmp 25) (Operand.const (Value.bool true)) (Operand.tmp 27)) 4 _ rfl rfl rfl rfl rfl (fun w0 hb0 => by unfold mkOp; go_simp; all_goals (with_reducible rfl)) ?_
    simp only [Act.put, List.setIfInBounds_toArray, List.set_cons_zero, List.set_cons_succ, Nat.zero_add]
    refine lint_pure 29 (Op.move (Operand.tmp 28)) 4 _ rfl rfl rfl rfl rfl (fun w0 hb0 => by unfold mkOp; go_simp; all_goals (with_reducible rfl)) ?_
    simp only [Act.put, List.setIfInBounds_toArray, List.set_cons_zero, List.set_cons_succ, Nat.zero_add]
    refine lint_pure 30 (Op.load 28 (Operand.tmp 5)) 28 (.agg (arrOf 4 fun i => ewF R (0 + i))) rfl rfl rfl rfl rfl (fun w0 hb0 => by exact exec_load_arr _ _ _ _ rfl arrE (World.rowIs.of_block rt5 (hb0.block _ (World.rowIs.lt rt5))) (by omega)) ?_
    simp only [Act.put, List.setIfInBounds_toArray, List.set_cons_zero, List.set_cons_succ, Nat.zero_add]
    refine lint_pure 31 (Op.load 28 (Operand.tmp 5)) 28 (.agg (arrOf 4 fun i => ewF R (0 + i))) rfl rfl rfl rfl rfl (fun w0 hb0 => by exact exec_load_arr _ _ _ _ rfl arrE (World.rowIs.of_block rt5 (hb0.block _ (World.rowIs.lt rt5))) (by omega)) ?_
    simp only [Act.put, List.setIfInBounds_toArray, List.set_cons_zero, List.set_cons_succ, Nat.zero_add]
    refine lint_pure 33 (Op.load 28 (Operand.tmp 4)) 28 (.agg (arrOf 4 fun i => ewF (mulP A A) (0 + i))) rfl rfl rfl rfl rfl (fun w0 hb0 => by exact exec_load_arr _ _ _ _ rfl arrE (World.rowIs.of_block rt4 (hb0.block _ (World.rowIs.lt rt4))) (by omega)) ?_
    simp only [Act.put, List.setIfInBounds_toArray, List.set_cons_zero, List.set_cons_succ, Nat.zero_add]
    refine stp_fn 32 24 #[Operand.tmp 30, Operand.tmp 31] #[28, 28] _ (mul_any R R _ HR.out HR.out) rfl rfl rfl rfl Try.func24 (by kernel_rfl) (by kernel_rfl) (by go_simp) ?_
    rintro e w32 ⟨rfl, b32⟩
    replace B := B.trans (Below.mono b32 (HGS.out _ B))
    replace rt3 := World.rowIs.of_block rt3 (b32.block _ (World.rowIs.lt rt3))
    replace rt4 := World.rowIs.of_block rt4 (b32.block _ (World.rowIs.lt rt4))
    replace rt5 := World.rowIs.of_block rt5 (b32.block _ (World.rowIs.lt rt5))
    refine ⟨_, rfl, b32, ?_⟩
    simp only [Act.put, List.setIfInBounds_toArray, List.set_cons_zero, List.set_cons_succ, Nat.zero_add]
    refine stp_fn 34 28 #[Operand.tmp 32, Operand.tmp 33] #[28, 28] _ (same5_yes (mulP R R) (mulP A A) _ (mulP_lt _ _) (mulP_lt _ _) (HR2.out)) rfl rfl rfl rfl Try.func28 (by kernel_rfl) (by kernel_rfl) (by go_simp) ?_
    rintro e w34 ⟨rfl, b34⟩
    replace B := B.trans (Below.mono b34 (HGS.out _ B))
    replace rt3 := World.rowIs.of_block rt3 (b34.block _ (World.rowIs.lt rt3))
    replace rt4 := World.rowIs.of_block rt4 (b34.block _ (World.rowIs.lt rt4))
    replace rt5 := World.rowIs.of_block rt5 (b34.block _ (World.rowIs.lt rt5))
    refine ⟨_, rfl, b34, ?_⟩
    simp only [Act.put, List.setIfInBounds_toArray, List.set_cons_zero, List.set_cons_succ, Nat.zero_add]
    refine lint_pure 35 (Op.unOp UnOp.not 4 (Operand.tmp 34)) 4 _ rfl rfl rfl rfl rfl (fun w0 hb0 => by unfold mkOp; go_simp; all_goals (with_reducible rfl)) ?_
    simp only [Act.put, List.setIfInBounds_toArray, List.set_cons_zero, List.set_cons_succ, Nat.zero_add]
    refine lint_pure 36 (Op.pick (Operand.tmp 29) (Operand.const (Value.bool true)) (Operand.tmp 35)) 4 _ rfl rfl rfl rfl rfl (fun w0 hb0 => by unfold mkOp; go_simp; all_goals (with_reducible rfl)) ?_
    simp only [Act.put, List.setIfInBounds_toArray, List.set_cons_zero, List.set_cons_succ, Nat.zero_add]
    refine lint_pure 37 (Op.move (Operand.tmp 36)) 4 _ rfl rfl rfl rfl rfl (fun w0 hb0 => by unfold mkOp; go_simp; all_goals (with_reducible rfl)) ?_
    simp only [Act.put, List.setIfInBounds_toArray, List.set_cons_zero, List.set_cons_succ, Nat.zero_add]
    refine lint_pure 38 (Op.load 28 (Operand.tmp 5)) 28 (.agg (arrOf 4 fun i => ewF R (0 + i))) rfl rfl rfl rfl rfl (fun w0 hb0 => by exact exec_load_arr _ _ _ _ rfl arrE (World.rowIs.of_block rt5 (hb0.block _ (World.rowIs.lt rt5))) (by omega)) ?_
    simp only [Act.put, List.setIfInBounds_toArray, List.set_cons_zero, List.set_cons_succ, Nat.zero_add]
    refine lint_pure 39 (Op.load 28 (Operand.tmp 3)) 28 (.agg (arrOf 4 fun i => ewF A (0 + i))) rfl rfl rfl rfl rfl (fun w0 hb0 => by exact exec_load_arr _ _ _ _ rfl arrE (World.rowIs.of_block rt3 (hb0.block _ (World.rowIs.lt rt3))) (by omega)) ?_
    simp only [Act.put, List.setIfInBounds_toArray, List.set_cons_zero, List.set_cons_succ, Nat.zero_add]
    refine stp_fn 40 28 #[Operand.tmp 38, Operand.tmp 39] #[28, 28] _ (same5_yes R A _ HR.out HA.out (hra)) rfl rfl rfl rfl Try.func28 (by kernel_rfl) (by kernel_rfl) (by go_simp) ?_
    rintro e w40 ⟨rfl, b40⟩
    replace B := B.trans (Below.mono b40 (HGS.out _ B))
    replace rt3 := World.rowIs.of_block rt3 (b40.block _ (World.rowIs.lt rt3))
    replace rt4 := World.rowIs.of_block rt4 (b40.block _ (World.rowIs.lt rt4))
    replace rt5 := World.rowIs.of_block rt5 (b40.block _ (World.rowIs.lt rt5))
    refine ⟨_, rfl, b40, ?_⟩
    simp only [Act.put, List.setIfInBounds_toArray, List.set_cons_zero, List.set_cons_succ, Nat.zero_add]
    refine lint_pure 41 (Op.unOp UnOp.not 4 (Operand.tmp 40)) 4 _ rfl rfl rfl rfl rfl (fun w0 hb0 => by unfold mkOp; go_simp; all_goals (with_reducible rfl)) ?_
    simp only [Act.put, List.setIfInBounds_toArray, List.set_cons_zero, List.set_cons_succ, Nat.zero_add]
    refine lint_pure 42 (Op.move (Operand.tmp 41)) 4 _ rfl rfl rfl rfl rfl (fun w0 hb0 => by unfold mkOp; go_simp; all_goals (with_reducible rfl)) ?_
    simp only [Act.put, List.setIfInBounds_toArray, List.set_cons_zero, List.set_cons_succ, Nat.zero_add]
    refine lint_none 43 rfl rfl rfl ?_
    simp only [Act.put, List.setIfInBounds_toArray, List.set_cons_zero, List.set_cons_succ, Nat.zero_add]
    refine lint_none 44 rfl rfl rfl ?_
    simp only [Act.put, List.setIfInBounds_toArray, List.set_cons_zero, List.set_cons_succ, Nat.zero_add]
    refine stp_none 45 rfl rfl rfl ?_
    simp only [Act.put, List.setIfInBounds_toArray, List.set_cons_zero, List.set_cons_succ, Nat.zero_add]
    refine stp_none 46 rfl rfl rfl ?_
    simp only [Act.put, List.setIfInBounds_toArray, List.set_cons_zero, List.set_cons_succ, Nat.zero_add]
    refine lint_none 47 rfl rfl rfl ?_
    simp only [Act.put, List.setIfInBounds_toArray, List.set_cons_zero, List.set_cons_succ, Nat.zero_add]
    refine lint_pure 48 (Op.pick (Operand.tmp 42) (Operand.tmp 47) (Operand.const (Value.bool false))) 4 _ rfl rfl rfl rfl rfl (fun w0 hb0 => by unfold mkOp; go_simp; all_goals (with_reducible rfl)) ?_
    simp only [Act.put, List.setIfInBounds_toArray, List.set_cons_zero, List.set_cons_succ, Nat.zero_add]
    refine lint_pure 49 (Op.pick (Operand.tmp 37) (Operand.const (Value.bool true)) (Operand.tmp 48)) 4 _ rfl rfl rfl rfl rfl (fun w0 hb0 => by unfold mkOp; go_simp; all_goals (with_reducible rfl)) ?_
    simp only [Act.put, List.setIfInBounds_toArray, List.set_cons_zero, List.set_cons_succ, Nat.zero_add]
    refine lint_end ?_
    by_cases hz : mulP A A = 0
    · have HRT2 : Hid (∀ w, Calls Try.prog 31 #[.agg (arrOf 4 (ewF (addP (mulP A A) (mulP A A))))] w fun e w' => e = .returned (.tuple #[.agg (arrOf 4 (ewF 0)), .int .i64 0]) ∧ Below w.heap.size w w') := Lib.hid fun w => by
        have h := root_any (addP (mulP A A) (mulP A A)) w (addP_lt _ _)
        rw [show rootL p25 t25 (addP (mulP A A) (mulP A A)) = some 0 by rw [hz, show addP 0 0 = 0 from (by decide +kernel)]; exact root_zero] at h
        exact h
      replace hz := Lib.hid hz
      go_wp2_with (first
        | (refine wpList_load_arr rfl 28 (.tmp 4) rfl 4 arrE rt4 rfl (by omega) ?_; simp only [Nat.zero_add])
        | (go_at_call 20; have hgo := B; clear hgo; refine (add_any (mulP A A) (mulP A A) _ (mulP_lt _ _) (mulP_lt _ _)).mono ?_; rintro e w10 ⟨rfl, hb10⟩
           have r10_t3 := World.rowIs.of_block rt3 (hb10.block _ (World.rowIs.lt rt3))
           have r10_t4 := World.rowIs.of_block rt4 (hb10.block _ (World.rowIs.lt rt4))
           have r10_t5 := World.rowIs.of_block rt5 (hb10.block _ (World.rowIs.lt rt5))
           have B10 := B.trans (hb10.mono (HGS.out _ B))
           clear rt3 rt4 rt5 B hb10)
        | (go_at_call 31; have hgo := B10; clear hgo; refine (HRT2.out _).mono ?_; rintro e w11 ⟨rfl, hb11⟩
           have r11_t3 := World.rowIs.of_block r10_t3 (hb11.block _ (World.rowIs.lt r10_t3))
           have r11_t4 := World.rowIs.of_block r10_t4 (hb11.block _ (World.rowIs.lt r10_t4))
           have r11_t5 := World.rowIs.of_block r10_t5 (hb11.block _ (World.rowIs.lt r10_t5))
           have B11 := B10.trans (hb11.mono (HGS.out _ B10))
           clear r10_t3 r10_t4 r10_t5 B10 hb11
           have lt12_t3 := World.rowIs.lt r11_t3
           try simp only [World.size_alloc] at lt12_t3
           have lt12_t4 := World.rowIs.lt r11_t4
           try simp only [World.size_alloc] at lt12_t4
           have lt12_t5 := World.rowIs.lt r11_t5
           try simp only [World.size_alloc] at lt12_t5
           have g12 := HGS.out _ B11
           try simp only [World.size_alloc] at g12
           have r12_t3 := World.rowIs.alloc r11_t3 (.cells (arrOf 4 (u64f fun _ => 0)) 28)
           have r12_t4 := World.rowIs.alloc r11_t4 (.cells (arrOf 4 (u64f fun _ => 0)) 28)
           have r12_t5 := World.rowIs.alloc r11_t5 (.cells (arrOf 4 (u64f fun _ => 0)) 28)
           have B12 := B11.alloc (HGS.out _ B11) (.cells (arrOf 4 (u64f fun _ => 0)) 28)
           have r12_t7 := rowIs_arr w11 4 (u64f fun _ => 0) 28
           try simp only [World.size_alloc] at r12_t7
           clear r11_t3 r11_t4 r11_t5 B11)
        | (refine wpList_alloc_arr rfl 28 rfl (arrOf 4 (u64f fun _ => 0)) zeroE ?_; try simp only [World.size_alloc])
        | (refine wpList_store_arr rfl 28 (.tmp 7) (.tmp 55) rfl 4 arrE r12_t7 rfl rfl (by omega) (fun _ _ => rfl) ?_; intro x13 hr13 hg13 hs13
           have r13_t7 : x13.rowIs (w11.heap.size) 28 4 (ewF 0) := hr13.congr fun i hi => by unfold putN; rw [if_pos (by omega), Nat.sub_zero]
           have r13_t3 := gb_rowIs r12_t3 hg13 (Nat.ne_of_lt lt12_t3)
           have r13_t4 := gb_rowIs r12_t4 hg13 (Nat.ne_of_lt lt12_t4)
           have r13_t5 := gb_rowIs r12_t5 hg13 (Nat.ne_of_lt lt12_t5)
           have B13 := B12.grown hg13 (HGS.out _ B12) (by intro k hk; cases hk; exact g12)
           clear r12_t7 r12_t3 r12_t4 r12_t5 B12 hr13 hg13 hs13))
      have B := B13.drew
      have rt3 := World.rowIs.drew r13_t3
      have rt4 := World.rowIs.drew r13_t4
      have rt5 := World.rowIs.drew r13_t5
      have rt7 := World.rowIs.drew r13_t7
      clear B13 r13_t3 r13_t4 r13_t5 r13_t7
      refine wp_region_lint (.rd 0 (.rd 1 (.rd 2 (.wr 3 (.wr 4 (.rd 5 (.rd 6 (.wr 7 (.rd 8 (.rd 9 .done)))))))))) (by kernel_rfl) (by kernel_rfl) (by decide) (by kernel_rfl) (fun d _ _ _ _ h => by cases d <;> exact h) ?_
      refine lint_pure 57 (Op.move (Operand.tmp 8)) 33 _ rfl rfl rfl rfl rfl (fun w0 hb0 => by unfold mkOp; go_simp; all_goals (with_reducible rfl)) ?_
      simp only [Act.put, List.setIfInBounds_toArray, List.set_cons_zero, List.set_cons_succ, Nat.zero_add]
      refine lint_pure 58 (Op.binOp BinOp.eql 33 (Operand.tmp 57) (Operand.const (Value.int IntKind.i64 0)) 33) 4 _ rfl rfl rfl rfl rfl (fun w0 hb0 => by unfold mkOp; go_simp; all_goals (with_reducible rfl)) ?_
      simp only [Act.put, List.setIfInBounds_toArray, List.set_cons_zero, List.set_cons_succ, Nat.zero_add]
      refine lint_pure 59 (Op.load 28 (Operand.tmp 4)) 28 (.agg (arrOf 4 fun i => ewF (mulP A A) (0 + i))) rfl rfl rfl rfl rfl (fun w0 hb0 => by exact exec_load_arr _ _ _ _ rfl arrE (World.rowIs.of_block rt4 (hb0.block _ (World.rowIs.lt rt4))) (by omega)) ?_
      simp only [Act.put, List.setIfInBounds_toArray, List.set_cons_zero, List.set_cons_succ, Nat.zero_add]
      refine stp_fn 60 18 #[Operand.const (Value.int IntKind.u64 0)] #[23] _ (small_any 0 _ (by decide)) rfl rfl rfl rfl Try.func18 (by kernel_rfl) (by kernel_rfl) (by go_simp) ?_
      rintro e w60 ⟨rfl, b60⟩
      replace B := B.trans (Below.mono b60 (HGS.out _ B))
      replace rt3 := World.rowIs.of_block rt3 (b60.block _ (World.rowIs.lt rt3))
      replace rt4 := World.rowIs.of_block rt4 (b60.block _ (World.rowIs.lt rt4))
      replace rt5 := World.rowIs.of_block rt5 (b60.block _ (World.rowIs.lt rt5))
      replace rt7 := World.rowIs.of_block rt7 (b60.block _ (World.rowIs.lt rt7))
      refine ⟨_, rfl, b60, ?_⟩
      simp only [Act.put, List.setIfInBounds_toArray, List.set_cons_zero, List.set_cons_succ, Nat.zero_add]
      refine stp_fn 61 28 #[Operand.tmp 59, Operand.tmp 60] #[28, 28] _ (same5_yes (mulP A A) 0 _ (mulP_lt _ _) (by decide +kernel) (hz.out)) rfl rfl rfl rfl Try.func28 (by kernel_rfl) (by kernel_rfl) (by go_simp) ?_
      rintro e w61 ⟨rfl, b61⟩
      replace B := B.trans (Below.mono b61 (HGS.out _ B))
      replace rt3 := World.rowIs.of_block rt3 (b61.block _ (World.rowIs.lt rt3))
      replace rt4 := World.rowIs.of_block rt4 (b61.block _ (World.rowIs.lt rt4))
      replace rt5 := World.rowIs.of_block rt5 (b61.block _ (World.rowIs.lt rt5))
      replace rt7 := World.rowIs.of_block rt7 (b61.block _ (World.rowIs.lt rt7))
      refine ⟨_, rfl, b61, ?_⟩
      simp only [Act.put, List.setIfInBounds_toArray, List.set_cons_zero, List.set_cons_succ, Nat.zero_add]
      refine lint_pure 62 (Op.binOp BinOp.eql 4 (Operand.tmp 58) (Operand.tmp 61) 4) 4 _ rfl rfl rfl rfl rfl (fun w0 hb0 => by unfold mkOp; go_simp; all_goals (with_reducible rfl)) ?_
      simp only [Act.put, List.setIfInBounds_toArray, List.set_cons_zero, List.set_cons_succ, Nat.zero_add]
      refine lint_pure 63 (Op.move (Operand.tmp 62)) 4 _ rfl rfl rfl rfl rfl (fun w0 hb0 => by unfold mkOp; go_simp; all_goals (with_reducible rfl)) ?_
      simp only [Act.put, List.setIfInBounds_toArray, List.set_cons_zero, List.set_cons_succ, Nat.zero_add]
      refine stp_fn 64 12 #[] #[] _ (awake5_any _) rfl rfl rfl rfl Try.func12 (by kernel_rfl) (by kernel_rfl) (by go_simp) ?_
      rintro e w64 ⟨rfl, b64⟩
      replace B := B.trans (Below.mono b64 (HGS.out _ B))
      replace rt3 := World.rowIs.of_block rt3 (b64.block _ (World.rowIs.lt rt3))
      replace rt4 := World.rowIs.of_block rt4 (b64.block _ (World.rowIs.lt rt4))
      replace rt5 := World.rowIs.of_block rt5 (b64.block _ (World.rowIs.lt rt5))
      replace rt7 := World.rowIs.of_block rt7 (b64.block _ (World.rowIs.lt rt7))
      refine ⟨_, rfl, b64, ?_⟩
      simp only [Act.put, List.setIfInBounds_toArray, List.set_cons_zero, List.set_cons_succ, Nat.zero_add]
      refine lint_pure 65 (Op.pick (Operand.tmp 63) (Operand.tmp 64) (Operand.const (Value.bool false))) 4 _ rfl rfl rfl rfl rfl (fun w0 hb0 => by unfold mkOp; go_simp; all_goals (with_reducible rfl)) ?_
      simp only [Act.put, List.setIfInBounds_toArray, List.set_cons_zero, List.set_cons_succ, Nat.zero_add]
      refine lint_pure 2 (Op.assign (Operand.tmp 65)) 4 _ rfl rfl rfl rfl rfl (fun w0 hb0 => by unfold mkOp; go_simp; all_goals (with_reducible rfl)) ?_
      simp only [Act.put, List.setIfInBounds_toArray, List.set_cons_zero, List.set_cons_succ, Nat.zero_add]
      refine lint_end ?_
      go_wp2
      go_ret
      exact ⟨rfl, B⟩
    · have HRT2 : Hid (∀ w, Calls Try.prog 31 #[.agg (arrOf 4 (ewF (addP (mulP A A) (mulP A A))))] w fun e w' => e = .returned (.tuple #[.agg (arrOf 4 (ewF 0)), .int .i64 7]) ∧ Below w.heap.size w w') := Lib.hid fun w => by
        have h := root_any (addP (mulP A A) (mulP A A)) w (addP_lt _ _)
        rw [show rootL p25 t25 (addP (mulP A A) (mulP A A)) = none by exact root_twice A HA.out hz] at h
        exact h
      replace hz := Lib.hid hz
      go_wp2_with (first
        | (refine wpList_load_arr rfl 28 (.tmp 4) rfl 4 arrE rt4 rfl (by omega) ?_; simp only [Nat.zero_add])
        | (go_at_call 20; have hgo := B; clear hgo; refine (add_any (mulP A A) (mulP A A) _ (mulP_lt _ _) (mulP_lt _ _)).mono ?_; rintro e w10 ⟨rfl, hb10⟩
           have r10_t3 := World.rowIs.of_block rt3 (hb10.block _ (World.rowIs.lt rt3))
           have r10_t4 := World.rowIs.of_block rt4 (hb10.block _ (World.rowIs.lt rt4))
           have r10_t5 := World.rowIs.of_block rt5 (hb10.block _ (World.rowIs.lt rt5))
           have B10 := B.trans (hb10.mono (HGS.out _ B))
           clear rt3 rt4 rt5 B hb10)
        | (go_at_call 31; have hgo := B10; clear hgo; refine (HRT2.out _).mono ?_; rintro e w11 ⟨rfl, hb11⟩
           have r11_t3 := World.rowIs.of_block r10_t3 (hb11.block _ (World.rowIs.lt r10_t3))
           have r11_t4 := World.rowIs.of_block r10_t4 (hb11.block _ (World.rowIs.lt r10_t4))
           have r11_t5 := World.rowIs.of_block r10_t5 (hb11.block _ (World.rowIs.lt r10_t5))
           have B11 := B10.trans (hb11.mono (HGS.out _ B10))
           clear r10_t3 r10_t4 r10_t5 B10 hb11
           have lt12_t3 := World.rowIs.lt r11_t3
           try simp only [World.size_alloc] at lt12_t3
           have lt12_t4 := World.rowIs.lt r11_t4
           try simp only [World.size_alloc] at lt12_t4
           have lt12_t5 := World.rowIs.lt r11_t5
           try simp only [World.size_alloc] at lt12_t5
           have g12 := HGS.out _ B11
           try simp only [World.size_alloc] at g12
           have r12_t3 := World.rowIs.alloc r11_t3 (.cells (arrOf 4 (u64f fun _ => 0)) 28)
           have r12_t4 := World.rowIs.alloc r11_t4 (.cells (arrOf 4 (u64f fun _ => 0)) 28)
           have r12_t5 := World.rowIs.alloc r11_t5 (.cells (arrOf 4 (u64f fun _ => 0)) 28)
           have B12 := B11.alloc (HGS.out _ B11) (.cells (arrOf 4 (u64f fun _ => 0)) 28)
           have r12_t7 := rowIs_arr w11 4 (u64f fun _ => 0) 28
           try simp only [World.size_alloc] at r12_t7
           clear r11_t3 r11_t4 r11_t5 B11)
        | (refine wpList_alloc_arr rfl 28 rfl (arrOf 4 (u64f fun _ => 0)) zeroE ?_; try simp only [World.size_alloc])
        | (refine wpList_store_arr rfl 28 (.tmp 7) (.tmp 55) rfl 4 arrE r12_t7 rfl rfl (by omega) (fun _ _ => rfl) ?_; intro x13 hr13 hg13 hs13
           have r13_t7 : x13.rowIs (w11.heap.size) 28 4 (ewF 0) := hr13.congr fun i hi => by unfold putN; rw [if_pos (by omega), Nat.sub_zero]
           have r13_t3 := gb_rowIs r12_t3 hg13 (Nat.ne_of_lt lt12_t3)
           have r13_t4 := gb_rowIs r12_t4 hg13 (Nat.ne_of_lt lt12_t4)
           have r13_t5 := gb_rowIs r12_t5 hg13 (Nat.ne_of_lt lt12_t5)
           have B13 := B12.grown hg13 (HGS.out _ B12) (by intro k hk; cases hk; exact g12)
           clear r12_t7 r12_t3 r12_t4 r12_t5 B12 hr13 hg13 hs13))
      have B := B13.drew
      have rt3 := World.rowIs.drew r13_t3
      have rt4 := World.rowIs.drew r13_t4
      have rt5 := World.rowIs.drew r13_t5
      have rt7 := World.rowIs.drew r13_t7
      clear B13 r13_t3 r13_t4 r13_t5 r13_t7
      refine wp_region_lint (.rd 0 (.rd 1 (.rd 2 (.wr 3 (.wr 4 (.rd 5 (.rd 6 (.wr 7 (.rd 8 (.rd 9 .done)))))))))) (by kernel_rfl) (by kernel_rfl) (by decide) (by kernel_rfl) (fun d _ _ _ _ h => by cases d <;> exact h) ?_
      refine lint_pure 57 (Op.move (Operand.tmp 8)) 33 _ rfl rfl rfl rfl rfl (fun w0 hb0 => by unfold mkOp; go_simp; all_goals (with_reducible rfl)) ?_
      simp only [Act.put, List.setIfInBounds_toArray, List.set_cons_zero, List.set_cons_succ, Nat.zero_add]
      refine lint_pure 58 (Op.binOp BinOp.eql 33 (Operand.tmp 57) (Operand.const (Value.int IntKind.i64 0)) 33) 4 _ rfl rfl rfl rfl rfl (fun w0 hb0 => by unfold mkOp; go_simp; all_goals (with_reducible rfl)) ?_
      simp only [Act.put, List.setIfInBounds_toArray, List.set_cons_zero, List.set_cons_succ, Nat.zero_add]
      refine lint_pure 59 (Op.load 28 (Operand.tmp 4)) 28 (.agg (arrOf 4 fun i => ewF (mulP A A) (0 + i))) rfl rfl rfl rfl rfl (fun w0 hb0 => by exact exec_load_arr _ _ _ _ rfl arrE (World.rowIs.of_block rt4 (hb0.block _ (World.rowIs.lt rt4))) (by omega)) ?_
      simp only [Act.put, List.setIfInBounds_toArray, List.set_cons_zero, List.set_cons_succ, Nat.zero_add]
      refine stp_fn 60 18 #[Operand.const (Value.int IntKind.u64 0)] #[23] _ (small_any 0 _ (by decide)) rfl rfl rfl rfl Try.func18 (by kernel_rfl) (by kernel_rfl) (by go_simp) ?_
      rintro e w60 ⟨rfl, b60⟩
      replace B := B.trans (Below.mono b60 (HGS.out _ B))
      replace rt3 := World.rowIs.of_block rt3 (b60.block _ (World.rowIs.lt rt3))
      replace rt4 := World.rowIs.of_block rt4 (b60.block _ (World.rowIs.lt rt4))
      replace rt5 := World.rowIs.of_block rt5 (b60.block _ (World.rowIs.lt rt5))
      replace rt7 := World.rowIs.of_block rt7 (b60.block _ (World.rowIs.lt rt7))
      refine ⟨_, rfl, b60, ?_⟩
      simp only [Act.put, List.setIfInBounds_toArray, List.set_cons_zero, List.set_cons_succ, Nat.zero_add]
      refine stp_fn 61 28 #[Operand.tmp 59, Operand.tmp 60] #[28, 28] _ (same5_no (mulP A A) 0 _ (mulP_lt _ _) (by decide +kernel) (hz.out)) rfl rfl rfl rfl Try.func28 (by kernel_rfl) (by kernel_rfl) (by go_simp) ?_
      rintro e w61 ⟨rfl, b61⟩
      replace B := B.trans (Below.mono b61 (HGS.out _ B))
      replace rt3 := World.rowIs.of_block rt3 (b61.block _ (World.rowIs.lt rt3))
      replace rt4 := World.rowIs.of_block rt4 (b61.block _ (World.rowIs.lt rt4))
      replace rt5 := World.rowIs.of_block rt5 (b61.block _ (World.rowIs.lt rt5))
      replace rt7 := World.rowIs.of_block rt7 (b61.block _ (World.rowIs.lt rt7))
      refine ⟨_, rfl, b61, ?_⟩
      simp only [Act.put, List.setIfInBounds_toArray, List.set_cons_zero, List.set_cons_succ, Nat.zero_add]
      refine lint_pure 62 (Op.binOp BinOp.eql 4 (Operand.tmp 58) (Operand.tmp 61) 4) 4 _ rfl rfl rfl rfl rfl (fun w0 hb0 => by unfold mkOp; go_simp; all_goals (with_reducible rfl)) ?_
      simp only [Act.put, List.setIfInBounds_toArray, List.set_cons_zero, List.set_cons_succ, Nat.zero_add]
      refine lint_pure 63 (Op.move (Operand.tmp 62)) 4 _ rfl rfl rfl rfl rfl (fun w0 hb0 => by unfold mkOp; go_simp; all_goals (with_reducible rfl)) ?_
      simp only [Act.put, List.setIfInBounds_toArray, List.set_cons_zero, List.set_cons_succ, Nat.zero_add]
      refine stp_fn 64 12 #[] #[] _ (awake5_any _) rfl rfl rfl rfl Try.func12 (by kernel_rfl) (by kernel_rfl) (by go_simp) ?_
      rintro e w64 ⟨rfl, b64⟩
      replace B := B.trans (Below.mono b64 (HGS.out _ B))
      replace rt3 := World.rowIs.of_block rt3 (b64.block _ (World.rowIs.lt rt3))
      replace rt4 := World.rowIs.of_block rt4 (b64.block _ (World.rowIs.lt rt4))
      replace rt5 := World.rowIs.of_block rt5 (b64.block _ (World.rowIs.lt rt5))
      replace rt7 := World.rowIs.of_block rt7 (b64.block _ (World.rowIs.lt rt7))
      refine ⟨_, rfl, b64, ?_⟩
      simp only [Act.put, List.setIfInBounds_toArray, List.set_cons_zero, List.set_cons_succ, Nat.zero_add]
      refine lint_pure 65 (Op.pick (Operand.tmp 63) (Operand.tmp 64) (Operand.const (Value.bool false))) 4 _ rfl rfl rfl rfl rfl (fun w0 hb0 => by unfold mkOp; go_simp; all_goals (with_reducible rfl)) ?_
      simp only [Act.put, List.setIfInBounds_toArray, List.set_cons_zero, List.set_cons_succ, Nat.zero_add]
      refine lint_pure 2 (Op.assign (Operand.tmp 65)) 4 _ rfl rfl rfl rfl rfl (fun w0 hb0 => by unfold mkOp; go_simp; all_goals (with_reducible rfl)) ?_
      simp only [Act.put, List.setIfInBounds_toArray, List.set_cons_zero, List.set_cons_succ, Nat.zero_add]
      refine lint_end ?_
      go_wp2
      go_ret
      exact ⟨rfl, B⟩
  · refine wp_region_lint (.rd 0 (.rd 1 (.rd 2 (.rd 3 (.wr 4 (.rd 5 (.rd 6 (.rd 7 (.rd 8 (.rd 10 (.wr 9 (.wr 11 (.rd 12 (.rd 13 (.rd 14 (.rd 15 (.rd 16 (.wr 17 (.rd 18 (.rd 19 (.rd 20 (.rd 21 (.wr 22 (.wr 23 (.rd 24 (.rd 25 (.rd 26 .done))))))))))))))))))))))))))) (by kernel_rfl) (by kernel_rfl) (by decide) (by kernel_rfl) (fun d _ _ _ _ h => by cases d <;> exact h) ?_
    refine lint_pure 23 (Op.move (Operand.tmp 6)) 33 _ rfl rfl rfl rfl rfl (fun w0 hb0 => by unfold mkOp; go_simp; all_goals (with_reducible rfl)) ?_
    simp only [Act.put, List.setIfInBounds_toArray, List.set_cons_zero, List.set_cons_succ, Nat.zero_add]
    refine lint_pure 24 (Op.binOp BinOp.neq 33 (Operand.tmp 23) (Operand.const (Value.int IntKind.i64 0)) 33) 4 _ rfl rfl rfl rfl rfl (fun w0 hb0 => by unfold mkOp; go_simp; all_goals (with_reducible rfl)) ?_
    simp only [Act.put, List.setIfInBounds_toArray, List.set_cons_zero, List.set_cons_succ, Nat.zero_add]
    refine lint_pure 25 (Op.move (Operand.tmp 24)) 4 _ rfl rfl rfl rfl rfl (fun w0 hb0 => by unfold mkOp; go_simp; all_goals (with_reducible rfl)) ?_
    simp only [Act.put, List.setIfInBounds_toArray, List.set_cons_zero, List.set_cons_succ, Nat.zero_add]
    refine lint_pure 26 (Op.load 28 (Operand.tmp 5)) 28 (.agg (arrOf 4 fun i => ewF R (0 + i))) rfl rfl rfl rfl rfl (fun w0 hb0 => by exact exec_load_arr _ _ _ _ rfl arrE (World.rowIs.of_block rt5 (hb0.block _ (World.rowIs.lt rt5))) (by omega)) ?_
    simp only [Act.put, List.setIfInBounds_toArray, List.set_cons_zero, List.set_cons_succ, Nat.zero_add]
    refine stp_fn 27 29 #[Operand.tmp 26] #[28] _ (odd5_no R _ (HR3.out)) rfl rfl rfl rfl Try.func29 (by kernel_rfl) (by kernel_rfl) (by go_simp) ?_
    rintro e w27 ⟨rfl, b27⟩
    replace B := B.trans (Below.mono b27 (HGS.out _ B))
    replace rt3 := World.rowIs.of_block rt3 (b27.block _ (World.rowIs.lt rt3))
    replace rt4 := World.rowIs.of_block rt4 (b27.block _ (World.rowIs.lt rt4))
    replace rt5 := World.rowIs.of_block rt5 (b27.block _ (World.rowIs.lt rt5))
    refine ⟨_, rfl, b27, ?_⟩
    simp only [Act.put, List.setIfInBounds_toArray, List.set_cons_zero, List.set_cons_succ, Nat.zero_add]
    refine lint_pure 28 (Op.pick (Operand.tmp 25) (Operand.const (Value.bool true)) (Operand.tmp 27)) 4 _ rfl rfl rfl rfl rfl (fun w0 hb0 => by unfold mkOp; go_simp; all_goals (with_reducible rfl)) ?_
    simp only [Act.put, List.setIfInBounds_toArray, List.set_cons_zero, List.set_cons_succ, Nat.zero_add]
    refine lint_pure 29 (Op.move (Operand.tmp 28)) 4 _ rfl rfl rfl rfl rfl (fun w0 hb0 => by unfold mkOp; go_simp; all_goals (with_reducible rfl)) ?_
    simp only [Act.put, List.setIfInBounds_toArray, List.set_cons_zero, List.set_cons_succ, Nat.zero_add]
    refine lint_pure 30 (Op.load 28 (Operand.tmp 5)) 28 (.agg (arrOf 4 fun i => ewF R (0 + i))) rfl rfl rfl rfl rfl (fun w0 hb0 => by exact exec_load_arr _ _ _ _ rfl arrE (World.rowIs.of_block rt5 (hb0.block _ (World.rowIs.lt rt5))) (by omega)) ?_
    simp only [Act.put, List.setIfInBounds_toArray, List.set_cons_zero, List.set_cons_succ, Nat.zero_add]
    refine lint_pure 31 (Op.load 28 (Operand.tmp 5)) 28 (.agg (arrOf 4 fun i => ewF R (0 + i))) rfl rfl rfl rfl rfl (fun w0 hb0 => by exact exec_load_arr _ _ _ _ rfl arrE (World.rowIs.of_block rt5 (hb0.block _ (World.rowIs.lt rt5))) (by omega)) ?_
    simp only [Act.put, List.setIfInBounds_toArray, List.set_cons_zero, List.set_cons_succ, Nat.zero_add]
    refine lint_pure 33 (Op.load 28 (Operand.tmp 4)) 28 (.agg (arrOf 4 fun i => ewF (mulP A A) (0 + i))) rfl rfl rfl rfl rfl (fun w0 hb0 => by exact exec_load_arr _ _ _ _ rfl arrE (World.rowIs.of_block rt4 (hb0.block _ (World.rowIs.lt rt4))) (by omega)) ?_
    simp only [Act.put, List.setIfInBounds_toArray, List.set_cons_zero, List.set_cons_succ, Nat.zero_add]
    refine stp_fn 32 24 #[Operand.tmp 30, Operand.tmp 31] #[28, 28] _ (mul_any R R _ HR.out HR.out) rfl rfl rfl rfl Try.func24 (by kernel_rfl) (by kernel_rfl) (by go_simp) ?_
    rintro e w32 ⟨rfl, b32⟩
    replace B := B.trans (Below.mono b32 (HGS.out _ B))
    replace rt3 := World.rowIs.of_block rt3 (b32.block _ (World.rowIs.lt rt3))
    replace rt4 := World.rowIs.of_block rt4 (b32.block _ (World.rowIs.lt rt4))
    replace rt5 := World.rowIs.of_block rt5 (b32.block _ (World.rowIs.lt rt5))
    refine ⟨_, rfl, b32, ?_⟩
    simp only [Act.put, List.setIfInBounds_toArray, List.set_cons_zero, List.set_cons_succ, Nat.zero_add]
    refine stp_fn 34 28 #[Operand.tmp 32, Operand.tmp 33] #[28, 28] _ (same5_yes (mulP R R) (mulP A A) _ (mulP_lt _ _) (mulP_lt _ _) (HR2.out)) rfl rfl rfl rfl Try.func28 (by kernel_rfl) (by kernel_rfl) (by go_simp) ?_
    rintro e w34 ⟨rfl, b34⟩
    replace B := B.trans (Below.mono b34 (HGS.out _ B))
    replace rt3 := World.rowIs.of_block rt3 (b34.block _ (World.rowIs.lt rt3))
    replace rt4 := World.rowIs.of_block rt4 (b34.block _ (World.rowIs.lt rt4))
    replace rt5 := World.rowIs.of_block rt5 (b34.block _ (World.rowIs.lt rt5))
    refine ⟨_, rfl, b34, ?_⟩
    simp only [Act.put, List.setIfInBounds_toArray, List.set_cons_zero, List.set_cons_succ, Nat.zero_add]
    refine lint_pure 35 (Op.unOp UnOp.not 4 (Operand.tmp 34)) 4 _ rfl rfl rfl rfl rfl (fun w0 hb0 => by unfold mkOp; go_simp; all_goals (with_reducible rfl)) ?_
    simp only [Act.put, List.setIfInBounds_toArray, List.set_cons_zero, List.set_cons_succ, Nat.zero_add]
    refine lint_pure 36 (Op.pick (Operand.tmp 29) (Operand.const (Value.bool true)) (Operand.tmp 35)) 4 _ rfl rfl rfl rfl rfl (fun w0 hb0 => by unfold mkOp; go_simp; all_goals (with_reducible rfl)) ?_
    simp only [Act.put, List.setIfInBounds_toArray, List.set_cons_zero, List.set_cons_succ, Nat.zero_add]
    refine lint_pure 37 (Op.move (Operand.tmp 36)) 4 _ rfl rfl rfl rfl rfl (fun w0 hb0 => by unfold mkOp; go_simp; all_goals (with_reducible rfl)) ?_
    simp only [Act.put, List.setIfInBounds_toArray, List.set_cons_zero, List.set_cons_succ, Nat.zero_add]
    refine lint_pure 38 (Op.load 28 (Operand.tmp 5)) 28 (.agg (arrOf 4 fun i => ewF R (0 + i))) rfl rfl rfl rfl rfl (fun w0 hb0 => by exact exec_load_arr _ _ _ _ rfl arrE (World.rowIs.of_block rt5 (hb0.block _ (World.rowIs.lt rt5))) (by omega)) ?_
    simp only [Act.put, List.setIfInBounds_toArray, List.set_cons_zero, List.set_cons_succ, Nat.zero_add]
    refine lint_pure 39 (Op.load 28 (Operand.tmp 3)) 28 (.agg (arrOf 4 fun i => ewF A (0 + i))) rfl rfl rfl rfl rfl (fun w0 hb0 => by exact exec_load_arr _ _ _ _ rfl arrE (World.rowIs.of_block rt3 (hb0.block _ (World.rowIs.lt rt3))) (by omega)) ?_
    simp only [Act.put, List.setIfInBounds_toArray, List.set_cons_zero, List.set_cons_succ, Nat.zero_add]
    refine stp_fn 40 28 #[Operand.tmp 38, Operand.tmp 39] #[28, 28] _ (same5_no R A _ HR.out HA.out (hra)) rfl rfl rfl rfl Try.func28 (by kernel_rfl) (by kernel_rfl) (by go_simp) ?_
    rintro e w40 ⟨rfl, b40⟩
    replace B := B.trans (Below.mono b40 (HGS.out _ B))
    replace rt3 := World.rowIs.of_block rt3 (b40.block _ (World.rowIs.lt rt3))
    replace rt4 := World.rowIs.of_block rt4 (b40.block _ (World.rowIs.lt rt4))
    replace rt5 := World.rowIs.of_block rt5 (b40.block _ (World.rowIs.lt rt5))
    refine ⟨_, rfl, b40, ?_⟩
    simp only [Act.put, List.setIfInBounds_toArray, List.set_cons_zero, List.set_cons_succ, Nat.zero_add]
    refine lint_pure 41 (Op.unOp UnOp.not 4 (Operand.tmp 40)) 4 _ rfl rfl rfl rfl rfl (fun w0 hb0 => by unfold mkOp; go_simp; all_goals (with_reducible rfl)) ?_
    simp only [Act.put, List.setIfInBounds_toArray, List.set_cons_zero, List.set_cons_succ, Nat.zero_add]
    refine lint_pure 42 (Op.move (Operand.tmp 41)) 4 _ rfl rfl rfl rfl rfl (fun w0 hb0 => by unfold mkOp; go_simp; all_goals (with_reducible rfl)) ?_
    simp only [Act.put, List.setIfInBounds_toArray, List.set_cons_zero, List.set_cons_succ, Nat.zero_add]
    refine lint_pure 43 (Op.load 28 (Operand.tmp 5)) 28 (.agg (arrOf 4 fun i => ewF R (0 + i))) rfl rfl rfl rfl rfl (fun w0 hb0 => by exact exec_load_arr _ _ _ _ rfl arrE (World.rowIs.of_block rt5 (hb0.block _ (World.rowIs.lt rt5))) (by omega)) ?_
    simp only [Act.put, List.setIfInBounds_toArray, List.set_cons_zero, List.set_cons_succ, Nat.zero_add]
    refine lint_pure 44 (Op.load 28 (Operand.tmp 3)) 28 (.agg (arrOf 4 fun i => ewF A (0 + i))) rfl rfl rfl rfl rfl (fun w0 hb0 => by exact exec_load_arr _ _ _ _ rfl arrE (World.rowIs.of_block rt3 (hb0.block _ (World.rowIs.lt rt3))) (by omega)) ?_
    simp only [Act.put, List.setIfInBounds_toArray, List.set_cons_zero, List.set_cons_succ, Nat.zero_add]
    refine stp_fn 45 26 #[Operand.tmp 44] #[28] _ (neg_any A _ HA.out) rfl rfl rfl rfl Try.func26 (by kernel_rfl) (by kernel_rfl) (by go_simp) ?_
    rintro e w45 ⟨rfl, b45⟩
    replace B := B.trans (Below.mono b45 (HGS.out _ B))
    replace rt3 := World.rowIs.of_block rt3 (b45.block _ (World.rowIs.lt rt3))
    replace rt4 := World.rowIs.of_block rt4 (b45.block _ (World.rowIs.lt rt4))
    replace rt5 := World.rowIs.of_block rt5 (b45.block _ (World.rowIs.lt rt5))
    refine ⟨_, rfl, b45, ?_⟩
    simp only [Act.put, List.setIfInBounds_toArray, List.set_cons_zero, List.set_cons_succ, Nat.zero_add]
    refine stp_fn 46 28 #[Operand.tmp 43, Operand.tmp 45] #[28, 28] _ (same5_yes R (oppP A) _ HR.out (oppP_lt _) (HR5.out.resolve_left hra)) rfl rfl rfl rfl Try.func28 (by kernel_rfl) (by kernel_rfl) (by go_simp) ?_
    rintro e w46 ⟨rfl, b46⟩
    replace B := B.trans (Below.mono b46 (HGS.out _ B))
    replace rt3 := World.rowIs.of_block rt3 (b46.block _ (World.rowIs.lt rt3))
    replace rt4 := World.rowIs.of_block rt4 (b46.block _ (World.rowIs.lt rt4))
    replace rt5 := World.rowIs.of_block rt5 (b46.block _ (World.rowIs.lt rt5))
    refine ⟨_, rfl, b46, ?_⟩
    simp only [Act.put, List.setIfInBounds_toArray, List.set_cons_zero, List.set_cons_succ, Nat.zero_add]
    refine lint_pure 47 (Op.unOp UnOp.not 4 (Operand.tmp 46)) 4 _ rfl rfl rfl rfl rfl (fun w0 hb0 => by unfold mkOp; go_simp; all_goals (with_reducible rfl)) ?_
    simp only [Act.put, List.setIfInBounds_toArray, List.set_cons_zero, List.set_cons_succ, Nat.zero_add]
    refine lint_pure 48 (Op.pick (Operand.tmp 42) (Operand.tmp 47) (Operand.const (Value.bool false))) 4 _ rfl rfl rfl rfl rfl (fun w0 hb0 => by unfold mkOp; go_simp; all_goals (with_reducible rfl)) ?_
    simp only [Act.put, List.setIfInBounds_toArray, List.set_cons_zero, List.set_cons_succ, Nat.zero_add]
    refine lint_pure 49 (Op.pick (Operand.tmp 37) (Operand.const (Value.bool true)) (Operand.tmp 48)) 4 _ rfl rfl rfl rfl rfl (fun w0 hb0 => by unfold mkOp; go_simp; all_goals (with_reducible rfl)) ?_
    simp only [Act.put, List.setIfInBounds_toArray, List.set_cons_zero, List.set_cons_succ, Nat.zero_add]
    refine lint_end ?_
    by_cases hz : mulP A A = 0
    · have HRT2 : Hid (∀ w, Calls Try.prog 31 #[.agg (arrOf 4 (ewF (addP (mulP A A) (mulP A A))))] w fun e w' => e = .returned (.tuple #[.agg (arrOf 4 (ewF 0)), .int .i64 0]) ∧ Below w.heap.size w w') := Lib.hid fun w => by
        have h := root_any (addP (mulP A A) (mulP A A)) w (addP_lt _ _)
        rw [show rootL p25 t25 (addP (mulP A A) (mulP A A)) = some 0 by rw [hz, show addP 0 0 = 0 from (by decide +kernel)]; exact root_zero] at h
        exact h
      replace hz := Lib.hid hz
      go_wp2_with (first
        | (refine wpList_load_arr rfl 28 (.tmp 4) rfl 4 arrE rt4 rfl (by omega) ?_; simp only [Nat.zero_add])
        | (go_at_call 20; have hgo := B; clear hgo; refine (add_any (mulP A A) (mulP A A) _ (mulP_lt _ _) (mulP_lt _ _)).mono ?_; rintro e w10 ⟨rfl, hb10⟩
           have r10_t3 := World.rowIs.of_block rt3 (hb10.block _ (World.rowIs.lt rt3))
           have r10_t4 := World.rowIs.of_block rt4 (hb10.block _ (World.rowIs.lt rt4))
           have r10_t5 := World.rowIs.of_block rt5 (hb10.block _ (World.rowIs.lt rt5))
           have B10 := B.trans (hb10.mono (HGS.out _ B))
           clear rt3 rt4 rt5 B hb10)
        | (go_at_call 31; have hgo := B10; clear hgo; refine (HRT2.out _).mono ?_; rintro e w11 ⟨rfl, hb11⟩
           have r11_t3 := World.rowIs.of_block r10_t3 (hb11.block _ (World.rowIs.lt r10_t3))
           have r11_t4 := World.rowIs.of_block r10_t4 (hb11.block _ (World.rowIs.lt r10_t4))
           have r11_t5 := World.rowIs.of_block r10_t5 (hb11.block _ (World.rowIs.lt r10_t5))
           have B11 := B10.trans (hb11.mono (HGS.out _ B10))
           clear r10_t3 r10_t4 r10_t5 B10 hb11
           have lt12_t3 := World.rowIs.lt r11_t3
           try simp only [World.size_alloc] at lt12_t3
           have lt12_t4 := World.rowIs.lt r11_t4
           try simp only [World.size_alloc] at lt12_t4
           have lt12_t5 := World.rowIs.lt r11_t5
           try simp only [World.size_alloc] at lt12_t5
           have g12 := HGS.out _ B11
           try simp only [World.size_alloc] at g12
           have r12_t3 := World.rowIs.alloc r11_t3 (.cells (arrOf 4 (u64f fun _ => 0)) 28)
           have r12_t4 := World.rowIs.alloc r11_t4 (.cells (arrOf 4 (u64f fun _ => 0)) 28)
           have r12_t5 := World.rowIs.alloc r11_t5 (.cells (arrOf 4 (u64f fun _ => 0)) 28)
           have B12 := B11.alloc (HGS.out _ B11) (.cells (arrOf 4 (u64f fun _ => 0)) 28)
           have r12_t7 := rowIs_arr w11 4 (u64f fun _ => 0) 28
           try simp only [World.size_alloc] at r12_t7
           clear r11_t3 r11_t4 r11_t5 B11)
        | (refine wpList_alloc_arr rfl 28 rfl (arrOf 4 (u64f fun _ => 0)) zeroE ?_; try simp only [World.size_alloc])
        | (refine wpList_store_arr rfl 28 (.tmp 7) (.tmp 55) rfl 4 arrE r12_t7 rfl rfl (by omega) (fun _ _ => rfl) ?_; intro x13 hr13 hg13 hs13
           have r13_t7 : x13.rowIs (w11.heap.size) 28 4 (ewF 0) := hr13.congr fun i hi => by unfold putN; rw [if_pos (by omega), Nat.sub_zero]
           have r13_t3 := gb_rowIs r12_t3 hg13 (Nat.ne_of_lt lt12_t3)
           have r13_t4 := gb_rowIs r12_t4 hg13 (Nat.ne_of_lt lt12_t4)
           have r13_t5 := gb_rowIs r12_t5 hg13 (Nat.ne_of_lt lt12_t5)
           have B13 := B12.grown hg13 (HGS.out _ B12) (by intro k hk; cases hk; exact g12)
           clear r12_t7 r12_t3 r12_t4 r12_t5 B12 hr13 hg13 hs13))
      have B := B13.drew
      have rt3 := World.rowIs.drew r13_t3
      have rt4 := World.rowIs.drew r13_t4
      have rt5 := World.rowIs.drew r13_t5
      have rt7 := World.rowIs.drew r13_t7
      clear B13 r13_t3 r13_t4 r13_t5 r13_t7
      refine wp_region_lint (.rd 0 (.rd 1 (.rd 2 (.wr 3 (.wr 4 (.rd 5 (.rd 6 (.wr 7 (.rd 8 (.rd 9 .done)))))))))) (by kernel_rfl) (by kernel_rfl) (by decide) (by kernel_rfl) (fun d _ _ _ _ h => by cases d <;> exact h) ?_
      refine lint_pure 57 (Op.move (Operand.tmp 8)) 33 _ rfl rfl rfl rfl rfl (fun w0 hb0 => by unfold mkOp; go_simp; all_goals (with_reducible rfl)) ?_
      simp only [Act.put, List.setIfInBounds_toArray, List.set_cons_zero, List.set_cons_succ, Nat.zero_add]
      refine lint_pure 58 (Op.binOp BinOp.eql 33 (Operand.tmp 57) (Operand.const (Value.int IntKind.i64 0)) 33) 4 _ rfl rfl rfl rfl rfl (fun w0 hb0 => by unfold mkOp; go_simp; all_goals (with_reducible rfl)) ?_
      simp only [Act.put, List.setIfInBounds_toArray, List.set_cons_zero, List.set_cons_succ, Nat.zero_add]
      refine lint_pure 59 (Op.load 28 (Operand.tmp 4)) 28 (.agg (arrOf 4 fun i => ewF (mulP A A) (0 + i))) rfl rfl rfl rfl rfl (fun w0 hb0 => by exact exec_load_arr _ _ _ _ rfl arrE (World.rowIs.of_block rt4 (hb0.block _ (World.rowIs.lt rt4))) (by omega)) ?_
      simp only [Act.put, List.setIfInBounds_toArray, List.set_cons_zero, List.set_cons_succ, Nat.zero_add]
      refine stp_fn 60 18 #[Operand.const (Value.int IntKind.u64 0)] #[23] _ (small_any 0 _ (by decide)) rfl rfl rfl rfl Try.func18 (by kernel_rfl) (by kernel_rfl) (by go_simp) ?_
      rintro e w60 ⟨rfl, b60⟩
      replace B := B.trans (Below.mono b60 (HGS.out _ B))
      replace rt3 := World.rowIs.of_block rt3 (b60.block _ (World.rowIs.lt rt3))
      replace rt4 := World.rowIs.of_block rt4 (b60.block _ (World.rowIs.lt rt4))
      replace rt5 := World.rowIs.of_block rt5 (b60.block _ (World.rowIs.lt rt5))
      replace rt7 := World.rowIs.of_block rt7 (b60.block _ (World.rowIs.lt rt7))
      refine ⟨_, rfl, b60, ?_⟩
      simp only [Act.put, List.setIfInBounds_toArray, List.set_cons_zero, List.set_cons_succ, Nat.zero_add]
      refine stp_fn 61 28 #[Operand.tmp 59, Operand.tmp 60] #[28, 28] _ (same5_yes (mulP A A) 0 _ (mulP_lt _ _) (by decide +kernel) (hz.out)) rfl rfl rfl rfl Try.func28 (by kernel_rfl) (by kernel_rfl) (by go_simp) ?_
      rintro e w61 ⟨rfl, b61⟩
      replace B := B.trans (Below.mono b61 (HGS.out _ B))
      replace rt3 := World.rowIs.of_block rt3 (b61.block _ (World.rowIs.lt rt3))
      replace rt4 := World.rowIs.of_block rt4 (b61.block _ (World.rowIs.lt rt4))
      replace rt5 := World.rowIs.of_block rt5 (b61.block _ (World.rowIs.lt rt5))
      replace rt7 := World.rowIs.of_block rt7 (b61.block _ (World.rowIs.lt rt7))
      refine ⟨_, rfl, b61, ?_⟩
      simp only [Act.put, List.setIfInBounds_toArray, List.set_cons_zero, List.set_cons_succ, Nat.zero_add]
      refine lint_pure 62 (Op.binOp BinOp.eql 4 (Operand.tmp 58) (Operand.tmp 61) 4) 4 _ rfl rfl rfl rfl rfl (fun w0 hb0 => by unfold mkOp; go_simp; all_goals (with_reducible rfl)) ?_
      simp only [Act.put, List.setIfInBounds_toArray, List.set_cons_zero, List.set_cons_succ, Nat.zero_add]
      refine lint_pure 63 (Op.move (Operand.tmp 62)) 4 _ rfl rfl rfl rfl rfl (fun w0 hb0 => by unfold mkOp; go_simp; all_goals (with_reducible rfl)) ?_
      simp only [Act.put, List.setIfInBounds_toArray, List.set_cons_zero, List.set_cons_succ, Nat.zero_add]
      refine stp_fn 64 12 #[] #[] _ (awake5_any _) rfl rfl rfl rfl Try.func12 (by kernel_rfl) (by kernel_rfl) (by go_simp) ?_
      rintro e w64 ⟨rfl, b64⟩
      replace B := B.trans (Below.mono b64 (HGS.out _ B))
      replace rt3 := World.rowIs.of_block rt3 (b64.block _ (World.rowIs.lt rt3))
      replace rt4 := World.rowIs.of_block rt4 (b64.block _ (World.rowIs.lt rt4))
      replace rt5 := World.rowIs.of_block rt5 (b64.block _ (World.rowIs.lt rt5))
      replace rt7 := World.rowIs.of_block rt7 (b64.block _ (World.rowIs.lt rt7))
      refine ⟨_, rfl, b64, ?_⟩
      simp only [Act.put, List.setIfInBounds_toArray, List.set_cons_zero, List.set_cons_succ, Nat.zero_add]
      refine lint_pure 65 (Op.pick (Operand.tmp 63) (Operand.tmp 64) (Operand.const (Value.bool false))) 4 _ rfl rfl rfl rfl rfl (fun w0 hb0 => by unfold mkOp; go_simp; all_goals (with_reducible rfl)) ?_
      simp only [Act.put, List.setIfInBounds_toArray, List.set_cons_zero, List.set_cons_succ, Nat.zero_add]
      refine lint_pure 2 (Op.assign (Operand.tmp 65)) 4 _ rfl rfl rfl rfl rfl (fun w0 hb0 => by unfold mkOp; go_simp; all_goals (with_reducible rfl)) ?_
      simp only [Act.put, List.setIfInBounds_toArray, List.set_cons_zero, List.set_cons_succ, Nat.zero_add]
      refine lint_end ?_
      go_wp2
      go_ret
      exact ⟨rfl, B⟩
    · have HRT2 : Hid (∀ w, Calls Try.prog 31 #[.agg (arrOf 4 (ewF (addP (mulP A A) (mulP A A))))] w fun e w' => e = .returned (.tuple #[.agg (arrOf 4 (ewF 0)), .int .i64 7]) ∧ Below w.heap.size w w') := Lib.hid fun w => by
        have h := root_any (addP (mulP A A) (mulP A A)) w (addP_lt _ _)
        rw [show rootL p25 t25 (addP (mulP A A) (mulP A A)) = none by exact root_twice A HA.out hz] at h
        exact h
      replace hz := Lib.hid hz
      go_wp2_with (first
        | (refine wpList_load_arr rfl 28 (.tmp 4) rfl 4 arrE rt4 rfl (by omega) ?_; simp only [Nat.zero_add])
        | (go_at_call 20; have hgo := B; clear hgo; refine (add_any (mulP A A) (mulP A A) _ (mulP_lt _ _) (mulP_lt _ _)).mono ?_; rintro e w10 ⟨rfl, hb10⟩
           have r10_t3 := World.rowIs.of_block rt3 (hb10.block _ (World.rowIs.lt rt3))
           have r10_t4 := World.rowIs.of_block rt4 (hb10.block _ (World.rowIs.lt rt4))
           have r10_t5 := World.rowIs.of_block rt5 (hb10.block _ (World.rowIs.lt rt5))
           have B10 := B.trans (hb10.mono (HGS.out _ B))
           clear rt3 rt4 rt5 B hb10)
        | (go_at_call 31; have hgo := B10; clear hgo; refine (HRT2.out _).mono ?_; rintro e w11 ⟨rfl, hb11⟩
           have r11_t3 := World.rowIs.of_block r10_t3 (hb11.block _ (World.rowIs.lt r10_t3))
           have r11_t4 := World.rowIs.of_block r10_t4 (hb11.block _ (World.rowIs.lt r10_t4))
           have r11_t5 := World.rowIs.of_block r10_t5 (hb11.block _ (World.rowIs.lt r10_t5))
           have B11 := B10.trans (hb11.mono (HGS.out _ B10))
           clear r10_t3 r10_t4 r10_t5 B10 hb11
           have lt12_t3 := World.rowIs.lt r11_t3
           try simp only [World.size_alloc] at lt12_t3
           have lt12_t4 := World.rowIs.lt r11_t4
           try simp only [World.size_alloc] at lt12_t4
           have lt12_t5 := World.rowIs.lt r11_t5
           try simp only [World.size_alloc] at lt12_t5
           have g12 := HGS.out _ B11
           try simp only [World.size_alloc] at g12
           have r12_t3 := World.rowIs.alloc r11_t3 (.cells (arrOf 4 (u64f fun _ => 0)) 28)
           have r12_t4 := World.rowIs.alloc r11_t4 (.cells (arrOf 4 (u64f fun _ => 0)) 28)
           have r12_t5 := World.rowIs.alloc r11_t5 (.cells (arrOf 4 (u64f fun _ => 0)) 28)
           have B12 := B11.alloc (HGS.out _ B11) (.cells (arrOf 4 (u64f fun _ => 0)) 28)
           have r12_t7 := rowIs_arr w11 4 (u64f fun _ => 0) 28
           try simp only [World.size_alloc] at r12_t7
           clear r11_t3 r11_t4 r11_t5 B11)
        | (refine wpList_alloc_arr rfl 28 rfl (arrOf 4 (u64f fun _ => 0)) zeroE ?_; try simp only [World.size_alloc])
        | (refine wpList_store_arr rfl 28 (.tmp 7) (.tmp 55) rfl 4 arrE r12_t7 rfl rfl (by omega) (fun _ _ => rfl) ?_; intro x13 hr13 hg13 hs13
           have r13_t7 : x13.rowIs (w11.heap.size) 28 4 (ewF 0) := hr13.congr fun i hi => by unfold putN; rw [if_pos (by omega), Nat.sub_zero]
           have r13_t3 := gb_rowIs r12_t3 hg13 (Nat.ne_of_lt lt12_t3)
           have r13_t4 := gb_rowIs r12_t4 hg13 (Nat.ne_of_lt lt12_t4)
           have r13_t5 := gb_rowIs r12_t5 hg13 (Nat.ne_of_lt lt12_t5)
           have B13 := B12.grown hg13 (HGS.out _ B12) (by intro k hk; cases hk; exact g12)
           clear r12_t7 r12_t3 r12_t4 r12_t5 B12 hr13 hg13 hs13))
      have B := B13.drew
      have rt3 := World.rowIs.drew r13_t3
      have rt4 := World.rowIs.drew r13_t4
      have rt5 := World.rowIs.drew r13_t5
      have rt7 := World.rowIs.drew r13_t7
      clear B13 r13_t3 r13_t4 r13_t5 r13_t7
      refine wp_region_lint (.rd 0 (.rd 1 (.rd 2 (.wr 3 (.wr 4 (.rd 5 (.rd 6 (.wr 7 (.rd 8 (.rd 9 .done)))))))))) (by kernel_rfl) (by kernel_rfl) (by decide) (by kernel_rfl) (fun d _ _ _ _ h => by cases d <;> exact h) ?_
      refine lint_pure 57 (Op.move (Operand.tmp 8)) 33 _ rfl rfl rfl rfl rfl (fun w0 hb0 => by unfold mkOp; go_simp; all_goals (with_reducible rfl)) ?_
      simp only [Act.put, List.setIfInBounds_toArray, List.set_cons_zero, List.set_cons_succ, Nat.zero_add]
      refine lint_pure 58 (Op.binOp BinOp.eql 33 (Operand.tmp 57) (Operand.const (Value.int IntKind.i64 0)) 33) 4 _ rfl rfl rfl rfl rfl (fun w0 hb0 => by unfold mkOp; go_simp; all_goals (with_reducible rfl)) ?_
      simp only [Act.put, List.setIfInBounds_toArray, List.set_cons_zero, List.set_cons_succ, Nat.zero_add]
      refine lint_pure 59 (Op.load 28 (Operand.tmp 4)) 28 (.agg (arrOf 4 fun i => ewF (mulP A A) (0 + i))) rfl rfl rfl rfl rfl (fun w0 hb0 => by exact exec_load_arr _ _ _ _ rfl arrE (World.rowIs.of_block rt4 (hb0.block _ (World.rowIs.lt rt4))) (by omega)) ?_
      simp only [Act.put, List.setIfInBounds_toArray, List.set_cons_zero, List.set_cons_succ, Nat.zero_add]
      refine stp_fn 60 18 #[Operand.const (Value.int IntKind.u64 0)] #[23] _ (small_any 0 _ (by decide)) rfl rfl rfl rfl Try.func18 (by kernel_rfl) (by kernel_rfl) (by go_simp) ?_
      rintro e w60 ⟨rfl, b60⟩
      replace B := B.trans (Below.mono b60 (HGS.out _ B))
      replace rt3 := World.rowIs.of_block rt3 (b60.block _ (World.rowIs.lt rt3))
      replace rt4 := World.rowIs.of_block rt4 (b60.block _ (World.rowIs.lt rt4))
      replace rt5 := World.rowIs.of_block rt5 (b60.block _ (World.rowIs.lt rt5))
      replace rt7 := World.rowIs.of_block rt7 (b60.block _ (World.rowIs.lt rt7))
      refine ⟨_, rfl, b60, ?_⟩
      simp only [Act.put, List.setIfInBounds_toArray, List.set_cons_zero, List.set_cons_succ, Nat.zero_add]
      refine stp_fn 61 28 #[Operand.tmp 59, Operand.tmp 60] #[28, 28] _ (same5_no (mulP A A) 0 _ (mulP_lt _ _) (by decide +kernel) (hz.out)) rfl rfl rfl rfl Try.func28 (by kernel_rfl) (by kernel_rfl) (by go_simp) ?_
      rintro e w61 ⟨rfl, b61⟩
      replace B := B.trans (Below.mono b61 (HGS.out _ B))
      replace rt3 := World.rowIs.of_block rt3 (b61.block _ (World.rowIs.lt rt3))
      replace rt4 := World.rowIs.of_block rt4 (b61.block _ (World.rowIs.lt rt4))
      replace rt5 := World.rowIs.of_block rt5 (b61.block _ (World.rowIs.lt rt5))
      replace rt7 := World.rowIs.of_block rt7 (b61.block _ (World.rowIs.lt rt7))
      refine ⟨_, rfl, b61, ?_⟩
      simp only [Act.put, List.setIfInBounds_toArray, List.set_cons_zero, List.set_cons_succ, Nat.zero_add]
      refine lint_pure 62 (Op.binOp BinOp.eql 4 (Operand.tmp 58) (Operand.tmp 61) 4) 4 _ rfl rfl rfl rfl rfl (fun w0 hb0 => by unfold mkOp; go_simp; all_goals (with_reducible rfl)) ?_
      simp only [Act.put, List.setIfInBounds_toArray, List.set_cons_zero, List.set_cons_succ, Nat.zero_add]
      refine lint_pure 63 (Op.move (Operand.tmp 62)) 4 _ rfl rfl rfl rfl rfl (fun w0 hb0 => by unfold mkOp; go_simp; all_goals (with_reducible rfl)) ?_
      simp only [Act.put, List.setIfInBounds_toArray, List.set_cons_zero, List.set_cons_succ, Nat.zero_add]
      refine stp_fn 64 12 #[] #[] _ (awake5_any _) rfl rfl rfl rfl Try.func12 (by kernel_rfl) (by kernel_rfl) (by go_simp) ?_
      rintro e w64 ⟨rfl, b64⟩
      replace B := B.trans (Below.mono b64 (HGS.out _ B))
      replace rt3 := World.rowIs.of_block rt3 (b64.block _ (World.rowIs.lt rt3))
      replace rt4 := World.rowIs.of_block rt4 (b64.block _ (World.rowIs.lt rt4))
      replace rt5 := World.rowIs.of_block rt5 (b64.block _ (World.rowIs.lt rt5))
      replace rt7 := World.rowIs.of_block rt7 (b64.block _ (World.rowIs.lt rt7))
      refine ⟨_, rfl, b64, ?_⟩
      simp only [Act.put, List.setIfInBounds_toArray, List.set_cons_zero, List.set_cons_succ, Nat.zero_add]
      refine lint_pure 65 (Op.pick (Operand.tmp 63) (Operand.tmp 64) (Operand.const (Value.bool false))) 4 _ rfl rfl rfl rfl rfl (fun w0 hb0 => by unfold mkOp; go_simp; all_goals (with_reducible rfl)) ?_
      simp only [Act.put, List.setIfInBounds_toArray, List.set_cons_zero, List.set_cons_succ, Nat.zero_add]
      refine lint_pure 2 (Op.assign (Operand.tmp 65)) 4 _ rfl rfl rfl rfl rfl (fun w0 hb0 => by unfold mkOp; go_simp; all_goals (with_reducible rfl)) ?_
      simp only [Act.put, List.setIfInBounds_toArray, List.set_cons_zero, List.set_cons_succ, Nat.zero_add]
      refine lint_end ?_
      go_wp2
      go_ret
      exact ⟨rfl, B⟩
end Go.Proofs.Ythapdohblphlgaa
