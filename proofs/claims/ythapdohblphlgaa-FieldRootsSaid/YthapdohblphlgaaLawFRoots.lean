/- FieldRoots, walked. -/
import Derived.Test.YthapdohblphlgaaEwL
namespace Go.Proofs.Ythapdohblphlgaa
open Go.RowKit Go.Deep

set_option maxHeartbeats 16000000 in
set_option maxRecDepth 100000 in
theorem law_fieldRoots (w : World) (v0 : Value) (l0 : List UInt8) (h0 : Bs w v0 l0) : Calls Try.prog 4 #[v0] w fun e w' => e = .returned (.bool true) ∧ Below w.heap.size w w' := by
  obtain ⟨a0, n0, c0, rfl, e0, f0, g0, hB0⟩ := h0.shape
  have H0 := Lib.hid hB0
  have HOF := Lib.hid fun v w (h : Bs w v l0) => of_any v l0 w h
  have HRF := Lib.hid fun v w (h : Bs w v l0) => refOf_any v l0 w h
  obtain ⟨A, hA⟩ := nat_var (ofL l0)
  have hAp : A < p25 := by rw [hA]; exact ofL_lt l0
  rw [← hA] at HOF HRF
  have HA := Lib.hid hAp
  have HRT := Lib.hid fun w => root_any A w hAp
  have HRR := Lib.hid fun w => refRoot_any A w hAp
  obtain ⟨R, hR⟩ := nat_var ((rootL p25 t25 A).getD 0)
  obtain ⟨E, hE⟩ : ∃ E, E = rootE (rootL p25 t25 A) := ⟨_, rfl⟩
  rw [← hR, ← hE] at HRT HRR
  have B0 := Below.refl w.heap.size w
  have HGS : Hid (∀ wq : World, Below w.heap.size w wq → w.heap.size ≤ wq.heap.size) := Lib.hid fun wq h => h.size
  clear h0 hB0 e0 hA hAp hR hE
  go_enter Try.func4, Try.ntmps4
  by_cases d0 : (100 : Int) < (n0 : Int)
  · go_wp2_with (go_at_call 12; refine (awake5_any _).mono ?_; rintro e w9 ⟨rfl, hb9⟩)
    go_ret
    exact ⟨rfl, hb9⟩
  go_wp2_with (first
    | (go_at_call 13; have hgo := B0; clear hgo; refine (HOF.out _ _ (H0.out.below B0 (Nat.le_refl _))).mono ?_; rintro e w1 ⟨rfl, hb1⟩
       have B1 := B0.trans (hb1.mono (HGS.out _ B0))
       clear B0 hb1
       have z2 := rowIs_arr w1 4 (u64f fun _ => 0) 28
       have B2 := B1.alloc (HGS.out _ B1) (.cells (arrOf 4 (u64f fun _ => 0)) 28)
       have g2 := HGS.out _ B1
       clear B1)
    | refine wpList_alloc_arr rfl 28 rfl (arrOf 4 (u64f fun _ => 0)) zeroE ?_
    | (refine wpList_store_arr rfl 28 (.tmp 3) (.tmp 14) rfl 4 arrE z2 rfl rfl (by omega) (fun _ _ => rfl) ?_; intro x3 hr3 hg3 hs3
       have r3_x : x3.rowIs w1.heap.size 28 4 (ewF A) := hr3.congr fun i hi => by unfold putN; rw [if_pos (by omega), Nat.sub_zero]
       have B3 := B2.grown hg3 (HGS.out _ B2) (by intro k hk; cases hk; exact g2)
       clear z2 B2 hr3 hg3 hs3 g2)
    | (go_at_call 14; have hgo := B3; clear hgo; refine (HRF.out _ _ (H0.out.below B3 (Nat.le_refl _))).mono ?_; rintro e w4 ⟨rfl, hb4⟩
       have r4_x := World.rowIs.of_block r3_x (hb4.block _ (World.rowIs.lt r3_x))
       have B4 := B3.trans (hb4.mono (HGS.out _ B3))
       clear r3_x B3 hb4
       have lt5_x := World.rowIs.lt r4_x
       have r5_x := World.rowIs.alloc r4_x (.cells (arrOf 16 (u64f fun _ => 0)) 31)
       have z5 := rowIs_arr w4 16 (u64f fun _ => 0) 31
       have B5 := B4.alloc (HGS.out _ B4) (.cells (arrOf 16 (u64f fun _ => 0)) 31)
       have g5 := HGS.out _ B4
       clear r4_x B4)
    | refine wpList_alloc_arr rfl 31 rfl (arrOf 16 (u64f fun _ => 0)) zeroFe ?_
    | (refine wpList_store_arr rfl 31 (.tmp 4) (.tmp 16) rfl 16 arrFe z5 rfl rfl (by omega) (fun _ _ => rfl) ?_; intro x6 hr6 hg6 hs6
       have r6_u : x6.rowIs w4.heap.size 31 16 (feF A) := hr6.congr fun i hi => by unfold putN; rw [if_pos (by omega), Nat.sub_zero]
       have r6_x := gb_rowIs r5_x hg6 (Nat.ne_of_lt lt5_x)
       have B6 := B5.grown hg6 (HGS.out _ B5) (by intro k hk; cases hk; exact g5)
       clear z5 r5_x lt5_x B5 hr6 hg6 hs6 g5)
    | (refine wpList_load_arr rfl 28 (.tmp 3) rfl 4 arrE r6_x rfl (by omega) ?_; simp only [Nat.zero_add])
    | (go_at_call 31; have hgo := B6; clear hgo; refine (HRT.out _).mono ?_; rintro e w7 ⟨rfl, hb7⟩
       have r7_x := World.rowIs.of_block r6_x (hb7.block _ (World.rowIs.lt r6_x))
       have r7_u := World.rowIs.of_block r6_u (hb7.block _ (World.rowIs.lt r6_u))
       have B7 := B6.trans (hb7.mono (HGS.out _ B6))
       clear r6_x r6_u B6 hb7
       have lt8_x := World.rowIs.lt r7_x
       have r8_x := World.rowIs.alloc r7_x (.cells (arrOf 4 (u64f fun _ => 0)) 28)
       have lt8_u := World.rowIs.lt r7_u
       have r8_u := World.rowIs.alloc r7_u (.cells (arrOf 4 (u64f fun _ => 0)) 28)
       have z8 := rowIs_arr w7 4 (u64f fun _ => 0) 28
       have B8 := B7.alloc (HGS.out _ B7) (.cells (arrOf 4 (u64f fun _ => 0)) 28)
       have g8 := HGS.out _ B7
       clear r7_x r7_u B7)
    | (refine wpList_store_arr rfl 28 (.tmp 5) (.tmp 20) rfl 4 arrE z8 rfl rfl (by omega) (fun _ _ => rfl) ?_; intro x9 hr9 hg9 hs9
       have r9_r : x9.rowIs w7.heap.size 28 4 (ewF R) := hr9.congr fun i hi => by unfold putN; rw [if_pos (by omega), Nat.sub_zero]
       have r9_x := gb_rowIs r8_x hg9 (Nat.ne_of_lt lt8_x)
       have r9_u := gb_rowIs r8_u hg9 (Nat.ne_of_lt lt8_u)
       have B9 := B8.grown hg9 (HGS.out _ B8) (by intro k hk; cases hk; exact g8)
       clear z8 r8_x lt8_x r8_u lt8_u B8 hr9 hg9 hs9 g8)
    | (refine wpList_load_arr rfl 31 (.tmp 4) rfl 16 arrFe r9_u rfl (by omega) ?_; simp only [Nat.zero_add])
    | (go_at_call 32; have hgo := B9; clear hgo; refine (HRR.out _).mono ?_; rintro e w10 ⟨rfl, hb10⟩
       have r10_x := World.rowIs.of_block r9_x (hb10.block _ (World.rowIs.lt r9_x))
       have r10_u := World.rowIs.of_block r9_u (hb10.block _ (World.rowIs.lt r9_u))
       have r10_r := World.rowIs.of_block r9_r (hb10.block _ (World.rowIs.lt r9_r))
       have B10 := B9.trans (hb10.mono (HGS.out _ B9))
       clear r9_x r9_u r9_r B9 hb10
       have lt11_x := World.rowIs.lt r10_x
       have r11_x := World.rowIs.alloc r10_x (.cells (arrOf 16 (u64f fun _ => 0)) 31)
       have lt11_u := World.rowIs.lt r10_u
       have r11_u := World.rowIs.alloc r10_u (.cells (arrOf 16 (u64f fun _ => 0)) 31)
       have lt11_r := World.rowIs.lt r10_r
       have r11_r := World.rowIs.alloc r10_r (.cells (arrOf 16 (u64f fun _ => 0)) 31)
       have z11 := rowIs_arr w10 16 (u64f fun _ => 0) 31
       have B11 := B10.alloc (HGS.out _ B10) (.cells (arrOf 16 (u64f fun _ => 0)) 31)
       have g11 := HGS.out _ B10
       clear r10_x r10_u r10_r B10)
    | (refine wpList_store_arr rfl 31 (.tmp 7) (.tmp 25) rfl 16 arrFe z11 rfl rfl (by omega) (fun _ _ => rfl) ?_; intro x12 hr12 hg12 hs12
       have r12_s : x12.rowIs w10.heap.size 31 16 (feF R) := hr12.congr fun i hi => by unfold putN; rw [if_pos (by omega), Nat.sub_zero]
       have r12_x := gb_rowIs r11_x hg12 (Nat.ne_of_lt lt11_x)
       have r12_u := gb_rowIs r11_u hg12 (Nat.ne_of_lt lt11_u)
       have r12_r := gb_rowIs r11_r hg12 (Nat.ne_of_lt lt11_r)
       have B12 := B11.grown hg12 (HGS.out _ B11) (by intro k hk; cases hk; exact g11)
       clear z11 r11_x lt11_x r11_u lt11_u r11_r lt11_r B11 hr12 hg12 hs12 g11))
  have B := B12.drew
  have rx := World.rowIs.drew r12_x
  have ru := World.rowIs.drew r12_u
  have rr := World.rowIs.drew r12_r
  have rs := World.rowIs.drew r12_s
  clear B12 r12_x r12_u r12_r r12_s
  refine wp_region_lint (.rd 0 (.rd 2 (.wr 1 (.wr 3 (.wr 4 (.rd 5 (.rd 6 (.rd 7 (.wr 8 (.rd 9 (.rd 10 (.rd 11 (.rd 12 (.rd 13 (.rd 14 (.rd 15 (.wr 16 (.rd 17 (.rd 18 .done))))))))))))))))))) (by kernel_rfl) (by kernel_rfl) (by decide) (by kernel_rfl) (fun d _ _ _ _ h => by cases d <;> exact h) ?_
  refine lint_pure 27 (Op.load 28 (Operand.tmp 3)) 28 (.agg (arrOf 4 fun i => ewF A (0 + i))) rfl rfl rfl rfl rfl (fun w0 hb0 => by exact exec_load_arr _ _ _ _ rfl arrE (rx.of_block (hb0.block _ (World.rowIs.lt rx))) (by omega)) ?_
  simp only [Act.put, List.setIfInBounds_toArray, List.set_cons_zero, List.set_cons_succ, Nat.zero_add]
  refine lint_pure 29 (Op.load 31 (Operand.tmp 4)) 31 (.agg (arrOf 16 fun i => feF A (0 + i))) rfl rfl rfl rfl rfl (fun w0 hb0 => by exact exec_load_arr _ _ _ _ rfl arrFe (ru.of_block (hb0.block _ (World.rowIs.lt ru))) (by omega)) ?_
  simp only [Act.put, List.setIfInBounds_toArray, List.set_cons_zero, List.set_cons_succ, Nat.zero_add]
  refine stp_fn 28 33 #[Operand.tmp 27] #[28] _ (inv_any A _ HA.out) rfl rfl rfl rfl Try.func33 (by kernel_rfl) (by kernel_rfl) (by go_simp) ?_
  rintro e w51 ⟨rfl, b51⟩
  replace B := B.trans (Below.mono b51 (HGS.out _ B))
  replace rx := World.rowIs.of_block rx (b51.block _ (World.rowIs.lt rx))
  replace ru := World.rowIs.of_block ru (b51.block _ (World.rowIs.lt ru))
  replace rr := World.rowIs.of_block rr (b51.block _ (World.rowIs.lt rr))
  replace rs := World.rowIs.of_block rs (b51.block _ (World.rowIs.lt rs))
  refine ⟨_, rfl, b51, ?_⟩
  simp only [Act.put, List.setIfInBounds_toArray, List.set_cons_zero, List.set_cons_succ, Nat.zero_add]
  refine stp_fn 30 34 #[Operand.tmp 29] #[31] _ (refInv5_any A _ HA.out) rfl rfl rfl rfl Try.func34 (by kernel_rfl) (by kernel_rfl) (by go_simp) ?_
  rintro e w52 ⟨rfl, b52⟩
  replace B := B.trans (Below.mono b52 (HGS.out _ B))
  replace rx := World.rowIs.of_block rx (b52.block _ (World.rowIs.lt rx))
  replace ru := World.rowIs.of_block ru (b52.block _ (World.rowIs.lt ru))
  replace rr := World.rowIs.of_block rr (b52.block _ (World.rowIs.lt rr))
  replace rs := World.rowIs.of_block rs (b52.block _ (World.rowIs.lt rs))
  refine ⟨_, rfl, b52, ?_⟩
  simp only [Act.put, List.setIfInBounds_toArray, List.set_cons_zero, List.set_cons_succ, Nat.zero_add]
  refine stp_fn 31 17 #[Operand.tmp 28, Operand.tmp 30] #[28, 31] _ (is5_any (invP A) _) rfl rfl rfl rfl Try.func17 (by kernel_rfl) (by kernel_rfl) (by go_simp) ?_
  rintro e w53 ⟨rfl, b53⟩
  replace B := B.trans (Below.mono b53 (HGS.out _ B))
  replace rx := World.rowIs.of_block rx (b53.block _ (World.rowIs.lt rx))
  replace ru := World.rowIs.of_block ru (b53.block _ (World.rowIs.lt ru))
  replace rr := World.rowIs.of_block rr (b53.block _ (World.rowIs.lt rr))
  replace rs := World.rowIs.of_block rs (b53.block _ (World.rowIs.lt rs))
  refine ⟨_, rfl, b53, ?_⟩
  simp only [Act.put, List.setIfInBounds_toArray, List.set_cons_zero, List.set_cons_succ, Nat.zero_add]
  refine lint_pure 32 (Op.move (Operand.tmp 31)) 4 _ rfl rfl rfl rfl rfl (fun w0 hb0 => by unfold mkOp; go_simp; all_goals (with_reducible rfl)) ?_
  simp only [Act.put, List.setIfInBounds_toArray, List.set_cons_zero, List.set_cons_succ, Nat.zero_add]
  refine lint_pure 33 (Op.load 28 (Operand.tmp 5)) 28 (.agg (arrOf 4 fun i => ewF R (0 + i))) rfl rfl rfl rfl rfl (fun w0 hb0 => by exact exec_load_arr _ _ _ _ rfl arrE (rr.of_block (hb0.block _ (World.rowIs.lt rr))) (by omega)) ?_
  simp only [Act.put, List.setIfInBounds_toArray, List.set_cons_zero, List.set_cons_succ, Nat.zero_add]
  refine lint_pure 34 (Op.load 31 (Operand.tmp 7)) 31 (.agg (arrOf 16 fun i => feF R (0 + i))) rfl rfl rfl rfl rfl (fun w0 hb0 => by exact exec_load_arr _ _ _ _ rfl arrFe (rs.of_block (hb0.block _ (World.rowIs.lt rs))) (by omega)) ?_
  simp only [Act.put, List.setIfInBounds_toArray, List.set_cons_zero, List.set_cons_succ, Nat.zero_add]
  refine stp_fn 35 17 #[Operand.tmp 33, Operand.tmp 34] #[28, 31] _ (is5_any R _) rfl rfl rfl rfl Try.func17 (by kernel_rfl) (by kernel_rfl) (by go_simp) ?_
  rintro e w54 ⟨rfl, b54⟩
  replace B := B.trans (Below.mono b54 (HGS.out _ B))
  replace rx := World.rowIs.of_block rx (b54.block _ (World.rowIs.lt rx))
  replace ru := World.rowIs.of_block ru (b54.block _ (World.rowIs.lt ru))
  replace rr := World.rowIs.of_block rr (b54.block _ (World.rowIs.lt rr))
  replace rs := World.rowIs.of_block rs (b54.block _ (World.rowIs.lt rs))
  refine ⟨_, rfl, b54, ?_⟩
  simp only [Act.put, List.setIfInBounds_toArray, List.set_cons_zero, List.set_cons_succ, Nat.zero_add]
  refine lint_pure 36 (Op.pick (Operand.tmp 32) (Operand.tmp 35) (Operand.const (Value.bool false))) 4 _ rfl rfl rfl rfl rfl (fun w0 hb0 => by unfold mkOp; go_simp; all_goals (with_reducible rfl)) ?_
  simp only [Act.put, List.setIfInBounds_toArray, List.set_cons_zero, List.set_cons_succ, Nat.zero_add]
  refine lint_pure 37 (Op.move (Operand.tmp 36)) 4 _ rfl rfl rfl rfl rfl (fun w0 hb0 => by unfold mkOp; go_simp; all_goals (with_reducible rfl)) ?_
  simp only [Act.put, List.setIfInBounds_toArray, List.set_cons_zero, List.set_cons_succ, Nat.zero_add]
  refine lint_pure 38 (Op.move (Operand.tmp 6)) 33 _ rfl rfl rfl rfl rfl (fun w0 hb0 => by unfold mkOp; go_simp; all_goals (with_reducible rfl)) ?_
  simp only [Act.put, List.setIfInBounds_toArray, List.set_cons_zero, List.set_cons_succ, Nat.zero_add]
  refine lint_pure 39 (Op.move (Operand.tmp 8)) 3 _ rfl rfl rfl rfl rfl (fun w0 hb0 => by unfold mkOp; go_simp; all_goals (with_reducible rfl)) ?_
  simp only [Act.put, List.setIfInBounds_toArray, List.set_cons_zero, List.set_cons_succ, Nat.zero_add]
  refine lint_pure 40 (Op.binOp BinOp.eql 3 (Operand.tmp 38) (Operand.tmp 39) 3) 4 _ rfl rfl rfl rfl rfl (fun w0 hb0 => by unfold mkOp; go_simp; all_goals (with_reducible rfl)) ?_
  simp only [Act.put, List.setIfInBounds_toArray, List.set_cons_zero, List.set_cons_succ, Nat.zero_add]
  refine lint_pure 41 (Op.pick (Operand.tmp 37) (Operand.tmp 40) (Operand.const (Value.bool false))) 4 _ rfl rfl rfl rfl rfl (fun w0 hb0 => by unfold mkOp; go_simp; all_goals (with_reducible rfl)) ?_
  simp only [Act.put, List.setIfInBounds_toArray, List.set_cons_zero, List.set_cons_succ, Nat.zero_add]
  refine lint_pure 42 (Op.move (Operand.tmp 41)) 4 _ rfl rfl rfl rfl rfl (fun w0 hb0 => by unfold mkOp; go_simp; all_goals (with_reducible rfl)) ?_
  simp only [Act.put, List.setIfInBounds_toArray, List.set_cons_zero, List.set_cons_succ, Nat.zero_add]
  refine stp_fn 43 12 #[] #[] _ (awake5_any _) rfl rfl rfl rfl Try.func12 (by kernel_rfl) (by kernel_rfl) (by go_simp) ?_
  rintro e w55 ⟨rfl, b55⟩
  replace B := B.trans (Below.mono b55 (HGS.out _ B))
  replace rx := World.rowIs.of_block rx (b55.block _ (World.rowIs.lt rx))
  replace ru := World.rowIs.of_block ru (b55.block _ (World.rowIs.lt ru))
  replace rr := World.rowIs.of_block rr (b55.block _ (World.rowIs.lt rr))
  replace rs := World.rowIs.of_block rs (b55.block _ (World.rowIs.lt rs))
  refine ⟨_, rfl, b55, ?_⟩
  simp only [Act.put, List.setIfInBounds_toArray, List.set_cons_zero, List.set_cons_succ, Nat.zero_add]
  refine lint_pure 44 (Op.pick (Operand.tmp 42) (Operand.tmp 43) (Operand.const (Value.bool false))) 4 _ rfl rfl rfl rfl rfl (fun w0 hb0 => by unfold mkOp; go_simp; all_goals (with_reducible rfl)) ?_
  simp only [Act.put, List.setIfInBounds_toArray, List.set_cons_zero, List.set_cons_succ, Nat.zero_add]
  refine lint_pure 2 (Op.assign (Operand.tmp 44)) 4 _ rfl rfl rfl rfl rfl (fun w0 hb0 => by unfold mkOp; go_simp; all_goals (with_reducible rfl)) ?_
  simp only [Act.put, List.setIfInBounds_toArray, List.set_cons_zero, List.set_cons_succ, Nat.zero_add]
  refine lint_end ?_
  go_wp2
  go_ret
  exact ⟨rfl, B⟩
end Go.Proofs.Ythapdohblphlgaa
