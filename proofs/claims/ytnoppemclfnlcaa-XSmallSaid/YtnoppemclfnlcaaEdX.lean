/- The program's steps of X25519: square, u, double, add of points that are told by two numbers. -/
import Derived.Test.YtnoppemclfnlcaaWalk
import Derived.Test.YtnoppemclfnlcaaEwN
import Derived.Test.YtnoppemclfnlcaaEdC
namespace Go.Proofs.Ytnoppemclfnlcaa
open Go.RowKit Go.Deep
set_option linter.unusedSimpArgs false
set_option linter.unusedVariables false

/-- The cells of the point told by x and z. -/
def rtF (x z : Nat) : Nat → Value := fun i => if i < 4 then ewF x i else ewF z (i - 4)
theorem rt_lo (x z i : Nat) (h : i < 4) : rtF x z (0 + i) = ewF x i := by
  unfold rtF
  rw [Nat.zero_add, if_pos h]
theorem rt_hi (x z i : Nat) (h : i < 4) : rtF x z (4 + i) = ewF z i := by
  unfold rtF
  rw [if_neg (by omega), Nat.add_sub_cancel_left]
theorem rt_one (x z j : Nat) : (rtF x z j).oneCell' = true := by
  unfold rtF
  split <;> rfl
theorem arrR : IsArr Try.prog 54 8 := ⟨by kernel_rfl, by kernel_rfl⟩
theorem zeroR : (Try.prog.info? 54).map (fun i => i.zero) = some (some (.agg (arrOf 8 (u64f fun _ => 0)))) := by kernel_rfl
theorem builtR (x z : Nat) : Try.prog.built 54 [(0, .agg (arrOf 4 (ewF x))), (1, .agg (arrOf 4 (ewF z)))] = some (arrOf 8 (rtF x z)) := by kernel_rfl
theorem builtR1 (x : Nat) : Try.prog.built 54 [(0, .agg (arrOf 4 (ewF x)))] = some (arrOf 8 (rtF x 0)) := by kernel_rfl

set_option maxHeartbeats 4000000 in
set_option maxRecDepth 10000 in
theorem sq_any (X : Nat) (w : World) (HX : X < p25) : Calls Try.prog 46 #[.agg (arrOf 4 (ewF X))] w fun e w' => e = .returned (.agg (arrOf 4 (ewF (mulP X X)))) ∧ Below w.heap.size w w' := by
  have B0 := Below.refl w.heap.size w
  have HGS : Hid (∀ wq : World, Below w.heap.size w wq → w.heap.size ≤ wq.heap.size) := Lib.hid fun wq h => h.size
  replace HX := Lib.hid HX
  go_enter Try.func46, Try.ntmps46
  go_wp2_with (first
    | (have hgo := B0; clear hgo
       refine wpList_box_row rfl 42 (.tmp 0) rfl 4 (ewF X) rfl ?_
       intro b_t1 w1 lk r_t1 kk
       have l_t1 := Nat.le_trans (HGS.out _ B0) lk
       have B1 := B0.trans (kk.mono (HGS.out _ B0))
       clear B0 kk lk)
    | (have hgo := B1; clear hgo
       refine wpList_alloc_row rfl 42 rfl 4 (u64f fun _ => 0) zeroE ?_
       intro b_t2 w2 lk r_t2 kk
       have n_t1_t2 : b_t1 ≠ b_t2 := Nat.ne_of_lt (Nat.lt_of_lt_of_le (World.rowIs.lt r_t1) lk)
       have l_t2 := Nat.le_trans (HGS.out _ B1) lk
       replace r_t1 := World.rowIs.of_block r_t1 (kk.block _ (World.rowIs.lt r_t1))
       have B2 := B1.trans (kk.mono (HGS.out _ B1))
       clear B1 kk lk)
    | (have hgo := B2; clear hgo
       refine wpList_load_as rfl 42 (.tmp 1) rfl 4 (ewF X) arrE r_t1 rfl (by omega) (fun i hi => by rw [Nat.zero_add]) ?_)
    | (have hgo := B2; clear hgo
       refine wpList_load_as rfl 42 (.tmp 1) rfl 4 (ewF X) arrE r_t1 rfl (by omega) (fun i hi => by rw [Nat.zero_add]) ?_)
    | (have hgo := B2; clear hgo
       go_at_call 44
       refine (mul_any X X _ HX.out HX.out).mono ?_
       rintro e w5 ⟨rfl, kk⟩
       replace r_t1 := World.rowIs.of_block r_t1 (kk.block _ (World.rowIs.lt r_t1))
       replace r_t2 := World.rowIs.of_block r_t2 (kk.block _ (World.rowIs.lt r_t2))
       have B3 := B2.trans (kk.mono (HGS.out _ B2))
       clear B2 kk)
    | (have hgo := B3; clear hgo
       refine wpList_store_as rfl 42 (.tmp 2) (.tmp 5) rfl 4 (ewF (mulP X X)) arrE r_t2 rfl rfl (by omega) (fun _ _ => rfl) (fun i hi => putN_whole hi) ?_
       intro w6 q gk
       replace r_t1 := gb_rowIs r_t1 gk n_t1_t2
       replace r_t2 := q
       have B4 := B3.grown gk (HGS.out _ B3) (by intro k hk; cases hk; exact l_t2)
       clear B3 gk q))
  exact ret_cell_as _ rfl arrE r_t2 rfl (by omega) (fun _ _ => rfl) rfl ⟨rfl, B4⟩
set_option maxHeartbeats 4000000 in
set_option maxRecDepth 10000 in
theorem ru_any (X Z : Nat) (w : World) (HX : X < p25) (HZ : Z < p25) : Calls Try.prog 35 #[.agg (arrOf 8 (rtF X Z))] w fun e w' => e = .returned (.agg (arrOf 4 (ewF (mulP X (invP Z))))) ∧ Below w.heap.size w w' := by
  have B0 := Below.refl w.heap.size w
  have HGS : Hid (∀ wq : World, Below w.heap.size w wq → w.heap.size ≤ wq.heap.size) := Lib.hid fun wq h => h.size
  replace HX := Lib.hid HX
  replace HZ := Lib.hid HZ
  go_enter Try.func35, Try.ntmps35
  go_wp2_with (first
    | (have hgo := B0; clear hgo
       refine wpList_box_row rfl 54 (.tmp 0) rfl 8 (rtF X Z) rfl ?_
       intro b_t1 w1 lk r_t1 kk
       have l_t1 := Nat.le_trans (HGS.out _ B0) lk
       have B1 := B0.trans (kk.mono (HGS.out _ B0))
       clear B0 kk lk)
    | (have hgo := B1; clear hgo
       refine wpList_alloc_row rfl 42 rfl 4 (u64f fun _ => 0) zeroE ?_
       intro b_t2 w2 lk r_t2 kk
       have n_t1_t2 : b_t1 ≠ b_t2 := Nat.ne_of_lt (Nat.lt_of_lt_of_le (World.rowIs.lt r_t1) lk)
       have l_t2 := Nat.le_trans (HGS.out _ B1) lk
       replace r_t1 := World.rowIs.of_block r_t1 (kk.block _ (World.rowIs.lt r_t1))
       have B2 := B1.trans (kk.mono (HGS.out _ B1))
       clear B1 kk lk))
  have B3 := B2.drew
  replace r_t1 := World.rowIs.drew r_t1
  replace r_t2 := World.rowIs.drew r_t2
  clear B2
  refine wp_region_po (Keep [b_t2]) (Keep.refl _) (fun _ _ _ h1 h2 => h1.trans h2) (.rd 0 (.rd 1 (.rd 2 (.rd 3 .done)))) #[true, true, true, true, false, false, false] [4, 5, 6] [some 7, some 8, none] [[], [0], [0, 1]] [(0, []), (1, [0]), (2, []), (3, [2]), (4, [3]), (5, [1, 4, 4]), (6, [5, 5, 0, 1, 2, 3, 4, 5])] 15 (by kernel_rfl) (by kernel_rfl) (by decide) (by kernel_rfl) (by kernel_rfl) (by kernel_rfl) rfl (fun d _ _ _ _ h => by cases d <;> exact h) ?_
  refine lintz_pure 3 (Op.fieldAddr 54 (Operand.tmp 1) 0) 0 (.pointer (some ⟨b_t1, 0, none⟩)) rfl rfl rfl rfl rfl (fun w0 hb => by unfold mkOp; go_simp; all_goals (with_reducible rfl)) ?_
  simp only [Act.put, List.setIfInBounds_toArray, List.set_cons_zero, List.set_cons_succ]
  refine lintz_pure 4 (Op.load 42 (Operand.tmp 3)) 42 (.agg (arrOf 4 (ewF X))) rfl rfl rfl rfl rfl (fun w0 hb => by exact exec_load_as _ _ _ _ (ewF X) rfl arrE (Keep.row hb r_t1 (cont1 n_t1_t2)) (by omega) (fun i hi => rt_lo _ _ i hi)) ?_
  simp only [Act.put, List.setIfInBounds_toArray, List.set_cons_zero, List.set_cons_succ]
  refine lintz_pure 5 (Op.fieldAddr 54 (Operand.tmp 1) 1) 0 (.pointer (some ⟨b_t1, 4, none⟩)) rfl rfl rfl rfl rfl (fun w0 hb => by unfold mkOp; go_simp; all_goals (with_reducible rfl)) ?_
  simp only [Act.put, List.setIfInBounds_toArray, List.set_cons_zero, List.set_cons_succ]
  refine lintz_pure 6 (Op.load 42 (Operand.tmp 5)) 42 (.agg (arrOf 4 (ewF Z))) rfl rfl rfl rfl rfl (fun w0 hb => by exact exec_load_as _ _ _ _ (ewF Z) rfl arrE (Keep.row hb r_t1 (cont1 n_t1_t2)) (by omega) (fun i hi => rt_hi _ _ i hi)) ?_
  simp only [Act.put, List.setIfInBounds_toArray, List.set_cons_zero, List.set_cons_succ]
  refine lintz_leaf ?_
  have HWF : poWf [.val (.agg (arrOf 4 (ewF (invP Z)))), .val (.agg (arrOf 4 (ewF (mulP X (invP Z))))), .nil] [⟨b_t2, 42, 4, (u64f fun _ => 0), 2, (ewF (mulP X (invP Z)))⟩] = true := by kernel_rfl
  refine ⟨JG [.val (.agg (arrOf 4 (ewF (invP Z)))), .val (.agg (arrOf 4 (ewF (mulP X (invP Z))))), .nil] [⟨b_t2, 42, 4, (u64f fun _ => 0), 2, (ewF (mulP X (invP Z)))⟩] _, JG.start (Nat.le_refl _) (fun i hi => by obtain rfl : i = 0 := by { have h9 : i < 1 := hi; omega }; exact r_t2), fun m gz wa p az hp hm hmp hcl hdn hE hJ hS hO => ?_, fun gz wa hE hJ => ?_⟩
  · rcases (show p = 0 ∨ p = 1 ∨ p = 2 by have h9 : p < 3 := hp; omega) with rfl | rfl | rfl
    · have e6 : az.eval (.tmp 6) = .agg (arrOf 4 (ewF Z)) := hO 6 rfl
      exact po_call 7 47 #[Operand.tmp 6] #[42] _ HWF hJ rfl hE (inv_any Z _ HZ.out) rfl rfl rfl rfl rfl Try.func47 (by kernel_rfl) (by kernel_rfl) (by simp only [List.map_toArray, List.map_cons, List.map_nil, eval_const, eval_func, e6] <;> rfl)
    · have e4 : az.eval (.tmp 4) = .agg (arrOf 4 (ewF X)) := hO 4 rfl
      have e7 := (hS 0 7 rfl (hdn 0 (by decide)) (Nat.le_of_ble_eq_true rfl)).trans (hJ.says (hdn 0 (by decide)) rfl)
      exact po_call 8 44 #[Operand.tmp 4, Operand.tmp 7] #[42, 42] _ HWF hJ rfl hE (mul_any X (invP Z) _ HX.out (invP_lt _)) rfl rfl rfl rfl rfl Try.func44 (by kernel_rfl) (by kernel_rfl) (by simp only [List.map_toArray, List.map_cons, List.map_nil, eval_const, eval_func, e4, e7] <;> rfl)
    · have e8 := (hS 1 8 rfl (hdn 1 (by decide)) (Nat.le_of_ble_eq_true rfl)).trans (hJ.says (hdn 1 (by decide)) rfl)
      exact po_storeOld 0 (.tmp 2) (.tmp 8) 42 b_t2 4 _ (by rw [hm]; exact hp) hmp hJ rfl (show 0 < 1 by decide) rfl rfl rfl rfl rfl (World.rowIs.lt r_t2) (by simp) (by kernel_rfl) po_ne1 hE rfl rfl rfl rfl rfl (hO 2 rfl) e8 arrE (fun _ _ => rfl)
  · have q0 := hJ.told 0 (by decide) rfl
    have q1 := hJ.told 1 (by decide) rfl
    show PoEnd _ (Act.put (Act.put (Act.put _ (some 7) (gz 0)) (some 8) (gz 1)) none (gz 2)) wa
    rw [q0, q1]
    simp only [Act.put, List.setIfInBounds_toArray, List.set_cons_zero, List.set_cons_succ]
    refine po_end ?_
    replace r_t1 := Keep.row hE r_t1 (cont1 n_t1_t2)
    replace r_t2 : wa.rowIs b_t2 42 4 (ewF (mulP X (invP Z))) := hJ.old 0 (show 0 < 1 by decide) (show 2 < 3 by decide)
    have B4 := hE.below B3 (HGS.out _ B3) (keep_all1 l_t2)
    clear B3 hE hJ HWF q0 q1
    go_wp2
    exact ret_cell_as _ rfl arrE r_t2 rfl (by omega) (fun _ _ => rfl) rfl ⟨rfl, B4⟩
theorem lz2_turned (x z : Nat) : lz2 x z = mulP (lEE x z) (addP (lAA x z) (mulP (lEE x z) 121665)) := by
  unfold lz2
  rw [mulP_comm 121665]
set_option maxHeartbeats 4000000 in
set_option maxRecDepth 10000 in
theorem rdouble_any (X Z : Nat) (w : World) (HX : X < p25) (HZ : Z < p25) : Calls Try.prog 34 #[.agg (arrOf 8 (rtF X Z))] w fun e w' => e = .returned (.agg (arrOf 8 (rtF (lx2 X Z) (lz2 X Z)))) ∧ Below w.heap.size w w' := by
  have B0 := Below.refl w.heap.size w
  have HGS : Hid (∀ wq : World, Below w.heap.size w wq → w.heap.size ≤ wq.heap.size) := Lib.hid fun wq h => h.size
  replace HX := Lib.hid HX
  replace HZ := Lib.hid HZ
  go_enter Try.func34, Try.ntmps34
  go_wp2_with (first
    | (have hgo := B0; clear hgo
       refine wpList_box_row rfl 54 (.tmp 0) rfl 8 (rtF X Z) rfl ?_
       intro b_t1 w1 lk r_t1 kk
       have l_t1 := Nat.le_trans (HGS.out _ B0) lk
       have B1 := B0.trans (kk.mono (HGS.out _ B0))
       clear B0 kk lk)
    | (have hgo := B1; clear hgo
       refine wpList_alloc_row rfl 54 rfl 8 (u64f fun _ => 0) zeroR ?_
       intro b_t2 w2 lk r_t2 kk
       have n_t1_t2 : b_t1 ≠ b_t2 := Nat.ne_of_lt (Nat.lt_of_lt_of_le (World.rowIs.lt r_t1) lk)
       have l_t2 := Nat.le_trans (HGS.out _ B1) lk
       replace r_t1 := World.rowIs.of_block r_t1 (kk.block _ (World.rowIs.lt r_t1))
       have B2 := B1.trans (kk.mono (HGS.out _ B1))
       clear B1 kk lk))
  have B3 := B2.drew
  replace r_t1 := World.rowIs.drew r_t1
  replace r_t2 := World.rowIs.drew r_t2
  clear B2
  refine wp_region_po (Keep []) (Keep.refl _) (fun _ _ _ h1 h2 => h1.trans h2) (.rd 0 (.rd 1 (.rd 2 (.rd 3 (.rd 6 (.rd 7 (.rd 8 (.rd 9 .done)))))))) #[true, true, true, true, false, false, true, true, true, true, false, false, false, false, false, false] [4, 5, 10, 11, 12, 13, 14, 15] [some 10, some 11, some 16, some 17, some 3, some 4, none, none] [[], [0], [1], [2], [], [], [0, 1, 3, 4, 5], [0, 1, 2, 3, 4, 5, 6]] [(0, []), (1, [0]), (2, []), (3, [2]), (4, [1, 3]), (5, [4, 4]), (6, []), (7, [6]), (8, []), (9, [8]), (10, [7, 9, 5]), (11, [10, 10]), (12, []), (13, []), (14, [12, 5, 11, 0, 1, 2, 3, 4, 5, 12, 13]), (15, [13, 11, 14, 0, 1, 2, 3, 4, 5, 6, 7, 8, 9, 10, 11, 12, 13, 14])] 975 (by kernel_rfl) (by kernel_rfl) (by decide) (by kernel_rfl) (by kernel_rfl) (by kernel_rfl) rfl (fun d _ _ _ _ h => by cases d <;> exact h) ?_
  refine lintz_pure 6 (Op.fieldAddr 54 (Operand.tmp 1) 0) 0 (.pointer (some ⟨b_t1, 0, none⟩)) rfl rfl rfl rfl rfl (fun w0 hb => by unfold mkOp; go_simp; all_goals (with_reducible rfl)) ?_
  simp only [Act.put, List.setIfInBounds_toArray, List.set_cons_zero, List.set_cons_succ]
  refine lintz_pure 7 (Op.load 42 (Operand.tmp 6)) 42 (.agg (arrOf 4 (ewF X))) rfl rfl rfl rfl rfl (fun w0 hb => by exact exec_load_as _ _ _ _ (ewF X) rfl arrE (Keep.row hb r_t1 rfl) (by omega) (fun i hi => rt_lo _ _ i hi)) ?_
  simp only [Act.put, List.setIfInBounds_toArray, List.set_cons_zero, List.set_cons_succ]
  refine lintz_pure 8 (Op.fieldAddr 54 (Operand.tmp 1) 1) 0 (.pointer (some ⟨b_t1, 4, none⟩)) rfl rfl rfl rfl rfl (fun w0 hb => by unfold mkOp; go_simp; all_goals (with_reducible rfl)) ?_
  simp only [Act.put, List.setIfInBounds_toArray, List.set_cons_zero, List.set_cons_succ]
  refine lintz_pure 9 (Op.load 42 (Operand.tmp 8)) 42 (.agg (arrOf 4 (ewF Z))) rfl rfl rfl rfl rfl (fun w0 hb => by exact exec_load_as _ _ _ _ (ewF Z) rfl arrE (Keep.row hb r_t1 rfl) (by omega) (fun i hi => rt_hi _ _ i hi)) ?_
  simp only [Act.put, List.setIfInBounds_toArray, List.set_cons_zero, List.set_cons_succ]
  refine lintz_pure 12 (Op.fieldAddr 54 (Operand.tmp 1) 0) 0 (.pointer (some ⟨b_t1, 0, none⟩)) rfl rfl rfl rfl rfl (fun w0 hb => by unfold mkOp; go_simp; all_goals (with_reducible rfl)) ?_
  simp only [Act.put, List.setIfInBounds_toArray, List.set_cons_zero, List.set_cons_succ]
  refine lintz_pure 13 (Op.load 42 (Operand.tmp 12)) 42 (.agg (arrOf 4 (ewF X))) rfl rfl rfl rfl rfl (fun w0 hb => by exact exec_load_as _ _ _ _ (ewF X) rfl arrE (Keep.row hb r_t1 rfl) (by omega) (fun i hi => rt_lo _ _ i hi)) ?_
  simp only [Act.put, List.setIfInBounds_toArray, List.set_cons_zero, List.set_cons_succ]
  refine lintz_pure 14 (Op.fieldAddr 54 (Operand.tmp 1) 1) 0 (.pointer (some ⟨b_t1, 4, none⟩)) rfl rfl rfl rfl rfl (fun w0 hb => by unfold mkOp; go_simp; all_goals (with_reducible rfl)) ?_
  simp only [Act.put, List.setIfInBounds_toArray, List.set_cons_zero, List.set_cons_succ]
  refine lintz_pure 15 (Op.load 42 (Operand.tmp 14)) 42 (.agg (arrOf 4 (ewF Z))) rfl rfl rfl rfl rfl (fun w0 hb => by exact exec_load_as _ _ _ _ (ewF Z) rfl arrE (Keep.row hb r_t1 rfl) (by omega) (fun i hi => rt_hi _ _ i hi)) ?_
  simp only [Act.put, List.setIfInBounds_toArray, List.set_cons_zero, List.set_cons_succ]
  refine lintz_leaf ?_
  have HWF : poWf [.val (.agg (arrOf 4 (ewF (addP X Z)))), .val (.agg (arrOf 4 (ewF (mulP (addP X Z) (addP X Z))))), .val (.agg (arrOf 4 (ewF (subP p25 X Z)))), .val (.agg (arrOf 4 (ewF (mulP (subP p25 X Z) (subP p25 X Z))))), .row 42 4 (u64f fun _ => 0) 6 (ewF (mulP (addP X Z) (addP X Z))), .row 42 4 (u64f fun _ => 0) 7 (ewF (mulP (subP p25 X Z) (subP p25 X Z))), .nil, .nil] [] = true := by kernel_rfl
  refine ⟨JG [.val (.agg (arrOf 4 (ewF (addP X Z)))), .val (.agg (arrOf 4 (ewF (mulP (addP X Z) (addP X Z))))), .val (.agg (arrOf 4 (ewF (subP p25 X Z)))), .val (.agg (arrOf 4 (ewF (mulP (subP p25 X Z) (subP p25 X Z))))), .row 42 4 (u64f fun _ => 0) 6 (ewF (mulP (addP X Z) (addP X Z))), .row 42 4 (u64f fun _ => 0) 7 (ewF (mulP (subP p25 X Z) (subP p25 X Z))), .nil, .nil] [] _, JG.start (Nat.le_refl _) (fun i hi => absurd hi (Nat.not_lt_zero _)), fun m gz wa p az hp hm hmp hcl hdn hE hJ hS hO => ?_, fun gz wa hE hJ => ?_⟩
  · rcases (show p = 0 ∨ p = 1 ∨ p = 2 ∨ p = 3 ∨ p = 4 ∨ p = 5 ∨ p = 6 ∨ p = 7 by have h9 : p < 8 := hp; omega) with rfl | rfl | rfl | rfl | rfl | rfl | rfl | rfl
    · have e7 : az.eval (.tmp 7) = .agg (arrOf 4 (ewF X)) := hO 7 rfl
      have e9 : az.eval (.tmp 9) = .agg (arrOf 4 (ewF Z)) := hO 9 rfl
      exact po_call 10 45 #[Operand.tmp 7, Operand.tmp 9] #[42, 42] _ HWF hJ rfl hE (add_any X Z _ HX.out HZ.out) rfl rfl rfl rfl rfl Try.func45 (by kernel_rfl) (by kernel_rfl) (by simp only [List.map_toArray, List.map_cons, List.map_nil, eval_const, eval_func, e7, e9] <;> rfl)
    · have e10 := (hS 0 10 rfl (hdn 0 (by decide)) (Nat.le_of_ble_eq_true rfl)).trans (hJ.says (hdn 0 (by decide)) rfl)
      exact po_call 11 46 #[Operand.tmp 10] #[42] _ HWF hJ rfl hE (sq_any (addP X Z) _ (addP_lt _ _)) rfl rfl rfl rfl rfl Try.func46 (by kernel_rfl) (by kernel_rfl) (by simp only [List.map_toArray, List.map_cons, List.map_nil, eval_const, eval_func, e10] <;> rfl)
    · have e13 : az.eval (.tmp 13) = .agg (arrOf 4 (ewF X)) := hO 13 rfl
      have e15 : az.eval (.tmp 15) = .agg (arrOf 4 (ewF Z)) := hO 15 rfl
      exact po_call 16 43 #[Operand.tmp 13, Operand.tmp 15] #[42, 42] _ HWF hJ rfl hE (sub_any X Z _ HX.out HZ.out) rfl rfl rfl rfl rfl Try.func43 (by kernel_rfl) (by kernel_rfl) (by simp only [List.map_toArray, List.map_cons, List.map_nil, eval_const, eval_func, e13, e15] <;> rfl)
    · have e16 := (hS 2 16 rfl (hdn 2 (by decide)) (Nat.le_of_ble_eq_true rfl)).trans (hJ.says (hdn 2 (by decide)) rfl)
      exact po_call 17 46 #[Operand.tmp 16] #[42] _ HWF hJ rfl hE (sq_any (subP p25 X Z) _ (subP_lt _ _)) rfl rfl rfl rfl rfl Try.func46 (by kernel_rfl) (by kernel_rfl) (by simp only [List.map_toArray, List.map_cons, List.map_nil, eval_const, eval_func, e16] <;> rfl)
    · exact po_alloc 3 _ 42 4 (u64f fun _ => 0) _ _ HWF hJ rfl (po_notyet hcl hmp (by rw [hm]; exact hp) (by decide)) hE rfl rfl rfl rfl rfl rfl zeroE
    · exact po_alloc 4 _ 42 4 (u64f fun _ => 0) _ _ HWF hJ rfl (po_notyet hcl hmp (by rw [hm]; exact hp) (by decide)) hE rfl rfl rfl rfl rfl rfl zeroE
    · have e11 := (hS 1 11 rfl (hdn 1 (by decide)) (Nat.le_of_ble_eq_true rfl)).trans (hJ.says (hdn 1 (by decide)) rfl)
      exact po_storeRow 4 (.tmp 3) (.tmp 11) 42 4 _ _ (by rw [hm]; exact hp) hmp hJ rfl rfl (hdn 4 (by decide)) (by kernel_rfl) (fun i hi => absurd hi (Nat.not_lt_zero _)) hE rfl rfl rfl rfl rfl (hS 4 3 rfl (hdn 4 (by decide)) (Nat.le_of_ble_eq_true rfl)) e11 arrE (fun _ _ => rfl)
    · have e17 := (hS 3 17 rfl (hdn 3 (by decide)) (Nat.le_of_ble_eq_true rfl)).trans (hJ.says (hdn 3 (by decide)) rfl)
      exact po_storeRow 5 (.tmp 4) (.tmp 17) 42 4 _ _ (by rw [hm]; exact hp) hmp hJ rfl rfl (hdn 5 (by decide)) (by kernel_rfl) (fun i hi => absurd hi (Nat.not_lt_zero _)) hE rfl rfl rfl rfl rfl (hS 5 4 rfl (hdn 5 (by decide)) (Nat.le_of_ble_eq_true rfl)) e17 arrE (fun _ _ => rfl)
  · have q0 := hJ.told 0 (by decide) rfl
    have q1 := hJ.told 1 (by decide) rfl
    have q2 := hJ.told 2 (by decide) rfl
    have q3 := hJ.told 3 (by decide) rfl
    obtain ⟨b_t3, p_t3, lk_t3, r_t3, d_t3⟩ := hJ.row 4 (by decide) rfl (by decide)
    obtain ⟨b_t4, p_t4, lk_t4, r_t4, d_t4⟩ := hJ.row 5 (by decide) rfl (by decide)
    show PoEnd _ (Act.put (Act.put (Act.put (Act.put (Act.put (Act.put (Act.put (Act.put _ (some 10) (gz 0)) (some 11) (gz 1)) (some 16) (gz 2)) (some 17) (gz 3)) (some 3) (gz 4)) (some 4) (gz 5)) none (gz 6)) none (gz 7)) wa
    rw [q0, q1, q2, q3, p_t3, p_t4]
    simp only [Act.put, List.setIfInBounds_toArray, List.set_cons_zero, List.set_cons_succ]
    refine po_end ?_
    have n_t1_t3 : b_t1 ≠ b_t3 := Nat.ne_of_lt (Nat.lt_of_lt_of_le (World.rowIs.lt r_t1) lk_t3)
    have n_t2_t3 : b_t2 ≠ b_t3 := Nat.ne_of_lt (Nat.lt_of_lt_of_le (World.rowIs.lt r_t2) lk_t3)
    have l_t3 := Nat.le_trans (HGS.out _ B3) lk_t3
    have n_t1_t4 : b_t1 ≠ b_t4 := Nat.ne_of_lt (Nat.lt_of_lt_of_le (World.rowIs.lt r_t1) lk_t4)
    have n_t2_t4 : b_t2 ≠ b_t4 := Nat.ne_of_lt (Nat.lt_of_lt_of_le (World.rowIs.lt r_t2) lk_t4)
    have l_t4 := Nat.le_trans (HGS.out _ B3) lk_t4
    have n_t3_t4 : b_t3 ≠ b_t4 := ptr_ne (by rw [← p_t3, ← p_t4]; exact d_t4 4 (by decide) (by decide) rfl)
    replace r_t1 := Keep.row hE r_t1 rfl
    replace r_t2 := Keep.row hE r_t2 rfl
    have B4 := hE.below B3 (HGS.out _ B3) rfl
    clear B3 hE hJ HWF q0 q1 q2 q3 p_t3 lk_t3 d_t3 p_t4 lk_t4 d_t4
    go_wp2_with (first
      | (have hgo := B4; clear hgo
         refine wpList_load_as rfl 42 (.tmp 3) rfl 4 (ewF (mulP (addP X Z) (addP X Z))) arrE r_t3 rfl (by omega) (fun i hi => by rw [Nat.zero_add]) ?_)
      | (have hgo := B4; clear hgo
         refine wpList_load_as rfl 42 (.tmp 4) rfl 4 (ewF (mulP (subP p25 X Z) (subP p25 X Z))) arrE r_t4 rfl (by omega) (fun i hi => by rw [Nat.zero_add]) ?_)
      | (have hgo := B4; clear hgo
         go_at_call 43
         refine (sub_any (mulP (addP X Z) (addP X Z)) (mulP (subP p25 X Z) (subP p25 X Z)) _ (mulP_lt _ _) (mulP_lt _ _)).mono ?_
         rintro e w5 ⟨rfl, kk⟩
         replace r_t1 := World.rowIs.of_block r_t1 (kk.block _ (World.rowIs.lt r_t1))
         replace r_t2 := World.rowIs.of_block r_t2 (kk.block _ (World.rowIs.lt r_t2))
         replace r_t3 := World.rowIs.of_block r_t3 (kk.block _ (World.rowIs.lt r_t3))
         replace r_t4 := World.rowIs.of_block r_t4 (kk.block _ (World.rowIs.lt r_t4))
         have B5 := B4.trans (kk.mono (HGS.out _ B4))
         clear B4 kk)
      | (have hgo := B5; clear hgo
         refine wpList_alloc_row rfl 42 rfl 4 (u64f fun _ => 0) zeroE ?_
         intro b_t5 w6 lk r_t5 kk
         have n_t1_t5 : b_t1 ≠ b_t5 := Nat.ne_of_lt (Nat.lt_of_lt_of_le (World.rowIs.lt r_t1) lk)
         have n_t2_t5 : b_t2 ≠ b_t5 := Nat.ne_of_lt (Nat.lt_of_lt_of_le (World.rowIs.lt r_t2) lk)
         have n_t3_t5 : b_t3 ≠ b_t5 := Nat.ne_of_lt (Nat.lt_of_lt_of_le (World.rowIs.lt r_t3) lk)
         have n_t4_t5 : b_t4 ≠ b_t5 := Nat.ne_of_lt (Nat.lt_of_lt_of_le (World.rowIs.lt r_t4) lk)
         have l_t5 := Nat.le_trans (HGS.out _ B5) lk
         replace r_t1 := World.rowIs.of_block r_t1 (kk.block _ (World.rowIs.lt r_t1))
         replace r_t2 := World.rowIs.of_block r_t2 (kk.block _ (World.rowIs.lt r_t2))
         replace r_t3 := World.rowIs.of_block r_t3 (kk.block _ (World.rowIs.lt r_t3))
         replace r_t4 := World.rowIs.of_block r_t4 (kk.block _ (World.rowIs.lt r_t4))
         have B6 := B5.trans (kk.mono (HGS.out _ B5))
         clear B5 kk lk)
      | (have hgo := B6; clear hgo
         refine wpList_store_as rfl 42 (.tmp 5) (.tmp 20) rfl 4 (ewF (subP p25 (mulP (addP X Z) (addP X Z)) (mulP (subP p25 X Z) (subP p25 X Z)))) arrE r_t5 rfl rfl (by omega) (fun _ _ => rfl) (fun i hi => putN_whole hi) ?_
         intro w7 q gk
         replace r_t1 := gb_rowIs r_t1 gk n_t1_t5
         replace r_t2 := gb_rowIs r_t2 gk n_t2_t5
         replace r_t3 := gb_rowIs r_t3 gk n_t3_t5
         replace r_t4 := gb_rowIs r_t4 gk n_t4_t5
         replace r_t5 := q
         have B7 := B6.grown gk (HGS.out _ B6) (by intro k hk; cases hk; exact l_t5)
         clear B6 gk q))
    have B8 := B7.drew
    replace r_t1 := World.rowIs.drew r_t1
    replace r_t2 := World.rowIs.drew r_t2
    replace r_t3 := World.rowIs.drew r_t3
    replace r_t4 := World.rowIs.drew r_t4
    replace r_t5 := World.rowIs.drew r_t5
    clear B7
    refine wp_region_po (Keep [b_t2]) (Keep.refl _) (fun _ _ _ h1 h2 => h1.trans h2) (.rd 0 (.rd 1 (.rd 3 (.rd 4 (.rd 5 .done))))) #[true, true, false, true, true, true, false, false, false, false, false, false] [2, 6, 7, 8, 9, 10, 11] [some 23, some 27, some 28, some 29, some 30, some 31, none] [[], [0], [1], [2], [3], [0, 4], [0, 1, 2, 3, 4, 5]] [(0, []), (1, []), (2, [0, 1]), (3, []), (4, []), (5, []), (6, [2]), (7, [5, 6, 6]), (8, [4, 7, 7]), (9, [3, 8, 8]), (10, [2, 9]), (11, [10, 9, 0, 1, 2, 3, 4, 5, 6, 7, 8, 9, 10])] 59 (by kernel_rfl) (by kernel_rfl) (by decide) (by kernel_rfl) (by kernel_rfl) (by kernel_rfl) rfl (fun d _ _ _ _ h => by cases d <;> exact h) ?_
    refine lintz_pure 21 (Op.load 42 (Operand.tmp 3)) 42 (.agg (arrOf 4 (ewF (mulP (addP X Z) (addP X Z))))) rfl rfl rfl rfl rfl (fun w0 hb => by exact exec_load_as _ _ _ _ (ewF (mulP (addP X Z) (addP X Z))) rfl arrE (Keep.row hb r_t3 (cont1 (Ne.symm n_t2_t3))) (by omega) (fun i hi => by rw [Nat.zero_add])) ?_
    simp only [Act.put, List.setIfInBounds_toArray, List.set_cons_zero, List.set_cons_succ]
    refine lintz_pure 22 (Op.load 42 (Operand.tmp 4)) 42 (.agg (arrOf 4 (ewF (mulP (subP p25 X Z) (subP p25 X Z))))) rfl rfl rfl rfl rfl (fun w0 hb => by exact exec_load_as _ _ _ _ (ewF (mulP (subP p25 X Z) (subP p25 X Z))) rfl arrE (Keep.row hb r_t4 (cont1 (Ne.symm n_t2_t4))) (by omega) (fun i hi => by rw [Nat.zero_add])) ?_
    simp only [Act.put, List.setIfInBounds_toArray, List.set_cons_zero, List.set_cons_succ]
    refine lintz_pure 24 (Op.load 42 (Operand.tmp 5)) 42 (.agg (arrOf 4 (ewF (subP p25 (mulP (addP X Z) (addP X Z)) (mulP (subP p25 X Z) (subP p25 X Z)))))) rfl rfl rfl rfl rfl (fun w0 hb => by exact exec_load_as _ _ _ _ (ewF (subP p25 (mulP (addP X Z) (addP X Z)) (mulP (subP p25 X Z) (subP p25 X Z)))) rfl arrE (Keep.row hb r_t5 (cont1 (Ne.symm n_t2_t5))) (by omega) (fun i hi => by rw [Nat.zero_add])) ?_
    simp only [Act.put, List.setIfInBounds_toArray, List.set_cons_zero, List.set_cons_succ]
    refine lintz_pure 25 (Op.load 42 (Operand.tmp 3)) 42 (.agg (arrOf 4 (ewF (mulP (addP X Z) (addP X Z))))) rfl rfl rfl rfl rfl (fun w0 hb => by exact exec_load_as _ _ _ _ (ewF (mulP (addP X Z) (addP X Z))) rfl arrE (Keep.row hb r_t3 (cont1 (Ne.symm n_t2_t3))) (by omega) (fun i hi => by rw [Nat.zero_add])) ?_
    simp only [Act.put, List.setIfInBounds_toArray, List.set_cons_zero, List.set_cons_succ]
    refine lintz_pure 26 (Op.load 42 (Operand.tmp 5)) 42 (.agg (arrOf 4 (ewF (subP p25 (mulP (addP X Z) (addP X Z)) (mulP (subP p25 X Z) (subP p25 X Z)))))) rfl rfl rfl rfl rfl (fun w0 hb => by exact exec_load_as _ _ _ _ (ewF (subP p25 (mulP (addP X Z) (addP X Z)) (mulP (subP p25 X Z) (subP p25 X Z)))) rfl arrE (Keep.row hb r_t5 (cont1 (Ne.symm n_t2_t5))) (by omega) (fun i hi => by rw [Nat.zero_add])) ?_
    simp only [Act.put, List.setIfInBounds_toArray, List.set_cons_zero, List.set_cons_succ]
    refine lintz_leaf ?_
    have HWF : poWf [.val (.agg (arrOf 4 (ewF (mulP (mulP (addP X Z) (addP X Z)) (mulP (subP p25 X Z) (subP p25 X Z)))))), .val (.agg (arrOf 4 (ewF 121665))), .val (.agg (arrOf 4 (ewF (mulP (subP p25 (mulP (addP X Z) (addP X Z)) (mulP (subP p25 X Z) (subP p25 X Z))) 121665)))), .val (.agg (arrOf 4 (ewF (addP (mulP (addP X Z) (addP X Z)) (mulP (subP p25 (mulP (addP X Z) (addP X Z)) (mulP (subP p25 X Z) (subP p25 X Z))) 121665))))), .val (.agg (arrOf 4 (ewF (mulP (subP p25 (mulP (addP X Z) (addP X Z)) (mulP (subP p25 X Z) (subP p25 X Z))) (addP (mulP (addP X Z) (addP X Z)) (mulP (subP p25 (mulP (addP X Z) (addP X Z)) (mulP (subP p25 X Z) (subP p25 X Z))) 121665)))))), .val (.agg (arrOf 8 (rtF (mulP (mulP (addP X Z) (addP X Z)) (mulP (subP p25 X Z) (subP p25 X Z))) (mulP (subP p25 (mulP (addP X Z) (addP X Z)) (mulP (subP p25 X Z) (subP p25 X Z))) (addP (mulP (addP X Z) (addP X Z)) (mulP (subP p25 (mulP (addP X Z) (addP X Z)) (mulP (subP p25 X Z) (subP p25 X Z))) 121665)))))), .nil] [⟨b_t2, 54, 8, (u64f fun _ => 0), 6, (rtF (mulP (mulP (addP X Z) (addP X Z)) (mulP (subP p25 X Z) (subP p25 X Z))) (mulP (subP p25 (mulP (addP X Z) (addP X Z)) (mulP (subP p25 X Z) (subP p25 X Z))) (addP (mulP (addP X Z) (addP X Z)) (mulP (subP p25 (mulP (addP X Z) (addP X Z)) (mulP (subP p25 X Z) (subP p25 X Z))) 121665))))⟩] = true := by kernel_rfl
    refine ⟨JG [.val (.agg (arrOf 4 (ewF (mulP (mulP (addP X Z) (addP X Z)) (mulP (subP p25 X Z) (subP p25 X Z)))))), .val (.agg (arrOf 4 (ewF 121665))), .val (.agg (arrOf 4 (ewF (mulP (subP p25 (mulP (addP X Z) (addP X Z)) (mulP (subP p25 X Z) (subP p25 X Z))) 121665)))), .val (.agg (arrOf 4 (ewF (addP (mulP (addP X Z) (addP X Z)) (mulP (subP p25 (mulP (addP X Z) (addP X Z)) (mulP (subP p25 X Z) (subP p25 X Z))) 121665))))), .val (.agg (arrOf 4 (ewF (mulP (subP p25 (mulP (addP X Z) (addP X Z)) (mulP (subP p25 X Z) (subP p25 X Z))) (addP (mulP (addP X Z) (addP X Z)) (mulP (subP p25 (mulP (addP X Z) (addP X Z)) (mulP (subP p25 X Z) (subP p25 X Z))) 121665)))))), .val (.agg (arrOf 8 (rtF (mulP (mulP (addP X Z) (addP X Z)) (mulP (subP p25 X Z) (subP p25 X Z))) (mulP (subP p25 (mulP (addP X Z) (addP X Z)) (mulP (subP p25 X Z) (subP p25 X Z))) (addP (mulP (addP X Z) (addP X Z)) (mulP (subP p25 (mulP (addP X Z) (addP X Z)) (mulP (subP p25 X Z) (subP p25 X Z))) 121665)))))), .nil] [⟨b_t2, 54, 8, (u64f fun _ => 0), 6, (rtF (mulP (mulP (addP X Z) (addP X Z)) (mulP (subP p25 X Z) (subP p25 X Z))) (mulP (subP p25 (mulP (addP X Z) (addP X Z)) (mulP (subP p25 X Z) (subP p25 X Z))) (addP (mulP (addP X Z) (addP X Z)) (mulP (subP p25 (mulP (addP X Z) (addP X Z)) (mulP (subP p25 X Z) (subP p25 X Z))) 121665))))⟩] _, JG.start (Nat.le_refl _) (fun i hi => by obtain rfl : i = 0 := by { have h9 : i < 1 := hi; omega }; exact r_t2), fun m gz wa p az hp hm hmp hcl hdn hE hJ hS hO => ?_, fun gz wa hE hJ => ?_⟩
    · rcases (show p = 0 ∨ p = 1 ∨ p = 2 ∨ p = 3 ∨ p = 4 ∨ p = 5 ∨ p = 6 by have h9 : p < 7 := hp; omega) with rfl | rfl | rfl | rfl | rfl | rfl | rfl
      · have e21 : az.eval (.tmp 21) = .agg (arrOf 4 (ewF (mulP (addP X Z) (addP X Z)))) := hO 21 rfl
        have e22 : az.eval (.tmp 22) = .agg (arrOf 4 (ewF (mulP (subP p25 X Z) (subP p25 X Z)))) := hO 22 rfl
        exact po_call 23 44 #[Operand.tmp 21, Operand.tmp 22] #[42, 42] _ HWF hJ rfl hE (mul_any (mulP (addP X Z) (addP X Z)) (mulP (subP p25 X Z) (subP p25 X Z)) _ (mulP_lt _ _) (mulP_lt _ _)) rfl rfl rfl rfl rfl Try.func44 (by kernel_rfl) (by kernel_rfl) (by simp only [List.map_toArray, List.map_cons, List.map_nil, eval_const, eval_func, e21, e22] <;> rfl)
      · exact po_call 27 32 #[Operand.const (Value.int IntKind.u64 121665)] #[39] _ HWF hJ rfl hE (small_any 121665 _ (by decide)) rfl rfl rfl rfl rfl Try.func32 (by kernel_rfl) (by kernel_rfl) (by simp only [List.map_toArray, List.map_cons, List.map_nil, eval_const, eval_func] <;> rfl)
      · have e26 : az.eval (.tmp 26) = .agg (arrOf 4 (ewF (subP p25 (mulP (addP X Z) (addP X Z)) (mulP (subP p25 X Z) (subP p25 X Z))))) := hO 26 rfl
        have e27 := (hS 1 27 rfl (hdn 1 (by decide)) (Nat.le_of_ble_eq_true rfl)).trans (hJ.says (hdn 1 (by decide)) rfl)
        exact po_call 28 44 #[Operand.tmp 26, Operand.tmp 27] #[42, 42] _ HWF hJ rfl hE (mul_any (subP p25 (mulP (addP X Z) (addP X Z)) (mulP (subP p25 X Z) (subP p25 X Z))) 121665 _ (subP_lt _ _) (by decide +kernel)) rfl rfl rfl rfl rfl Try.func44 (by kernel_rfl) (by kernel_rfl) (by simp only [List.map_toArray, List.map_cons, List.map_nil, eval_const, eval_func, e26, e27] <;> rfl)
      · have e25 : az.eval (.tmp 25) = .agg (arrOf 4 (ewF (mulP (addP X Z) (addP X Z)))) := hO 25 rfl
        have e28 := (hS 2 28 rfl (hdn 2 (by decide)) (Nat.le_of_ble_eq_true rfl)).trans (hJ.says (hdn 2 (by decide)) rfl)
        exact po_call 29 45 #[Operand.tmp 25, Operand.tmp 28] #[42, 42] _ HWF hJ rfl hE (add_any (mulP (addP X Z) (addP X Z)) (mulP (subP p25 (mulP (addP X Z) (addP X Z)) (mulP (subP p25 X Z) (subP p25 X Z))) 121665) _ (mulP_lt _ _) (mulP_lt _ _)) rfl rfl rfl rfl rfl Try.func45 (by kernel_rfl) (by kernel_rfl) (by simp only [List.map_toArray, List.map_cons, List.map_nil, eval_const, eval_func, e25, e28] <;> rfl)
      · have e24 : az.eval (.tmp 24) = .agg (arrOf 4 (ewF (subP p25 (mulP (addP X Z) (addP X Z)) (mulP (subP p25 X Z) (subP p25 X Z))))) := hO 24 rfl
        have e29 := (hS 3 29 rfl (hdn 3 (by decide)) (Nat.le_of_ble_eq_true rfl)).trans (hJ.says (hdn 3 (by decide)) rfl)
        exact po_call 30 44 #[Operand.tmp 24, Operand.tmp 29] #[42, 42] _ HWF hJ rfl hE (mul_any (subP p25 (mulP (addP X Z) (addP X Z)) (mulP (subP p25 X Z) (subP p25 X Z))) (addP (mulP (addP X Z) (addP X Z)) (mulP (subP p25 (mulP (addP X Z) (addP X Z)) (mulP (subP p25 X Z) (subP p25 X Z))) 121665)) _ (subP_lt _ _) (addP_lt _ _)) rfl rfl rfl rfl rfl Try.func44 (by kernel_rfl) (by kernel_rfl) (by simp only [List.map_toArray, List.map_cons, List.map_nil, eval_const, eval_func, e24, e29] <;> rfl)
      · have e23 := (hS 0 23 rfl (hdn 0 (by decide)) (Nat.le_of_ble_eq_true rfl)).trans (hJ.says (hdn 0 (by decide)) rfl)
        have e30 := (hS 4 30 rfl (hdn 4 (by decide)) (Nat.le_of_ble_eq_true rfl)).trans (hJ.says (hdn 4 (by decide)) rfl)
        exact po_run 31 (Op.build 54 #[(0, Operand.tmp 23), (1, Operand.tmp 30)]) _ HWF hJ rfl hE rfl rfl rfl rfl rfl rfl (exec_build_as _ _ _ (by simp only [List.map_toArray, List.map_cons, List.map_nil, e23, e30]; exact builtR _ _))
      · have e31 := (hS 5 31 rfl (hdn 5 (by decide)) (Nat.le_of_ble_eq_true rfl)).trans (hJ.says (hdn 5 (by decide)) rfl)
        exact po_storeOld 0 (.tmp 2) (.tmp 31) 54 b_t2 8 _ (by rw [hm]; exact hp) hmp hJ rfl (show 0 < 1 by decide) rfl rfl rfl rfl rfl (World.rowIs.lt r_t2) (by simp) (by kernel_rfl) po_ne1 hE rfl rfl rfl rfl rfl (hO 2 rfl) e31 arrR (fun j _ => rt_one _ _ j)
    · have q0 := hJ.told 0 (by decide) rfl
      have q1 := hJ.told 1 (by decide) rfl
      have q2 := hJ.told 2 (by decide) rfl
      have q3 := hJ.told 3 (by decide) rfl
      have q4 := hJ.told 4 (by decide) rfl
      have q5 := hJ.told 5 (by decide) rfl
      show PoEnd _ (Act.put (Act.put (Act.put (Act.put (Act.put (Act.put (Act.put _ (some 23) (gz 0)) (some 27) (gz 1)) (some 28) (gz 2)) (some 29) (gz 3)) (some 30) (gz 4)) (some 31) (gz 5)) none (gz 6)) wa
      rw [q0, q1, q2, q3, q4, q5]
      simp only [Act.put, List.setIfInBounds_toArray, List.set_cons_zero, List.set_cons_succ]
      refine po_end ?_
      replace r_t1 := Keep.row hE r_t1 (cont1 n_t1_t2)
      replace r_t2 : wa.rowIs b_t2 54 8 (rtF (mulP (mulP (addP X Z) (addP X Z)) (mulP (subP p25 X Z) (subP p25 X Z))) (mulP (subP p25 (mulP (addP X Z) (addP X Z)) (mulP (subP p25 X Z) (subP p25 X Z))) (addP (mulP (addP X Z) (addP X Z)) (mulP (subP p25 (mulP (addP X Z) (addP X Z)) (mulP (subP p25 X Z) (subP p25 X Z))) 121665)))) := hJ.old 0 (show 0 < 1 by decide) (show 6 < 7 by decide)
      replace r_t3 := Keep.row hE r_t3 (cont1 (Ne.symm n_t2_t3))
      replace r_t4 := Keep.row hE r_t4 (cont1 (Ne.symm n_t2_t4))
      replace r_t5 := Keep.row hE r_t5 (cont1 (Ne.symm n_t2_t5))
      have B9 := hE.below B8 (HGS.out _ B8) (keep_all1 l_t2)
      clear B8 hE hJ HWF q0 q1 q2 q3 q4 q5
      go_wp2
      exact ret_cell_as _ rfl arrR r_t2 rfl (by omega) (fun _ _ => rfl) rfl ⟨by rw [lz2_turned]; rfl, B9⟩
set_option maxHeartbeats 4000000 in
set_option maxRecDepth 10000 in
theorem radd_any (X Z V Y U : Nat) (w : World) (HX : X < p25) (HZ : Z < p25) (HV : V < p25) (HY : Y < p25) (HU : U < p25) : Calls Try.prog 33 #[.agg (arrOf 8 (rtF X Z)), .agg (arrOf 8 (rtF V Y)), .agg (arrOf 4 (ewF U))] w fun e w' => e = .returned (.agg (arrOf 8 (rtF (lx3 X Z V Y) (lz3 U X Z V Y)))) ∧ Below w.heap.size w w' := by
  have B0 := Below.refl w.heap.size w
  have HGS : Hid (∀ wq : World, Below w.heap.size w wq → w.heap.size ≤ wq.heap.size) := Lib.hid fun wq h => h.size
  replace HX := Lib.hid HX
  replace HZ := Lib.hid HZ
  replace HV := Lib.hid HV
  replace HY := Lib.hid HY
  replace HU := Lib.hid HU
  go_enter Try.func33, Try.ntmps33
  go_wp2_with (first
    | (have hgo := B0; clear hgo
       refine wpList_box_row rfl 54 (.tmp 0) rfl 8 (rtF X Z) rfl ?_
       intro b_t3 w1 lk r_t3 kk
       have l_t3 := Nat.le_trans (HGS.out _ B0) lk
       have B1 := B0.trans (kk.mono (HGS.out _ B0))
       clear B0 kk lk)
    | (have hgo := B1; clear hgo
       refine wpList_box_row rfl 54 (.tmp 1) rfl 8 (rtF V Y) rfl ?_
       intro b_t4 w2 lk r_t4 kk
       have n_t3_t4 : b_t3 ≠ b_t4 := Nat.ne_of_lt (Nat.lt_of_lt_of_le (World.rowIs.lt r_t3) lk)
       have l_t4 := Nat.le_trans (HGS.out _ B1) lk
       replace r_t3 := World.rowIs.of_block r_t3 (kk.block _ (World.rowIs.lt r_t3))
       have B2 := B1.trans (kk.mono (HGS.out _ B1))
       clear B1 kk lk)
    | (have hgo := B2; clear hgo
       refine wpList_box_row rfl 42 (.tmp 2) rfl 4 (ewF U) rfl ?_
       intro b_t5 w3 lk r_t5 kk
       have n_t3_t5 : b_t3 ≠ b_t5 := Nat.ne_of_lt (Nat.lt_of_lt_of_le (World.rowIs.lt r_t3) lk)
       have n_t4_t5 : b_t4 ≠ b_t5 := Nat.ne_of_lt (Nat.lt_of_lt_of_le (World.rowIs.lt r_t4) lk)
       have l_t5 := Nat.le_trans (HGS.out _ B2) lk
       replace r_t3 := World.rowIs.of_block r_t3 (kk.block _ (World.rowIs.lt r_t3))
       replace r_t4 := World.rowIs.of_block r_t4 (kk.block _ (World.rowIs.lt r_t4))
       have B3 := B2.trans (kk.mono (HGS.out _ B2))
       clear B2 kk lk)
    | (have hgo := B3; clear hgo
       refine wpList_alloc_row rfl 54 rfl 8 (u64f fun _ => 0) zeroR ?_
       intro b_t6 w4 lk r_t6 kk
       have n_t3_t6 : b_t3 ≠ b_t6 := Nat.ne_of_lt (Nat.lt_of_lt_of_le (World.rowIs.lt r_t3) lk)
       have n_t4_t6 : b_t4 ≠ b_t6 := Nat.ne_of_lt (Nat.lt_of_lt_of_le (World.rowIs.lt r_t4) lk)
       have n_t5_t6 : b_t5 ≠ b_t6 := Nat.ne_of_lt (Nat.lt_of_lt_of_le (World.rowIs.lt r_t5) lk)
       have l_t6 := Nat.le_trans (HGS.out _ B3) lk
       replace r_t3 := World.rowIs.of_block r_t3 (kk.block _ (World.rowIs.lt r_t3))
       replace r_t4 := World.rowIs.of_block r_t4 (kk.block _ (World.rowIs.lt r_t4))
       replace r_t5 := World.rowIs.of_block r_t5 (kk.block _ (World.rowIs.lt r_t5))
       have B4 := B3.trans (kk.mono (HGS.out _ B3))
       clear B3 kk lk))
  have B5 := B4.drew
  replace r_t3 := World.rowIs.drew r_t3
  replace r_t4 := World.rowIs.drew r_t4
  replace r_t5 := World.rowIs.drew r_t5
  replace r_t6 := World.rowIs.drew r_t6
  clear B4
  refine wp_region_po (Keep []) (Keep.refl _) (fun _ _ _ h1 h2 => h1.trans h2) (.rd 0 (.rd 1 (.rd 2 (.rd 3 (.rd 5 (.rd 6 (.rd 7 (.rd 8 .done)))))))) #[true, true, true, true, false, true, true, true, true, false, false, false, false] [4, 9, 10, 11, 12] [some 13, some 18, some 19, some 7, none] [[], [0], [0, 1], [], [0, 1, 2, 3]] [(0, []), (1, [0]), (2, []), (3, [2]), (4, [1, 3]), (5, []), (6, [5]), (7, []), (8, [7]), (9, [6, 8, 4]), (10, [4, 9, 9]), (11, []), (12, [11, 10, 10, 0, 1, 2, 3, 4, 5, 6, 7, 8, 9, 10, 11])] 495 (by kernel_rfl) (by kernel_rfl) (by decide) (by kernel_rfl) (by kernel_rfl) (by kernel_rfl) rfl (fun d _ _ _ _ h => by cases d <;> exact h) ?_
  refine lintz_pure 9 (Op.fieldAddr 54 (Operand.tmp 4) 0) 0 (.pointer (some ⟨b_t4, 0, none⟩)) rfl rfl rfl rfl rfl (fun w0 hb => by unfold mkOp; go_simp; all_goals (with_reducible rfl)) ?_
  simp only [Act.put, List.setIfInBounds_toArray, List.set_cons_zero, List.set_cons_succ]
  refine lintz_pure 10 (Op.load 42 (Operand.tmp 9)) 42 (.agg (arrOf 4 (ewF V))) rfl rfl rfl rfl rfl (fun w0 hb => by exact exec_load_as _ _ _ _ (ewF V) rfl arrE (Keep.row hb r_t4 rfl) (by omega) (fun i hi => rt_lo _ _ i hi)) ?_
  simp only [Act.put, List.setIfInBounds_toArray, List.set_cons_zero, List.set_cons_succ]
  refine lintz_pure 11 (Op.fieldAddr 54 (Operand.tmp 4) 1) 0 (.pointer (some ⟨b_t4, 4, none⟩)) rfl rfl rfl rfl rfl (fun w0 hb => by unfold mkOp; go_simp; all_goals (with_reducible rfl)) ?_
  simp only [Act.put, List.setIfInBounds_toArray, List.set_cons_zero, List.set_cons_succ]
  refine lintz_pure 12 (Op.load 42 (Operand.tmp 11)) 42 (.agg (arrOf 4 (ewF Y))) rfl rfl rfl rfl rfl (fun w0 hb => by exact exec_load_as _ _ _ _ (ewF Y) rfl arrE (Keep.row hb r_t4 rfl) (by omega) (fun i hi => rt_hi _ _ i hi)) ?_
  simp only [Act.put, List.setIfInBounds_toArray, List.set_cons_zero, List.set_cons_succ]
  refine lintz_pure 14 (Op.fieldAddr 54 (Operand.tmp 3) 0) 0 (.pointer (some ⟨b_t3, 0, none⟩)) rfl rfl rfl rfl rfl (fun w0 hb => by unfold mkOp; go_simp; all_goals (with_reducible rfl)) ?_
  simp only [Act.put, List.setIfInBounds_toArray, List.set_cons_zero, List.set_cons_succ]
  refine lintz_pure 15 (Op.load 42 (Operand.tmp 14)) 42 (.agg (arrOf 4 (ewF X))) rfl rfl rfl rfl rfl (fun w0 hb => by exact exec_load_as _ _ _ _ (ewF X) rfl arrE (Keep.row hb r_t3 rfl) (by omega) (fun i hi => rt_lo _ _ i hi)) ?_
  simp only [Act.put, List.setIfInBounds_toArray, List.set_cons_zero, List.set_cons_succ]
  refine lintz_pure 16 (Op.fieldAddr 54 (Operand.tmp 3) 1) 0 (.pointer (some ⟨b_t3, 4, none⟩)) rfl rfl rfl rfl rfl (fun w0 hb => by unfold mkOp; go_simp; all_goals (with_reducible rfl)) ?_
  simp only [Act.put, List.setIfInBounds_toArray, List.set_cons_zero, List.set_cons_succ]
  refine lintz_pure 17 (Op.load 42 (Operand.tmp 16)) 42 (.agg (arrOf 4 (ewF Z))) rfl rfl rfl rfl rfl (fun w0 hb => by exact exec_load_as _ _ _ _ (ewF Z) rfl arrE (Keep.row hb r_t3 rfl) (by omega) (fun i hi => rt_hi _ _ i hi)) ?_
  simp only [Act.put, List.setIfInBounds_toArray, List.set_cons_zero, List.set_cons_succ]
  refine lintz_leaf ?_
  have HWF : poWf [.val (.agg (arrOf 4 (ewF (subP p25 V Y)))), .val (.agg (arrOf 4 (ewF (addP X Z)))), .val (.agg (arrOf 4 (ewF (mulP (subP p25 V Y) (addP X Z))))), .row 42 4 (u64f fun _ => 0) 4 (ewF (mulP (subP p25 V Y) (addP X Z))), .nil] [] = true := by kernel_rfl
  refine ⟨JG [.val (.agg (arrOf 4 (ewF (subP p25 V Y)))), .val (.agg (arrOf 4 (ewF (addP X Z)))), .val (.agg (arrOf 4 (ewF (mulP (subP p25 V Y) (addP X Z))))), .row 42 4 (u64f fun _ => 0) 4 (ewF (mulP (subP p25 V Y) (addP X Z))), .nil] [] _, JG.start (Nat.le_refl _) (fun i hi => absurd hi (Nat.not_lt_zero _)), fun m gz wa p az hp hm hmp hcl hdn hE hJ hS hO => ?_, fun gz wa hE hJ => ?_⟩
  · rcases (show p = 0 ∨ p = 1 ∨ p = 2 ∨ p = 3 ∨ p = 4 by have h9 : p < 5 := hp; omega) with rfl | rfl | rfl | rfl | rfl
    · have e10 : az.eval (.tmp 10) = .agg (arrOf 4 (ewF V)) := hO 10 rfl
      have e12 : az.eval (.tmp 12) = .agg (arrOf 4 (ewF Y)) := hO 12 rfl
      exact po_call 13 43 #[Operand.tmp 10, Operand.tmp 12] #[42, 42] _ HWF hJ rfl hE (sub_any V Y _ HV.out HY.out) rfl rfl rfl rfl rfl Try.func43 (by kernel_rfl) (by kernel_rfl) (by simp only [List.map_toArray, List.map_cons, List.map_nil, eval_const, eval_func, e10, e12] <;> rfl)
    · have e15 : az.eval (.tmp 15) = .agg (arrOf 4 (ewF X)) := hO 15 rfl
      have e17 : az.eval (.tmp 17) = .agg (arrOf 4 (ewF Z)) := hO 17 rfl
      exact po_call 18 45 #[Operand.tmp 15, Operand.tmp 17] #[42, 42] _ HWF hJ rfl hE (add_any X Z _ HX.out HZ.out) rfl rfl rfl rfl rfl Try.func45 (by kernel_rfl) (by kernel_rfl) (by simp only [List.map_toArray, List.map_cons, List.map_nil, eval_const, eval_func, e15, e17] <;> rfl)
    · have e13 := (hS 0 13 rfl (hdn 0 (by decide)) (Nat.le_of_ble_eq_true rfl)).trans (hJ.says (hdn 0 (by decide)) rfl)
      have e18 := (hS 1 18 rfl (hdn 1 (by decide)) (Nat.le_of_ble_eq_true rfl)).trans (hJ.says (hdn 1 (by decide)) rfl)
      exact po_call 19 44 #[Operand.tmp 13, Operand.tmp 18] #[42, 42] _ HWF hJ rfl hE (mul_any (subP p25 V Y) (addP X Z) _ (subP_lt _ _) (addP_lt _ _)) rfl rfl rfl rfl rfl Try.func44 (by kernel_rfl) (by kernel_rfl) (by simp only [List.map_toArray, List.map_cons, List.map_nil, eval_const, eval_func, e13, e18] <;> rfl)
    · exact po_alloc 7 _ 42 4 (u64f fun _ => 0) _ _ HWF hJ rfl (po_notyet hcl hmp (by rw [hm]; exact hp) (by decide)) hE rfl rfl rfl rfl rfl rfl zeroE
    · have e19 := (hS 2 19 rfl (hdn 2 (by decide)) (Nat.le_of_ble_eq_true rfl)).trans (hJ.says (hdn 2 (by decide)) rfl)
      exact po_storeRow 3 (.tmp 7) (.tmp 19) 42 4 _ _ (by rw [hm]; exact hp) hmp hJ rfl rfl (hdn 3 (by decide)) (by kernel_rfl) (fun i hi => absurd hi (Nat.not_lt_zero _)) hE rfl rfl rfl rfl rfl (hS 3 7 rfl (hdn 3 (by decide)) (Nat.le_of_ble_eq_true rfl)) e19 arrE (fun _ _ => rfl)
  · have q0 := hJ.told 0 (by decide) rfl
    have q1 := hJ.told 1 (by decide) rfl
    have q2 := hJ.told 2 (by decide) rfl
    obtain ⟨b_t7, p_t7, lk_t7, r_t7, d_t7⟩ := hJ.row 3 (by decide) rfl (by decide)
    show PoEnd _ (Act.put (Act.put (Act.put (Act.put (Act.put _ (some 13) (gz 0)) (some 18) (gz 1)) (some 19) (gz 2)) (some 7) (gz 3)) none (gz 4)) wa
    rw [q0, q1, q2, p_t7]
    simp only [Act.put, List.setIfInBounds_toArray, List.set_cons_zero, List.set_cons_succ]
    refine po_end ?_
    have n_t3_t7 : b_t3 ≠ b_t7 := Nat.ne_of_lt (Nat.lt_of_lt_of_le (World.rowIs.lt r_t3) lk_t7)
    have n_t4_t7 : b_t4 ≠ b_t7 := Nat.ne_of_lt (Nat.lt_of_lt_of_le (World.rowIs.lt r_t4) lk_t7)
    have n_t5_t7 : b_t5 ≠ b_t7 := Nat.ne_of_lt (Nat.lt_of_lt_of_le (World.rowIs.lt r_t5) lk_t7)
    have n_t6_t7 : b_t6 ≠ b_t7 := Nat.ne_of_lt (Nat.lt_of_lt_of_le (World.rowIs.lt r_t6) lk_t7)
    have l_t7 := Nat.le_trans (HGS.out _ B5) lk_t7
    replace r_t3 := Keep.row hE r_t3 rfl
    replace r_t4 := Keep.row hE r_t4 rfl
    replace r_t5 := Keep.row hE r_t5 rfl
    replace r_t6 := Keep.row hE r_t6 rfl
    have B6 := hE.below B5 (HGS.out _ B5) rfl
    clear B5 hE hJ HWF q0 q1 q2 p_t7 lk_t7 d_t7
    go_wp2
    have B7 := B6.drew
    replace r_t3 := World.rowIs.drew r_t3
    replace r_t4 := World.rowIs.drew r_t4
    replace r_t5 := World.rowIs.drew r_t5
    replace r_t6 := World.rowIs.drew r_t6
    replace r_t7 := World.rowIs.drew r_t7
    clear B6
    refine wp_region_po (Keep []) (Keep.refl _) (fun _ _ _ h1 h2 => h1.trans h2) (.rd 0 (.rd 1 (.rd 2 (.rd 3 (.rd 5 (.rd 6 (.rd 7 (.rd 8 .done)))))))) #[true, true, true, true, false, true, true, true, true, false, false, false, false] [4, 9, 10, 11, 12] [some 24, some 29, some 30, some 8, none] [[], [0], [0, 1], [], [0, 1, 2, 3]] [(0, []), (1, [0]), (2, []), (3, [2]), (4, [1, 3]), (5, []), (6, [5]), (7, []), (8, [7]), (9, [6, 8, 4]), (10, [4, 9, 9]), (11, []), (12, [11, 10, 10, 0, 1, 2, 3, 4, 5, 6, 7, 8, 9, 10, 11])] 495 (by kernel_rfl) (by kernel_rfl) (by decide) (by kernel_rfl) (by kernel_rfl) (by kernel_rfl) rfl (fun d _ _ _ _ h => by cases d <;> exact h) ?_
    refine lintz_pure 20 (Op.fieldAddr 54 (Operand.tmp 4) 0) 0 (.pointer (some ⟨b_t4, 0, none⟩)) rfl rfl rfl rfl rfl (fun w0 hb => by unfold mkOp; go_simp; all_goals (with_reducible rfl)) ?_
    simp only [Act.put, List.setIfInBounds_toArray, List.set_cons_zero, List.set_cons_succ]
    refine lintz_pure 21 (Op.load 42 (Operand.tmp 20)) 42 (.agg (arrOf 4 (ewF V))) rfl rfl rfl rfl rfl (fun w0 hb => by exact exec_load_as _ _ _ _ (ewF V) rfl arrE (Keep.row hb r_t4 rfl) (by omega) (fun i hi => rt_lo _ _ i hi)) ?_
    simp only [Act.put, List.setIfInBounds_toArray, List.set_cons_zero, List.set_cons_succ]
    refine lintz_pure 22 (Op.fieldAddr 54 (Operand.tmp 4) 1) 0 (.pointer (some ⟨b_t4, 4, none⟩)) rfl rfl rfl rfl rfl (fun w0 hb => by unfold mkOp; go_simp; all_goals (with_reducible rfl)) ?_
    simp only [Act.put, List.setIfInBounds_toArray, List.set_cons_zero, List.set_cons_succ]
    refine lintz_pure 23 (Op.load 42 (Operand.tmp 22)) 42 (.agg (arrOf 4 (ewF Y))) rfl rfl rfl rfl rfl (fun w0 hb => by exact exec_load_as _ _ _ _ (ewF Y) rfl arrE (Keep.row hb r_t4 rfl) (by omega) (fun i hi => rt_hi _ _ i hi)) ?_
    simp only [Act.put, List.setIfInBounds_toArray, List.set_cons_zero, List.set_cons_succ]
    refine lintz_pure 25 (Op.fieldAddr 54 (Operand.tmp 3) 0) 0 (.pointer (some ⟨b_t3, 0, none⟩)) rfl rfl rfl rfl rfl (fun w0 hb => by unfold mkOp; go_simp; all_goals (with_reducible rfl)) ?_
    simp only [Act.put, List.setIfInBounds_toArray, List.set_cons_zero, List.set_cons_succ]
    refine lintz_pure 26 (Op.load 42 (Operand.tmp 25)) 42 (.agg (arrOf 4 (ewF X))) rfl rfl rfl rfl rfl (fun w0 hb => by exact exec_load_as _ _ _ _ (ewF X) rfl arrE (Keep.row hb r_t3 rfl) (by omega) (fun i hi => rt_lo _ _ i hi)) ?_
    simp only [Act.put, List.setIfInBounds_toArray, List.set_cons_zero, List.set_cons_succ]
    refine lintz_pure 27 (Op.fieldAddr 54 (Operand.tmp 3) 1) 0 (.pointer (some ⟨b_t3, 4, none⟩)) rfl rfl rfl rfl rfl (fun w0 hb => by unfold mkOp; go_simp; all_goals (with_reducible rfl)) ?_
    simp only [Act.put, List.setIfInBounds_toArray, List.set_cons_zero, List.set_cons_succ]
    refine lintz_pure 28 (Op.load 42 (Operand.tmp 27)) 42 (.agg (arrOf 4 (ewF Z))) rfl rfl rfl rfl rfl (fun w0 hb => by exact exec_load_as _ _ _ _ (ewF Z) rfl arrE (Keep.row hb r_t3 rfl) (by omega) (fun i hi => rt_hi _ _ i hi)) ?_
    simp only [Act.put, List.setIfInBounds_toArray, List.set_cons_zero, List.set_cons_succ]
    refine lintz_leaf ?_
    have HWF : poWf [.val (.agg (arrOf 4 (ewF (addP V Y)))), .val (.agg (arrOf 4 (ewF (subP p25 X Z)))), .val (.agg (arrOf 4 (ewF (mulP (addP V Y) (subP p25 X Z))))), .row 42 4 (u64f fun _ => 0) 4 (ewF (mulP (addP V Y) (subP p25 X Z))), .nil] [] = true := by kernel_rfl
    refine ⟨JG [.val (.agg (arrOf 4 (ewF (addP V Y)))), .val (.agg (arrOf 4 (ewF (subP p25 X Z)))), .val (.agg (arrOf 4 (ewF (mulP (addP V Y) (subP p25 X Z))))), .row 42 4 (u64f fun _ => 0) 4 (ewF (mulP (addP V Y) (subP p25 X Z))), .nil] [] _, JG.start (Nat.le_refl _) (fun i hi => absurd hi (Nat.not_lt_zero _)), fun m gz wa p az hp hm hmp hcl hdn hE hJ hS hO => ?_, fun gz wa hE hJ => ?_⟩
    · rcases (show p = 0 ∨ p = 1 ∨ p = 2 ∨ p = 3 ∨ p = 4 by have h9 : p < 5 := hp; omega) with rfl | rfl | rfl | rfl | rfl
      · have e21 : az.eval (.tmp 21) = .agg (arrOf 4 (ewF V)) := hO 21 rfl
        have e23 : az.eval (.tmp 23) = .agg (arrOf 4 (ewF Y)) := hO 23 rfl
        exact po_call 24 45 #[Operand.tmp 21, Operand.tmp 23] #[42, 42] _ HWF hJ rfl hE (add_any V Y _ HV.out HY.out) rfl rfl rfl rfl rfl Try.func45 (by kernel_rfl) (by kernel_rfl) (by simp only [List.map_toArray, List.map_cons, List.map_nil, eval_const, eval_func, e21, e23] <;> rfl)
      · have e26 : az.eval (.tmp 26) = .agg (arrOf 4 (ewF X)) := hO 26 rfl
        have e28 : az.eval (.tmp 28) = .agg (arrOf 4 (ewF Z)) := hO 28 rfl
        exact po_call 29 43 #[Operand.tmp 26, Operand.tmp 28] #[42, 42] _ HWF hJ rfl hE (sub_any X Z _ HX.out HZ.out) rfl rfl rfl rfl rfl Try.func43 (by kernel_rfl) (by kernel_rfl) (by simp only [List.map_toArray, List.map_cons, List.map_nil, eval_const, eval_func, e26, e28] <;> rfl)
      · have e24 := (hS 0 24 rfl (hdn 0 (by decide)) (Nat.le_of_ble_eq_true rfl)).trans (hJ.says (hdn 0 (by decide)) rfl)
        have e29 := (hS 1 29 rfl (hdn 1 (by decide)) (Nat.le_of_ble_eq_true rfl)).trans (hJ.says (hdn 1 (by decide)) rfl)
        exact po_call 30 44 #[Operand.tmp 24, Operand.tmp 29] #[42, 42] _ HWF hJ rfl hE (mul_any (addP V Y) (subP p25 X Z) _ (addP_lt _ _) (subP_lt _ _)) rfl rfl rfl rfl rfl Try.func44 (by kernel_rfl) (by kernel_rfl) (by simp only [List.map_toArray, List.map_cons, List.map_nil, eval_const, eval_func, e24, e29] <;> rfl)
      · exact po_alloc 8 _ 42 4 (u64f fun _ => 0) _ _ HWF hJ rfl (po_notyet hcl hmp (by rw [hm]; exact hp) (by decide)) hE rfl rfl rfl rfl rfl rfl zeroE
      · have e30 := (hS 2 30 rfl (hdn 2 (by decide)) (Nat.le_of_ble_eq_true rfl)).trans (hJ.says (hdn 2 (by decide)) rfl)
        exact po_storeRow 3 (.tmp 8) (.tmp 30) 42 4 _ _ (by rw [hm]; exact hp) hmp hJ rfl rfl (hdn 3 (by decide)) (by kernel_rfl) (fun i hi => absurd hi (Nat.not_lt_zero _)) hE rfl rfl rfl rfl rfl (hS 3 8 rfl (hdn 3 (by decide)) (Nat.le_of_ble_eq_true rfl)) e30 arrE (fun _ _ => rfl)
    · have q0 := hJ.told 0 (by decide) rfl
      have q1 := hJ.told 1 (by decide) rfl
      have q2 := hJ.told 2 (by decide) rfl
      obtain ⟨b_t8, p_t8, lk_t8, r_t8, d_t8⟩ := hJ.row 3 (by decide) rfl (by decide)
      show PoEnd _ (Act.put (Act.put (Act.put (Act.put (Act.put _ (some 24) (gz 0)) (some 29) (gz 1)) (some 30) (gz 2)) (some 8) (gz 3)) none (gz 4)) wa
      rw [q0, q1, q2, p_t8]
      simp only [Act.put, List.setIfInBounds_toArray, List.set_cons_zero, List.set_cons_succ]
      refine po_end ?_
      have n_t3_t8 : b_t3 ≠ b_t8 := Nat.ne_of_lt (Nat.lt_of_lt_of_le (World.rowIs.lt r_t3) lk_t8)
      have n_t4_t8 : b_t4 ≠ b_t8 := Nat.ne_of_lt (Nat.lt_of_lt_of_le (World.rowIs.lt r_t4) lk_t8)
      have n_t5_t8 : b_t5 ≠ b_t8 := Nat.ne_of_lt (Nat.lt_of_lt_of_le (World.rowIs.lt r_t5) lk_t8)
      have n_t6_t8 : b_t6 ≠ b_t8 := Nat.ne_of_lt (Nat.lt_of_lt_of_le (World.rowIs.lt r_t6) lk_t8)
      have n_t7_t8 : b_t7 ≠ b_t8 := Nat.ne_of_lt (Nat.lt_of_lt_of_le (World.rowIs.lt r_t7) lk_t8)
      have l_t8 := Nat.le_trans (HGS.out _ B7) lk_t8
      replace r_t3 := Keep.row hE r_t3 rfl
      replace r_t4 := Keep.row hE r_t4 rfl
      replace r_t5 := Keep.row hE r_t5 rfl
      replace r_t6 := Keep.row hE r_t6 rfl
      replace r_t7 := Keep.row hE r_t7 rfl
      have B8 := hE.below B7 (HGS.out _ B7) rfl
      clear B7 hE hJ HWF q0 q1 q2 p_t8 lk_t8 d_t8
      go_wp2
      have B9 := B8.drew
      replace r_t3 := World.rowIs.drew r_t3
      replace r_t4 := World.rowIs.drew r_t4
      replace r_t5 := World.rowIs.drew r_t5
      replace r_t6 := World.rowIs.drew r_t6
      replace r_t7 := World.rowIs.drew r_t7
      replace r_t8 := World.rowIs.drew r_t8
      clear B8
      refine wp_region_po (Keep [b_t6]) (Keep.refl _) (fun _ _ _ h1 h2 => h1.trans h2) (.rd 0 (.rd 1 (.rd 4 (.rd 5 (.rd 6 .done))))) #[true, true, false, false, true, true, true, false, false, false, false, false] [2, 3, 7, 8, 9, 10, 11] [some 33, some 34, some 38, some 39, some 40, some 41, none] [[], [0], [1], [2], [3], [1, 4], [0, 1, 2, 3, 4, 5]] [(0, []), (1, []), (2, [0, 1]), (3, [2, 2]), (4, []), (5, []), (6, []), (7, [5, 6, 3]), (8, [7, 7]), (9, [4, 8, 8]), (10, [3, 9]), (11, [10, 9, 0, 1, 2, 3, 4, 5, 6, 7, 8, 9, 10])] 115 (by kernel_rfl) (by kernel_rfl) (by decide) (by kernel_rfl) (by kernel_rfl) (by kernel_rfl) rfl (fun d _ _ _ _ h => by cases d <;> exact h) ?_
      refine lintz_pure 31 (Op.load 42 (Operand.tmp 7)) 42 (.agg (arrOf 4 (ewF (mulP (subP p25 V Y) (addP X Z))))) rfl rfl rfl rfl rfl (fun w0 hb => by exact exec_load_as _ _ _ _ (ewF (mulP (subP p25 V Y) (addP X Z))) rfl arrE (Keep.row hb r_t7 (cont1 (Ne.symm n_t6_t7))) (by omega) (fun i hi => by rw [Nat.zero_add])) ?_
      simp only [Act.put, List.setIfInBounds_toArray, List.set_cons_zero, List.set_cons_succ]
      refine lintz_pure 32 (Op.load 42 (Operand.tmp 8)) 42 (.agg (arrOf 4 (ewF (mulP (addP V Y) (subP p25 X Z))))) rfl rfl rfl rfl rfl (fun w0 hb => by exact exec_load_as _ _ _ _ (ewF (mulP (addP V Y) (subP p25 X Z))) rfl arrE (Keep.row hb r_t8 (cont1 (Ne.symm n_t6_t8))) (by omega) (fun i hi => by rw [Nat.zero_add])) ?_
      simp only [Act.put, List.setIfInBounds_toArray, List.set_cons_zero, List.set_cons_succ]
      refine lintz_pure 35 (Op.load 42 (Operand.tmp 5)) 42 (.agg (arrOf 4 (ewF U))) rfl rfl rfl rfl rfl (fun w0 hb => by exact exec_load_as _ _ _ _ (ewF U) rfl arrE (Keep.row hb r_t5 (cont1 n_t5_t6)) (by omega) (fun i hi => by rw [Nat.zero_add])) ?_
      simp only [Act.put, List.setIfInBounds_toArray, List.set_cons_zero, List.set_cons_succ]
      refine lintz_pure 36 (Op.load 42 (Operand.tmp 7)) 42 (.agg (arrOf 4 (ewF (mulP (subP p25 V Y) (addP X Z))))) rfl rfl rfl rfl rfl (fun w0 hb => by exact exec_load_as _ _ _ _ (ewF (mulP (subP p25 V Y) (addP X Z))) rfl arrE (Keep.row hb r_t7 (cont1 (Ne.symm n_t6_t7))) (by omega) (fun i hi => by rw [Nat.zero_add])) ?_
      simp only [Act.put, List.setIfInBounds_toArray, List.set_cons_zero, List.set_cons_succ]
      refine lintz_pure 37 (Op.load 42 (Operand.tmp 8)) 42 (.agg (arrOf 4 (ewF (mulP (addP V Y) (subP p25 X Z))))) rfl rfl rfl rfl rfl (fun w0 hb => by exact exec_load_as _ _ _ _ (ewF (mulP (addP V Y) (subP p25 X Z))) rfl arrE (Keep.row hb r_t8 (cont1 (Ne.symm n_t6_t8))) (by omega) (fun i hi => by rw [Nat.zero_add])) ?_
      simp only [Act.put, List.setIfInBounds_toArray, List.set_cons_zero, List.set_cons_succ]
      refine lintz_leaf ?_
      have HWF : poWf [.val (.agg (arrOf 4 (ewF (addP (mulP (subP p25 V Y) (addP X Z)) (mulP (addP V Y) (subP p25 X Z)))))), .val (.agg (arrOf 4 (ewF (mulP (addP (mulP (subP p25 V Y) (addP X Z)) (mulP (addP V Y) (subP p25 X Z))) (addP (mulP (subP p25 V Y) (addP X Z)) (mulP (addP V Y) (subP p25 X Z))))))), .val (.agg (arrOf 4 (ewF (subP p25 (mulP (subP p25 V Y) (addP X Z)) (mulP (addP V Y) (subP p25 X Z)))))), .val (.agg (arrOf 4 (ewF (mulP (subP p25 (mulP (subP p25 V Y) (addP X Z)) (mulP (addP V Y) (subP p25 X Z))) (subP p25 (mulP (subP p25 V Y) (addP X Z)) (mulP (addP V Y) (subP p25 X Z))))))), .val (.agg (arrOf 4 (ewF (mulP U (mulP (subP p25 (mulP (subP p25 V Y) (addP X Z)) (mulP (addP V Y) (subP p25 X Z))) (subP p25 (mulP (subP p25 V Y) (addP X Z)) (mulP (addP V Y) (subP p25 X Z)))))))), .val (.agg (arrOf 8 (rtF (mulP (addP (mulP (subP p25 V Y) (addP X Z)) (mulP (addP V Y) (subP p25 X Z))) (addP (mulP (subP p25 V Y) (addP X Z)) (mulP (addP V Y) (subP p25 X Z)))) (mulP U (mulP (subP p25 (mulP (subP p25 V Y) (addP X Z)) (mulP (addP V Y) (subP p25 X Z))) (subP p25 (mulP (subP p25 V Y) (addP X Z)) (mulP (addP V Y) (subP p25 X Z)))))))), .nil] [⟨b_t6, 54, 8, (u64f fun _ => 0), 6, (rtF (mulP (addP (mulP (subP p25 V Y) (addP X Z)) (mulP (addP V Y) (subP p25 X Z))) (addP (mulP (subP p25 V Y) (addP X Z)) (mulP (addP V Y) (subP p25 X Z)))) (mulP U (mulP (subP p25 (mulP (subP p25 V Y) (addP X Z)) (mulP (addP V Y) (subP p25 X Z))) (subP p25 (mulP (subP p25 V Y) (addP X Z)) (mulP (addP V Y) (subP p25 X Z))))))⟩] = true := by kernel_rfl
      refine ⟨JG [.val (.agg (arrOf 4 (ewF (addP (mulP (subP p25 V Y) (addP X Z)) (mulP (addP V Y) (subP p25 X Z)))))), .val (.agg (arrOf 4 (ewF (mulP (addP (mulP (subP p25 V Y) (addP X Z)) (mulP (addP V Y) (subP p25 X Z))) (addP (mulP (subP p25 V Y) (addP X Z)) (mulP (addP V Y) (subP p25 X Z))))))), .val (.agg (arrOf 4 (ewF (subP p25 (mulP (subP p25 V Y) (addP X Z)) (mulP (addP V Y) (subP p25 X Z)))))), .val (.agg (arrOf 4 (ewF (mulP (subP p25 (mulP (subP p25 V Y) (addP X Z)) (mulP (addP V Y) (subP p25 X Z))) (subP p25 (mulP (subP p25 V Y) (addP X Z)) (mulP (addP V Y) (subP p25 X Z))))))), .val (.agg (arrOf 4 (ewF (mulP U (mulP (subP p25 (mulP (subP p25 V Y) (addP X Z)) (mulP (addP V Y) (subP p25 X Z))) (subP p25 (mulP (subP p25 V Y) (addP X Z)) (mulP (addP V Y) (subP p25 X Z)))))))), .val (.agg (arrOf 8 (rtF (mulP (addP (mulP (subP p25 V Y) (addP X Z)) (mulP (addP V Y) (subP p25 X Z))) (addP (mulP (subP p25 V Y) (addP X Z)) (mulP (addP V Y) (subP p25 X Z)))) (mulP U (mulP (subP p25 (mulP (subP p25 V Y) (addP X Z)) (mulP (addP V Y) (subP p25 X Z))) (subP p25 (mulP (subP p25 V Y) (addP X Z)) (mulP (addP V Y) (subP p25 X Z)))))))), .nil] [⟨b_t6, 54, 8, (u64f fun _ => 0), 6, (rtF (mulP (addP (mulP (subP p25 V Y) (addP X Z)) (mulP (addP V Y) (subP p25 X Z))) (addP (mulP (subP p25 V Y) (addP X Z)) (mulP (addP V Y) (subP p25 X Z)))) (mulP U (mulP (subP p25 (mulP (subP p25 V Y) (addP X Z)) (mulP (addP V Y) (subP p25 X Z))) (subP p25 (mulP (subP p25 V Y) (addP X Z)) (mulP (addP V Y) (subP p25 X Z))))))⟩] _, JG.start (Nat.le_refl _) (fun i hi => by obtain rfl : i = 0 := by { have h9 : i < 1 := hi; omega }; exact r_t6), fun m gz wa p az hp hm hmp hcl hdn hE hJ hS hO => ?_, fun gz wa hE hJ => ?_⟩
      · rcases (show p = 0 ∨ p = 1 ∨ p = 2 ∨ p = 3 ∨ p = 4 ∨ p = 5 ∨ p = 6 by have h9 : p < 7 := hp; omega) with rfl | rfl | rfl | rfl | rfl | rfl | rfl
        · have e31 : az.eval (.tmp 31) = .agg (arrOf 4 (ewF (mulP (subP p25 V Y) (addP X Z)))) := hO 31 rfl
          have e32 : az.eval (.tmp 32) = .agg (arrOf 4 (ewF (mulP (addP V Y) (subP p25 X Z)))) := hO 32 rfl
          exact po_call 33 45 #[Operand.tmp 31, Operand.tmp 32] #[42, 42] _ HWF hJ rfl hE (add_any (mulP (subP p25 V Y) (addP X Z)) (mulP (addP V Y) (subP p25 X Z)) _ (mulP_lt _ _) (mulP_lt _ _)) rfl rfl rfl rfl rfl Try.func45 (by kernel_rfl) (by kernel_rfl) (by simp only [List.map_toArray, List.map_cons, List.map_nil, eval_const, eval_func, e31, e32] <;> rfl)
        · have e33 := (hS 0 33 rfl (hdn 0 (by decide)) (Nat.le_of_ble_eq_true rfl)).trans (hJ.says (hdn 0 (by decide)) rfl)
          exact po_call 34 46 #[Operand.tmp 33] #[42] _ HWF hJ rfl hE (sq_any (addP (mulP (subP p25 V Y) (addP X Z)) (mulP (addP V Y) (subP p25 X Z))) _ (addP_lt _ _)) rfl rfl rfl rfl rfl Try.func46 (by kernel_rfl) (by kernel_rfl) (by simp only [List.map_toArray, List.map_cons, List.map_nil, eval_const, eval_func, e33] <;> rfl)
        · have e36 : az.eval (.tmp 36) = .agg (arrOf 4 (ewF (mulP (subP p25 V Y) (addP X Z)))) := hO 36 rfl
          have e37 : az.eval (.tmp 37) = .agg (arrOf 4 (ewF (mulP (addP V Y) (subP p25 X Z)))) := hO 37 rfl
          exact po_call 38 43 #[Operand.tmp 36, Operand.tmp 37] #[42, 42] _ HWF hJ rfl hE (sub_any (mulP (subP p25 V Y) (addP X Z)) (mulP (addP V Y) (subP p25 X Z)) _ (mulP_lt _ _) (mulP_lt _ _)) rfl rfl rfl rfl rfl Try.func43 (by kernel_rfl) (by kernel_rfl) (by simp only [List.map_toArray, List.map_cons, List.map_nil, eval_const, eval_func, e36, e37] <;> rfl)
        · have e38 := (hS 2 38 rfl (hdn 2 (by decide)) (Nat.le_of_ble_eq_true rfl)).trans (hJ.says (hdn 2 (by decide)) rfl)
          exact po_call 39 46 #[Operand.tmp 38] #[42] _ HWF hJ rfl hE (sq_any (subP p25 (mulP (subP p25 V Y) (addP X Z)) (mulP (addP V Y) (subP p25 X Z))) _ (subP_lt _ _)) rfl rfl rfl rfl rfl Try.func46 (by kernel_rfl) (by kernel_rfl) (by simp only [List.map_toArray, List.map_cons, List.map_nil, eval_const, eval_func, e38] <;> rfl)
        · have e35 : az.eval (.tmp 35) = .agg (arrOf 4 (ewF U)) := hO 35 rfl
          have e39 := (hS 3 39 rfl (hdn 3 (by decide)) (Nat.le_of_ble_eq_true rfl)).trans (hJ.says (hdn 3 (by decide)) rfl)
          exact po_call 40 44 #[Operand.tmp 35, Operand.tmp 39] #[42, 42] _ HWF hJ rfl hE (mul_any U (mulP (subP p25 (mulP (subP p25 V Y) (addP X Z)) (mulP (addP V Y) (subP p25 X Z))) (subP p25 (mulP (subP p25 V Y) (addP X Z)) (mulP (addP V Y) (subP p25 X Z)))) _ HU.out (mulP_lt _ _)) rfl rfl rfl rfl rfl Try.func44 (by kernel_rfl) (by kernel_rfl) (by simp only [List.map_toArray, List.map_cons, List.map_nil, eval_const, eval_func, e35, e39] <;> rfl)
        · have e34 := (hS 1 34 rfl (hdn 1 (by decide)) (Nat.le_of_ble_eq_true rfl)).trans (hJ.says (hdn 1 (by decide)) rfl)
          have e40 := (hS 4 40 rfl (hdn 4 (by decide)) (Nat.le_of_ble_eq_true rfl)).trans (hJ.says (hdn 4 (by decide)) rfl)
          exact po_run 41 (Op.build 54 #[(0, Operand.tmp 34), (1, Operand.tmp 40)]) _ HWF hJ rfl hE rfl rfl rfl rfl rfl rfl (exec_build_as _ _ _ (by simp only [List.map_toArray, List.map_cons, List.map_nil, e34, e40]; exact builtR _ _))
        · have e41 := (hS 5 41 rfl (hdn 5 (by decide)) (Nat.le_of_ble_eq_true rfl)).trans (hJ.says (hdn 5 (by decide)) rfl)
          exact po_storeOld 0 (.tmp 6) (.tmp 41) 54 b_t6 8 _ (by rw [hm]; exact hp) hmp hJ rfl (show 0 < 1 by decide) rfl rfl rfl rfl rfl (World.rowIs.lt r_t6) (by simp) (by kernel_rfl) po_ne1 hE rfl rfl rfl rfl rfl (hO 6 rfl) e41 arrR (fun j _ => rt_one _ _ j)
      · have q0 := hJ.told 0 (by decide) rfl
        have q1 := hJ.told 1 (by decide) rfl
        have q2 := hJ.told 2 (by decide) rfl
        have q3 := hJ.told 3 (by decide) rfl
        have q4 := hJ.told 4 (by decide) rfl
        have q5 := hJ.told 5 (by decide) rfl
        show PoEnd _ (Act.put (Act.put (Act.put (Act.put (Act.put (Act.put (Act.put _ (some 33) (gz 0)) (some 34) (gz 1)) (some 38) (gz 2)) (some 39) (gz 3)) (some 40) (gz 4)) (some 41) (gz 5)) none (gz 6)) wa
        rw [q0, q1, q2, q3, q4, q5]
        simp only [Act.put, List.setIfInBounds_toArray, List.set_cons_zero, List.set_cons_succ]
        refine po_end ?_
        replace r_t3 := Keep.row hE r_t3 (cont1 n_t3_t6)
        replace r_t4 := Keep.row hE r_t4 (cont1 n_t4_t6)
        replace r_t5 := Keep.row hE r_t5 (cont1 n_t5_t6)
        replace r_t6 : wa.rowIs b_t6 54 8 (rtF (mulP (addP (mulP (subP p25 V Y) (addP X Z)) (mulP (addP V Y) (subP p25 X Z))) (addP (mulP (subP p25 V Y) (addP X Z)) (mulP (addP V Y) (subP p25 X Z)))) (mulP U (mulP (subP p25 (mulP (subP p25 V Y) (addP X Z)) (mulP (addP V Y) (subP p25 X Z))) (subP p25 (mulP (subP p25 V Y) (addP X Z)) (mulP (addP V Y) (subP p25 X Z)))))) := hJ.old 0 (show 0 < 1 by decide) (show 6 < 7 by decide)
        replace r_t7 := Keep.row hE r_t7 (cont1 (Ne.symm n_t6_t7))
        replace r_t8 := Keep.row hE r_t8 (cont1 (Ne.symm n_t6_t8))
        have B10 := hE.below B9 (HGS.out _ B9) (keep_all1 l_t6)
        clear B9 hE hJ HWF q0 q1 q2 q3 q4 q5
        go_wp2
        exact ret_cell_as _ rfl arrR r_t6 rfl (by omega) (fun _ _ => rfl) rfl ⟨rfl, B10⟩
end Go.Proofs.Ytnoppemclfnlcaa
