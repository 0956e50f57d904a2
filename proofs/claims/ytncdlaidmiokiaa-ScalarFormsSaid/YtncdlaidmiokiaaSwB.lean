/- The program's numbers mod L: the order, what is lowered, sums, opposites. -/
import Derived.Test.YtncdlaidmiokiaaSwA
namespace Go.Proofs.Ytncdlaidmiokiaa
open Go.RowKit Go.Deep
set_option linter.unusedSimpArgs false
set_option linter.unusedVariables false

theorem builtS0 : Try.prog.built 27 [] = some (arrOf 4 (ewF 0)) := by kernel_rfl
/-- What a wants to nothing. -/
def oppL (A : Nat) : Nat := (ordL - A) % ordL
theorem oppL_lt (A : Nat) : oppL A < ordL := Nat.mod_lt _ ordL_pos
theorem oppL_eq (A : Nat) (h : A < ordL) : (ordL - 1) * A % ordL = oppL A := by
  unfold oppL
  have e : (ordL - 1) * A + A = ordL * A := by
    have h1 : (ordL - 1) * A + 1 * A = (ordL - 1 + 1) * A := (Nat.add_mul _ _ _).symm
    rw [Nat.one_mul, Nat.sub_add_cancel ordL_pos] at h1
    exact h1
  by_cases h0 : A = 0
  · subst h0
    rw [Nat.mul_zero, Nat.zero_mod, Nat.sub_zero, Nat.mod_self]
  · have e2 : (ordL - 1) * A = ordL - A + ordL * (A - 1) := by
      have h2 : ordL * A = ordL * (A - 1) + ordL := by
        rw [← Nat.mul_succ]
        congr 1
        omega
      omega
    rw [e2, Nat.add_mul_mod_self_left]

set_option maxHeartbeats 4000000 in
set_option maxRecDepth 10000 in
theorem order_any (w : World) : Calls Try.prog 37 #[] w fun e w' => e = .returned (.agg (arrOf 4 (ewF ordL))) ∧ Below w.heap.size w w' := by
  have Bw0 := Below.refl w.heap.size w
  have HGS : Hid (∀ wq : World, Below w.heap.size w wq → w.heap.size ≤ wq.heap.size) := Lib.hid fun wq h => h.size
  go_enter Try.func37, Try.ntmps37
  go_wp2_with (first
    | (have hgo := Bw0; clear hgo
       refine wpList_alloc_row rfl 25 rfl 4 (u64f fun _ => 0) zeroW ?_
       intro b_t0 w1 lk r_t0 kk
       have l_t0 := Nat.le_trans (HGS.out _ Bw0) lk
       have Bw1 := Bw0.trans (kk.mono (HGS.out _ Bw0))
       clear Bw0 kk lk)
    | (have hgo := Bw1; clear hgo
       refine wpList_build_arr rfl 25 _ rfl (arrOf 4 (ewF ordL)) (by simp only [List.map_toArray, List.map_cons, List.map_nil]; exact builtOrd) ?_
       have Bw2 := Bw1
       clear Bw1)
    | (have hgo := Bw2; clear hgo
       refine wpList_store_as rfl 25 (.tmp 0) (.tmp 1) rfl 4 (ewF ordL) arrW r_t0 rfl rfl (by omega) (fun _ _ => rfl) (fun i hi => putN_whole hi) ?_
       intro w3 q gk
       replace r_t0 := q
       have Bw3 := Bw2.grown gk (HGS.out _ Bw2) (by intro k hk; cases hk; exact l_t0)
       clear Bw2 gk q))
  exact ret_cell_as _ rfl arrW r_t0 rfl (by omega) (fun _ _ => rfl) rfl ⟨rfl, Bw3⟩
set_option maxHeartbeats 4000000 in
set_option maxRecDepth 10000 in
theorem lowered_any (V : Nat) (w : World) (hV : V < 2 * ordL) : Calls Try.prog 34 #[.agg (arrOf 4 (ewF V))] w fun e w' => e = .returned (.agg (arrOf 4 (ewF (V % ordL)))) ∧ Below w.heap.size w w' := by
  have Bw0 := Below.refl w.heap.size w
  have HGS : Hid (∀ wq : World, Below w.heap.size w wq → w.heap.size ≤ wq.heap.size) := Lib.hid fun wq h => h.size
  have hVB := Nat.lt_trans hV two_L_B4
  by_cases hl : V < ordL
  · have hdif := fun w => difference_any V ordL (V + B4 - ordL) 1 w hVB ordL_B4 (by have := ordL_B4; have := B4_pos; omega) (by have := ordL_B4; omega)
    have HRES : Hid (V % ordL = V) := Lib.hid (Nat.mod_eq_of_lt hl)
    obtain ⟨D, hD⟩ := nat_var (V + B4 - ordL)
    rw [← hD, show ((1 : Nat) : Int) = 1 from rfl] at hdif
    have HDIF := Lib.hid hdif
    clear hdif hD hl hVB hV
    go_enter Try.func34, Try.ntmps34
    go_wp2_with (first
      | (have hgo := Bw0; clear hgo
         refine wpList_box_row rfl 25 (.tmp 0) rfl 4 (ewF V) rfl ?_
         intro b_t1 w1 lk r_t1 kk
         have l_t1 := Nat.le_trans (HGS.out _ Bw0) lk
         have Bw1 := Bw0.trans (kk.mono (HGS.out _ Bw0))
         clear Bw0 kk lk)
      | (have hgo := Bw1; clear hgo
         refine wpList_alloc_row rfl 27 rfl 4 (u64f fun _ => 0) zeroS ?_
         intro b_t2 w2 lk r_t2 kk
         have n_t1_t2 : b_t1 ≠ b_t2 := Nat.ne_of_lt (Nat.lt_of_lt_of_le (World.rowIs.lt r_t1) lk)
         have l_t2 := Nat.le_trans (HGS.out _ Bw1) lk
         replace r_t1 := World.rowIs.of_block r_t1 (kk.block _ (World.rowIs.lt r_t1))
         have Bw2 := Bw1.trans (kk.mono (HGS.out _ Bw1))
         clear Bw1 kk lk))
    have Bw3 := Bw2.drew
    replace r_t1 := World.rowIs.drew r_t1
    replace r_t2 := World.rowIs.drew r_t2
    clear Bw2
    refine wp_region_po (Keep []) (Keep.refl _) (fun _ _ _ h1 h2 => h1.trans h2) (.rd 0 .done) #[true, false, false, false, false, false, false, false, false] [1, 2, 3, 4, 5, 6, 7, 8] [some 7, some 8, some 5, some 9, some 10, some 3, none, some 4] [[], [0], [1], [2], [2], [], [0, 1, 2, 3, 5], [0, 1, 2, 3, 4, 5, 6]] [(0, []), (1, []), (2, [0, 1, 1]), (3, [2]), (4, [3]), (5, [3]), (6, []), (7, [6, 4, 2, 0, 1, 2, 3, 4, 6]), (8, [5, 7, 0, 1, 2, 3, 4, 5, 6, 7])] 1 (by kernel_rfl) (by kernel_rfl) (by decide) (by kernel_rfl) (by kernel_rfl) (by kernel_rfl) rfl (fun d _ _ _ _ h => by cases d <;> exact h) ?_
    refine lintz_pure 6 (Op.load 25 (Operand.tmp 1)) 25 (.agg (arrOf 4 (ewF V))) rfl rfl rfl rfl rfl (fun w0 hb => by exact exec_load_as _ _ _ _ (ewF V) rfl arrW (Keep.row hb r_t1 rfl) (by omega) (fun i hi => by rw [Nat.zero_add])) ?_
    simp only [Act.put, List.setIfInBounds_toArray, List.set_cons_zero, List.set_cons_succ]
    refine lintz_leaf ?_
    have HWF : poWf [.val (.agg (arrOf 4 (ewF ordL))), .val (.tuple #[.agg (arrOf 4 (ewF D)), (.int .u64 1)]), .val (.tuple #[.agg (arrOf 4 (ewF D)), (.int .u64 1)]), .val (.agg (arrOf 4 (ewF D))), .val ((.int .u64 1)), .row 25 4 (u64f fun _ => 0) 6 (ewF D), .nil, .val ((.int .u64 1))] [] = true := by kernel_rfl
    refine ⟨JG [.val (.agg (arrOf 4 (ewF ordL))), .val (.tuple #[.agg (arrOf 4 (ewF D)), (.int .u64 1)]), .val (.tuple #[.agg (arrOf 4 (ewF D)), (.int .u64 1)]), .val (.agg (arrOf 4 (ewF D))), .val ((.int .u64 1)), .row 25 4 (u64f fun _ => 0) 6 (ewF D), .nil, .val ((.int .u64 1))] [] _, JG.start (Nat.le_refl _) (fun i hi => absurd hi (Nat.not_lt_zero _)), fun m gz wa p az hp hm hmp hcl hdn hE hJ hS hO => ?_, fun gz wa hE hJ => ?_⟩
    · rcases (show p = 0 ∨ p = 1 ∨ p = 2 ∨ p = 3 ∨ p = 4 ∨ p = 5 ∨ p = 6 ∨ p = 7 by have h9 : p < 8 := hp; omega) with rfl | rfl | rfl | rfl | rfl | rfl | rfl | rfl
      · exact po_call 7 37 #[] #[] _ HWF hJ rfl hE (order_any _) rfl rfl rfl rfl rfl Try.func37 (by kernel_rfl) (by kernel_rfl) (by simp only [List.map_toArray, List.map_cons, List.map_nil, eval_const, eval_func] <;> rfl)
      · have e6 : az.eval (.tmp 6) = .agg (arrOf 4 (ewF V)) := hO 6 rfl
        have e7 := (hS 0 7 rfl (hdn 0 (by decide)) (Nat.le_of_ble_eq_true rfl)).trans (hJ.says (hdn 0 (by decide)) rfl)
        exact po_call 8 36 #[Operand.tmp 6, Operand.tmp 7] #[25, 25] _ HWF hJ rfl hE (HDIF.out _) rfl rfl rfl rfl rfl Try.func36 (by kernel_rfl) (by kernel_rfl) (by simp only [List.map_toArray, List.map_cons, List.map_nil, eval_const, eval_func, e6, e7] <;> rfl)
      · have e8 := (hS 1 8 rfl (hdn 1 (by decide)) (Nat.le_of_ble_eq_true rfl)).trans (hJ.says (hdn 1 (by decide)) rfl)
        exact po_run 5 (Op.move (Operand.tmp 8)) _ HWF hJ rfl hE rfl rfl rfl rfl rfl rfl (by first | (simp only [execOp, mkOp, eval_const, e8]; done) | (simp only [execOp, mkOp, eval_const, e8]; go_simp))
      · have e5 := (hS 2 5 rfl (hdn 2 (by decide)) (Nat.le_of_ble_eq_true rfl)).trans (hJ.says (hdn 2 (by decide)) rfl)
        exact po_run 9 (Op.extract (Operand.tmp 5) 0) _ HWF hJ rfl hE rfl rfl rfl rfl rfl rfl (by first | (simp only [execOp, mkOp, eval_const, e5]; done) | (simp only [execOp, mkOp, eval_const, e5]; go_simp))
      · have e5 := (hS 2 5 rfl (hdn 2 (by decide)) (Nat.le_of_ble_eq_true rfl)).trans (hJ.says (hdn 2 (by decide)) rfl)
        exact po_run 10 (Op.extract (Operand.tmp 5) 1) _ HWF hJ rfl hE rfl rfl rfl rfl rfl rfl (by first | (simp only [execOp, mkOp, eval_const, e5]; done) | (simp only [execOp, mkOp, eval_const, e5]; go_simp))
      · exact po_alloc 3 _ 25 4 (u64f fun _ => 0) _ _ HWF hJ rfl (po_notyet hcl hmp (by rw [hm]; exact hp) (by decide)) hE rfl rfl rfl rfl rfl rfl zeroW
      · have e9 := (hS 3 9 rfl (hdn 3 (by decide)) (Nat.le_of_ble_eq_true rfl)).trans (hJ.says (hdn 3 (by decide)) rfl)
        exact po_storeRow 5 (.tmp 3) (.tmp 9) 25 4 _ _ (by rw [hm]; exact hp) hmp hJ rfl rfl (hdn 5 (by decide)) (by kernel_rfl) (fun i hi => absurd hi (Nat.not_lt_zero _)) hE rfl rfl rfl rfl rfl (hS 5 3 rfl (hdn 5 (by decide)) (Nat.le_of_ble_eq_true rfl)) e9 arrW (fun _ _ => rfl)
      · have e10 := (hS 4 10 rfl (hdn 4 (by decide)) (Nat.le_of_ble_eq_true rfl)).trans (hJ.says (hdn 4 (by decide)) rfl)
        exact po_run 4 (Op.assign (Operand.tmp 10)) _ HWF hJ rfl hE rfl rfl rfl rfl rfl rfl (by first | (simp only [execOp, mkOp, eval_const, e10]; done) | (simp only [execOp, mkOp, eval_const, e10]; go_simp))
    · have q0 := hJ.told 0 (by decide) rfl
      have q1 := hJ.told 1 (by decide) rfl
      have q2 := hJ.told 2 (by decide) rfl
      have q3 := hJ.told 3 (by decide) rfl
      have q4 := hJ.told 4 (by decide) rfl
      obtain ⟨b_t3, p_t3, lk_t3, r_t3, d_t3⟩ := hJ.row 5 (by decide) rfl (by decide)
      have q7 := hJ.told 7 (by decide) rfl
      show PoEnd _ (Act.put (Act.put (Act.put (Act.put (Act.put (Act.put (Act.put (Act.put _ (some 7) (gz 0)) (some 8) (gz 1)) (some 5) (gz 2)) (some 9) (gz 3)) (some 10) (gz 4)) (some 3) (gz 5)) none (gz 6)) (some 4) (gz 7)) wa
      rw [q0, q1, q2, q3, q4, p_t3, q7]
      simp only [Act.put, List.setIfInBounds_toArray, List.set_cons_zero, List.set_cons_succ]
      refine po_end ?_
      have n_t1_t3 : b_t1 ≠ b_t3 := Nat.ne_of_lt (Nat.lt_of_lt_of_le (World.rowIs.lt r_t1) lk_t3)
      have n_t2_t3 : b_t2 ≠ b_t3 := Nat.ne_of_lt (Nat.lt_of_lt_of_le (World.rowIs.lt r_t2) lk_t3)
      have l_t3 := Nat.le_trans (HGS.out _ Bw3) lk_t3
      replace r_t1 := Keep.row hE r_t1 rfl
      replace r_t2 := Keep.row hE r_t2 rfl
      have Bw4 := hE.below Bw3 (HGS.out _ Bw3) rfl
      clear Bw3 hE hJ HWF q0 q1 q2 q3 q4 q7 p_t3 lk_t3 d_t3
      go_wp2_with (first
        | (have hgo := Bw4; clear hgo
           refine wpList_load_as rfl 25 (.tmp 1) rfl 4 (ewF V) arrW r_t1 rfl (by omega) (fun i hi => by rw [Nat.zero_add]) ?_
           have Bw5 := Bw4
           clear Bw4)
        | (have hgo := Bw5; clear hgo
           refine wpList_build_arr rfl 27 #[(0, Operand.tmp 13)] rfl (arrOf 4 (ewF V)) (by simp only [List.map_toArray, List.map_cons, List.map_nil]; exact builtS _) ?_
           have Bw6 := Bw5
           clear Bw5)
        | (have hgo := Bw6; clear hgo
           refine wpList_store_as rfl 27 (.tmp 2) (.tmp 14) rfl 4 (ewF V) arrS r_t2 rfl rfl (by omega) (fun _ _ => rfl) (fun i hi => putN_whole hi) ?_
           intro w7 q gk
           replace r_t1 := gb_rowIs r_t1 gk n_t1_t2
           replace r_t3 := gb_rowIs r_t3 gk (Ne.symm n_t2_t3)
           replace r_t2 := q
           have Bw7 := Bw6.grown gk (HGS.out _ Bw6) (by intro k hk; cases hk; exact l_t2)
           clear Bw6 gk q))
      exact ret_cell_as _ rfl arrS r_t2 rfl (by omega) (fun _ _ => rfl) rfl ⟨by rw [HRES.out], Bw7⟩
  · have hdif := fun w => difference_any V ordL (V - ordL) 0 w hVB ordL_B4 (Nat.lt_of_le_of_lt (Nat.sub_le _ _) hVB) (by omega)
    have HRES : Hid (V % ordL = V - ordL) := Lib.hid (by rw [Nat.mod_eq_sub_mod (by omega), Nat.mod_eq_of_lt (by omega)])
    obtain ⟨D, hD⟩ := nat_var (V - ordL)
    rw [← hD] at HRES
    rw [← hD, show ((0 : Nat) : Int) = 0 from rfl] at hdif
    have HDIF := Lib.hid hdif
    clear hdif hD hl hVB hV
    go_enter Try.func34, Try.ntmps34
    go_wp2_with (first
      | (have hgo := Bw0; clear hgo
         refine wpList_box_row rfl 25 (.tmp 0) rfl 4 (ewF V) rfl ?_
         intro b_t1 w1 lk r_t1 kk
         have l_t1 := Nat.le_trans (HGS.out _ Bw0) lk
         have Bw1 := Bw0.trans (kk.mono (HGS.out _ Bw0))
         clear Bw0 kk lk)
      | (have hgo := Bw1; clear hgo
         refine wpList_alloc_row rfl 27 rfl 4 (u64f fun _ => 0) zeroS ?_
         intro b_t2 w2 lk r_t2 kk
         have n_t1_t2 : b_t1 ≠ b_t2 := Nat.ne_of_lt (Nat.lt_of_lt_of_le (World.rowIs.lt r_t1) lk)
         have l_t2 := Nat.le_trans (HGS.out _ Bw1) lk
         replace r_t1 := World.rowIs.of_block r_t1 (kk.block _ (World.rowIs.lt r_t1))
         have Bw2 := Bw1.trans (kk.mono (HGS.out _ Bw1))
         clear Bw1 kk lk))
    have Bw3 := Bw2.drew
    replace r_t1 := World.rowIs.drew r_t1
    replace r_t2 := World.rowIs.drew r_t2
    clear Bw2
    refine wp_region_po (Keep []) (Keep.refl _) (fun _ _ _ h1 h2 => h1.trans h2) (.rd 0 .done) #[true, false, false, false, false, false, false, false, false] [1, 2, 3, 4, 5, 6, 7, 8] [some 7, some 8, some 5, some 9, some 10, some 3, none, some 4] [[], [0], [1], [2], [2], [], [0, 1, 2, 3, 5], [0, 1, 2, 3, 4, 5, 6]] [(0, []), (1, []), (2, [0, 1, 1]), (3, [2]), (4, [3]), (5, [3]), (6, []), (7, [6, 4, 2, 0, 1, 2, 3, 4, 6]), (8, [5, 7, 0, 1, 2, 3, 4, 5, 6, 7])] 1 (by kernel_rfl) (by kernel_rfl) (by decide) (by kernel_rfl) (by kernel_rfl) (by kernel_rfl) rfl (fun d _ _ _ _ h => by cases d <;> exact h) ?_
    refine lintz_pure 6 (Op.load 25 (Operand.tmp 1)) 25 (.agg (arrOf 4 (ewF V))) rfl rfl rfl rfl rfl (fun w0 hb => by exact exec_load_as _ _ _ _ (ewF V) rfl arrW (Keep.row hb r_t1 rfl) (by omega) (fun i hi => by rw [Nat.zero_add])) ?_
    simp only [Act.put, List.setIfInBounds_toArray, List.set_cons_zero, List.set_cons_succ]
    refine lintz_leaf ?_
    have HWF : poWf [.val (.agg (arrOf 4 (ewF ordL))), .val (.tuple #[.agg (arrOf 4 (ewF D)), (.int .u64 0)]), .val (.tuple #[.agg (arrOf 4 (ewF D)), (.int .u64 0)]), .val (.agg (arrOf 4 (ewF D))), .val ((.int .u64 0)), .row 25 4 (u64f fun _ => 0) 6 (ewF D), .nil, .val ((.int .u64 0))] [] = true := by kernel_rfl
    refine ⟨JG [.val (.agg (arrOf 4 (ewF ordL))), .val (.tuple #[.agg (arrOf 4 (ewF D)), (.int .u64 0)]), .val (.tuple #[.agg (arrOf 4 (ewF D)), (.int .u64 0)]), .val (.agg (arrOf 4 (ewF D))), .val ((.int .u64 0)), .row 25 4 (u64f fun _ => 0) 6 (ewF D), .nil, .val ((.int .u64 0))] [] _, JG.start (Nat.le_refl _) (fun i hi => absurd hi (Nat.not_lt_zero _)), fun m gz wa p az hp hm hmp hcl hdn hE hJ hS hO => ?_, fun gz wa hE hJ => ?_⟩
    · rcases (show p = 0 ∨ p = 1 ∨ p = 2 ∨ p = 3 ∨ p = 4 ∨ p = 5 ∨ p = 6 ∨ p = 7 by have h9 : p < 8 := hp; omega) with rfl | rfl | rfl | rfl | rfl | rfl | rfl | rfl
      · exact po_call 7 37 #[] #[] _ HWF hJ rfl hE (order_any _) rfl rfl rfl rfl rfl Try.func37 (by kernel_rfl) (by kernel_rfl) (by simp only [List.map_toArray, List.map_cons, List.map_nil, eval_const, eval_func] <;> rfl)
      · have e6 : az.eval (.tmp 6) = .agg (arrOf 4 (ewF V)) := hO 6 rfl
        have e7 := (hS 0 7 rfl (hdn 0 (by decide)) (Nat.le_of_ble_eq_true rfl)).trans (hJ.says (hdn 0 (by decide)) rfl)
        exact po_call 8 36 #[Operand.tmp 6, Operand.tmp 7] #[25, 25] _ HWF hJ rfl hE (HDIF.out _) rfl rfl rfl rfl rfl Try.func36 (by kernel_rfl) (by kernel_rfl) (by simp only [List.map_toArray, List.map_cons, List.map_nil, eval_const, eval_func, e6, e7] <;> rfl)
      · have e8 := (hS 1 8 rfl (hdn 1 (by decide)) (Nat.le_of_ble_eq_true rfl)).trans (hJ.says (hdn 1 (by decide)) rfl)
        exact po_run 5 (Op.move (Operand.tmp 8)) _ HWF hJ rfl hE rfl rfl rfl rfl rfl rfl (by first | (simp only [execOp, mkOp, eval_const, e8]; done) | (simp only [execOp, mkOp, eval_const, e8]; go_simp))
      · have e5 := (hS 2 5 rfl (hdn 2 (by decide)) (Nat.le_of_ble_eq_true rfl)).trans (hJ.says (hdn 2 (by decide)) rfl)
        exact po_run 9 (Op.extract (Operand.tmp 5) 0) _ HWF hJ rfl hE rfl rfl rfl rfl rfl rfl (by first | (simp only [execOp, mkOp, eval_const, e5]; done) | (simp only [execOp, mkOp, eval_const, e5]; go_simp))
      · have e5 := (hS 2 5 rfl (hdn 2 (by decide)) (Nat.le_of_ble_eq_true rfl)).trans (hJ.says (hdn 2 (by decide)) rfl)
        exact po_run 10 (Op.extract (Operand.tmp 5) 1) _ HWF hJ rfl hE rfl rfl rfl rfl rfl rfl (by first | (simp only [execOp, mkOp, eval_const, e5]; done) | (simp only [execOp, mkOp, eval_const, e5]; go_simp))
      · exact po_alloc 3 _ 25 4 (u64f fun _ => 0) _ _ HWF hJ rfl (po_notyet hcl hmp (by rw [hm]; exact hp) (by decide)) hE rfl rfl rfl rfl rfl rfl zeroW
      · have e9 := (hS 3 9 rfl (hdn 3 (by decide)) (Nat.le_of_ble_eq_true rfl)).trans (hJ.says (hdn 3 (by decide)) rfl)
        exact po_storeRow 5 (.tmp 3) (.tmp 9) 25 4 _ _ (by rw [hm]; exact hp) hmp hJ rfl rfl (hdn 5 (by decide)) (by kernel_rfl) (fun i hi => absurd hi (Nat.not_lt_zero _)) hE rfl rfl rfl rfl rfl (hS 5 3 rfl (hdn 5 (by decide)) (Nat.le_of_ble_eq_true rfl)) e9 arrW (fun _ _ => rfl)
      · have e10 := (hS 4 10 rfl (hdn 4 (by decide)) (Nat.le_of_ble_eq_true rfl)).trans (hJ.says (hdn 4 (by decide)) rfl)
        exact po_run 4 (Op.assign (Operand.tmp 10)) _ HWF hJ rfl hE rfl rfl rfl rfl rfl rfl (by first | (simp only [execOp, mkOp, eval_const, e10]; done) | (simp only [execOp, mkOp, eval_const, e10]; go_simp))
    · have q0 := hJ.told 0 (by decide) rfl
      have q1 := hJ.told 1 (by decide) rfl
      have q2 := hJ.told 2 (by decide) rfl
      have q3 := hJ.told 3 (by decide) rfl
      have q4 := hJ.told 4 (by decide) rfl
      obtain ⟨b_t3, p_t3, lk_t3, r_t3, d_t3⟩ := hJ.row 5 (by decide) rfl (by decide)
      have q7 := hJ.told 7 (by decide) rfl
      show PoEnd _ (Act.put (Act.put (Act.put (Act.put (Act.put (Act.put (Act.put (Act.put _ (some 7) (gz 0)) (some 8) (gz 1)) (some 5) (gz 2)) (some 9) (gz 3)) (some 10) (gz 4)) (some 3) (gz 5)) none (gz 6)) (some 4) (gz 7)) wa
      rw [q0, q1, q2, q3, q4, p_t3, q7]
      simp only [Act.put, List.setIfInBounds_toArray, List.set_cons_zero, List.set_cons_succ]
      refine po_end ?_
      have n_t1_t3 : b_t1 ≠ b_t3 := Nat.ne_of_lt (Nat.lt_of_lt_of_le (World.rowIs.lt r_t1) lk_t3)
      have n_t2_t3 : b_t2 ≠ b_t3 := Nat.ne_of_lt (Nat.lt_of_lt_of_le (World.rowIs.lt r_t2) lk_t3)
      have l_t3 := Nat.le_trans (HGS.out _ Bw3) lk_t3
      replace r_t1 := Keep.row hE r_t1 rfl
      replace r_t2 := Keep.row hE r_t2 rfl
      have Bw4 := hE.below Bw3 (HGS.out _ Bw3) rfl
      clear Bw3 hE hJ HWF q0 q1 q2 q3 q4 q7 p_t3 lk_t3 d_t3
      go_wp2_with (first
        | (have hgo := Bw4; clear hgo
           refine wpList_load_as rfl 25 (.tmp 3) rfl 4 (ewF D) arrW r_t3 rfl (by omega) (fun i hi => by rw [Nat.zero_add]) ?_
           have Bw5 := Bw4
           clear Bw4)
        | (have hgo := Bw5; clear hgo
           refine wpList_build_arr rfl 27 #[(0, Operand.tmp 15)] rfl (arrOf 4 (ewF D)) (by simp only [List.map_toArray, List.map_cons, List.map_nil]; exact builtS _) ?_
           have Bw6 := Bw5
           clear Bw5)
        | (have hgo := Bw6; clear hgo
           refine wpList_store_as rfl 27 (.tmp 2) (.tmp 16) rfl 4 (ewF D) arrS r_t2 rfl rfl (by omega) (fun _ _ => rfl) (fun i hi => putN_whole hi) ?_
           intro w7 q gk
           replace r_t1 := gb_rowIs r_t1 gk n_t1_t2
           replace r_t3 := gb_rowIs r_t3 gk (Ne.symm n_t2_t3)
           replace r_t2 := q
           have Bw7 := Bw6.grown gk (HGS.out _ Bw6) (by intro k hk; cases hk; exact l_t2)
           clear Bw6 gk q))
      exact ret_cell_as _ rfl arrS r_t2 rfl (by omega) (fun _ _ => rfl) rfl ⟨by rw [HRES.out], Bw7⟩
set_option maxHeartbeats 4000000 in
set_option maxRecDepth 10000 in
theorem sNeg_any (A : Nat) (w : World) (hA : A < ordL) : Calls Try.prog 18 #[.agg (arrOf 4 (ewF A))] w fun e w' => e = .returned (.agg (arrOf 4 (ewF (oppL A)))) ∧ Below w.heap.size w w' := by
  have Bw0 := Below.refl w.heap.size w
  have HGS : Hid (∀ wq : World, Below w.heap.size w wq → w.heap.size ≤ wq.heap.size) := Lib.hid fun wq h => h.size
  have hdif := fun w => difference_any ordL A (ordL - A) 0 w ordL_B4 (Nat.lt_trans hA ordL_B4) (Nat.lt_of_le_of_lt (Nat.sub_le _ _) ordL_B4) (by omega)
  have hlow := fun w => lowered_any (ordL - A) w (by have := ordL_pos; omega)
  have HRES : Hid ((ordL - A) % ordL = oppL A) := Lib.hid rfl
  obtain ⟨D, hD⟩ := nat_var (ordL - A)
  rw [← hD, show ((0 : Nat) : Int) = 0 from rfl] at hdif
  rw [← hD] at hlow HRES
  have HDIF := Lib.hid hdif
  have HLOW := Lib.hid hlow
  clear hdif hlow hD hA
  go_enter Try.func18, Try.ntmps18
  go_wp2_with (first
    | (have hgo := Bw0; clear hgo
       refine wpList_box_row rfl 27 (.tmp 0) rfl 4 (ewF A) rfl ?_
       intro b_t1 w1 lk r_t1 kk
       have l_t1 := Nat.le_trans (HGS.out _ Bw0) lk
       have Bw1 := Bw0.trans (kk.mono (HGS.out _ Bw0))
       clear Bw0 kk lk)
    | (have hgo := Bw1; clear hgo
       refine wpList_alloc_row rfl 27 rfl 4 (u64f fun _ => 0) zeroS ?_
       intro b_t2 w2 lk r_t2 kk
       have n_t1_t2 : b_t1 ≠ b_t2 := Nat.ne_of_lt (Nat.lt_of_lt_of_le (World.rowIs.lt r_t1) lk)
       have l_t2 := Nat.le_trans (HGS.out _ Bw1) lk
       replace r_t1 := World.rowIs.of_block r_t1 (kk.block _ (World.rowIs.lt r_t1))
       have Bw2 := Bw1.trans (kk.mono (HGS.out _ Bw1))
       clear Bw1 kk lk))
  have Bw3 := Bw2.drew
  replace r_t1 := World.rowIs.drew r_t1
  replace r_t2 := World.rowIs.drew r_t2
  clear Bw2
  refine wp_region_po (Keep []) (Keep.refl _) (fun _ _ _ h1 h2 => h1.trans h2) (.rd 1 (.rd 2 .done)) #[false, true, true, false, false, false, false, false, false, false] [0, 3, 4, 5, 6, 7, 8, 9] [some 6, some 9, some 5, some 10, some 11, some 3, none, some 4] [[], [0], [1], [2], [2], [], [0, 1, 2, 3, 5], [0, 1, 2, 3, 4, 5, 6]] [(0, []), (1, []), (2, [1]), (3, [0, 2, 0]), (4, [3]), (5, [4]), (6, [4]), (7, []), (8, [7, 5, 3, 0, 1, 2, 3, 4, 5, 7]), (9, [6, 8, 0, 1, 2, 3, 4, 5, 6, 7, 8])] 6 (by kernel_rfl) (by kernel_rfl) (by decide) (by kernel_rfl) (by kernel_rfl) (by kernel_rfl) rfl (fun d _ _ _ _ h => by cases d <;> exact h) ?_
  refine lintz_pure 7 (Op.fieldAddr 27 (Operand.tmp 1) 0) 0 (.pointer (some ⟨b_t1, 0, none⟩)) rfl rfl rfl rfl rfl (fun w0 hb => by unfold mkOp; go_simp; all_goals (with_reducible rfl)) ?_
  simp only [Act.put, List.setIfInBounds_toArray, List.set_cons_zero, List.set_cons_succ]
  refine lintz_pure 8 (Op.load 25 (Operand.tmp 7)) 25 (.agg (arrOf 4 (ewF A))) rfl rfl rfl rfl rfl (fun w0 hb => by exact exec_load_as _ _ _ _ (ewF A) rfl arrW (Keep.row hb r_t1 rfl) (by omega) (fun i hi => by rw [Nat.zero_add])) ?_
  simp only [Act.put, List.setIfInBounds_toArray, List.set_cons_zero, List.set_cons_succ]
  refine lintz_leaf ?_
  have HWF : poWf [.val (.agg (arrOf 4 (ewF ordL))), .val (.tuple #[.agg (arrOf 4 (ewF D)), (.int .u64 0)]), .val (.tuple #[.agg (arrOf 4 (ewF D)), (.int .u64 0)]), .val (.agg (arrOf 4 (ewF D))), .val ((.int .u64 0)), .row 25 4 (u64f fun _ => 0) 6 (ewF D), .nil, .val ((.int .u64 0))] [] = true := by kernel_rfl
  refine ⟨JG [.val (.agg (arrOf 4 (ewF ordL))), .val (.tuple #[.agg (arrOf 4 (ewF D)), (.int .u64 0)]), .val (.tuple #[.agg (arrOf 4 (ewF D)), (.int .u64 0)]), .val (.agg (arrOf 4 (ewF D))), .val ((.int .u64 0)), .row 25 4 (u64f fun _ => 0) 6 (ewF D), .nil, .val ((.int .u64 0))] [] _, JG.start (Nat.le_refl _) (fun i hi => absurd hi (Nat.not_lt_zero _)), fun m gz wa p az hp hm hmp hcl hdn hE hJ hS hO => ?_, fun gz wa hE hJ => ?_⟩
  · rcases (show p = 0 ∨ p = 1 ∨ p = 2 ∨ p = 3 ∨ p = 4 ∨ p = 5 ∨ p = 6 ∨ p = 7 by have h9 : p < 8 := hp; omega) with rfl | rfl | rfl | rfl | rfl | rfl | rfl | rfl
    · exact po_call 6 37 #[] #[] _ HWF hJ rfl hE (order_any _) rfl rfl rfl rfl rfl Try.func37 (by kernel_rfl) (by kernel_rfl) (by simp only [List.map_toArray, List.map_cons, List.map_nil, eval_const, eval_func] <;> rfl)
    · have e6 := (hS 0 6 rfl (hdn 0 (by decide)) (Nat.le_of_ble_eq_true rfl)).trans (hJ.says (hdn 0 (by decide)) rfl)
      have e8 : az.eval (.tmp 8) = .agg (arrOf 4 (ewF A)) := hO 8 rfl
      exact po_call 9 36 #[Operand.tmp 6, Operand.tmp 8] #[25, 25] _ HWF hJ rfl hE (HDIF.out _) rfl rfl rfl rfl rfl Try.func36 (by kernel_rfl) (by kernel_rfl) (by simp only [List.map_toArray, List.map_cons, List.map_nil, eval_const, eval_func, e6, e8] <;> rfl)
    · have e9 := (hS 1 9 rfl (hdn 1 (by decide)) (Nat.le_of_ble_eq_true rfl)).trans (hJ.says (hdn 1 (by decide)) rfl)
      exact po_run 5 (Op.move (Operand.tmp 9)) _ HWF hJ rfl hE rfl rfl rfl rfl rfl rfl (by first | (simp only [execOp, mkOp, eval_const, e9]; done) | (simp only [execOp, mkOp, eval_const, e9]; go_simp))
    · have e5 := (hS 2 5 rfl (hdn 2 (by decide)) (Nat.le_of_ble_eq_true rfl)).trans (hJ.says (hdn 2 (by decide)) rfl)
      exact po_run 10 (Op.extract (Operand.tmp 5) 0) _ HWF hJ rfl hE rfl rfl rfl rfl rfl rfl (by first | (simp only [execOp, mkOp, eval_const, e5]; done) | (simp only [execOp, mkOp, eval_const, e5]; go_simp))
    · have e5 := (hS 2 5 rfl (hdn 2 (by decide)) (Nat.le_of_ble_eq_true rfl)).trans (hJ.says (hdn 2 (by decide)) rfl)
      exact po_run 11 (Op.extract (Operand.tmp 5) 1) _ HWF hJ rfl hE rfl rfl rfl rfl rfl rfl (by first | (simp only [execOp, mkOp, eval_const, e5]; done) | (simp only [execOp, mkOp, eval_const, e5]; go_simp))
    · exact po_alloc 3 _ 25 4 (u64f fun _ => 0) _ _ HWF hJ rfl (po_notyet hcl hmp (by rw [hm]; exact hp) (by decide)) hE rfl rfl rfl rfl rfl rfl zeroW
    · have e10 := (hS 3 10 rfl (hdn 3 (by decide)) (Nat.le_of_ble_eq_true rfl)).trans (hJ.says (hdn 3 (by decide)) rfl)
      exact po_storeRow 5 (.tmp 3) (.tmp 10) 25 4 _ _ (by rw [hm]; exact hp) hmp hJ rfl rfl (hdn 5 (by decide)) (by kernel_rfl) (fun i hi => absurd hi (Nat.not_lt_zero _)) hE rfl rfl rfl rfl rfl (hS 5 3 rfl (hdn 5 (by decide)) (Nat.le_of_ble_eq_true rfl)) e10 arrW (fun _ _ => rfl)
    · have e11 := (hS 4 11 rfl (hdn 4 (by decide)) (Nat.le_of_ble_eq_true rfl)).trans (hJ.says (hdn 4 (by decide)) rfl)
      exact po_run 4 (Op.assign (Operand.tmp 11)) _ HWF hJ rfl hE rfl rfl rfl rfl rfl rfl (by first | (simp only [execOp, mkOp, eval_const, e11]; done) | (simp only [execOp, mkOp, eval_const, e11]; go_simp))
  · have q0 := hJ.told 0 (by decide) rfl
    have q1 := hJ.told 1 (by decide) rfl
    have q2 := hJ.told 2 (by decide) rfl
    have q3 := hJ.told 3 (by decide) rfl
    have q4 := hJ.told 4 (by decide) rfl
    obtain ⟨b_t3, p_t3, lk_t3, r_t3, d_t3⟩ := hJ.row 5 (by decide) rfl (by decide)
    have q7 := hJ.told 7 (by decide) rfl
    show PoEnd _ (Act.put (Act.put (Act.put (Act.put (Act.put (Act.put (Act.put (Act.put _ (some 6) (gz 0)) (some 9) (gz 1)) (some 5) (gz 2)) (some 10) (gz 3)) (some 11) (gz 4)) (some 3) (gz 5)) none (gz 6)) (some 4) (gz 7)) wa
    rw [q0, q1, q2, q3, q4, p_t3, q7]
    simp only [Act.put, List.setIfInBounds_toArray, List.set_cons_zero, List.set_cons_succ]
    refine po_end ?_
    have n_t1_t3 : b_t1 ≠ b_t3 := Nat.ne_of_lt (Nat.lt_of_lt_of_le (World.rowIs.lt r_t1) lk_t3)
    have n_t2_t3 : b_t2 ≠ b_t3 := Nat.ne_of_lt (Nat.lt_of_lt_of_le (World.rowIs.lt r_t2) lk_t3)
    have l_t3 := Nat.le_trans (HGS.out _ Bw3) lk_t3
    replace r_t1 := Keep.row hE r_t1 rfl
    replace r_t2 := Keep.row hE r_t2 rfl
    have Bw4 := hE.below Bw3 (HGS.out _ Bw3) rfl
    clear Bw3 hE hJ HWF q0 q1 q2 q3 q4 q7 p_t3 lk_t3 d_t3
    go_wp2_with (first
      | (have hgo := Bw4; clear hgo
         refine wpList_load_as rfl 25 (.tmp 3) rfl 4 (ewF D) arrW r_t3 rfl (by omega) (fun i hi => by rw [Nat.zero_add]) ?_
         have Bw5 := Bw4
         clear Bw4)
      | (have hgo := Bw5; clear hgo
         go_at_call 34
         refine (HLOW.out _).mono ?_
         rintro e w4 ⟨rfl, kk⟩
         replace r_t1 := World.rowIs.of_block r_t1 (kk.block _ (World.rowIs.lt r_t1))
         replace r_t2 := World.rowIs.of_block r_t2 (kk.block _ (World.rowIs.lt r_t2))
         replace r_t3 := World.rowIs.of_block r_t3 (kk.block _ (World.rowIs.lt r_t3))
         have Bw6 := Bw5.trans (kk.mono (HGS.out _ Bw5))
         clear Bw5 kk)
      | (have hgo := Bw6; clear hgo
         refine wpList_store_as rfl 27 (.tmp 2) (.tmp 13) rfl 4 (ewF (D % ordL)) arrS r_t2 rfl rfl (by omega) (fun _ _ => rfl) (fun i hi => putN_whole hi) ?_
         intro w5 q gk
         replace r_t1 := gb_rowIs r_t1 gk n_t1_t2
         replace r_t3 := gb_rowIs r_t3 gk (Ne.symm n_t2_t3)
         replace r_t2 := q
         have Bw7 := Bw6.grown gk (HGS.out _ Bw6) (by intro k hk; cases hk; exact l_t2)
         clear Bw6 gk q))
    exact ret_cell_as _ rfl arrS r_t2 rfl (by omega) (fun _ _ => rfl) rfl ⟨by rw [HRES.out], Bw7⟩
set_option maxHeartbeats 4000000 in
set_option maxRecDepth 10000 in
theorem sAdd_any (A C : Nat) (w : World) (hA : A < ordL) (hC : C < ordL) : Calls Try.prog 14 #[.agg (arrOf 4 (ewF A)), .agg (arrOf 4 (ewF C))] w fun e w' => e = .returned (.agg (arrOf 4 (ewF ((A + C) % ordL)))) ∧ Below w.heap.size w w' := by
  have Bw0 := Below.refl w.heap.size w
  have HGS : Hid (∀ wq : World, Below w.heap.size w wq → w.heap.size ≤ wq.heap.size) := Lib.hid fun wq h => h.size
  have hlow := fun w => lowered_any (A + C) w (by omega)
  have HLOW := Lib.hid hlow
  clear hlow hA hC
  go_enter Try.func14, Try.ntmps14
  go_wp2_with (first
    | (have hgo := Bw0; clear hgo
       refine wpList_box_row rfl 27 (.tmp 0) rfl 4 (ewF A) rfl ?_
       intro b_t2 w1 lk r_t2 kk
       have l_t2 := Nat.le_trans (HGS.out _ Bw0) lk
       have Bw1 := Bw0.trans (kk.mono (HGS.out _ Bw0))
       clear Bw0 kk lk)
    | (have hgo := Bw1; clear hgo
       refine wpList_box_row rfl 27 (.tmp 1) rfl 4 (ewF C) rfl ?_
       intro b_t3 w2 lk r_t3 kk
       have n_t2_t3 : b_t2 ≠ b_t3 := Nat.ne_of_lt (Nat.lt_of_lt_of_le (World.rowIs.lt r_t2) lk)
       have l_t3 := Nat.le_trans (HGS.out _ Bw1) lk
       replace r_t2 := World.rowIs.of_block r_t2 (kk.block _ (World.rowIs.lt r_t2))
       have Bw2 := Bw1.trans (kk.mono (HGS.out _ Bw1))
       clear Bw1 kk lk)
    | (have hgo := Bw2; clear hgo
       refine wpList_alloc_row rfl 27 rfl 4 (u64f fun _ => 0) zeroS ?_
       intro b_t4 w3 lk r_t4 kk
       have n_t2_t4 : b_t2 ≠ b_t4 := Nat.ne_of_lt (Nat.lt_of_lt_of_le (World.rowIs.lt r_t2) lk)
       have n_t3_t4 : b_t3 ≠ b_t4 := Nat.ne_of_lt (Nat.lt_of_lt_of_le (World.rowIs.lt r_t3) lk)
       have l_t4 := Nat.le_trans (HGS.out _ Bw2) lk
       replace r_t2 := World.rowIs.of_block r_t2 (kk.block _ (World.rowIs.lt r_t2))
       replace r_t3 := World.rowIs.of_block r_t3 (kk.block _ (World.rowIs.lt r_t3))
       have Bw3 := Bw2.trans (kk.mono (HGS.out _ Bw2))
       clear Bw2 kk lk)
    | (have hgo := Bw3; clear hgo
       refine wpList_load_as rfl 25 (.tmp 9) rfl 4 (ewF A) arrW r_t2 rfl (by omega) (fun i hi => by rw [Nat.zero_add]) ?_
       have Bw4 := Bw3
       clear Bw3)
    | (have hgo := Bw4; clear hgo
       refine wpList_alloc_row rfl 25 rfl 4 (u64f fun _ => 0) zeroW ?_
       intro b_t5 w6 lk r_t5 kk
       have n_t2_t5 : b_t2 ≠ b_t5 := Nat.ne_of_lt (Nat.lt_of_lt_of_le (World.rowIs.lt r_t2) lk)
       have n_t3_t5 : b_t3 ≠ b_t5 := Nat.ne_of_lt (Nat.lt_of_lt_of_le (World.rowIs.lt r_t3) lk)
       have n_t4_t5 : b_t4 ≠ b_t5 := Nat.ne_of_lt (Nat.lt_of_lt_of_le (World.rowIs.lt r_t4) lk)
       have l_t5 := Nat.le_trans (HGS.out _ Bw4) lk
       replace r_t2 := World.rowIs.of_block r_t2 (kk.block _ (World.rowIs.lt r_t2))
       replace r_t3 := World.rowIs.of_block r_t3 (kk.block _ (World.rowIs.lt r_t3))
       replace r_t4 := World.rowIs.of_block r_t4 (kk.block _ (World.rowIs.lt r_t4))
       have Bw5 := Bw4.trans (kk.mono (HGS.out _ Bw4))
       clear Bw4 kk lk)
    | (have hgo := Bw5; clear hgo
       refine wpList_store_as rfl 25 (.tmp 5) (.tmp 10) rfl 4 (ewF A) arrW r_t5 rfl rfl (by omega) (fun _ _ => rfl) (fun i hi => putN_whole hi) ?_
       intro w7 q gk
       replace r_t2 := gb_rowIs r_t2 gk n_t2_t5
       replace r_t3 := gb_rowIs r_t3 gk n_t3_t5
       replace r_t4 := gb_rowIs r_t4 gk n_t4_t5
       replace r_t5 := q
       have Bw6 := Bw5.grown gk (HGS.out _ Bw5) (by intro k hk; cases hk; exact l_t5)
       clear Bw5 gk q)
    | (have hgo := Bw6; clear hgo
       refine wpList_load_as rfl 25 (.tmp 11) rfl 4 (ewF C) arrW r_t3 rfl (by omega) (fun i hi => by rw [Nat.zero_add]) ?_
       have Bw7 := Bw6
       clear Bw6))
  go_loopw [6, 13] (fun cv iv wr => ∃ j : Nat, j ≤ 4 ∧ iv = .int .i64 (j : Int) ∧ cv = .int .u64 ((addW A C j : Nat) : Int) ∧ wr.rowIs b_t5 25 4 (u64f fun i => if i < j then wd (A + C) i else wd A i) ∧ wr.rowIs b_t4 27 4 (u64f fun _ => 0) ∧ Below w.heap.size w wr) (fun _ iv _ => 4 - (intOf iv).toNat)
  case atStart => exact ⟨0, Nat.zero_le _, rfl, by rw [addW_zero]; rfl, r_t5.congr fun i _ => rfl, r_t4, Bw7⟩
  case round =>
  clear r_t2 r_t3 r_t5 r_t4 n_t2_t5 n_t2_t3 n_t2_t4 n_t3_t4 n_t3_t5 l_t2 l_t3 Bw7
  obtain ⟨j, hj, rfl, rfl, r_t5, r_t4, B⟩ := hrel
  by_cases hlt : j < 4
  · have hjI : 0 ≤ (j : Int) ∧ (j : Int) < 4 := by omega
    obtain ⟨y, hy⟩ := nat_var (wd C j)
    have HY := Lib.hid hy.symm
    have hstep := wd_sum A C j
    have hfr := r_t5.frozen j
    have hcL : wr.cell? ⟨b_t5, j, none⟩ = some (.int .u64 ((wd A j : Nat) : Int)) := by
      have h0 := r_t5.cell (i := j) hlt
      rw [h0]
      show some (Value.int .u64 (((if j < j then wd (A + C) j else wd A j) : Nat) : Int)) = _
      rw [if_neg (Nat.lt_irrefl j)]
    have HSET : Hid ((wr.setCell ⟨b_t5, j, none⟩ (.int .u64 ((wd (A + C) j : Nat) : Int))).rowIs b_t5 25 4 (u64f fun i => if i < j + 1 then wd (A + C) i else wd A i)) := Lib.hid (row_set r_t5 _ _ _ (fun i hi => by
      by_cases e : i = j
      · subst e; rw [if_pos (Nat.lt_succ_self i), if_pos rfl]
      · rw [if_neg e]
        by_cases h2 : i < j
        · rw [if_pos h2, if_pos (by omega)]
        · rw [if_neg h2, if_neg (by omega)]))
    have hrun := add64_run (wd A j) (wd C j) (addW A C j) (addW_le A C j)
    rw [hstep.1, hstep.2, ← hy] at hrun
    have HC2 := Lib.hid (rfl : addW A C (j + 1) = addW A C (j + 1))
    obtain ⟨c2, hc2⟩ := nat_var (addW A C (j + 1))
    rw [← hc2] at hrun
    replace HC2 := Lib.hid hc2
    generalize wd (A + C) j = s at *
    generalize addW A C j = c at *
    generalize wd A j = x at *
    clear hstep hc2 hy
    go_wp2_with (first
      | refine wpList_indexW rfl (.tmp 12) (.tmp 13) rfl (wd C) y HY.out rfl rfl hlt ?_
      | simp only [hrun])
    go_roundw
    case rel => exact ⟨j + 1, by omega, by go_num, by rw [HC2.out], HSET.out, r_t4.setOther (show b_t4 ≠ (⟨b_t5, j, none⟩ : Addr).block from n_t4_t5) _, B.setCell (show w.heap.size ≤ (⟨b_t5, j, none⟩ : Addr).block from l_t5) _⟩
    case measure => simp [intOf]; omega
  · obtain rfl : j = 4 := by omega
    replace r_t5 : wr.rowIs b_t5 25 4 (ewF (A + C)) := r_t5.congr fun i hi => by dsimp only [ewF, u64f]; rw [if_pos hi]
    have Bw0 := B
    clear B
    go_wp2_with (first
      | (have hgo := Bw0; clear hgo
         refine wpList_load_as rfl 25 (.tmp 5) rfl 4 (ewF (A + C)) arrW r_t5 rfl (by omega) (fun i hi => by rw [Nat.zero_add]) ?_
         have Bw1 := Bw0
         clear Bw0)
      | (have hgo := Bw1; clear hgo
         go_at_call 34
         refine (HLOW.out _).mono ?_
         rintro e w502 ⟨rfl, kk⟩
         replace r_t4 := World.rowIs.of_block r_t4 (kk.block _ (World.rowIs.lt r_t4))
         replace r_t5 := World.rowIs.of_block r_t5 (kk.block _ (World.rowIs.lt r_t5))
         have Bw2 := Bw1.trans (kk.mono (HGS.out _ Bw1))
         clear Bw1 kk)
      | (have hgo := Bw2; clear hgo
         refine wpList_store_as rfl 27 (.tmp 4) (.tmp 30) rfl 4 (ewF ((A + C) % ordL)) arrS r_t4 rfl rfl (by omega) (fun _ _ => rfl) (fun i hi => putN_whole hi) ?_
         intro w503 q gk
         replace r_t5 := gb_rowIs r_t5 gk (Ne.symm n_t4_t5)
         replace r_t4 := q
         have Bw3 := Bw2.grown gk (HGS.out _ Bw2) (by intro k hk; cases hk; exact l_t4)
         clear Bw2 gk q))
    exact ret_cell_as _ rfl arrS r_t4 rfl (by omega) (fun _ _ => rfl) rfl ⟨rfl, Bw3⟩
end Go.Proofs.Ytncdlaidmiokiaa
