/- The program's numbers mod L: what is taken off, what is lowered, sums, opposites. -/
import Derived.Test.YtncdlaidmiokiaaEwN
import Derived.Test.YtncdlaidmiokiaaScH
import Derived.Test.YtncdlaidmiokiaaWalk
namespace Go.Proofs.Ytncdlaidmiokiaa
open Go.RowKit Go.Deep
set_option linter.unusedSimpArgs false
set_option linter.unusedVariables false

theorem ordL_B4 : ordL < B4 := by decide +kernel
theorem two_L_B4 : 2 * ordL < B4 := by decide +kernel
theorem arrS : IsArr Try.prog 27 4 := ⟨by kernel_rfl, by kernel_rfl⟩
theorem zeroS : (Try.prog.info? 27).map (fun i => i.zero) = some (some (.agg (arrOf 4 (u64f fun _ => 0)))) := by kernel_rfl
theorem builtS (F : Nat → Value) : Try.prog.built 27 [(0, .agg (arrOf 4 F))] = some (arrOf 4 F) := by kernel_rfl
theorem builtOrd : Try.prog.built 25 [(0, .int .u64 6346243789798364141), (1, .int .u64 1503914060200516822), (2, .int .u64 0), (3, .int .u64 1152921504606846976)] = some (arrOf 4 (ewF ordL)) := by kernel_rfl
theorem wd_over (A t j : Nat) (hj : j < 4) : wd (A + t * B4) j = wd A j := by
  unfold wd
  have e : t * B4 = 18446744073709551616 ^ j * (18446744073709551616 * (18446744073709551616 ^ (3 - j) * t)) := by
    rw [B4_eq, show 4 = j + 1 + (3 - j) by omega, Nat.pow_add, Nat.pow_succ]
    ac_rfl
  rw [e, Nat.add_mul_div_left _ _ (powW_pos j), Nat.add_mul_mod_self_left]
theorem wd_less (A C D t j : Nat) (h : D + C = A + t * B4) (hj : j < 4) : (wd A j + 18446744073709551616 - wd C j - addW D C j) % 18446744073709551616 = wd D j ∧ (if wd A j < wd C j + addW D C j then 1 else 0) = addW D C (j + 1) := by
  have h1 := wd_sub D C (D + C) j rfl
  rw [h, wd_over A t j hj] at h1
  exact h1

set_option maxHeartbeats 2000000 in
theorem difference_any (A C D t : Nat) (w : World) (hA : A < B4) (hC : C < B4) (hD : D < B4) (h : D + C = A + t * B4) : Calls Try.prog 36 #[.agg (arrOf 4 (ewF A)), .agg (arrOf 4 (ewF C))] w fun e w' => e = .returned (.tuple #[.agg (arrOf 4 (ewF D)), .int .u64 (t : Int)]) ∧ Below w.heap.size w w' := by
  obtain ⟨w3, hw3, hrA, hrC, hrR, hbel, hsz⟩ := rowsW3 w (ewF A) (ewF C) 25
  have HSUB := Lib.hid fun j (hj : j < 4) => wd_less A C D t j h hj
  have HEND : Hid (addW D C 4 = t) := Lib.hid (by
    rw [addW_end D C hD hC, h, Nat.add_mul_div_right _ _ B4_pos, Nat.div_eq_of_lt hA, Nat.zero_add])
  clear hA hC hD h
  go_enter Try.func36, Try.ntmps36
  go_wp2_with (refine wpList_alloc_arr rfl 25 rfl (arrOf 4 (u64f fun _ => 0)) zeroW ?_)
  rw [← hw3]
  clear hw3
  generalize hg0 : w.heap.size = g0 at *
  generalize hg2 : g0 + 1 + 1 = g2 at *
  generalize hg1 : g0 + 1 = g1 at *
  have n02 : g0 ≠ g2 := by omega
  have n12 : g1 ≠ g2 := by omega
  have l2 : g0 ≤ g2 := by omega
  have HG := Lib.hid hg0
  clear hg1 hg2 hg0 hsz
  go_loopw [5, 7] (fun cv i wr => ∃ j : Nat, j ≤ 4 ∧ i = .int .i64 j ∧ cv = .int .u64 ((addW D C j : Nat) : Int) ∧ wr.rowIs g0 25 4 (ewF A) ∧ wr.rowIs g1 25 4 (ewF C) ∧ wr.rowIs g2 25 4 (u64f fun i => if i < j then wd D i else 0) ∧ Below g0 w wr) (fun _ i _ => 4 - (intOf i).toNat)
  case atStart => exact ⟨0, Nat.zero_le _, rfl, by rw [addW_zero]; rfl, hrA, hrC, hrR.congr fun i _ => rfl, hbel⟩
  case round =>
    clear hrA hrC hrR hbel
    obtain ⟨j, hj, rfl, rfl, hA, hC, hR, hbel⟩ := hrel
    by_cases hlt : j < 4
    · have HXA : Hid (∀ w' : World, w'.rowIs g0 25 4 (ewF A) → w'.cell? ⟨g0, j, none⟩ = some (.int .u64 ((wd A j : Nat) : Int))) := Lib.hid fun w' h => h.cell hlt
      have HYC : Hid (∀ w' : World, w'.rowIs g1 25 4 (ewF C) → w'.cell? ⟨g1, j, none⟩ = some (.int .u64 ((wd C j : Nat) : Int))) := Lib.hid fun w' h => h.cell hlt
      have hstep := HSUB.out j hlt
      have hfr := hR.drew.frozen j
      have hcR := hR.drew.cell (i := j) hlt
      have hjI : 0 ≤ (j : Int) ∧ (j : Int) < 4 := by omega
      have hset : (wr.drew.setCell ⟨g2, j, none⟩ (.int .u64 ((wd D j : Nat) : Int))).rowIs g2 25 4 (u64f fun i => if i < j + 1 then wd D i else 0) := row_set_drew hR _ _ _ (fun i hi => by
        by_cases e : i = j
        · subst e; rw [if_pos (Nat.lt_succ_self i), if_pos rfl]
        · rw [if_neg e]
          by_cases h2 : i < j
          · rw [if_pos h2, if_pos (by omega)]
          · rw [if_neg h2, if_neg (by omega)])
      have HSET := Lib.hid hset
      have hrun := sub64_run (wd A j) (wd C j) (addW D C j) (addW_le D C j)
      rw [hstep.1, hstep.2] at hrun
      have HRUN := Lib.hid hrun
      generalize wd D j = s at *
      generalize hc2 : addW D C (j + 1) = c2 at *
      have HC2 := Lib.hid hc2
      generalize addW D C j = c at *
      generalize wd A j = x at *
      generalize wd C j = y at *
      clear hset hstep hrun hlt hc2
      replace hA := hA.drew
      replace hC := hC.drew
      go_wp2
      refine wp_region_lins [(0, some [13]), (1, some [13]), (2, some [13]), (3, some [8, 13]), (4, some [13]), (5, some [13]), (6, some [8, 13]), (7, some [8, 13]), (8, none), (9, some [13]), (10, some [13]), (11, some []), (12, some [13]), (13, none), (14, some [])] (fun c w' => c = 8 → w'.rowIs g0 25 4 (ewF A) ∧ w'.rowIs g1 25 4 (ewF C)) (by kernel_rfl) (by kernel_rfl) (by decide) (by kernel_rfl) (fun d _ _ _ _ h => by cases d <;> exact h) (fun c hc _ => ⟨hA, hC⟩) ?_
      refine lins_read 11 (Op.move (Operand.tmp 6)) 3 _ rfl rfl rfl rfl rfl (fun w0 hw0 => by unfold mkOp; go_simp; all_goals (with_reducible rfl)) ?_
      simp only [Act.put, List.setIfInBounds_toArray, List.set_cons_zero, List.set_cons_succ]
      refine lins_read 12 (Op.move (Operand.tmp 6)) 3 _ rfl rfl rfl rfl rfl (fun w0 hw0 => by unfold mkOp; go_simp; all_goals (with_reducible rfl)) ?_
      simp only [Act.put, List.setIfInBounds_toArray, List.set_cons_zero, List.set_cons_succ]
      refine lins_read 13 (Op.indexAddr 25 (Operand.tmp 2) (Operand.tmp 12)) 0 _ rfl rfl rfl rfl rfl (fun w0 hw0 => by unfold mkOp; go_simp; all_goals (with_reducible rfl)) ?_
      simp only [Act.put, List.setIfInBounds_toArray, List.set_cons_zero, List.set_cons_succ]
      refine lins_read 14 (Op.load 24 (Operand.tmp 13)) 24 (.int .u64 (x : Int)) rfl rfl rfl rfl rfl (fun w0 hw0 => by have hc0 := HXA.out w0 (hw0 8 (by simp) rfl).1; unfold mkOp; go_simp; all_goals (with_reducible rfl)) ?_
      simp only [Act.put, List.setIfInBounds_toArray, List.set_cons_zero, List.set_cons_succ]
      refine lins_read 15 (Op.move (Operand.tmp 6)) 3 _ rfl rfl rfl rfl rfl (fun w0 hw0 => by unfold mkOp; go_simp; all_goals (with_reducible rfl)) ?_
      simp only [Act.put, List.setIfInBounds_toArray, List.set_cons_zero, List.set_cons_succ]
      refine lins_read 16 (Op.indexAddr 25 (Operand.tmp 3) (Operand.tmp 15)) 0 _ rfl rfl rfl rfl rfl (fun w0 hw0 => by unfold mkOp; go_simp; all_goals (with_reducible rfl)) ?_
      simp only [Act.put, List.setIfInBounds_toArray, List.set_cons_zero, List.set_cons_succ]
      refine lins_read 17 (Op.load 24 (Operand.tmp 16)) 24 (.int .u64 (y : Int)) rfl rfl rfl rfl rfl (fun w0 hw0 => by have hc0 := HYC.out w0 (hw0 8 (by simp) rfl).2; unfold mkOp; go_simp; all_goals (with_reducible rfl)) ?_
      simp only [Act.put, List.setIfInBounds_toArray, List.set_cons_zero, List.set_cons_succ]
      refine lins_read 18 (Op.move (Operand.tmp 5)) 24 _ rfl rfl rfl rfl rfl (fun w0 hw0 => by unfold mkOp; go_simp; all_goals (with_reducible rfl)) ?_
      simp only [Act.put, List.setIfInBounds_toArray, List.set_cons_zero, List.set_cons_succ]
      refine lins_made (some 19) (Op.call { callee := Callee.value (Operand.func 43), args := #[Operand.tmp 14, Operand.tmp 17, Operand.tmp 18], argTypes := #[24, 24, 24] }) 59 (.tuple #[.int .u64 (s : Int), .int .u64 (c2 : Int)]) (_) rfl rfl rfl rfl rfl (by exact exec_entry _ _ _ _ _ _ _ _ rfl (by go_simp) (HRUN.out _)) (fun _ _ => True) (fun c hc => ⟨trivial, fun w7 _ h => by subst h; simp [writers] at hc⟩) ?_
      simp only [Act.put, List.setIfInBounds_toArray, List.set_cons_zero, List.set_cons_succ]
      refine lins_read 10 (Op.move (Operand.tmp 19)) 59 _ rfl rfl rfl rfl rfl (fun w0 hw0 => by unfold mkOp; go_simp; all_goals (with_reducible rfl)) ?_
      simp only [Act.put, List.setIfInBounds_toArray, List.set_cons_zero, List.set_cons_succ]
      refine lins_read 20 (Op.extract (Operand.tmp 10) 0) 24 _ rfl rfl rfl rfl rfl (fun w0 hw0 => by unfold mkOp; go_simp; all_goals (with_reducible rfl)) ?_
      simp only [Act.put, List.setIfInBounds_toArray, List.set_cons_zero, List.set_cons_succ]
      refine lins_read 21 (Op.extract (Operand.tmp 10) 1) 24 _ rfl rfl rfl rfl rfl (fun w0 hw0 => by unfold mkOp; go_simp; all_goals (with_reducible rfl)) ?_
      simp only [Act.put, List.setIfInBounds_toArray, List.set_cons_zero, List.set_cons_succ]
      refine lins_read 22 (Op.indexAddr 25 (Operand.tmp 4) (Operand.tmp 11)) 0 _ rfl rfl rfl rfl rfl (fun w0 hw0 => by unfold mkOp; go_simp; all_goals (with_reducible rfl)) ?_
      simp only [Act.put, List.setIfInBounds_toArray, List.set_cons_zero, List.set_cons_succ]
      refine lins_store (Op.store 24 (Operand.tmp 22) (Operand.tmp 20)) 0 (_) rfl rfl rfl rfl rfl (by unfold mkOp; go_simp; all_goals (with_reducible rfl)) (fun _ _ => True) (fun c hc => by cases hc) ?_
      try simp only [Act.put, List.setIfInBounds_toArray, List.set_cons_zero, List.set_cons_succ]
      refine lins_read 5 (Op.assign (Operand.tmp 21)) 24 _ rfl rfl rfl rfl rfl (fun w0 hw0 => by unfold mkOp; go_simp; all_goals (with_reducible rfl)) ?_
      simp only [Act.put, List.setIfInBounds_toArray, List.set_cons_zero, List.set_cons_succ]
      refine lins_end ?_
      go_wp2
      go_roundw
      case rel => exact ⟨j + 1, by omega, by go_num, by rw [HC2.out], hA.setOther n02 _, hC.setOther n12 _, HSET.out, hbel.drew.setCell (show g0 ≤ (⟨g2, j, none⟩ : Addr).block from l2) _⟩
      case measure => simp [intOf]; omega
    · obtain rfl : j = 4 := by omega
      rw [HEND.out]
      have hR' : wr.rowIs g2 25 4 (ewF D) := hR.congr fun i hi => by dsimp only [ewF, u64f]; rw [if_pos hi]
      have hgs : g0 ≤ wr.heap.size := by rw [← HG.out]; exact hbel.size
      clear hR
      go_wp2_with (first
        | (refine wpList_load_arr rfl 25 (.tmp 4) rfl 4 arrW hR' rfl (by omega) ?_; simp only [Nat.zero_add])
        | (refine wpList_store_arr rfl 25 (.tmp 4) (.tmp 24) rfl 4 arrW hR' rfl rfl (by omega) (fun _ _ => rfl) ?_; intro w6 hr6 hg6 hs6))
      refine ret_cell_arr_tmp rfl arrW hr6 rfl rfl (by omega) rfl ⟨?_, by rw [HG.out]; exact hbel.grown hg6 hgs (by intro k hk; cases hk; exact l2)⟩
      rw [agg_putW]
      rfl
end Go.Proofs.Ytncdlaidmiokiaa
