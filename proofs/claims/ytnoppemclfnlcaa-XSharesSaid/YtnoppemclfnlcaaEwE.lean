/- The program's numbers below p: Small, Add, Neg. -/
import Derived.Test.YtnoppemclfnlcaaEwD
set_option linter.unusedSimpArgs false
set_option linter.unusedVariables false
namespace Go.Proofs.Ytnoppemclfnlcaa
open Go.RowKit Go.Deep

set_option maxHeartbeats 1000000 in
theorem small_any (n : Nat) (w : World) (hn : n < 18446744073709551616) : Calls Try.prog 32 #[.int .u64 (n : Int)] w fun e w' => e = .returned (.agg (arrOf 4 (ewF n))) ∧ Below w.heap.size w w' := by
  have hr := rowIs_arr w 4 (u64f fun _ => 0) 42
  have hb := (Below.refl w.heap.size w).alloc (Nat.le_refl _) (.cells (arrOf 4 (u64f fun _ => 0)) 42)
  have hgs := hb.size
  have HB := Lib.hid (congrArg Value.agg (cells4_small n hn))
  clear hn
  go_enter Try.func32, Try.ntmps32
  go_wp2_with (first
    | refine wpList_alloc_arr rfl 42 rfl (arrOf 4 (u64f fun _ => 0)) zeroE ?_
    | (refine wpList_store_arr rfl 42 (.tmp 2) (.tmp 5) rfl 4 arrE hr rfl HB.out (by omega) (fun _ _ => rfl) ?_; intro w6 hr6 hg6 hs6))
  refine ret_cell_arr rfl arrE hr6 rfl (by omega) rfl ⟨?_, hb.grown hg6 hgs (by intro k hk; cases hk; exact Nat.le_refl _)⟩
  rw [agg_putW]

set_option maxHeartbeats 2000000 in
theorem add_any (A C : Nat) (w : World) (hA : A < p25) (hC : C < p25) : Calls Try.prog 45 #[.agg (arrOf 4 (ewF A)), .agg (arrOf 4 (ewF C))] w fun e w' => e = .returned (.agg (arrOf 4 (ewF (addP A C)))) ∧ Below w.heap.size w w' := by
  obtain ⟨w3, hw3, hrA, hrC, hrR, hbel, hsz⟩ := rowsW3 w (ewF A) (ewF C) 42
  have hAB : A < B4 := Nat.lt_trans hA p25_B4
  have hCB : C < B4 := Nat.lt_trans hC p25_B4
  have hS : A + C < B4 := by
    have h2 : p25 + p25 < B4 := by decide +kernel
    exact Nat.lt_trans (Nat.add_lt_add hA hC) h2
  have hs := wsum_any A C
  rw [Nat.div_eq_of_lt hS] at hs
  have HS := Lib.hid fun w => hs w hAB hCB
  have HR := Lib.hid fun w => reduced_any (A + C) 0 w hS (by decide)
  have HRES := Lib.hid (show (A + C) % p25 = addP A C from rfl)
  have HGS : Hid (∀ wq : World, Below w.heap.size w wq → w.heap.size ≤ wq.heap.size) := Lib.hid fun wq h => h.size
  have l2 : w.heap.size ≤ w.heap.size + 1 + 1 := by omega
  generalize addP A C = T at *
  generalize A + C = V at *
  clear hA hC hAB hCB hS hs hsz
  subst hw3
  go_enter Try.func45, Try.ntmps45
  go_wp2_with (first
    | refine wpList_alloc_arr rfl 42 rfl (arrOf 4 (u64f fun _ => 0)) zeroE ?_
    | (refine wpList_load_arr rfl 40 (.tmp 8) rfl 4 arrW hrA rfl (by omega) ?_; simp only [Nat.zero_add])
    | (refine wpList_load_arr rfl 40 (.tmp 10) rfl 4 arrW hrC rfl (by omega) ?_; simp only [Nat.zero_add])
    | (go_at_call 48; refine (HS.out _).mono ?_; rintro e w5 ⟨rfl, hb5⟩
       have hR5 := hrR.of_block (hb5.block _ hrR.lt)
       have hB5 := hbel.trans (hb5.mono (HGS.out _ hbel))
       have hl5 := hR5.lt
       have hR8 := hR5.alloc (.cells (arrOf 4 (u64f fun _ => 0)) 40)
       have hB8 := hB5.alloc (HGS.out _ hB5) (.cells (arrOf 4 (u64f fun _ => 0)) 40)
       have hL8 := rowIs_arr w5 4 (u64f fun _ => 0) 40
       clear hrA hrC hrR hbel hb5 hR5 hB5 HS)
    | refine wpList_alloc_arr rfl 40 rfl (arrOf 4 (u64f fun _ => 0)) zeroW ?_
    | (refine wpList_store_arr rfl 40 (.tmp 5) (.tmp 13) rfl 4 arrW hL8 rfl rfl (by omega) (fun _ _ => rfl) ?_; intro w9 hr9 hg9 hs9
       have hL9 : w9.rowIs w5.heap.size 40 4 (ewF V) := hr9.congr fun i hi => by unfold putN; rw [if_pos (by omega), Nat.sub_zero]
       have hR9 := gb_rowIs hR8 hg9 (Nat.ne_of_lt hl5)
       have hB9 := hB8.grown hg9 (HGS.out _ hB8) (by intro k hk; cases hk; omega)
       clear hR8 hB8 hr9 hg9 hs9 hL8)
    | (refine wpList_load_arr rfl 40 (.tmp 5) rfl 4 arrW hL9 rfl (by omega) ?_; simp only [Nat.zero_add])
    | (go_at_call 36; refine (HR.out _).mono ?_; rintro e wa ⟨rfl, hba⟩
       have hRa := hR9.of_block (hba.block _ hR9.lt)
       have hBa := hB9.trans (hba.mono (HGS.out _ hB9))
       clear hR9 hB9 hba hL9 HR)
    | (refine wpList_store_arr rfl 42 (.tmp 4) (.tmp 17) rfl 4 arrE hRa rfl rfl (by omega) (fun _ _ => rfl) ?_; intro wb hrb hgb hsb))
  refine ret_cell_arr rfl arrE hrb rfl (by omega) rfl ⟨?_, hBa.grown hgb (HGS.out _ hBa) (by intro k hk; cases hk; exact l2)⟩
  rw [agg_putW, HRES.out]

set_option maxHeartbeats 2000000 in
theorem neg_any (A : Nat) (w : World) (hA : A < p25) : Calls Try.prog 50 #[.agg (arrOf 4 (ewF A))] w fun e w' => e = .returned (.agg (arrOf 4 (ewF (oppP A)))) ∧ Below w.heap.size w w' := by
  obtain ⟨w2, hw2, hrA0, hrR0, hbel0, hsz⟩ := rowsW2 w (ewF A) 42 42
  obtain ⟨D, hD⟩ : ∃ D, p25 = D + A := ⟨p25 - A, (Nat.sub_add_cancel (Nat.le_of_lt hA)).symm⟩
  have hDB : D < B4 := Nat.lt_of_le_of_lt (by rw [hD]; exact Nat.le_add_right _ _) p25_B4
  have HR := Lib.hid fun w => reduced_any D 0 w hDB (by decide)
  have hres : D % p25 = oppP A := by
    rw [oppP_eq]
    unfold negP
    rw [Nat.mod_eq_of_lt hA]
    have h2 : p25 - A = D := by rw [hD]; exact Nat.add_sub_cancel _ _
    rw [h2]
  have HRES := Lib.hid hres
  have HSUB := Lib.hid fun j => wd_sub D A p25 j hD
  have hrR := hrR0.alloc (.cells (arrOf 4 (u64f fun _ => 0)) 40)
  have hrL := rowIs_arr w2 4 (u64f fun _ => 0) 40
  have hbel := hbel0.alloc hbel0.size (.cells (arrOf 4 (u64f fun _ => 0)) 40)
  rw [hsz] at hrL
  have HGS : Hid (∀ wq : World, Below w.heap.size w wq → w.heap.size ≤ wq.heap.size) := Lib.hid fun wq h => h.size
  have n12 : w.heap.size + 1 ≠ w.heap.size + 1 + 1 := by omega
  have l2 : w.heap.size ≤ w.heap.size + 1 + 1 := by omega
  have l1 : w.heap.size ≤ w.heap.size + 1 := by omega
  have HP : Hid (Value.agg #[.int .u64 18446744073709551597, .int .u64 18446744073709551615, .int .u64 18446744073709551615, .int .u64 9223372036854775807] = .agg (arrOf 4 (ewF p25))) := Lib.hid (by kernel_rfl)
  generalize oppP A = T at *
  clear hDB hres hrR0 hbel0 hsz hD hA
  have hrB := hrA0
  clear hrA0
  have hrA := hrB.alloc (.cells (arrOf 4 (u64f fun _ => 0)) 40)
  clear hrB
  subst hw2
  go_enter Try.func50, Try.ntmps50
  go_wp2_with (first
    | refine wpList_alloc_arr rfl 42 rfl (arrOf 4 (u64f fun _ => 0)) zeroE ?_
    | (refine wpList_alloc_arr rfl 40 rfl (arrOf 4 (u64f fun _ => 0)) zeroW ?_; simp only [World.size_alloc])
    | (refine wpList_store_arr rfl 40 (.tmp 3) (.tmp 7) rfl 4 arrW hrL rfl HP.out (by omega) (fun _ _ => rfl) ?_; intro w9 hr9 hg9 hs9
       have hL9 : w9.rowIs (w.heap.size + 1 + 1) 40 4 (ewF p25) := hr9.congr fun i hi => by unfold putN; rw [if_pos (by omega), Nat.sub_zero]
       have hA9 := gb_rowIs hrA hg9 (by omega)
       have hR9 := gb_rowIs hrR hg9 n12
       have hB9 := hbel.grown hg9 (HGS.out _ hbel) (by intro k hk; cases hk; exact l2)
       clear hrR hbel hr9 hg9 hs9 hrL hrA)
    | (refine wpList_load_arr rfl 40 (.tmp 8) rfl 4 arrW hA9 rfl (by omega) ?_; simp only [Nat.zero_add]))
  generalize hg0 : w.heap.size = g0 at *
  generalize hg2 : g0 + 1 + 1 = g2 at *
  generalize hg1 : g0 + 1 = g1 at *
  have HG := Lib.hid hg0
  clear hg0 hg1 hg2 hA9
  go_loopw [4, 10] (fun cv i wr => ∃ j : Nat, j ≤ 4 ∧ i = .int .i64 j ∧ cv = .int .u64 ((addW D A j : Nat) : Int) ∧ wr.rowIs g2 40 4 (u64f fun i => if i < j then wd D i else wd p25 i) ∧ wr.rowIs g1 42 4 (u64f fun _ => 0) ∧ Below g0 w wr) (fun _ i _ => 4 - (intOf i).toNat)
  case atStart => exact ⟨0, Nat.zero_le _, rfl, by rw [addW_zero]; rfl, hL9.congr fun i _ => rfl, hR9, hB9⟩
  case round =>
    clear hL9 hR9 hB9
    obtain ⟨j, hj, rfl, rfl, hL, hR, hbel⟩ := hrel
    by_cases hlt : j < 4
    · have hjI : 0 ≤ (j : Int) ∧ (j : Int) < 4 := by omega
      obtain ⟨x, hx⟩ := nat_var (wd A j)
      have HX := Lib.hid hx.symm
      have hstep := HSUB.out j
      have hfr := hL.frozen j
      have hcL0 := hL.cell (i := j) hlt
      have hcL : wr.cell? ⟨g2, j, none⟩ = some (.int .u64 ((wd p25 j : Nat) : Int)) := by
        rw [hcL0]
        show some (Value.int .u64 (((if j < j then wd D j else wd p25 j) : Nat) : Int)) = _
        rw [if_neg (Nat.lt_irrefl j)]
      have hset : (wr.setCell ⟨g2, j, none⟩ (.int .u64 ((wd D j : Nat) : Int))).rowIs g2 40 4 (u64f fun i => if i < j + 1 then wd D i else wd p25 i) := row_set hL _ _ _ (fun i hi => by
        by_cases e : i = j
        · subst e; rw [if_pos (Nat.lt_succ_self i), if_pos rfl]
        · rw [if_neg e]
          by_cases h2 : i < j
          · rw [if_pos h2, if_pos (by omega)]
          · rw [if_neg h2, if_neg (by omega)])
      have HSET := Lib.hid hset
      have hrun := sub64_run (wd p25 j) (wd A j) (addW D A j) (addW_le D A j)
      rw [hstep.1, hstep.2, ← hx] at hrun
      generalize hc2 : addW D A (j + 1) = c2 at *
      have HC2 := Lib.hid hc2
      generalize wd D j = s at *
      generalize addW D A j = c at *
      generalize wd p25 j = y at *
      clear hset hstep hcL0 hc2 hx hL
      go_wp2_with (first
        | refine wpList_indexW rfl (.tmp 9) (.tmp 10) rfl (wd A) x HX.out rfl rfl hlt ?_
        | simp only [hrun])
      go_roundw
      case rel => exact ⟨j + 1, by omega, by go_num, by rw [HC2.out], HSET.out, hR.setOther (show g1 ≠ (⟨g2, j, none⟩ : Addr).block from n12) _, hbel.setCell (show g0 ≤ (⟨g2, j, none⟩ : Addr).block from l2) _⟩
      case measure => simp [intOf]; omega
    · obtain rfl : j = 4 := by omega
      have hR' : wr.rowIs g2 40 4 (ewF D) := hL.congr fun i hi => by dsimp only [ewF, u64f]; rw [if_pos hi]
      clear hL
      go_wp2_with (first
        | (refine wpList_load_arr rfl 40 (.tmp 3) rfl 4 arrW hR' rfl (by omega) ?_; simp only [Nat.zero_add])
        | (go_at_call 36; refine (HR.out _).mono ?_; rintro e wa ⟨rfl, hba⟩
           have hRa := hR.of_block (hba.block _ hR.lt)
           have hBa := hbel.trans (hba.mono (HGS.out _ hbel))
           clear hR hbel hba hR' HR)
        | (refine wpList_store_arr rfl 42 (.tmp 2) (.tmp 27) rfl 4 arrE hRa rfl rfl (by omega) (fun _ _ => rfl) ?_; intro wb hrb hgb hsb))
      refine ret_cell_arr rfl arrE hrb rfl (by omega) rfl ⟨?_, by rw [HG.out]; exact hBa.grown hgb (HGS.out _ hBa) (by intro k hk; cases hk; exact l1)⟩
      rw [agg_putW, HRES.out]
end Go.Proofs.Ytnoppemclfnlcaa
