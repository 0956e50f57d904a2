/- ScalarAsks, walked. -/
import Derived.Test.YtncdlaidmiokiaaSwF
namespace Go.Proofs.Ytncdlaidmiokiaa
open Go.RowKit Go.Deep
set_option linter.unusedSimpArgs false
set_option linter.unusedVariables false

theorem bF_inj {A B : Nat} (hA : A < ordL) (hB : B < ordL) : (∀ j, j < 32 → ((byteN A (31 - j) : Nat) : Int) = ((byteN B (31 - j) : Nat) : Int)) ↔ A = B := by
  constructor
  · intro h
    have hl : litB A 32 = litB B 32 := List.ext_getElem (by rw [litB_length, litB_length]) fun i hi _ => by
      rw [litB_length] at hi
      rw [litB_at, litB_at]
      refine UInt8.toNat_inj.1 ?_
      rw [UInt8.toNat_ofNat', UInt8.toNat_ofNat']
      have h1 := h (31 - i) (by omega)
      rw [show 31 - (31 - i) = i by omega] at h1
      have h2 : byteN A i = byteN B i := by omega
      exact h2
    have e1 := numL_litB A 32 32 (Nat.le_refl _)
    have e2 := numL_litB B 32 32 (Nat.le_refl _)
    rw [Nat.mod_eq_of_lt (Nat.lt_trans hA ordL_lt)] at e1
    rw [Nat.mod_eq_of_lt (Nat.lt_trans hB ordL_lt)] at e2
    rw [← e1, hl, e2]
  · intro h j _; rw [h]
theorem exec_Sc_eql {w : World} (ρ : Operand → Value) (x y : Operand) (t : TypeId) {A C : Nat} (hA : A < ordL) (hC : C < ordL) (hx : ρ x = .agg (arrOf 32 (bF 32 A))) (hy : ρ y = .agg (arrOf 32 (bF 32 C))) :
    (execOp ρ (mkOp (.binOp .eql 30 x y 30) t)).run Try.prog w = .ok (.value (.bool (decide (A = C)))) w := by
  have hq := run_eqGuard_agg (P := Try.prog) w .eql 30 x y (arrOf 32 (bF 32 A)) (arrOf 32 (bF 32 C)) (by kernel_rfl)
  have hr := run_eql_arr2 (P := Try.prog) w 30 5 32 .u8 (fun j => ((byteN A (31 - j) : Nat) : Int)) (fun j => ((byteN C (31 - j) : Nat) : Int)) (by kernel_rfl) (by kernel_rfl) (by kernel_rfl)
  have hr' : (binOp .eql 30 (.agg (arrOf 32 (bF 32 A))) (.agg (arrOf 32 (bF 32 C)))).run Try.prog w = .ok (.bool (decide (A = C))) w := by
    rw [← decide_eq_decide.2 (bF_inj hA hC)]; exact hr
  simp [execOp, mkOp, hx, hy, hq, hr', Result.andThen]
theorem strictSN_lt (l : List UInt8) : (strictSN l).getD 0 < ordL := by
  unfold strictSN
  by_cases h : l.length = 32 ∧ numL l 32 < ordL
  · rw [if_pos h, Option.getD_some]
    exact h.2
  · rw [if_neg h, Option.getD_none]
    exact ordL_pos
theorem refStrict7_any (l : List UInt8) (v : Value) (w : World) (hv : Bs w v l) : Calls Try.prog 12 #[v] w fun e w' => e = .returned (.tuple #[.agg (arrOf 32 (bF 32 ((strictSN l).getD 0))), .int .i64 (strictNE (strictSN l))]) ∧ Below w.heap.size w w' := by
  have h := refStrictSc_any v l w hv
  generalize strictSN l = o at *
  cases o with
  | none => exact h
  | some x => exact h
set_option maxHeartbeats 8000000 in
set_option maxRecDepth 100000 in
theorem law_scalarAsks (w : World) (v0 : Value) (l0 : List UInt8) (h0 : Bs w v0 l0) (v1 : Value) (l1 : List UInt8) (h1 : Bs w v1 l1) (x2 : Int) (w2 : (Lit.int .i64 x2).wf = true) : Calls Try.prog 3 #[v0, v1, .int .i64 x2] w fun e w' => e = .returned (.bool true) ∧ Below w.heap.size w w' := by
  obtain ⟨ad0, n0, c0, rfl, e0, y0, z0, hB0⟩ := h0.shape
  obtain ⟨ad1, n1, c1, rfl, e1, y1, z1, hB1⟩ := h1.shape
  by_cases d0 : n0 ≤ 100
  · have q0 : ¬ (100 : Int) < (n0 : Int) := by omega
    by_cases d1 : n1 ≤ 100
    · have q1 : ¬ (100 : Int) < (n1 : Int) := by omega
      have f_s0 := hB0
      have HF_s0 := Lib.hid hB0
      have f_s1 := hB1
      have HF_s1 := Lib.hid hB1
      have Bw0 := Below.refl w.heap.size w
      have HGS : Hid (∀ wq : World, Below w.heap.size w wq → w.heap.size ≤ wq.heap.size) := Lib.hid fun wq h => h.size
      obtain ⟨hx1, hx2⟩ := bd_i64 w2
      have HK0 := Lib.hid hx1
      have HK1 := Lib.hid hx2
      clear hx1 hx2 w2
      obtain ⟨X, hX⟩ := nat_var (numL (l0) 64 % ordL)
      have HX : Hid (X < ordL) := Lib.hid (by rw [hX]; exact Nat.mod_lt _ ordL_pos)
      have HNX := Lib.hid hX.symm
      clear hX
      obtain ⟨Y, hY⟩ := nat_var (numL (l1) 64 % ordL)
      have HY : Hid (Y < ordL) := Lib.hid (by rw [hY]; exact Nat.mod_lt _ ordL_pos)
      have HNY := Lib.hid hY.symm
      clear hY
      have hs := fun v w h => sStrict_any v l0 w h
      have hr := refStrict7_any l0
      have hsv := strictSN_lt l0
      obtain ⟨Z, hZ⟩ := nat_var ((strictSN l0).getD 0)
      obtain ⟨E, hE⟩ : ∃ E, E = strictNE (strictSN l0) := ⟨_, rfl⟩
      rw [← hZ] at hsv
      rw [← hE, ← hZ] at hs
      rw [← hE, ← hZ] at hr
      have HZ := Lib.hid hsv
      have HSS := Lib.hid hs
      have HSR := Lib.hid hr
      clear hs hr hsv hZ hE
      clear h0 hB0 e0 d0 h1 hB1 e1 d1
      go_enter Try.func3, Try.ntmps3
      go_wp2_with (first
        | (have hgo := Bw0; clear hgo
           go_at_call 9
           refine (sWide_to _ (l0) _ f_s0 (X) HNX.out).mono ?_
           rintro e w10 ⟨rfl, kk⟩
           replace f_s0 := Bs.below f_s0 kk (Nat.le_refl _)
           replace f_s1 := Bs.below f_s1 kk (Nat.le_refl _)
           have Bw1 := Bw0.trans (kk.mono (HGS.out _ Bw0))
           clear Bw0 kk)
        | (have hgo := Bw1; clear hgo
           go_at_call 9
           refine (sWide_to _ (l1) _ f_s1 (Y) HNY.out).mono ?_
           rintro e w12 ⟨rfl, kk⟩
           replace f_s0 := Bs.below f_s0 kk (Nat.le_refl _)
           replace f_s1 := Bs.below f_s1 kk (Nat.le_refl _)
           have Bw2 := Bw1.trans (kk.mono (HGS.out _ Bw1))
           clear Bw1 kk)
        | (have hgo := Bw2; clear hgo
           refine wpList_alloc_row rfl 27 rfl 4 (u64f fun _ => 0) zeroS ?_
           intro b_t7 w13 lk r_t7 kk
           have l_t7 := Nat.le_trans (HGS.out _ Bw2) lk
           replace f_s0 := Bs.below f_s0 kk (Nat.le_refl _)
           replace f_s1 := Bs.below f_s1 kk (Nat.le_refl _)
           have Bw3 := Bw2.trans (kk.mono (HGS.out _ Bw2))
           clear Bw2 kk lk)
        | (have hgo := Bw3; clear hgo
           refine wpList_alloc_row rfl 27 rfl 4 (u64f fun _ => 0) zeroS ?_
           intro b_t8 w14 lk r_t8 kk
           have n_t7_t8 : b_t7 ≠ b_t8 := Nat.ne_of_lt (Nat.lt_of_lt_of_le (World.rowIs.lt r_t7) lk)
           have l_t8 := Nat.le_trans (HGS.out _ Bw3) lk
           replace r_t7 := World.rowIs.of_block r_t7 (kk.block _ (World.rowIs.lt r_t7))
           replace f_s0 := Bs.below f_s0 kk (Nat.le_refl _)
           replace f_s1 := Bs.below f_s1 kk (Nat.le_refl _)
           have Bw4 := Bw3.trans (kk.mono (HGS.out _ Bw3))
           clear Bw3 kk lk)
        | (have hgo := Bw4; clear hgo
           refine wpList_store_as rfl 27 (.tmp 7) (.tmp 25) rfl 4 (ewF X) arrS r_t7 rfl rfl (by omega) (fun _ _ => rfl) (fun i hi => putN_whole hi) ?_
           intro w15 q gk
           replace r_t8 := gb_rowIs r_t8 gk (Ne.symm n_t7_t8)
           replace r_t7 := q
           have Bw5 := Bw4.grown gk (HGS.out _ Bw4) (by intro k hk; cases hk; exact l_t7)
           clear Bw4 gk q
           replace f_s0 := HF_s0.out.below Bw5 (Nat.le_refl _)
           replace f_s1 := HF_s1.out.below Bw5 (Nat.le_refl _))
        | (have hgo := Bw5; clear hgo
           refine wpList_store_as rfl 27 (.tmp 8) (.tmp 27) rfl 4 (ewF Y) arrS r_t8 rfl rfl (by omega) (fun _ _ => rfl) (fun i hi => putN_whole hi) ?_
           intro w16 q gk
           replace r_t7 := gb_rowIs r_t7 gk n_t7_t8
           replace r_t8 := q
           have Bw6 := Bw5.grown gk (HGS.out _ Bw5) (by intro k hk; cases hk; exact l_t8)
           clear Bw5 gk q
           replace f_s0 := HF_s0.out.below Bw6 (Nat.le_refl _)
           replace f_s1 := HF_s1.out.below Bw6 (Nat.le_refl _))
        | (have hgo := Bw6; clear hgo
           go_at_call 10
           refine (refWide_to _ (l0) _ f_s0 (X) HNX.out).mono ?_
           rintro e w18 ⟨rfl, kk⟩
           replace r_t7 := World.rowIs.of_block r_t7 (kk.block _ (World.rowIs.lt r_t7))
           replace r_t8 := World.rowIs.of_block r_t8 (kk.block _ (World.rowIs.lt r_t8))
           replace f_s0 := Bs.below f_s0 kk (Nat.le_refl _)
           replace f_s1 := Bs.below f_s1 kk (Nat.le_refl _)
           have Bw7 := Bw6.trans (kk.mono (HGS.out _ Bw6))
           clear Bw6 kk)
        | (have hgo := Bw7; clear hgo
           go_at_call 10
           refine (refWide_to _ (l1) _ f_s1 (Y) HNY.out).mono ?_
           rintro e w20 ⟨rfl, kk⟩
           replace r_t7 := World.rowIs.of_block r_t7 (kk.block _ (World.rowIs.lt r_t7))
           replace r_t8 := World.rowIs.of_block r_t8 (kk.block _ (World.rowIs.lt r_t8))
           replace f_s0 := Bs.below f_s0 kk (Nat.le_refl _)
           replace f_s1 := Bs.below f_s1 kk (Nat.le_refl _)
           have Bw8 := Bw7.trans (kk.mono (HGS.out _ Bw7))
           clear Bw7 kk)
        | (have hgo := Bw8; clear hgo
           refine wpList_alloc_row rfl 30 rfl 32 (fun _ => .int .u8 0) zeroSc ?_
           intro b_t9 w21 lk r_t9 kk
           have n_t7_t9 : b_t7 ≠ b_t9 := Nat.ne_of_lt (Nat.lt_of_lt_of_le (World.rowIs.lt r_t7) lk)
           have n_t8_t9 : b_t8 ≠ b_t9 := Nat.ne_of_lt (Nat.lt_of_lt_of_le (World.rowIs.lt r_t8) lk)
           have l_t9 := Nat.le_trans (HGS.out _ Bw8) lk
           replace r_t7 := World.rowIs.of_block r_t7 (kk.block _ (World.rowIs.lt r_t7))
           replace r_t8 := World.rowIs.of_block r_t8 (kk.block _ (World.rowIs.lt r_t8))
           replace f_s0 := Bs.below f_s0 kk (Nat.le_refl _)
           replace f_s1 := Bs.below f_s1 kk (Nat.le_refl _)
           have Bw9 := Bw8.trans (kk.mono (HGS.out _ Bw8))
           clear Bw8 kk lk)
        | (have hgo := Bw9; clear hgo
           refine wpList_alloc_row rfl 30 rfl 32 (fun _ => .int .u8 0) zeroSc ?_
           intro b_t10 w22 lk r_t10 kk
           have n_t7_t10 : b_t7 ≠ b_t10 := Nat.ne_of_lt (Nat.lt_of_lt_of_le (World.rowIs.lt r_t7) lk)
           have n_t8_t10 : b_t8 ≠ b_t10 := Nat.ne_of_lt (Nat.lt_of_lt_of_le (World.rowIs.lt r_t8) lk)
           have n_t9_t10 : b_t9 ≠ b_t10 := Nat.ne_of_lt (Nat.lt_of_lt_of_le (World.rowIs.lt r_t9) lk)
           have l_t10 := Nat.le_trans (HGS.out _ Bw9) lk
           replace r_t7 := World.rowIs.of_block r_t7 (kk.block _ (World.rowIs.lt r_t7))
           replace r_t8 := World.rowIs.of_block r_t8 (kk.block _ (World.rowIs.lt r_t8))
           replace r_t9 := World.rowIs.of_block r_t9 (kk.block _ (World.rowIs.lt r_t9))
           replace f_s0 := Bs.below f_s0 kk (Nat.le_refl _)
           replace f_s1 := Bs.below f_s1 kk (Nat.le_refl _)
           have Bw10 := Bw9.trans (kk.mono (HGS.out _ Bw9))
           clear Bw9 kk lk)
        | (have hgo := Bw10; clear hgo
           refine wpList_store_as rfl 30 (.tmp 9) (.tmp 29) rfl 32 (bF 32 X) arrSc r_t9 rfl rfl (by omega) (fun _ _ => rfl) (fun i hi => putN_whole hi) ?_
           intro w23 q gk
           replace r_t7 := gb_rowIs r_t7 gk n_t7_t9
           replace r_t8 := gb_rowIs r_t8 gk n_t8_t9
           replace r_t10 := gb_rowIs r_t10 gk (Ne.symm n_t9_t10)
           replace r_t9 := q
           have Bw11 := Bw10.grown gk (HGS.out _ Bw10) (by intro k hk; cases hk; exact l_t9)
           clear Bw10 gk q
           replace f_s0 := HF_s0.out.below Bw11 (Nat.le_refl _)
           replace f_s1 := HF_s1.out.below Bw11 (Nat.le_refl _))
        | (have hgo := Bw11; clear hgo
           refine wpList_store_as rfl 30 (.tmp 10) (.tmp 31) rfl 32 (bF 32 Y) arrSc r_t10 rfl rfl (by omega) (fun _ _ => rfl) (fun i hi => putN_whole hi) ?_
           intro w24 q gk
           replace r_t7 := gb_rowIs r_t7 gk n_t7_t10
           replace r_t8 := gb_rowIs r_t8 gk n_t8_t10
           replace r_t9 := gb_rowIs r_t9 gk n_t9_t10
           replace r_t10 := q
           have Bw12 := Bw11.grown gk (HGS.out _ Bw11) (by intro k hk; cases hk; exact l_t10)
           clear Bw11 gk q
           replace f_s0 := HF_s0.out.below Bw12 (Nat.le_refl _)
           replace f_s1 := HF_s1.out.below Bw12 (Nat.le_refl _))
        | (have hgo := Bw12; clear hgo
           go_at_call 11
           refine (HSS.out _ _ f_s0).mono ?_
           rintro e w26 ⟨rfl, kk⟩
           replace r_t7 := World.rowIs.of_block r_t7 (kk.block _ (World.rowIs.lt r_t7))
           replace r_t8 := World.rowIs.of_block r_t8 (kk.block _ (World.rowIs.lt r_t8))
           replace r_t9 := World.rowIs.of_block r_t9 (kk.block _ (World.rowIs.lt r_t9))
           replace r_t10 := World.rowIs.of_block r_t10 (kk.block _ (World.rowIs.lt r_t10))
           replace f_s0 := Bs.below f_s0 kk (Nat.le_refl _)
           replace f_s1 := Bs.below f_s1 kk (Nat.le_refl _)
           have Bw13 := Bw12.trans (kk.mono (HGS.out _ Bw12))
           clear Bw12 kk)
        | (have hgo := Bw13; clear hgo
           refine wpList_alloc_row rfl 27 rfl 4 (u64f fun _ => 0) zeroS ?_
           intro b_t11 w30 lk r_t11 kk
           have n_t7_t11 : b_t7 ≠ b_t11 := Nat.ne_of_lt (Nat.lt_of_lt_of_le (World.rowIs.lt r_t7) lk)
           have n_t8_t11 : b_t8 ≠ b_t11 := Nat.ne_of_lt (Nat.lt_of_lt_of_le (World.rowIs.lt r_t8) lk)
           have n_t9_t11 : b_t9 ≠ b_t11 := Nat.ne_of_lt (Nat.lt_of_lt_of_le (World.rowIs.lt r_t9) lk)
           have n_t10_t11 : b_t10 ≠ b_t11 := Nat.ne_of_lt (Nat.lt_of_lt_of_le (World.rowIs.lt r_t10) lk)
           have l_t11 := Nat.le_trans (HGS.out _ Bw13) lk
           replace r_t7 := World.rowIs.of_block r_t7 (kk.block _ (World.rowIs.lt r_t7))
           replace r_t8 := World.rowIs.of_block r_t8 (kk.block _ (World.rowIs.lt r_t8))
           replace r_t9 := World.rowIs.of_block r_t9 (kk.block _ (World.rowIs.lt r_t9))
           replace r_t10 := World.rowIs.of_block r_t10 (kk.block _ (World.rowIs.lt r_t10))
           replace f_s0 := Bs.below f_s0 kk (Nat.le_refl _)
           replace f_s1 := Bs.below f_s1 kk (Nat.le_refl _)
           have Bw14 := Bw13.trans (kk.mono (HGS.out _ Bw13))
           clear Bw13 kk lk)
        | (have hgo := Bw14; clear hgo
           refine wpList_store_as rfl 27 (.tmp 11) (.tmp 35) rfl 4 (ewF Z) arrS r_t11 rfl rfl (by omega) (fun _ _ => rfl) (fun i hi => putN_whole hi) ?_
           intro w31 q gk
           replace r_t7 := gb_rowIs r_t7 gk n_t7_t11
           replace r_t8 := gb_rowIs r_t8 gk n_t8_t11
           replace r_t9 := gb_rowIs r_t9 gk n_t9_t11
           replace r_t10 := gb_rowIs r_t10 gk n_t10_t11
           replace r_t11 := q
           have Bw15 := Bw14.grown gk (HGS.out _ Bw14) (by intro k hk; cases hk; exact l_t11)
           clear Bw14 gk q
           replace f_s0 := HF_s0.out.below Bw15 (Nat.le_refl _)
           replace f_s1 := HF_s1.out.below Bw15 (Nat.le_refl _))
        | (have hgo := Bw15; clear hgo
           go_at_call 12
           refine (HSR.out _ _ f_s0).mono ?_
           rintro e w34 ⟨rfl, kk⟩
           replace r_t7 := World.rowIs.of_block r_t7 (kk.block _ (World.rowIs.lt r_t7))
           replace r_t8 := World.rowIs.of_block r_t8 (kk.block _ (World.rowIs.lt r_t8))
           replace r_t9 := World.rowIs.of_block r_t9 (kk.block _ (World.rowIs.lt r_t9))
           replace r_t10 := World.rowIs.of_block r_t10 (kk.block _ (World.rowIs.lt r_t10))
           replace r_t11 := World.rowIs.of_block r_t11 (kk.block _ (World.rowIs.lt r_t11))
           replace f_s0 := Bs.below f_s0 kk (Nat.le_refl _)
           replace f_s1 := Bs.below f_s1 kk (Nat.le_refl _)
           have Bw16 := Bw15.trans (kk.mono (HGS.out _ Bw15))
           clear Bw15 kk)
        | (have hgo := Bw16; clear hgo
           refine wpList_alloc_row rfl 30 rfl 32 (fun _ => .int .u8 0) zeroSc ?_
           intro b_t13 w38 lk r_t13 kk
           have n_t7_t13 : b_t7 ≠ b_t13 := Nat.ne_of_lt (Nat.lt_of_lt_of_le (World.rowIs.lt r_t7) lk)
           have n_t8_t13 : b_t8 ≠ b_t13 := Nat.ne_of_lt (Nat.lt_of_lt_of_le (World.rowIs.lt r_t8) lk)
           have n_t9_t13 : b_t9 ≠ b_t13 := Nat.ne_of_lt (Nat.lt_of_lt_of_le (World.rowIs.lt r_t9) lk)
           have n_t10_t13 : b_t10 ≠ b_t13 := Nat.ne_of_lt (Nat.lt_of_lt_of_le (World.rowIs.lt r_t10) lk)
           have n_t11_t13 : b_t11 ≠ b_t13 := Nat.ne_of_lt (Nat.lt_of_lt_of_le (World.rowIs.lt r_t11) lk)
           have l_t13 := Nat.le_trans (HGS.out _ Bw16) lk
           replace r_t7 := World.rowIs.of_block r_t7 (kk.block _ (World.rowIs.lt r_t7))
           replace r_t8 := World.rowIs.of_block r_t8 (kk.block _ (World.rowIs.lt r_t8))
           replace r_t9 := World.rowIs.of_block r_t9 (kk.block _ (World.rowIs.lt r_t9))
           replace r_t10 := World.rowIs.of_block r_t10 (kk.block _ (World.rowIs.lt r_t10))
           replace r_t11 := World.rowIs.of_block r_t11 (kk.block _ (World.rowIs.lt r_t11))
           replace f_s0 := Bs.below f_s0 kk (Nat.le_refl _)
           replace f_s1 := Bs.below f_s1 kk (Nat.le_refl _)
           have Bw17 := Bw16.trans (kk.mono (HGS.out _ Bw16))
           clear Bw16 kk lk)
        | (have hgo := Bw17; clear hgo
           refine wpList_store_as rfl 30 (.tmp 13) (.tmp 40) rfl 32 (bF 32 Z) arrSc r_t13 rfl rfl (by omega) (fun _ _ => rfl) (fun i hi => putN_whole hi) ?_
           intro w39 q gk
           replace r_t7 := gb_rowIs r_t7 gk n_t7_t13
           replace r_t8 := gb_rowIs r_t8 gk n_t8_t13
           replace r_t9 := gb_rowIs r_t9 gk n_t9_t13
           replace r_t10 := gb_rowIs r_t10 gk n_t10_t13
           replace r_t11 := gb_rowIs r_t11 gk n_t11_t13
           replace r_t13 := q
           have Bw18 := Bw17.grown gk (HGS.out _ Bw17) (by intro k hk; cases hk; exact l_t13)
           clear Bw17 gk q
           replace f_s0 := HF_s0.out.below Bw18 (Nat.le_refl _)
           replace f_s1 := HF_s1.out.below Bw18 (Nat.le_refl _)))
      have Bw19 := Bw18.drew
      replace r_t7 := World.rowIs.drew r_t7
      replace r_t8 := World.rowIs.drew r_t8
      replace r_t9 := World.rowIs.drew r_t9
      replace r_t10 := World.rowIs.drew r_t10
      replace r_t11 := World.rowIs.drew r_t11
      replace r_t13 := World.rowIs.drew r_t13
      replace f_s0 := Bs.drew f_s0
      replace f_s1 := Bs.drew f_s1
      clear Bw18
      refine wp_region_po (Keep []) (Keep.refl _) (fun _ _ _ h1 h2 => h1.trans h2) (.rd 0 (.rd 1 .done)) #[true, true, false, false, false, false, false, false, false, false, false, false, false, false, false, false, false, false, false, false, false, false, false, false, false, false, false, false, false, false, false, false, false, false, false, false, false, false, false, false, false, false, false, false, false, false, false, false, false, false, false, false, false, false, false, false, false, false, false, false] [2, 3, 4, 5, 6, 7, 8, 9, 10, 11, 12, 13, 14, 15, 16, 17, 18, 19, 20, 21, 22, 23, 24, 25, 26, 27, 28, 29, 30, 31, 32, 33, 34, 35, 36, 37, 38, 39, 40, 41, 42, 43, 44, 45, 46, 47, 48, 49, 50, 51, 52, 53, 54, 55, 56, 57, 58, 59] [some 44, some 45, some 46, some 47, some 48, some 49, some 50, some 51, some 52, some 53, some 54, some 55, some 56, some 57, some 58, some 59, some 60, some 61, some 62, some 63, some 64, some 65, some 66, some 67, some 68, some 69, some 70, some 71, some 72, some 73, some 74, some 75, some 76, some 77, some 78, some 79, some 80, some 81, some 82, some 83, some 84, some 85, some 86, some 87, some 88, some 89, some 90, some 91, some 92, some 93, some 94, some 95, some 96, some 97, some 98, some 99, some 100, some 6] [[], [0], [1], [1], [1, 2, 3], [1, 4], [4, 5], [6], [6], [6, 7, 8], [6, 9], [6, 10], [11], [11], [11, 12, 13], [11], [11], [11, 14, 15, 16], [11, 14, 17], [11, 18], [18, 19], [20], [20], [20, 21, 22], [20], [20], [20, 23, 24, 25], [20, 23, 26], [20, 27], [27, 28], [29], [29, 30], [29], [29, 31, 32], [29, 31, 33], [29, 34], [34, 35], [36], [36], [36, 37, 38], [36], [36], [36, 40, 41], [36, 39, 42], [36, 43], [39, 44], [45], [45], [45, 46, 47], [45], [45], [45, 48, 49, 50], [45, 48, 51], [45, 52], [51, 53], [54], [54, 55], [0, 1, 2, 3, 4, 5, 6, 7, 8, 9, 10, 11, 12, 13, 14, 15, 16, 17, 18, 19, 20, 21, 22, 23, 24, 25, 26, 27, 28, 29, 30, 31, 32, 33, 34, 35, 36, 37, 38, 39, 40, 41, 42, 43, 44, 45, 46, 47, 48, 49, 50, 51, 52, 53, 54, 55, 56]] [(0, []), (1, []), (2, [0, 1]), (3, [2, 2]), (4, [3]), (5, [3]), (6, [4, 5, 3, 3]), (7, [3, 6]), (8, [7, 6]), (9, [8]), (10, [8]), (11, [9, 10, 8]), (12, [8, 11]), (13, [12, 8]), (14, [13]), (15, [13]), (16, [14, 15, 13, 13]), (17, [13]), (18, [13]), (19, [17, 18, 16, 13]), (20, [16, 19, 19, 13]), (21, [13, 20]), (22, [21, 20]), (23, [22]), (24, [22]), (25, [23, 24, 22, 22]), (26, [22]), (27, [22]), (28, [26, 27, 25, 22]), (29, [25, 28, 28, 22]), (30, [22, 29]), (31, [30, 29]), (32, [31]), (33, [32, 31, 31]), (34, [31]), (35, [34, 33, 31]), (36, [33, 35, 35, 31]), (37, [31, 36]), (38, [37, 36]), (39, [38]), (40, [38]), (41, [39, 40, 38, 38]), (42, [38]), (43, [38]), (44, [42, 43, 38]), (45, [41, 44, 38]), (46, [38, 45]), (47, [46, 41]), (48, [47]), (49, [47]), (50, [48, 49, 47, 47]), (51, [47]), (52, [47]), (53, [51, 52, 50, 47]), (54, [50, 53, 47]), (55, [47, 54]), (56, [55, 53]), (57, [56, 56]), (58, [56, 57]), (59, [58, 57, 0, 1, 2, 3, 4, 5, 6, 7, 8, 9, 10, 11, 12, 13, 14, 15, 16, 17, 18, 19, 20, 21, 22, 23, 24, 25, 26, 27, 28, 29, 30, 31, 32, 33, 34, 35, 36, 37, 38, 39, 40, 41, 42, 43, 44, 45, 46, 47, 48, 49, 50, 51, 52, 53, 54, 55, 56, 57, 58])] 3 (by as_aux_lemma => kernel_rfl) (by as_aux_lemma => kernel_rfl) (by decide) (by as_aux_lemma => kernel_rfl) (by as_aux_lemma => kernel_rfl) (by as_aux_lemma => kernel_rfl) rfl (fun d _ _ _ _ h => by cases d <;> exact h) ?_
      refine lintz_pure 42 (Op.load 27 (Operand.tmp 7)) 27 (.agg (arrOf 4 (ewF X))) rfl rfl rfl rfl rfl (fun w0 hb => by exact exec_load_as _ _ _ _ (ewF X) rfl arrS (Keep.row hb r_t7 rfl) (by omega) (fun i hi => by rw [Nat.zero_add])) ?_
      simp only [Act.put, List.setIfInBounds_toArray, List.set_cons_zero, List.set_cons_succ]
      refine lintz_pure 43 (Op.load 30 (Operand.tmp 9)) 30 (.agg (arrOf 32 (bF 32 X))) rfl rfl rfl rfl rfl (fun w0 hb => by exact exec_load_as _ _ _ _ (bF 32 X) rfl arrSc (Keep.row hb r_t9 rfl) (by omega) (fun i hi => by rw [Nat.zero_add])) ?_
      simp only [Act.put, List.setIfInBounds_toArray, List.set_cons_zero, List.set_cons_succ]
      refine lintz_leaf ?_
      have HWF : poWf [.val (.bool true), .val (.bool true), .val (.agg (arrOf 4 (ewF Z))), .val (.agg (arrOf 32 (bF 32 Z))), .val (.bool true), .val (.bool true), .val (.bool true), .val ((.int .i64 E)), .val ((.int .i64 E)), .val (.bool true), .val (.bool true), .val (.bool true), .val (.agg (arrOf 4 (ewF X))), .val (.agg (arrOf 4 (ewF Y))), .val (.agg (arrOf 4 (ewF ((X + Y) % ordL)))), .val (.agg (arrOf 32 (bF 32 X))), .val (.agg (arrOf 32 (bF 32 Y))), .val (.agg (arrOf 32 (bF 32 ((X + Y) % ordL)))), .val (.bool true), .val (.bool true), .val (.bool true), .val (.agg (arrOf 4 (ewF X))), .val (.agg (arrOf 4 (ewF Y))), .val (.agg (arrOf 4 (ewF ((X * Y) % ordL)))), .val (.agg (arrOf 32 (bF 32 X))), .val (.agg (arrOf 32 (bF 32 Y))), .val (.agg (arrOf 32 (bF 32 ((X * Y) % ordL)))), .val (.bool true), .val (.bool true), .val (.bool true), .val (.agg (arrOf 4 (ewF X))), .val (.agg (arrOf 4 (ewF (oppL X)))), .val (.agg (arrOf 32 (bF 32 X))), .val (.agg (arrOf 32 (bF 32 (oppL X)))), .val (.bool true), .val (.bool true), .val (.bool true), .val (.agg (arrOf 4 (ewF X))), .val (.agg (arrOf 4 (ewF Y))), .val (.bool (decide (X = Y))), .val (.agg (arrOf 32 (bF 32 X))), .val (.agg (arrOf 32 (bF 32 Y))), .val (.bool (decide (X = Y))), .val (.bool true), .val (.bool true), .val (.bool true), .val (.agg (arrOf 4 (ewF X))), .val (.int .i64 x2), .val (.int .i64 ((bitZ X x2 : Nat) : Int)), .val (.agg (arrOf 32 (bF 32 X))), .val (.int .i64 x2), .val (.int .i64 ((bitZ X x2 : Nat) : Int)), .val (.bool true), .val (.bool true), .val (.bool true), .val (.bool true), .val (.bool true), .val (.bool true)] [] = true := by as_aux_lemma => kernel_rfl
      refine ⟨JG [.val (.bool true), .val (.bool true), .val (.agg (arrOf 4 (ewF Z))), .val (.agg (arrOf 32 (bF 32 Z))), .val (.bool true), .val (.bool true), .val (.bool true), .val ((.int .i64 E)), .val ((.int .i64 E)), .val (.bool true), .val (.bool true), .val (.bool true), .val (.agg (arrOf 4 (ewF X))), .val (.agg (arrOf 4 (ewF Y))), .val (.agg (arrOf 4 (ewF ((X + Y) % ordL)))), .val (.agg (arrOf 32 (bF 32 X))), .val (.agg (arrOf 32 (bF 32 Y))), .val (.agg (arrOf 32 (bF 32 ((X + Y) % ordL)))), .val (.bool true), .val (.bool true), .val (.bool true), .val (.agg (arrOf 4 (ewF X))), .val (.agg (arrOf 4 (ewF Y))), .val (.agg (arrOf 4 (ewF ((X * Y) % ordL)))), .val (.agg (arrOf 32 (bF 32 X))), .val (.agg (arrOf 32 (bF 32 Y))), .val (.agg (arrOf 32 (bF 32 ((X * Y) % ordL)))), .val (.bool true), .val (.bool true), .val (.bool true), .val (.agg (arrOf 4 (ewF X))), .val (.agg (arrOf 4 (ewF (oppL X)))), .val (.agg (arrOf 32 (bF 32 X))), .val (.agg (arrOf 32 (bF 32 (oppL X)))), .val (.bool true), .val (.bool true), .val (.bool true), .val (.agg (arrOf 4 (ewF X))), .val (.agg (arrOf 4 (ewF Y))), .val (.bool (decide (X = Y))), .val (.agg (arrOf 32 (bF 32 X))), .val (.agg (arrOf 32 (bF 32 Y))), .val (.bool (decide (X = Y))), .val (.bool true), .val (.bool true), .val (.bool true), .val (.agg (arrOf 4 (ewF X))), .val (.int .i64 x2), .val (.int .i64 ((bitZ X x2 : Nat) : Int)), .val (.agg (arrOf 32 (bF 32 X))), .val (.int .i64 x2), .val (.int .i64 ((bitZ X x2 : Nat) : Int)), .val (.bool true), .val (.bool true), .val (.bool true), .val (.bool true), .val (.bool true), .val (.bool true)] [] _, JG.start (Nat.le_refl _) (fun i hi => absurd hi (Nat.not_lt_zero _)), fun m gz wa p az hp hm hmp hcl hdn hE hJ hS hO => ?_, fun gz wa hE hJ => ?_⟩
      · rcases (show p = 0 ∨ p = 1 ∨ p = 2 ∨ p = 3 ∨ p = 4 ∨ p = 5 ∨ p = 6 ∨ p = 7 ∨ p = 8 ∨ p = 9 ∨ p = 10 ∨ p = 11 ∨ p = 12 ∨ p = 13 ∨ p = 14 ∨ p = 15 ∨ p = 16 ∨ p = 17 ∨ p = 18 ∨ p = 19 ∨ p = 20 ∨ p = 21 ∨ p = 22 ∨ p = 23 ∨ p = 24 ∨ p = 25 ∨ p = 26 ∨ p = 27 ∨ p = 28 ∨ p = 29 ∨ p = 30 ∨ p = 31 ∨ p = 32 ∨ p = 33 ∨ p = 34 ∨ p = 35 ∨ p = 36 ∨ p = 37 ∨ p = 38 ∨ p = 39 ∨ p = 40 ∨ p = 41 ∨ p = 42 ∨ p = 43 ∨ p = 44 ∨ p = 45 ∨ p = 46 ∨ p = 47 ∨ p = 48 ∨ p = 49 ∨ p = 50 ∨ p = 51 ∨ p = 52 ∨ p = 53 ∨ p = 54 ∨ p = 55 ∨ p = 56 ∨ p = 57 by have h9 : p < 58 := hp; omega) with rfl | rfl | rfl | rfl | rfl | rfl | rfl | rfl | rfl | rfl | rfl | rfl | rfl | rfl | rfl | rfl | rfl | rfl | rfl | rfl | rfl | rfl | rfl | rfl | rfl | rfl | rfl | rfl | rfl | rfl | rfl | rfl | rfl | rfl | rfl | rfl | rfl | rfl | rfl | rfl | rfl | rfl | rfl | rfl | rfl | rfl | rfl | rfl | rfl | rfl | rfl | rfl | rfl | rfl | rfl | rfl | rfl | rfl
        · as_aux_lemma =>
            have e42 : az.eval (.tmp 42) = .agg (arrOf 4 (ewF X)) := hO 42 rfl
            have e43 : az.eval (.tmp 43) = .agg (arrOf 32 (bF 32 X)) := hO 43 rfl
            exact po_call 44 13 #[Operand.tmp 42, Operand.tmp 43] #[27, 30] _ HWF hJ rfl hE (is7_any X _) rfl rfl rfl rfl rfl Try.func13 (by kernel_rfl) (by kernel_rfl) (by simp only [List.map_toArray, List.map_cons, List.map_nil, eval_const, eval_func, e42, e43] <;> rfl)
        · as_aux_lemma =>
            have e44 := (hS 0 44 rfl (hdn 0 (by decide)) (Nat.le_of_ble_eq_true rfl)).trans (hJ.says (hdn 0 (by decide)) rfl)
            exact po_run 45 (Op.move (Operand.tmp 44)) _ HWF hJ rfl hE rfl rfl rfl rfl rfl rfl (by first | (simp only [execOp, mkOp, eval_const, e44]; done) | (simp only [execOp, mkOp, eval_const, e44]; go_simp))
        · as_aux_lemma =>
            have e45 := (hS 1 45 rfl (hdn 1 (by decide)) (Nat.le_of_ble_eq_true rfl)).trans (hJ.says (hdn 1 (by decide)) rfl)
            have e11 : az.eval (.tmp 11) = .pointer (some ⟨b_t11, 0, none⟩) := hO 11 rfl
            exact po_run 46 (Op.load 27 (Operand.tmp 11)) _ HWF hJ rfl hE rfl rfl rfl rfl rfl (wanted_of rfl rfl e45) (exec_load_as _ _ _ _ (ewF Z) e11 arrS (Keep.row hE r_t11 rfl) (by omega) (fun i hi => by rw [Nat.zero_add]))
        · as_aux_lemma =>
            have e45 := (hS 1 45 rfl (hdn 1 (by decide)) (Nat.le_of_ble_eq_true rfl)).trans (hJ.says (hdn 1 (by decide)) rfl)
            have e13 : az.eval (.tmp 13) = .pointer (some ⟨b_t13, 0, none⟩) := hO 13 rfl
            exact po_run 47 (Op.load 30 (Operand.tmp 13)) _ HWF hJ rfl hE rfl rfl rfl rfl rfl (wanted_of rfl rfl e45) (exec_load_as _ _ _ _ (bF 32 Z) e13 arrSc (Keep.row hE r_t13 rfl) (by omega) (fun i hi => by rw [Nat.zero_add]))
        · as_aux_lemma =>
            have e45 := (hS 1 45 rfl (hdn 1 (by decide)) (Nat.le_of_ble_eq_true rfl)).trans (hJ.says (hdn 1 (by decide)) rfl)
            have e46 := (hS 2 46 rfl (hdn 2 (by decide)) (Nat.le_of_ble_eq_true rfl)).trans (hJ.says (hdn 2 (by decide)) rfl)
            have e47 := (hS 3 47 rfl (hdn 3 (by decide)) (Nat.le_of_ble_eq_true rfl)).trans (hJ.says (hdn 3 (by decide)) rfl)
            exact po_call 48 13 #[Operand.tmp 46, Operand.tmp 47] #[27, 30] _ HWF hJ rfl hE (is7_any Z _) rfl rfl rfl rfl (wanted_of rfl rfl e45) Try.func13 (by kernel_rfl) (by kernel_rfl) (by simp only [List.map_toArray, List.map_cons, List.map_nil, eval_const, eval_func, e46, e47] <;> rfl)
        · as_aux_lemma =>
            have e45 := (hS 1 45 rfl (hdn 1 (by decide)) (Nat.le_of_ble_eq_true rfl)).trans (hJ.says (hdn 1 (by decide)) rfl)
            have e48 := (hS 4 48 rfl (hdn 4 (by decide)) (Nat.le_of_ble_eq_true rfl)).trans (hJ.says (hdn 4 (by decide)) rfl)
            exact po_run 49 (Op.pick (Operand.tmp 45) (Operand.tmp 48) (Operand.const (Value.bool false))) _ HWF hJ rfl hE rfl rfl rfl rfl rfl rfl (by first | (simp only [execOp, mkOp, eval_const, e45, e48]; done) | (simp only [execOp, mkOp, eval_const, e45, e48]; go_simp))
        · as_aux_lemma =>
            have e49 := (hS 5 49 rfl (hdn 5 (by decide)) (Nat.le_of_ble_eq_true rfl)).trans (hJ.says (hdn 5 (by decide)) rfl)
            exact po_run 50 (Op.move (Operand.tmp 49)) _ HWF hJ rfl hE rfl rfl rfl rfl rfl rfl (by first | (simp only [execOp, mkOp, eval_const, e49]; done) | (simp only [execOp, mkOp, eval_const, e49]; go_simp))
        · as_aux_lemma =>
            have e50 := (hS 6 50 rfl (hdn 6 (by decide)) (Nat.le_of_ble_eq_true rfl)).trans (hJ.says (hdn 6 (by decide)) rfl)
            have e12 : az.eval (.tmp 12) = (.int .i64 E) := hO 12 rfl
            exact po_run 51 (Op.move (Operand.tmp 12)) _ HWF hJ rfl hE rfl rfl rfl rfl rfl (wanted_of rfl rfl e50) (by first | (simp only [execOp, mkOp, eval_const, e12]; done) | (simp only [execOp, mkOp, eval_const, e12]; go_simp))
        · as_aux_lemma =>
            have e50 := (hS 6 50 rfl (hdn 6 (by decide)) (Nat.le_of_ble_eq_true rfl)).trans (hJ.says (hdn 6 (by decide)) rfl)
            have e14 : az.eval (.tmp 14) = (.int .i64 E) := hO 14 rfl
            exact po_run 52 (Op.move (Operand.tmp 14)) _ HWF hJ rfl hE rfl rfl rfl rfl rfl (wanted_of rfl rfl e50) (by first | (simp only [execOp, mkOp, eval_const, e14]; done) | (simp only [execOp, mkOp, eval_const, e14]; go_simp))
        · as_aux_lemma =>
            have e50 := (hS 6 50 rfl (hdn 6 (by decide)) (Nat.le_of_ble_eq_true rfl)).trans (hJ.says (hdn 6 (by decide)) rfl)
            have e51 := (hS 7 51 rfl (hdn 7 (by decide)) (Nat.le_of_ble_eq_true rfl)).trans (hJ.says (hdn 7 (by decide)) rfl)
            have e52 := (hS 8 52 rfl (hdn 8 (by decide)) (Nat.le_of_ble_eq_true rfl)).trans (hJ.says (hdn 8 (by decide)) rfl)
            exact po_run 53 (Op.binOp BinOp.eql 3 (Operand.tmp 51) (Operand.tmp 52) 3) _ HWF hJ rfl hE rfl rfl rfl rfl rfl (wanted_of rfl rfl e50) (by simp only [execOp, mkOp, eval_const, e51, e52]; go_simp)
        · as_aux_lemma =>
            have e50 := (hS 6 50 rfl (hdn 6 (by decide)) (Nat.le_of_ble_eq_true rfl)).trans (hJ.says (hdn 6 (by decide)) rfl)
            have e53 := (hS 9 53 rfl (hdn 9 (by decide)) (Nat.le_of_ble_eq_true rfl)).trans (hJ.says (hdn 9 (by decide)) rfl)
            exact po_run 54 (Op.pick (Operand.tmp 50) (Operand.tmp 53) (Operand.const (Value.bool false))) _ HWF hJ rfl hE rfl rfl rfl rfl rfl rfl (by first | (simp only [execOp, mkOp, eval_const, e50, e53]; done) | (simp only [execOp, mkOp, eval_const, e50, e53]; go_simp))
        · as_aux_lemma =>
            have e54 := (hS 10 54 rfl (hdn 10 (by decide)) (Nat.le_of_ble_eq_true rfl)).trans (hJ.says (hdn 10 (by decide)) rfl)
            exact po_run 55 (Op.move (Operand.tmp 54)) _ HWF hJ rfl hE rfl rfl rfl rfl rfl rfl (by first | (simp only [execOp, mkOp, eval_const, e54]; done) | (simp only [execOp, mkOp, eval_const, e54]; go_simp))
        · as_aux_lemma =>
            have e55 := (hS 11 55 rfl (hdn 11 (by decide)) (Nat.le_of_ble_eq_true rfl)).trans (hJ.says (hdn 11 (by decide)) rfl)
            have e7 : az.eval (.tmp 7) = .pointer (some ⟨b_t7, 0, none⟩) := hO 7 rfl
            exact po_run 56 (Op.load 27 (Operand.tmp 7)) _ HWF hJ rfl hE rfl rfl rfl rfl rfl (wanted_of rfl rfl e55) (exec_load_as _ _ _ _ (ewF X) e7 arrS (Keep.row hE r_t7 rfl) (by omega) (fun i hi => by rw [Nat.zero_add]))
        · as_aux_lemma =>
            have e55 := (hS 11 55 rfl (hdn 11 (by decide)) (Nat.le_of_ble_eq_true rfl)).trans (hJ.says (hdn 11 (by decide)) rfl)
            have e8 : az.eval (.tmp 8) = .pointer (some ⟨b_t8, 0, none⟩) := hO 8 rfl
            exact po_run 57 (Op.load 27 (Operand.tmp 8)) _ HWF hJ rfl hE rfl rfl rfl rfl rfl (wanted_of rfl rfl e55) (exec_load_as _ _ _ _ (ewF Y) e8 arrS (Keep.row hE r_t8 rfl) (by omega) (fun i hi => by rw [Nat.zero_add]))
        · as_aux_lemma =>
            have e55 := (hS 11 55 rfl (hdn 11 (by decide)) (Nat.le_of_ble_eq_true rfl)).trans (hJ.says (hdn 11 (by decide)) rfl)
            have e56 := (hS 12 56 rfl (hdn 12 (by decide)) (Nat.le_of_ble_eq_true rfl)).trans (hJ.says (hdn 12 (by decide)) rfl)
            have e57 := (hS 13 57 rfl (hdn 13 (by decide)) (Nat.le_of_ble_eq_true rfl)).trans (hJ.says (hdn 13 (by decide)) rfl)
            exact po_call 58 14 #[Operand.tmp 56, Operand.tmp 57] #[27, 27] _ HWF hJ rfl hE (sAdd_any X Y _ HX.out HY.out) rfl rfl rfl rfl (wanted_of rfl rfl e55) Try.func14 (by kernel_rfl) (by kernel_rfl) (by simp only [List.map_toArray, List.map_cons, List.map_nil, eval_const, eval_func, e56, e57] <;> rfl)
        · as_aux_lemma =>
            have e55 := (hS 11 55 rfl (hdn 11 (by decide)) (Nat.le_of_ble_eq_true rfl)).trans (hJ.says (hdn 11 (by decide)) rfl)
            have e9 : az.eval (.tmp 9) = .pointer (some ⟨b_t9, 0, none⟩) := hO 9 rfl
            exact po_run 59 (Op.load 30 (Operand.tmp 9)) _ HWF hJ rfl hE rfl rfl rfl rfl rfl (wanted_of rfl rfl e55) (exec_load_as _ _ _ _ (bF 32 X) e9 arrSc (Keep.row hE r_t9 rfl) (by omega) (fun i hi => by rw [Nat.zero_add]))
        · as_aux_lemma =>
            have e55 := (hS 11 55 rfl (hdn 11 (by decide)) (Nat.le_of_ble_eq_true rfl)).trans (hJ.says (hdn 11 (by decide)) rfl)
            have e10 : az.eval (.tmp 10) = .pointer (some ⟨b_t10, 0, none⟩) := hO 10 rfl
            exact po_run 60 (Op.load 30 (Operand.tmp 10)) _ HWF hJ rfl hE rfl rfl rfl rfl rfl (wanted_of rfl rfl e55) (exec_load_as _ _ _ _ (bF 32 Y) e10 arrSc (Keep.row hE r_t10 rfl) (by omega) (fun i hi => by rw [Nat.zero_add]))
        · as_aux_lemma =>
            have e55 := (hS 11 55 rfl (hdn 11 (by decide)) (Nat.le_of_ble_eq_true rfl)).trans (hJ.says (hdn 11 (by decide)) rfl)
            have e59 := (hS 15 59 rfl (hdn 15 (by decide)) (Nat.le_of_ble_eq_true rfl)).trans (hJ.says (hdn 15 (by decide)) rfl)
            have e60 := (hS 16 60 rfl (hdn 16 (by decide)) (Nat.le_of_ble_eq_true rfl)).trans (hJ.says (hdn 16 (by decide)) rfl)
            exact po_call 61 15 #[Operand.tmp 59, Operand.tmp 60] #[30, 30] _ HWF hJ rfl hE (refScAdd_any X Y _ HX.out HY.out) rfl rfl rfl rfl (wanted_of rfl rfl e55) Try.func15 (by kernel_rfl) (by kernel_rfl) (by simp only [List.map_toArray, List.map_cons, List.map_nil, eval_const, eval_func, e59, e60] <;> rfl)
        · as_aux_lemma =>
            have e55 := (hS 11 55 rfl (hdn 11 (by decide)) (Nat.le_of_ble_eq_true rfl)).trans (hJ.says (hdn 11 (by decide)) rfl)
            have e58 := (hS 14 58 rfl (hdn 14 (by decide)) (Nat.le_of_ble_eq_true rfl)).trans (hJ.says (hdn 14 (by decide)) rfl)
            have e61 := (hS 17 61 rfl (hdn 17 (by decide)) (Nat.le_of_ble_eq_true rfl)).trans (hJ.says (hdn 17 (by decide)) rfl)
            exact po_call 62 13 #[Operand.tmp 58, Operand.tmp 61] #[27, 30] _ HWF hJ rfl hE (is7_any ((X + Y) % ordL) _) rfl rfl rfl rfl (wanted_of rfl rfl e55) Try.func13 (by kernel_rfl) (by kernel_rfl) (by simp only [List.map_toArray, List.map_cons, List.map_nil, eval_const, eval_func, e58, e61] <;> rfl)
        · as_aux_lemma =>
            have e55 := (hS 11 55 rfl (hdn 11 (by decide)) (Nat.le_of_ble_eq_true rfl)).trans (hJ.says (hdn 11 (by decide)) rfl)
            have e62 := (hS 18 62 rfl (hdn 18 (by decide)) (Nat.le_of_ble_eq_true rfl)).trans (hJ.says (hdn 18 (by decide)) rfl)
            exact po_run 63 (Op.pick (Operand.tmp 55) (Operand.tmp 62) (Operand.const (Value.bool false))) _ HWF hJ rfl hE rfl rfl rfl rfl rfl rfl (by first | (simp only [execOp, mkOp, eval_const, e55, e62]; done) | (simp only [execOp, mkOp, eval_const, e55, e62]; go_simp))
        · as_aux_lemma =>
            have e63 := (hS 19 63 rfl (hdn 19 (by decide)) (Nat.le_of_ble_eq_true rfl)).trans (hJ.says (hdn 19 (by decide)) rfl)
            exact po_run 64 (Op.move (Operand.tmp 63)) _ HWF hJ rfl hE rfl rfl rfl rfl rfl rfl (by first | (simp only [execOp, mkOp, eval_const, e63]; done) | (simp only [execOp, mkOp, eval_const, e63]; go_simp))
        · as_aux_lemma =>
            have e64 := (hS 20 64 rfl (hdn 20 (by decide)) (Nat.le_of_ble_eq_true rfl)).trans (hJ.says (hdn 20 (by decide)) rfl)
            have e7 : az.eval (.tmp 7) = .pointer (some ⟨b_t7, 0, none⟩) := hO 7 rfl
            exact po_run 65 (Op.load 27 (Operand.tmp 7)) _ HWF hJ rfl hE rfl rfl rfl rfl rfl (wanted_of rfl rfl e64) (exec_load_as _ _ _ _ (ewF X) e7 arrS (Keep.row hE r_t7 rfl) (by omega) (fun i hi => by rw [Nat.zero_add]))
        · as_aux_lemma =>
            have e64 := (hS 20 64 rfl (hdn 20 (by decide)) (Nat.le_of_ble_eq_true rfl)).trans (hJ.says (hdn 20 (by decide)) rfl)
            have e8 : az.eval (.tmp 8) = .pointer (some ⟨b_t8, 0, none⟩) := hO 8 rfl
            exact po_run 66 (Op.load 27 (Operand.tmp 8)) _ HWF hJ rfl hE rfl rfl rfl rfl rfl (wanted_of rfl rfl e64) (exec_load_as _ _ _ _ (ewF Y) e8 arrS (Keep.row hE r_t8 rfl) (by omega) (fun i hi => by rw [Nat.zero_add]))
        · as_aux_lemma =>
            have e64 := (hS 20 64 rfl (hdn 20 (by decide)) (Nat.le_of_ble_eq_true rfl)).trans (hJ.says (hdn 20 (by decide)) rfl)
            have e65 := (hS 21 65 rfl (hdn 21 (by decide)) (Nat.le_of_ble_eq_true rfl)).trans (hJ.says (hdn 21 (by decide)) rfl)
            have e66 := (hS 22 66 rfl (hdn 22 (by decide)) (Nat.le_of_ble_eq_true rfl)).trans (hJ.says (hdn 22 (by decide)) rfl)
            exact po_call 67 16 #[Operand.tmp 65, Operand.tmp 66] #[27, 27] _ HWF hJ rfl hE (sMul_any X Y _ HX.out HY.out) rfl rfl rfl rfl (wanted_of rfl rfl e64) Try.func16 (by kernel_rfl) (by kernel_rfl) (by simp only [List.map_toArray, List.map_cons, List.map_nil, eval_const, eval_func, e65, e66] <;> rfl)
        · as_aux_lemma =>
            have e64 := (hS 20 64 rfl (hdn 20 (by decide)) (Nat.le_of_ble_eq_true rfl)).trans (hJ.says (hdn 20 (by decide)) rfl)
            have e9 : az.eval (.tmp 9) = .pointer (some ⟨b_t9, 0, none⟩) := hO 9 rfl
            exact po_run 68 (Op.load 30 (Operand.tmp 9)) _ HWF hJ rfl hE rfl rfl rfl rfl rfl (wanted_of rfl rfl e64) (exec_load_as _ _ _ _ (bF 32 X) e9 arrSc (Keep.row hE r_t9 rfl) (by omega) (fun i hi => by rw [Nat.zero_add]))
        · as_aux_lemma =>
            have e64 := (hS 20 64 rfl (hdn 20 (by decide)) (Nat.le_of_ble_eq_true rfl)).trans (hJ.says (hdn 20 (by decide)) rfl)
            have e10 : az.eval (.tmp 10) = .pointer (some ⟨b_t10, 0, none⟩) := hO 10 rfl
            exact po_run 69 (Op.load 30 (Operand.tmp 10)) _ HWF hJ rfl hE rfl rfl rfl rfl rfl (wanted_of rfl rfl e64) (exec_load_as _ _ _ _ (bF 32 Y) e10 arrSc (Keep.row hE r_t10 rfl) (by omega) (fun i hi => by rw [Nat.zero_add]))
        · as_aux_lemma =>
            have e64 := (hS 20 64 rfl (hdn 20 (by decide)) (Nat.le_of_ble_eq_true rfl)).trans (hJ.says (hdn 20 (by decide)) rfl)
            have e68 := (hS 24 68 rfl (hdn 24 (by decide)) (Nat.le_of_ble_eq_true rfl)).trans (hJ.says (hdn 24 (by decide)) rfl)
            have e69 := (hS 25 69 rfl (hdn 25 (by decide)) (Nat.le_of_ble_eq_true rfl)).trans (hJ.says (hdn 25 (by decide)) rfl)
            exact po_call 70 17 #[Operand.tmp 68, Operand.tmp 69] #[30, 30] _ HWF hJ rfl hE (refScMul_any X Y _ HX.out HY.out) rfl rfl rfl rfl (wanted_of rfl rfl e64) Try.func17 (by kernel_rfl) (by kernel_rfl) (by simp only [List.map_toArray, List.map_cons, List.map_nil, eval_const, eval_func, e68, e69] <;> rfl)
        · as_aux_lemma =>
            have e64 := (hS 20 64 rfl (hdn 20 (by decide)) (Nat.le_of_ble_eq_true rfl)).trans (hJ.says (hdn 20 (by decide)) rfl)
            have e67 := (hS 23 67 rfl (hdn 23 (by decide)) (Nat.le_of_ble_eq_true rfl)).trans (hJ.says (hdn 23 (by decide)) rfl)
            have e70 := (hS 26 70 rfl (hdn 26 (by decide)) (Nat.le_of_ble_eq_true rfl)).trans (hJ.says (hdn 26 (by decide)) rfl)
            exact po_call 71 13 #[Operand.tmp 67, Operand.tmp 70] #[27, 30] _ HWF hJ rfl hE (is7_any ((X * Y) % ordL) _) rfl rfl rfl rfl (wanted_of rfl rfl e64) Try.func13 (by kernel_rfl) (by kernel_rfl) (by simp only [List.map_toArray, List.map_cons, List.map_nil, eval_const, eval_func, e67, e70] <;> rfl)
        · as_aux_lemma =>
            have e64 := (hS 20 64 rfl (hdn 20 (by decide)) (Nat.le_of_ble_eq_true rfl)).trans (hJ.says (hdn 20 (by decide)) rfl)
            have e71 := (hS 27 71 rfl (hdn 27 (by decide)) (Nat.le_of_ble_eq_true rfl)).trans (hJ.says (hdn 27 (by decide)) rfl)
            exact po_run 72 (Op.pick (Operand.tmp 64) (Operand.tmp 71) (Operand.const (Value.bool false))) _ HWF hJ rfl hE rfl rfl rfl rfl rfl rfl (by first | (simp only [execOp, mkOp, eval_const, e64, e71]; done) | (simp only [execOp, mkOp, eval_const, e64, e71]; go_simp))
        · as_aux_lemma =>
            have e72 := (hS 28 72 rfl (hdn 28 (by decide)) (Nat.le_of_ble_eq_true rfl)).trans (hJ.says (hdn 28 (by decide)) rfl)
            exact po_run 73 (Op.move (Operand.tmp 72)) _ HWF hJ rfl hE rfl rfl rfl rfl rfl rfl (by first | (simp only [execOp, mkOp, eval_const, e72]; done) | (simp only [execOp, mkOp, eval_const, e72]; go_simp))
        · as_aux_lemma =>
            have e73 := (hS 29 73 rfl (hdn 29 (by decide)) (Nat.le_of_ble_eq_true rfl)).trans (hJ.says (hdn 29 (by decide)) rfl)
            have e7 : az.eval (.tmp 7) = .pointer (some ⟨b_t7, 0, none⟩) := hO 7 rfl
            exact po_run 74 (Op.load 27 (Operand.tmp 7)) _ HWF hJ rfl hE rfl rfl rfl rfl rfl (wanted_of rfl rfl e73) (exec_load_as _ _ _ _ (ewF X) e7 arrS (Keep.row hE r_t7 rfl) (by omega) (fun i hi => by rw [Nat.zero_add]))
        · as_aux_lemma =>
            have e73 := (hS 29 73 rfl (hdn 29 (by decide)) (Nat.le_of_ble_eq_true rfl)).trans (hJ.says (hdn 29 (by decide)) rfl)
            have e74 := (hS 30 74 rfl (hdn 30 (by decide)) (Nat.le_of_ble_eq_true rfl)).trans (hJ.says (hdn 30 (by decide)) rfl)
            exact po_call 75 18 #[Operand.tmp 74] #[27] _ HWF hJ rfl hE (sNeg_any X _ HX.out) rfl rfl rfl rfl (wanted_of rfl rfl e73) Try.func18 (by kernel_rfl) (by kernel_rfl) (by simp only [List.map_toArray, List.map_cons, List.map_nil, eval_const, eval_func, e74] <;> rfl)
        · as_aux_lemma =>
            have e73 := (hS 29 73 rfl (hdn 29 (by decide)) (Nat.le_of_ble_eq_true rfl)).trans (hJ.says (hdn 29 (by decide)) rfl)
            have e9 : az.eval (.tmp 9) = .pointer (some ⟨b_t9, 0, none⟩) := hO 9 rfl
            exact po_run 76 (Op.load 30 (Operand.tmp 9)) _ HWF hJ rfl hE rfl rfl rfl rfl rfl (wanted_of rfl rfl e73) (exec_load_as _ _ _ _ (bF 32 X) e9 arrSc (Keep.row hE r_t9 rfl) (by omega) (fun i hi => by rw [Nat.zero_add]))
        · as_aux_lemma =>
            have e73 := (hS 29 73 rfl (hdn 29 (by decide)) (Nat.le_of_ble_eq_true rfl)).trans (hJ.says (hdn 29 (by decide)) rfl)
            have e76 := (hS 32 76 rfl (hdn 32 (by decide)) (Nat.le_of_ble_eq_true rfl)).trans (hJ.says (hdn 32 (by decide)) rfl)
            exact po_call 77 19 #[Operand.tmp 76] #[30] _ HWF hJ rfl hE (refScNeg7_any X _ HX.out) rfl rfl rfl rfl (wanted_of rfl rfl e73) Try.func19 (by kernel_rfl) (by kernel_rfl) (by simp only [List.map_toArray, List.map_cons, List.map_nil, eval_const, eval_func, e76] <;> rfl)
        · as_aux_lemma =>
            have e73 := (hS 29 73 rfl (hdn 29 (by decide)) (Nat.le_of_ble_eq_true rfl)).trans (hJ.says (hdn 29 (by decide)) rfl)
            have e75 := (hS 31 75 rfl (hdn 31 (by decide)) (Nat.le_of_ble_eq_true rfl)).trans (hJ.says (hdn 31 (by decide)) rfl)
            have e77 := (hS 33 77 rfl (hdn 33 (by decide)) (Nat.le_of_ble_eq_true rfl)).trans (hJ.says (hdn 33 (by decide)) rfl)
            exact po_call 78 13 #[Operand.tmp 75, Operand.tmp 77] #[27, 30] _ HWF hJ rfl hE (is7_any (oppL X) _) rfl rfl rfl rfl (wanted_of rfl rfl e73) Try.func13 (by kernel_rfl) (by kernel_rfl) (by simp only [List.map_toArray, List.map_cons, List.map_nil, eval_const, eval_func, e75, e77] <;> rfl)
        · as_aux_lemma =>
            have e73 := (hS 29 73 rfl (hdn 29 (by decide)) (Nat.le_of_ble_eq_true rfl)).trans (hJ.says (hdn 29 (by decide)) rfl)
            have e78 := (hS 34 78 rfl (hdn 34 (by decide)) (Nat.le_of_ble_eq_true rfl)).trans (hJ.says (hdn 34 (by decide)) rfl)
            exact po_run 79 (Op.pick (Operand.tmp 73) (Operand.tmp 78) (Operand.const (Value.bool false))) _ HWF hJ rfl hE rfl rfl rfl rfl rfl rfl (by first | (simp only [execOp, mkOp, eval_const, e73, e78]; done) | (simp only [execOp, mkOp, eval_const, e73, e78]; go_simp))
        · as_aux_lemma =>
            have e79 := (hS 35 79 rfl (hdn 35 (by decide)) (Nat.le_of_ble_eq_true rfl)).trans (hJ.says (hdn 35 (by decide)) rfl)
            exact po_run 80 (Op.move (Operand.tmp 79)) _ HWF hJ rfl hE rfl rfl rfl rfl rfl rfl (by first | (simp only [execOp, mkOp, eval_const, e79]; done) | (simp only [execOp, mkOp, eval_const, e79]; go_simp))
        · as_aux_lemma =>
            have e80 := (hS 36 80 rfl (hdn 36 (by decide)) (Nat.le_of_ble_eq_true rfl)).trans (hJ.says (hdn 36 (by decide)) rfl)
            have e7 : az.eval (.tmp 7) = .pointer (some ⟨b_t7, 0, none⟩) := hO 7 rfl
            exact po_run 81 (Op.load 27 (Operand.tmp 7)) _ HWF hJ rfl hE rfl rfl rfl rfl rfl (wanted_of rfl rfl e80) (exec_load_as _ _ _ _ (ewF X) e7 arrS (Keep.row hE r_t7 rfl) (by omega) (fun i hi => by rw [Nat.zero_add]))
        · as_aux_lemma =>
            have e80 := (hS 36 80 rfl (hdn 36 (by decide)) (Nat.le_of_ble_eq_true rfl)).trans (hJ.says (hdn 36 (by decide)) rfl)
            have e8 : az.eval (.tmp 8) = .pointer (some ⟨b_t8, 0, none⟩) := hO 8 rfl
            exact po_run 82 (Op.load 27 (Operand.tmp 8)) _ HWF hJ rfl hE rfl rfl rfl rfl rfl (wanted_of rfl rfl e80) (exec_load_as _ _ _ _ (ewF Y) e8 arrS (Keep.row hE r_t8 rfl) (by omega) (fun i hi => by rw [Nat.zero_add]))
        · as_aux_lemma =>
            have e80 := (hS 36 80 rfl (hdn 36 (by decide)) (Nat.le_of_ble_eq_true rfl)).trans (hJ.says (hdn 36 (by decide)) rfl)
            have e81 := (hS 37 81 rfl (hdn 37 (by decide)) (Nat.le_of_ble_eq_true rfl)).trans (hJ.says (hdn 37 (by decide)) rfl)
            have e82 := (hS 38 82 rfl (hdn 38 (by decide)) (Nat.le_of_ble_eq_true rfl)).trans (hJ.says (hdn 38 (by decide)) rfl)
            exact po_call 83 20 #[Operand.tmp 81, Operand.tmp 82] #[27, 27] _ HWF hJ rfl hE (sSame_any X Y _ HX.out HY.out) rfl rfl rfl rfl (wanted_of rfl rfl e80) Try.func20 (by kernel_rfl) (by kernel_rfl) (by simp only [List.map_toArray, List.map_cons, List.map_nil, eval_const, eval_func, e81, e82] <;> rfl)
        · as_aux_lemma =>
            have e80 := (hS 36 80 rfl (hdn 36 (by decide)) (Nat.le_of_ble_eq_true rfl)).trans (hJ.says (hdn 36 (by decide)) rfl)
            have e9 : az.eval (.tmp 9) = .pointer (some ⟨b_t9, 0, none⟩) := hO 9 rfl
            exact po_run 84 (Op.load 30 (Operand.tmp 9)) _ HWF hJ rfl hE rfl rfl rfl rfl rfl (wanted_of rfl rfl e80) (exec_load_as _ _ _ _ (bF 32 X) e9 arrSc (Keep.row hE r_t9 rfl) (by omega) (fun i hi => by rw [Nat.zero_add]))
        · as_aux_lemma =>
            have e80 := (hS 36 80 rfl (hdn 36 (by decide)) (Nat.le_of_ble_eq_true rfl)).trans (hJ.says (hdn 36 (by decide)) rfl)
            have e10 : az.eval (.tmp 10) = .pointer (some ⟨b_t10, 0, none⟩) := hO 10 rfl
            exact po_run 85 (Op.load 30 (Operand.tmp 10)) _ HWF hJ rfl hE rfl rfl rfl rfl rfl (wanted_of rfl rfl e80) (exec_load_as _ _ _ _ (bF 32 Y) e10 arrSc (Keep.row hE r_t10 rfl) (by omega) (fun i hi => by rw [Nat.zero_add]))
        · as_aux_lemma =>
            have e80 := (hS 36 80 rfl (hdn 36 (by decide)) (Nat.le_of_ble_eq_true rfl)).trans (hJ.says (hdn 36 (by decide)) rfl)
            have e84 := (hS 40 84 rfl (hdn 40 (by decide)) (Nat.le_of_ble_eq_true rfl)).trans (hJ.says (hdn 40 (by decide)) rfl)
            have e85 := (hS 41 85 rfl (hdn 41 (by decide)) (Nat.le_of_ble_eq_true rfl)).trans (hJ.says (hdn 41 (by decide)) rfl)
            exact po_run 86 (Op.binOp BinOp.eql 30 (Operand.tmp 84) (Operand.tmp 85) 30) _ HWF hJ rfl hE rfl rfl rfl rfl rfl (wanted_of rfl rfl e80) (exec_Sc_eql _ _ _ _ HX.out HY.out e84 e85)
        · as_aux_lemma =>
            have e80 := (hS 36 80 rfl (hdn 36 (by decide)) (Nat.le_of_ble_eq_true rfl)).trans (hJ.says (hdn 36 (by decide)) rfl)
            have e83 := (hS 39 83 rfl (hdn 39 (by decide)) (Nat.le_of_ble_eq_true rfl)).trans (hJ.says (hdn 39 (by decide)) rfl)
            have e86 := (hS 42 86 rfl (hdn 42 (by decide)) (Nat.le_of_ble_eq_true rfl)).trans (hJ.says (hdn 42 (by decide)) rfl)
            exact po_run 87 (Op.binOp BinOp.eql 4 (Operand.tmp 83) (Operand.tmp 86) 4) _ HWF hJ rfl hE rfl rfl rfl rfl rfl (wanted_of rfl rfl e80) (by simp only [execOp, mkOp, eval_const, e83, e86]; go_simp)
        · as_aux_lemma =>
            have e80 := (hS 36 80 rfl (hdn 36 (by decide)) (Nat.le_of_ble_eq_true rfl)).trans (hJ.says (hdn 36 (by decide)) rfl)
            have e87 := (hS 43 87 rfl (hdn 43 (by decide)) (Nat.le_of_ble_eq_true rfl)).trans (hJ.says (hdn 43 (by decide)) rfl)
            exact po_run 88 (Op.pick (Operand.tmp 80) (Operand.tmp 87) (Operand.const (Value.bool false))) _ HWF hJ rfl hE rfl rfl rfl rfl rfl rfl (by first | (simp only [execOp, mkOp, eval_const, e80, e87]; done) | (simp only [execOp, mkOp, eval_const, e80, e87]; go_simp))
        · as_aux_lemma =>
            have e88 := (hS 44 88 rfl (hdn 44 (by decide)) (Nat.le_of_ble_eq_true rfl)).trans (hJ.says (hdn 44 (by decide)) rfl)
            exact po_run 89 (Op.move (Operand.tmp 88)) _ HWF hJ rfl hE rfl rfl rfl rfl rfl rfl (by first | (simp only [execOp, mkOp, eval_const, e88]; done) | (simp only [execOp, mkOp, eval_const, e88]; go_simp))
        · as_aux_lemma =>
            have e89 := (hS 45 89 rfl (hdn 45 (by decide)) (Nat.le_of_ble_eq_true rfl)).trans (hJ.says (hdn 45 (by decide)) rfl)
            have e7 : az.eval (.tmp 7) = .pointer (some ⟨b_t7, 0, none⟩) := hO 7 rfl
            exact po_run 90 (Op.load 27 (Operand.tmp 7)) _ HWF hJ rfl hE rfl rfl rfl rfl rfl (wanted_of rfl rfl e89) (exec_load_as _ _ _ _ (ewF X) e7 arrS (Keep.row hE r_t7 rfl) (by omega) (fun i hi => by rw [Nat.zero_add]))
        · as_aux_lemma =>
            have e89 := (hS 45 89 rfl (hdn 45 (by decide)) (Nat.le_of_ble_eq_true rfl)).trans (hJ.says (hdn 45 (by decide)) rfl)
            have e2 : az.eval (.tmp 2) = .int .i64 x2 := hO 2 rfl
            exact po_run 91 (Op.move (Operand.tmp 2)) _ HWF hJ rfl hE rfl rfl rfl rfl rfl (wanted_of rfl rfl e89) (by first | (simp only [execOp, mkOp, eval_const, e2]; done) | (simp only [execOp, mkOp, eval_const, e2]; go_simp))
        · as_aux_lemma =>
            have e89 := (hS 45 89 rfl (hdn 45 (by decide)) (Nat.le_of_ble_eq_true rfl)).trans (hJ.says (hdn 45 (by decide)) rfl)
            have e90 := (hS 46 90 rfl (hdn 46 (by decide)) (Nat.le_of_ble_eq_true rfl)).trans (hJ.says (hdn 46 (by decide)) rfl)
            have e91 := (hS 47 91 rfl (hdn 47 (by decide)) (Nat.le_of_ble_eq_true rfl)).trans (hJ.says (hdn 47 (by decide)) rfl)
            exact po_call 92 21 #[Operand.tmp 90, Operand.tmp 91] #[27, 3] _ HWF hJ rfl hE (sBit_any X x2 _ HK0.out HK1.out) rfl rfl rfl rfl (wanted_of rfl rfl e89) Try.func21 (by kernel_rfl) (by kernel_rfl) (by simp only [List.map_toArray, List.map_cons, List.map_nil, eval_const, eval_func, e90, e91] <;> rfl)
        · as_aux_lemma =>
            have e89 := (hS 45 89 rfl (hdn 45 (by decide)) (Nat.le_of_ble_eq_true rfl)).trans (hJ.says (hdn 45 (by decide)) rfl)
            have e9 : az.eval (.tmp 9) = .pointer (some ⟨b_t9, 0, none⟩) := hO 9 rfl
            exact po_run 93 (Op.load 30 (Operand.tmp 9)) _ HWF hJ rfl hE rfl rfl rfl rfl rfl (wanted_of rfl rfl e89) (exec_load_as _ _ _ _ (bF 32 X) e9 arrSc (Keep.row hE r_t9 rfl) (by omega) (fun i hi => by rw [Nat.zero_add]))
        · as_aux_lemma =>
            have e89 := (hS 45 89 rfl (hdn 45 (by decide)) (Nat.le_of_ble_eq_true rfl)).trans (hJ.says (hdn 45 (by decide)) rfl)
            have e2 : az.eval (.tmp 2) = .int .i64 x2 := hO 2 rfl
            exact po_run 94 (Op.move (Operand.tmp 2)) _ HWF hJ rfl hE rfl rfl rfl rfl rfl (wanted_of rfl rfl e89) (by first | (simp only [execOp, mkOp, eval_const, e2]; done) | (simp only [execOp, mkOp, eval_const, e2]; go_simp))
        · as_aux_lemma =>
            have e89 := (hS 45 89 rfl (hdn 45 (by decide)) (Nat.le_of_ble_eq_true rfl)).trans (hJ.says (hdn 45 (by decide)) rfl)
            have e93 := (hS 49 93 rfl (hdn 49 (by decide)) (Nat.le_of_ble_eq_true rfl)).trans (hJ.says (hdn 49 (by decide)) rfl)
            have e94 := (hS 50 94 rfl (hdn 50 (by decide)) (Nat.le_of_ble_eq_true rfl)).trans (hJ.says (hdn 50 (by decide)) rfl)
            exact po_call 95 22 #[Operand.tmp 93, Operand.tmp 94] #[30, 3] _ HWF hJ rfl hE (refScBit_any X x2 _ HK0.out HK1.out) rfl rfl rfl rfl (wanted_of rfl rfl e89) Try.func22 (by kernel_rfl) (by kernel_rfl) (by simp only [List.map_toArray, List.map_cons, List.map_nil, eval_const, eval_func, e93, e94] <;> rfl)
        · as_aux_lemma =>
            have e89 := (hS 45 89 rfl (hdn 45 (by decide)) (Nat.le_of_ble_eq_true rfl)).trans (hJ.says (hdn 45 (by decide)) rfl)
            have e92 := (hS 48 92 rfl (hdn 48 (by decide)) (Nat.le_of_ble_eq_true rfl)).trans (hJ.says (hdn 48 (by decide)) rfl)
            have e95 := (hS 51 95 rfl (hdn 51 (by decide)) (Nat.le_of_ble_eq_true rfl)).trans (hJ.says (hdn 51 (by decide)) rfl)
            exact po_run 96 (Op.binOp BinOp.eql 3 (Operand.tmp 92) (Operand.tmp 95) 3) _ HWF hJ rfl hE rfl rfl rfl rfl rfl (wanted_of rfl rfl e89) (by simp only [execOp, mkOp, eval_const, e92, e95]; go_simp)
        · as_aux_lemma =>
            have e89 := (hS 45 89 rfl (hdn 45 (by decide)) (Nat.le_of_ble_eq_true rfl)).trans (hJ.says (hdn 45 (by decide)) rfl)
            have e96 := (hS 52 96 rfl (hdn 52 (by decide)) (Nat.le_of_ble_eq_true rfl)).trans (hJ.says (hdn 52 (by decide)) rfl)
            exact po_run 97 (Op.pick (Operand.tmp 89) (Operand.tmp 96) (Operand.const (Value.bool false))) _ HWF hJ rfl hE rfl rfl rfl rfl rfl rfl (by first | (simp only [execOp, mkOp, eval_const, e89, e96]; done) | (simp only [execOp, mkOp, eval_const, e89, e96]; go_simp))
        · as_aux_lemma =>
            have e97 := (hS 53 97 rfl (hdn 53 (by decide)) (Nat.le_of_ble_eq_true rfl)).trans (hJ.says (hdn 53 (by decide)) rfl)
            exact po_run 98 (Op.move (Operand.tmp 97)) _ HWF hJ rfl hE rfl rfl rfl rfl rfl rfl (by first | (simp only [execOp, mkOp, eval_const, e97]; done) | (simp only [execOp, mkOp, eval_const, e97]; go_simp))
        · as_aux_lemma =>
            have e98 := (hS 54 98 rfl (hdn 54 (by decide)) (Nat.le_of_ble_eq_true rfl)).trans (hJ.says (hdn 54 (by decide)) rfl)
            exact po_call 99 8 #[] #[] _ HWF hJ rfl hE (awake7_any _) rfl rfl rfl rfl (wanted_of rfl rfl e98) Try.func8 (by kernel_rfl) (by kernel_rfl) (by simp only [List.map_toArray, List.map_cons, List.map_nil, eval_const, eval_func] <;> rfl)
        · as_aux_lemma =>
            have e98 := (hS 54 98 rfl (hdn 54 (by decide)) (Nat.le_of_ble_eq_true rfl)).trans (hJ.says (hdn 54 (by decide)) rfl)
            have e99 := (hS 55 99 rfl (hdn 55 (by decide)) (Nat.le_of_ble_eq_true rfl)).trans (hJ.says (hdn 55 (by decide)) rfl)
            exact po_run 100 (Op.pick (Operand.tmp 98) (Operand.tmp 99) (Operand.const (Value.bool false))) _ HWF hJ rfl hE rfl rfl rfl rfl rfl rfl (by first | (simp only [execOp, mkOp, eval_const, e98, e99]; done) | (simp only [execOp, mkOp, eval_const, e98, e99]; go_simp))
        · as_aux_lemma =>
            have e100 := (hS 56 100 rfl (hdn 56 (by decide)) (Nat.le_of_ble_eq_true rfl)).trans (hJ.says (hdn 56 (by decide)) rfl)
            exact po_run 6 (Op.assign (Operand.tmp 100)) _ HWF hJ rfl hE rfl rfl rfl rfl rfl rfl (by first | (simp only [execOp, mkOp, eval_const, e100]; done) | (simp only [execOp, mkOp, eval_const, e100]; go_simp))
      · have q0 := hJ.told 0 (by decide) rfl
        have q1 := hJ.told 1 (by decide) rfl
        have q2 := hJ.told 2 (by decide) rfl
        have q3 := hJ.told 3 (by decide) rfl
        have q4 := hJ.told 4 (by decide) rfl
        have q5 := hJ.told 5 (by decide) rfl
        have q6 := hJ.told 6 (by decide) rfl
        have q7 := hJ.told 7 (by decide) rfl
        have q8 := hJ.told 8 (by decide) rfl
        have q9 := hJ.told 9 (by decide) rfl
        have q10 := hJ.told 10 (by decide) rfl
        have q11 := hJ.told 11 (by decide) rfl
        have q12 := hJ.told 12 (by decide) rfl
        have q13 := hJ.told 13 (by decide) rfl
        have q14 := hJ.told 14 (by decide) rfl
        have q15 := hJ.told 15 (by decide) rfl
        have q16 := hJ.told 16 (by decide) rfl
        have q17 := hJ.told 17 (by decide) rfl
        have q18 := hJ.told 18 (by decide) rfl
        have q19 := hJ.told 19 (by decide) rfl
        have q20 := hJ.told 20 (by decide) rfl
        have q21 := hJ.told 21 (by decide) rfl
        have q22 := hJ.told 22 (by decide) rfl
        have q23 := hJ.told 23 (by decide) rfl
        have q24 := hJ.told 24 (by decide) rfl
        have q25 := hJ.told 25 (by decide) rfl
        have q26 := hJ.told 26 (by decide) rfl
        have q27 := hJ.told 27 (by decide) rfl
        have q28 := hJ.told 28 (by decide) rfl
        have q29 := hJ.told 29 (by decide) rfl
        have q30 := hJ.told 30 (by decide) rfl
        have q31 := hJ.told 31 (by decide) rfl
        have q32 := hJ.told 32 (by decide) rfl
        have q33 := hJ.told 33 (by decide) rfl
        have q34 := hJ.told 34 (by decide) rfl
        have q35 := hJ.told 35 (by decide) rfl
        have q36 := hJ.told 36 (by decide) rfl
        have q37 := hJ.told 37 (by decide) rfl
        have q38 := hJ.told 38 (by decide) rfl
        have q39 := hJ.told 39 (by decide) rfl
        have q40 := hJ.told 40 (by decide) rfl
        have q41 := hJ.told 41 (by decide) rfl
        have q42 := hJ.told 42 (by decide) rfl
        have q43 := hJ.told 43 (by decide) rfl
        have q44 := hJ.told 44 (by decide) rfl
        have q45 := hJ.told 45 (by decide) rfl
        have q46 := hJ.told 46 (by decide) rfl
        have q47 := hJ.told 47 (by decide) rfl
        have q48 := hJ.told 48 (by decide) rfl
        have q49 := hJ.told 49 (by decide) rfl
        have q50 := hJ.told 50 (by decide) rfl
        have q51 := hJ.told 51 (by decide) rfl
        have q52 := hJ.told 52 (by decide) rfl
        have q53 := hJ.told 53 (by decide) rfl
        have q54 := hJ.told 54 (by decide) rfl
        have q55 := hJ.told 55 (by decide) rfl
        have q56 := hJ.told 56 (by decide) rfl
        have q57 := hJ.told 57 (by decide) rfl
        show PoEnd _ (Act.put (Act.put (Act.put (Act.put (Act.put (Act.put (Act.put (Act.put (Act.put (Act.put (Act.put (Act.put (Act.put (Act.put (Act.put (Act.put (Act.put (Act.put (Act.put (Act.put (Act.put (Act.put (Act.put (Act.put (Act.put (Act.put (Act.put (Act.put (Act.put (Act.put (Act.put (Act.put (Act.put (Act.put (Act.put (Act.put (Act.put (Act.put (Act.put (Act.put (Act.put (Act.put (Act.put (Act.put (Act.put (Act.put (Act.put (Act.put (Act.put (Act.put (Act.put (Act.put (Act.put (Act.put (Act.put (Act.put (Act.put (Act.put _ (some 44) (gz 0)) (some 45) (gz 1)) (some 46) (gz 2)) (some 47) (gz 3)) (some 48) (gz 4)) (some 49) (gz 5)) (some 50) (gz 6)) (some 51) (gz 7)) (some 52) (gz 8)) (some 53) (gz 9)) (some 54) (gz 10)) (some 55) (gz 11)) (some 56) (gz 12)) (some 57) (gz 13)) (some 58) (gz 14)) (some 59) (gz 15)) (some 60) (gz 16)) (some 61) (gz 17)) (some 62) (gz 18)) (some 63) (gz 19)) (some 64) (gz 20)) (some 65) (gz 21)) (some 66) (gz 22)) (some 67) (gz 23)) (some 68) (gz 24)) (some 69) (gz 25)) (some 70) (gz 26)) (some 71) (gz 27)) (some 72) (gz 28)) (some 73) (gz 29)) (some 74) (gz 30)) (some 75) (gz 31)) (some 76) (gz 32)) (some 77) (gz 33)) (some 78) (gz 34)) (some 79) (gz 35)) (some 80) (gz 36)) (some 81) (gz 37)) (some 82) (gz 38)) (some 83) (gz 39)) (some 84) (gz 40)) (some 85) (gz 41)) (some 86) (gz 42)) (some 87) (gz 43)) (some 88) (gz 44)) (some 89) (gz 45)) (some 90) (gz 46)) (some 91) (gz 47)) (some 92) (gz 48)) (some 93) (gz 49)) (some 94) (gz 50)) (some 95) (gz 51)) (some 96) (gz 52)) (some 97) (gz 53)) (some 98) (gz 54)) (some 99) (gz 55)) (some 100) (gz 56)) (some 6) (gz 57)) wa
        rw [q0, q1, q2, q3, q4, q5, q6, q7, q8, q9, q10, q11, q12, q13, q14, q15, q16, q17, q18, q19, q20, q21, q22, q23, q24, q25, q26, q27, q28, q29, q30, q31, q32, q33, q34, q35, q36, q37, q38, q39, q40, q41, q42, q43, q44, q45, q46, q47, q48, q49, q50, q51, q52, q53, q54, q55, q56, q57]
        simp only [Act.put, List.setIfInBounds_toArray, List.set_cons_zero, List.set_cons_succ]
        refine po_end ?_
        replace r_t7 := Keep.row hE r_t7 rfl
        replace r_t8 := Keep.row hE r_t8 rfl
        replace r_t9 := Keep.row hE r_t9 rfl
        replace r_t10 := Keep.row hE r_t10 rfl
        replace r_t11 := Keep.row hE r_t11 rfl
        replace r_t13 := Keep.row hE r_t13 rfl
        replace f_s0 := Bs.below f_s0 (Keep.nil hE) (Nat.le_refl _)
        replace f_s1 := Bs.below f_s1 (Keep.nil hE) (Nat.le_refl _)
        have Bw20 := hE.below Bw19 (HGS.out _ Bw19) rfl
        clear Bw19 hE hJ HWF q0 q1 q2 q3 q4 q5 q6 q7 q8 q9 q10 q11 q12 q13 q14 q15 q16 q17 q18 q19 q20 q21 q22 q23 q24 q25 q26 q27 q28 q29 q30 q31 q32 q33 q34 q35 q36 q37 q38 q39 q40 q41 q42 q43 q44 q45 q46 q47 q48 q49 q50 q51 q52 q53 q54 q55 q56 q57
        go_wp2
        go_ret
        exact ⟨rfl, Bw20⟩
    · have q1 : (100 : Int) < (n1 : Int) := by omega
      clear h0 hB0 e0 h1 hB1 e1 d0 d1
      go_enter Try.func3, Try.ntmps3
      go_wp2_with (go_at_call 8; refine (awake7_any _).mono ?_; rintro e w9 ⟨rfl, hb9⟩)
      go_ret
      exact ⟨rfl, hb9⟩
  · have q0 : (100 : Int) < (n0 : Int) := by omega
    clear h0 hB0 e0 h1 hB1 e1 d0
    go_enter Try.func3, Try.ntmps3
    go_wp2_with (go_at_call 8; refine (awake7_any _).mono ?_; rintro e w9 ⟨rfl, hb9⟩)
    go_ret
    exact ⟨rfl, hb9⟩
end Go.Proofs.Ytncdlaidmiokiaa
