/- ScalarSmalls, walked. -/
import Derived.Test.YtncdlaidmiokiaaSwF
namespace Go.Proofs.Ytncdlaidmiokiaa
open Go.RowKit Go.Deep
set_option linter.unusedSimpArgs false
set_option linter.unusedVariables false

theorem litB_next (V k : Nat) : litB V (k + 1) = litB V k ++ [UInt8.ofNat (V / 2 ^ (8 * k))] := by
  unfold litB
  rw [List.range_succ, List.map_append]
  rfl
theorem small_wide (n : Nat) (h : n < 18446744073709551616) : numL (litB n 8) 64 % ordL = n := by
  have h1 := numL_wanting (litB n 8) 8 (Nat.le_of_eq (litB_length n 8)) 56
  have h2 := numL_litB n 8 8 (Nat.le_refl _)
  rw [show (64 : Nat) = 8 + 56 from rfl, h1, h2, Nat.mod_eq_of_lt (show n < 256 ^ 8 from h)]
  exact Nat.mod_eq_of_lt (Nat.lt_trans h (by decide +kernel))
set_option maxHeartbeats 1000000 in
theorem small7_any (n : Nat) (w : World) (hn : n < 18446744073709551616) : Calls Try.prog 26 #[.int .u64 (n : Int)] w fun e w' => e = .returned (.agg (arrOf 4 (ewF n))) ∧ Below w.heap.size w w' := by
  have HW := Lib.hid fun v w h => sWide_to v (litB n 8) w h n (small_wide n hn)
  have HNL := Lib.hid hn
  have HGS : Hid (∀ wq : World, Below w.heap.size w wq → w.heap.size ≤ wq.heap.size) := Lib.hid fun wq h => h.size
  clear hn
  go_enter Try.func26, Try.ntmps26
  go_wp2_with (refine wpList_alloc_row rfl 27 rfl 4 (u64f fun _ => 0) zeroS ?_
               intro b_t2 W lk r_t2 B1)
  have hown := Owns.nil W W.heap.size
  have hbel := Below.refl W.heap.size W
  go_loopw [3, 4] (fun out ii wr => ∃ j : Nat, j ≤ 8 ∧ ii = .int .i64 (j : Int) ∧ Owns wr W.heap.size out (litB n j) ∧ Below W.heap.size W wr) (fun _ ii _ => 8 - (intOf ii).toNat)
  case atStart => exact ⟨0, Nat.zero_le _, rfl, hown, hbel⟩
  case round =>
    clear hown hbel
    obtain ⟨j, hj, rfl, hown, hbel⟩ := hrel
    by_cases hlt : j < 8
    · have hjI : 0 ≤ (j : Int) ∧ (j : Int) < 8 := by omega
      obtain ⟨q, hq⟩ := nat_var (n / 2 ^ (8 * j))
      obtain ⟨j8, hj8⟩ := nat_var (8 * j)
      have hql : q < 18446744073709551616 := by rw [hq]; exact Nat.lt_of_le_of_lt (Nat.div_le_self _ _) HNL.out
      have hmul : IntKind.i64.wrap (8 * (j : Int)) = (j8 : Int) := by rw [IntWalk.i64_in _ (by omega)]; omega
      obtain ⟨x, hx⟩ : ∃ x, x = UInt8.ofNat q := ⟨_, rfl⟩
      have hcv : IntKind.u8.wrap (q : Int) = (x.toNat : Int) := by rw [hx, UInt8.toNat_ofNat', IntKind.wrap_u8]; omega
      have HST : Hid (litB n (j + 1) = litB n j ++ [x]) := Lib.hid (by rw [litB_next, hx, hq])
      rw [← hj8] at hq
      have HQ := Lib.hid hq
      have HJL : Hid (j8 < 64) := Lib.hid (by omega)
      have hob := hown.alloc (.cells #[.int .u8 (x.toNat : Int)] 5)
      have hbx := Bs.one wr x
      have hb1 := hbel.alloc hbel.size (.cells #[.int .u8 (x.toNat : Int)] 5)
      have hge := hb1.size
      have HLL := Lib.hid (litB_length n j)
      clear hx hown hbel hq hql hj8
      go_wp2_with (first
        | refine wpList_shr64 rfl (.tmp 10) (.tmp 12) rfl rfl rfl HQ.out HJL.out HNL.out ?_
        | (refine wpList_app rfl (.tmp 9) (.tmp 15) rfl W.heap.size _ _ (litB n j) [x] hob hbx rfl rfl (by rw [HLL.out]; simp only [List.length_cons, List.length_nil]; omega) hge ?_; intro v6 w6 hown6 hg6))
      have hbel6 : Below W.heap.size W w6 := hb1.grown hg6 hb1.size (fun q hq => Owns.block hob q hq)
      have hown7 : Owns w6 W.heap.size v6 (litB n (j + 1)) := by rw [HST.out]; exact hown6
      clear hown6 hob hb1 hbx
      go_roundw
      case rel => exact ⟨j + 1, by omega, by go_num, hown7, hbel6⟩
      case measure => (simp [intOf]; try omega)
    · obtain rfl : j = 8 := by omega
      have f_o := hown.bs
      have B2 := B1.trans (hbel.mono (HGS.out _ B1))
      have r2 := World.rowIs.of_block r_t2 (hbel.block _ (World.rowIs.lt r_t2))
      clear hown hbel B1
      go_wp2_with (first
        | (go_at_call 9; refine (HW.out _ _ f_o).mono ?_; rintro e w7 ⟨rfl, kk⟩
           have r3 := World.rowIs.of_block r2 (kk.block _ (World.rowIs.lt r2))
           have B3 := B2.trans (kk.mono (HGS.out _ B2))
           clear r2 B2 kk HW)
        | (refine wpList_store_as rfl 27 (.tmp 2) (.tmp 18) rfl 4 (ewF n) arrS r3 rfl rfl (by omega) (fun _ _ => rfl) (fun i hi => putN_whole hi) ?_
           intro w8 r4 gk
           have B4 := B3.grown gk (HGS.out _ B3) (by intro k hk; cases hk; exact lk)
           clear r3 B3 gk))
      exact ret_cell_as _ rfl arrS r4 rfl (by omega) (fun _ _ => rfl) rfl ⟨rfl, B4⟩
theorem exec_gt63_no (ρ : Operand → Value) (x y : Operand) (t : TypeId) {w : World} {z : Int} (hx : ρ x = .int .i64 z) (hy : ρ y = .int .i64 63) (h : Hid (z ≤ 63)) :
    (execOp ρ (mkOp (.binOp .gtr 3 x y 3) t)).run Try.prog w = .ok (.value (.bool false)) w := by
  have h1 : decide ((63 : Int) < z) = false := decide_eq_false (by have := h.out; omega)
  have h2 : ¬ ((63 : Int) < z) := by have := h.out; omega
  clear h
  simp only [execOp, mkOp, hx, hy]
  go_simp
  all_goals first | exact h1 | omega | simp [h1, h2]
theorem exec_u64_eql (ρ : Operand → Value) (x y : Operand) (t : TypeId) {w : World} {A C : Nat} (hx : ρ x = .int .u64 (A : Int)) (hy : ρ y = .int .u64 (C : Int)) :
    (execOp ρ (mkOp (.binOp .eql 24 x y 24) t)).run Try.prog w = .ok (.value (.bool (decide (A = C)))) w := by
  have e : ((A : Int) == (C : Int)) = decide (A = C) := by
    by_cases h : A = C
    · subst h; simp
    · rw [decide_eq_false h, beq_eq_false_iff_ne]; omega
  simp only [execOp, mkOp, hx, hy]
  rw [← e]
  go_simp
set_option maxHeartbeats 8000000 in
set_option maxRecDepth 100000 in
theorem law_scalarSmalls (w : World) (x0 : Int) (w0 : (Lit.int .u64 x0).wf = true) (x1 : Int) (w1 : (Lit.int .u64 x1).wf = true) (x2 : Int) (w2 : (Lit.int .i64 x2).wf = true) : Calls Try.prog 6 #[.int .u64 x0, .int .u64 x1, .int .i64 x2] w fun e w' => e = .returned (.bool true) ∧ Below w.heap.size w w' := by
  obtain ⟨hx0, hy0⟩ := bd_u64 w0
  obtain ⟨hx1, hy1⟩ := bd_u64 w1
  obtain ⟨hx2, hy2⟩ := bd_i64 w2
  obtain ⟨a, rfl⟩ := Int.eq_ofNat_of_zero_le hx0
  obtain ⟨c, rfl⟩ := Int.eq_ofNat_of_zero_le hx1
  have Bw0 := Below.refl w.heap.size w
  have HGS : Hid (∀ wq : World, Below w.heap.size w wq → w.heap.size ≤ wq.heap.size) := Lib.hid fun wq h => h.size
  have hma := mask64 a 31 (by omega) (by decide) 2147483647 rfl
  have hmc := mask64 c 31 (by omega) (by decide) 2147483647 rfl
  obtain ⟨A, hA⟩ := nat_var (a % 2 ^ 31)
  obtain ⟨C, hC⟩ := nat_var (c % 2 ^ 31)
  rw [← hA] at hma
  rw [← hC] at hmc
  have hAl : A < 2147483648 := by omega
  have hCl : C < 2147483648 := by omega
  have hpl : A * C < 18446744073709551616 := Nat.lt_of_le_of_lt (Nat.mul_le_mul (Nat.le_of_lt hAl) (Nat.le_of_lt hCl)) (by decide)
  obtain ⟨S, hS⟩ := nat_var (A + C)
  obtain ⟨P, hP⟩ := nat_var (A * C)
  have hws : IntKind.u64.wrap ((A : Int) + (C : Int)) = (S : Int) := by rw [IntWalk.u64_in _ ⟨by omega, by omega⟩]; omega
  have hwp : IntKind.u64.wrap ((A : Int) * (C : Int)) = (P : Int) := by rw [← Int.natCast_mul, ← hP, wrap_nat _ (by rw [hP]; exact hpl)]
  rw [← hP] at hpl
  have HA : Hid (A < ordL) := Lib.hid (Nat.lt_trans hAl (by decide +kernel))
  have HC : Hid (C < ordL) := Lib.hid (Nat.lt_trans hCl (by decide +kernel))
  have hSl : S < 18446744073709551616 := by omega
  have HS : Hid (S < ordL) := Lib.hid (Nat.lt_trans hSl (by decide +kernel))
  have HP : Hid (P < ordL) := Lib.hid (Nat.lt_trans hpl (by decide +kernel))
  have HSE : Hid (decide ((A + C) % ordL = S) = true) := Lib.hid (decide_eq_true (by rw [← hS, Nat.mod_eq_of_lt HS.out]))
  have HPE : Hid (decide ((A * C) % ordL = P) = true) := Lib.hid (decide_eq_true (by rw [← hP, Nat.mod_eq_of_lt HP.out]))
  have HMA := Lib.hid (small7_any A · (by omega))
  have HMC := Lib.hid (small7_any C · (by omega))
  have HMS := Lib.hid (small7_any S · hSl)
  have HMP := Lib.hid (small7_any P · hpl)
  have HAL : Hid (A < 18446744073709551616) := Lib.hid (by omega)
  clear hx0 hy0 hx1 hy1 w0 w1 w2 hA hC hAl hCl hS hP hSl hpl
  by_cases hk0 : 0 ≤ x2
  · by_cases hk1 : x2 < 64
    · skip
      obtain ⟨k, rfl⟩ := Int.eq_ofNat_of_zero_le hk0
      have hk0 : 0 ≤ (k : Int) := by omega
      have hk1 : (k : Int) < 64 := by omega
      have HK3 : Hid ((k : Int) ≤ 63) := Lib.hid (by omega)
      obtain ⟨q, hq⟩ := nat_var (A / 2 ^ k)
      have hql : q < 18446744073709551616 := by rw [hq]; exact Nat.lt_of_le_of_lt (Nat.div_le_self _ _) HAL.out
      have hand := mask64 q 1 hql (by decide) 1 rfl
      rw [show q % 2 ^ 1 = q % 2 from rfl] at hand
      obtain ⟨b, hb⟩ := nat_var (q % 2)
      rw [← hb] at hand
      have hwb : IntKind.i64.wrap (b : Int) = (b : Int) := IntWalk.i64_in _ (by omega)
      have HQ := Lib.hid hq
      have HKL : Hid (k < 64) := Lib.hid (by omega)
      have HB := Lib.hid fun w => sBit_to A (k : Int) w hx2 hy2 (b : Int) (by unfold bitZ; rw [if_pos ⟨by omega, by omega⟩, Int.toNat_natCast, hb, hq])
      clear hx2 hy2 hb hq hql
      go_enter Try.func6, Try.ntmps6
      go_wp2_with (first
        | (have hgo := Bw0; clear hgo
           go_at_call 26
           refine (HMA.out _).mono ?_
           rintro e w4 ⟨rfl, kk⟩
           have Bw1 := Bw0.trans (kk.mono (HGS.out _ Bw0))
           clear Bw0 kk)
        | (have hgo := Bw1; clear hgo
           go_at_call 26
           refine (HMC.out _).mono ?_
           rintro e w7 ⟨rfl, kk⟩
           have Bw2 := Bw1.trans (kk.mono (HGS.out _ Bw1))
           clear Bw1 kk)
        | (have hgo := Bw2; clear hgo
           refine wpList_alloc_row rfl 27 rfl 4 (u64f fun _ => 0) zeroS ?_
           intro b_t8 w8 lk r_t8 kk
           have l_t8 := Nat.le_trans (HGS.out _ Bw2) lk
           have Bw3 := Bw2.trans (kk.mono (HGS.out _ Bw2))
           clear Bw2 kk lk)
        | (have hgo := Bw3; clear hgo
           refine wpList_alloc_row rfl 27 rfl 4 (u64f fun _ => 0) zeroS ?_
           intro b_t9 w9 lk r_t9 kk
           have n_t8_t9 : b_t8 ≠ b_t9 := Nat.ne_of_lt (Nat.lt_of_lt_of_le (World.rowIs.lt r_t8) lk)
           have l_t9 := Nat.le_trans (HGS.out _ Bw3) lk
           replace r_t8 := World.rowIs.of_block r_t8 (kk.block _ (World.rowIs.lt r_t8))
           have Bw4 := Bw3.trans (kk.mono (HGS.out _ Bw3))
           clear Bw3 kk lk)
        | (have hgo := Bw4; clear hgo
           refine wpList_store_as rfl 27 (.tmp 8) (.tmp 17) rfl 4 (ewF A) arrS r_t8 rfl rfl (by omega) (fun _ _ => rfl) (fun i hi => putN_whole hi) ?_
           intro w10 q gk
           replace r_t9 := gb_rowIs r_t9 gk (Ne.symm n_t8_t9)
           replace r_t8 := q
           have Bw5 := Bw4.grown gk (HGS.out _ Bw4) (by intro k hk; cases hk; exact l_t8)
           clear Bw4 gk q)
        | (have hgo := Bw5; clear hgo
           refine wpList_store_as rfl 27 (.tmp 9) (.tmp 20) rfl 4 (ewF C) arrS r_t9 rfl rfl (by omega) (fun _ _ => rfl) (fun i hi => putN_whole hi) ?_
           intro w11 q gk
           replace r_t8 := gb_rowIs r_t8 gk n_t8_t9
           replace r_t9 := q
           have Bw6 := Bw5.grown gk (HGS.out _ Bw5) (by intro k hk; cases hk; exact l_t9)
           clear Bw5 gk q)
        | (have hgo := Bw6; clear hgo
           refine wpList_shr64 rfl (.tmp 27) (.tmp 28) rfl rfl rfl HQ.out HKL.out HAL.out ?_
           have Bw7 := Bw6
           clear Bw6)
        | (have hgo := Bw7; clear hgo
           refine wpList_load_as rfl 27 (.tmp 8) rfl 4 (ewF A) arrS r_t8 rfl (by omega) (fun i hi => by rw [Nat.zero_add]) ?_
           have Bw8 := Bw7
           clear Bw7)
        | (have hgo := Bw8; clear hgo
           refine wpList_load_as rfl 27 (.tmp 9) rfl 4 (ewF C) arrS r_t9 rfl (by omega) (fun i hi => by rw [Nat.zero_add]) ?_
           have Bw9 := Bw8
           clear Bw8)
        | (have hgo := Bw9; clear hgo
           go_at_call 14
           refine (sAdd_any A C _ HA.out HC.out).mono ?_
           rintro e w21 ⟨rfl, kk⟩
           replace r_t8 := World.rowIs.of_block r_t8 (kk.block _ (World.rowIs.lt r_t8))
           replace r_t9 := World.rowIs.of_block r_t9 (kk.block _ (World.rowIs.lt r_t9))
           have Bw10 := Bw9.trans (kk.mono (HGS.out _ Bw9))
           clear Bw9 kk)
        | (have hgo := Bw10; clear hgo
           go_at_call 26
           refine (HMS.out _).mono ?_
           rintro e w26 ⟨rfl, kk⟩
           replace r_t8 := World.rowIs.of_block r_t8 (kk.block _ (World.rowIs.lt r_t8))
           replace r_t9 := World.rowIs.of_block r_t9 (kk.block _ (World.rowIs.lt r_t9))
           have Bw11 := Bw10.trans (kk.mono (HGS.out _ Bw10))
           clear Bw10 kk)
        | (have hgo := Bw11; clear hgo
           go_at_call 20
           refine (same_to ((A + C) % ordL) S _ (Nat.mod_lt _ ordL_pos) HS.out HSE.out).mono ?_
           rintro e w27 ⟨rfl, kk⟩
           replace r_t8 := World.rowIs.of_block r_t8 (kk.block _ (World.rowIs.lt r_t8))
           replace r_t9 := World.rowIs.of_block r_t9 (kk.block _ (World.rowIs.lt r_t9))
           have Bw12 := Bw11.trans (kk.mono (HGS.out _ Bw11))
           clear Bw11 kk)
        | (have hgo := Bw12; clear hgo
           refine wpList_load_asg rfl 27 (.tmp 8) rfl 4 (ewF A) arrS r_t8 rfl (by omega) (fun i hi => by rw [Nat.zero_add]) ?_
           have Bw13 := Bw12
           clear Bw12)
        | (have hgo := Bw13; clear hgo
           refine wpList_load_asg rfl 27 (.tmp 9) rfl 4 (ewF C) arrS r_t9 rfl (by omega) (fun i hi => by rw [Nat.zero_add]) ?_
           have Bw14 := Bw13
           clear Bw13)
        | (have hgo := Bw14; clear hgo
           go_at_call 16
           refine (sMul_any A C _ HA.out HC.out).mono ?_
           rintro e w31 ⟨rfl, kk⟩
           replace r_t8 := World.rowIs.of_block r_t8 (kk.block _ (World.rowIs.lt r_t8))
           replace r_t9 := World.rowIs.of_block r_t9 (kk.block _ (World.rowIs.lt r_t9))
           have Bw15 := Bw14.trans (kk.mono (HGS.out _ Bw14))
           clear Bw14 kk)
        | (have hgo := Bw15; clear hgo
           go_at_call 26
           refine (HMP.out _).mono ?_
           rintro e w36 ⟨rfl, kk⟩
           replace r_t8 := World.rowIs.of_block r_t8 (kk.block _ (World.rowIs.lt r_t8))
           replace r_t9 := World.rowIs.of_block r_t9 (kk.block _ (World.rowIs.lt r_t9))
           have Bw16 := Bw15.trans (kk.mono (HGS.out _ Bw15))
           clear Bw15 kk)
        | (have hgo := Bw16; clear hgo
           go_at_call 20
           refine (same_to ((A * C) % ordL) P _ (Nat.mod_lt _ ordL_pos) HP.out HPE.out).mono ?_
           rintro e w37 ⟨rfl, kk⟩
           replace r_t8 := World.rowIs.of_block r_t8 (kk.block _ (World.rowIs.lt r_t8))
           replace r_t9 := World.rowIs.of_block r_t9 (kk.block _ (World.rowIs.lt r_t9))
           have Bw17 := Bw16.trans (kk.mono (HGS.out _ Bw16))
           clear Bw16 kk)
        | (have hgo := Bw17; clear hgo
           refine wpList_load_asg rfl 27 (.tmp 8) rfl 4 (ewF A) arrS r_t8 rfl (by omega) (fun i hi => by rw [Nat.zero_add]) ?_
           have Bw18 := Bw17
           clear Bw17)
        | (have hgo := Bw18; clear hgo
           refine wpList_load_asg rfl 27 (.tmp 9) rfl 4 (ewF C) arrS r_t9 rfl (by omega) (fun i hi => by rw [Nat.zero_add]) ?_
           have Bw19 := Bw18
           clear Bw18)
        | (have hgo := Bw19; clear hgo
           go_at_call 20
           refine (sSame_any A C _ HA.out HC.out).mono ?_
           rintro e w42 ⟨rfl, kk⟩
           replace r_t8 := World.rowIs.of_block r_t8 (kk.block _ (World.rowIs.lt r_t8))
           replace r_t9 := World.rowIs.of_block r_t9 (kk.block _ (World.rowIs.lt r_t9))
           have Bw20 := Bw19.trans (kk.mono (HGS.out _ Bw19))
           clear Bw19 kk)
        | (have hgo := Bw20; clear hgo
           refine wpList_value_given rfl (.bool (decide (A = C))) (by rw [exec_mkOp]; exact exec_u64_eql _ _ _ _ rfl rfl) ?_
           have Bw21 := Bw20
           clear Bw20)
        | (have hgo := Bw21; clear hgo
           refine wpList_value_given rfl (.bool false) (by rw [exec_mkOp]; exact exec_gt63_no _ _ _ _ rfl rfl HK3) ?_
           have Bw22 := Bw21
           clear Bw21)
        | (have hgo := Bw22; clear hgo
           refine wpList_load_asg rfl 27 (.tmp 8) rfl 4 (ewF A) arrS r_t8 rfl (by omega) (fun i hi => by rw [Nat.zero_add]) ?_
           have Bw23 := Bw22
           clear Bw22)
        | (have hgo := Bw23; clear hgo
           go_at_call 21
           refine (HB.out _).mono ?_
           rintro e w54 ⟨rfl, kk⟩
           replace r_t8 := World.rowIs.of_block r_t8 (kk.block _ (World.rowIs.lt r_t8))
           replace r_t9 := World.rowIs.of_block r_t9 (kk.block _ (World.rowIs.lt r_t9))
           have Bw24 := Bw23.trans (kk.mono (HGS.out _ Bw23))
           clear Bw23 kk)
        | (have hgo := Bw24; clear hgo
           go_at_call 8
           refine (awake7_any _).mono ?_
           rintro e w60 ⟨rfl, kk⟩
           replace r_t8 := World.rowIs.of_block r_t8 (kk.block _ (World.rowIs.lt r_t8))
           replace r_t9 := World.rowIs.of_block r_t9 (kk.block _ (World.rowIs.lt r_t9))
           have Bw25 := Bw24.trans (kk.mono (HGS.out _ Bw24))
           clear Bw24 kk))
      go_ret
      exact ⟨rfl, Bw25⟩
    · skip
      have hk2 : x2 > 63 := by omega
      have hk3 : 63 < x2 := by omega
      clear hx2 hy2
      go_enter Try.func6, Try.ntmps6
      go_wp2_with (first
        | (have hgo := Bw0; clear hgo
           go_at_call 26
           refine (HMA.out _).mono ?_
           rintro e w4 ⟨rfl, kk⟩
           have Bw1 := Bw0.trans (kk.mono (HGS.out _ Bw0))
           clear Bw0 kk)
        | (have hgo := Bw1; clear hgo
           go_at_call 26
           refine (HMC.out _).mono ?_
           rintro e w7 ⟨rfl, kk⟩
           have Bw2 := Bw1.trans (kk.mono (HGS.out _ Bw1))
           clear Bw1 kk)
        | (have hgo := Bw2; clear hgo
           refine wpList_alloc_row rfl 27 rfl 4 (u64f fun _ => 0) zeroS ?_
           intro b_t8 w8 lk r_t8 kk
           have l_t8 := Nat.le_trans (HGS.out _ Bw2) lk
           have Bw3 := Bw2.trans (kk.mono (HGS.out _ Bw2))
           clear Bw2 kk lk)
        | (have hgo := Bw3; clear hgo
           refine wpList_alloc_row rfl 27 rfl 4 (u64f fun _ => 0) zeroS ?_
           intro b_t9 w9 lk r_t9 kk
           have n_t8_t9 : b_t8 ≠ b_t9 := Nat.ne_of_lt (Nat.lt_of_lt_of_le (World.rowIs.lt r_t8) lk)
           have l_t9 := Nat.le_trans (HGS.out _ Bw3) lk
           replace r_t8 := World.rowIs.of_block r_t8 (kk.block _ (World.rowIs.lt r_t8))
           have Bw4 := Bw3.trans (kk.mono (HGS.out _ Bw3))
           clear Bw3 kk lk)
        | (have hgo := Bw4; clear hgo
           refine wpList_store_as rfl 27 (.tmp 8) (.tmp 17) rfl 4 (ewF A) arrS r_t8 rfl rfl (by omega) (fun _ _ => rfl) (fun i hi => putN_whole hi) ?_
           intro w10 q gk
           replace r_t9 := gb_rowIs r_t9 gk (Ne.symm n_t8_t9)
           replace r_t8 := q
           have Bw5 := Bw4.grown gk (HGS.out _ Bw4) (by intro k hk; cases hk; exact l_t8)
           clear Bw4 gk q)
        | (have hgo := Bw5; clear hgo
           refine wpList_store_as rfl 27 (.tmp 9) (.tmp 20) rfl 4 (ewF C) arrS r_t9 rfl rfl (by omega) (fun _ _ => rfl) (fun i hi => putN_whole hi) ?_
           intro w11 q gk
           replace r_t8 := gb_rowIs r_t8 gk n_t8_t9
           replace r_t9 := q
           have Bw6 := Bw5.grown gk (HGS.out _ Bw5) (by intro k hk; cases hk; exact l_t9)
           clear Bw5 gk q)
        | (have hgo := Bw6; clear hgo
           refine wpList_load_as rfl 27 (.tmp 8) rfl 4 (ewF A) arrS r_t8 rfl (by omega) (fun i hi => by rw [Nat.zero_add]) ?_
           have Bw7 := Bw6
           clear Bw6)
        | (have hgo := Bw7; clear hgo
           refine wpList_load_as rfl 27 (.tmp 9) rfl 4 (ewF C) arrS r_t9 rfl (by omega) (fun i hi => by rw [Nat.zero_add]) ?_
           have Bw8 := Bw7
           clear Bw7)
        | (have hgo := Bw8; clear hgo
           go_at_call 14
           refine (sAdd_any A C _ HA.out HC.out).mono ?_
           rintro e w15 ⟨rfl, kk⟩
           replace r_t8 := World.rowIs.of_block r_t8 (kk.block _ (World.rowIs.lt r_t8))
           replace r_t9 := World.rowIs.of_block r_t9 (kk.block _ (World.rowIs.lt r_t9))
           have Bw9 := Bw8.trans (kk.mono (HGS.out _ Bw8))
           clear Bw8 kk)
        | (have hgo := Bw9; clear hgo
           go_at_call 26
           refine (HMS.out _).mono ?_
           rintro e w20 ⟨rfl, kk⟩
           replace r_t8 := World.rowIs.of_block r_t8 (kk.block _ (World.rowIs.lt r_t8))
           replace r_t9 := World.rowIs.of_block r_t9 (kk.block _ (World.rowIs.lt r_t9))
           have Bw10 := Bw9.trans (kk.mono (HGS.out _ Bw9))
           clear Bw9 kk)
        | (have hgo := Bw10; clear hgo
           go_at_call 20
           refine (same_to ((A + C) % ordL) S _ (Nat.mod_lt _ ordL_pos) HS.out HSE.out).mono ?_
           rintro e w21 ⟨rfl, kk⟩
           replace r_t8 := World.rowIs.of_block r_t8 (kk.block _ (World.rowIs.lt r_t8))
           replace r_t9 := World.rowIs.of_block r_t9 (kk.block _ (World.rowIs.lt r_t9))
           have Bw11 := Bw10.trans (kk.mono (HGS.out _ Bw10))
           clear Bw10 kk)
        | (have hgo := Bw11; clear hgo
           refine wpList_load_asg rfl 27 (.tmp 8) rfl 4 (ewF A) arrS r_t8 rfl (by omega) (fun i hi => by rw [Nat.zero_add]) ?_
           have Bw12 := Bw11
           clear Bw11)
        | (have hgo := Bw12; clear hgo
           refine wpList_load_asg rfl 27 (.tmp 9) rfl 4 (ewF C) arrS r_t9 rfl (by omega) (fun i hi => by rw [Nat.zero_add]) ?_
           have Bw13 := Bw12
           clear Bw12)
        | (have hgo := Bw13; clear hgo
           go_at_call 16
           refine (sMul_any A C _ HA.out HC.out).mono ?_
           rintro e w25 ⟨rfl, kk⟩
           replace r_t8 := World.rowIs.of_block r_t8 (kk.block _ (World.rowIs.lt r_t8))
           replace r_t9 := World.rowIs.of_block r_t9 (kk.block _ (World.rowIs.lt r_t9))
           have Bw14 := Bw13.trans (kk.mono (HGS.out _ Bw13))
           clear Bw13 kk)
        | (have hgo := Bw14; clear hgo
           go_at_call 26
           refine (HMP.out _).mono ?_
           rintro e w30 ⟨rfl, kk⟩
           replace r_t8 := World.rowIs.of_block r_t8 (kk.block _ (World.rowIs.lt r_t8))
           replace r_t9 := World.rowIs.of_block r_t9 (kk.block _ (World.rowIs.lt r_t9))
           have Bw15 := Bw14.trans (kk.mono (HGS.out _ Bw14))
           clear Bw14 kk)
        | (have hgo := Bw15; clear hgo
           go_at_call 20
           refine (same_to ((A * C) % ordL) P _ (Nat.mod_lt _ ordL_pos) HP.out HPE.out).mono ?_
           rintro e w31 ⟨rfl, kk⟩
           replace r_t8 := World.rowIs.of_block r_t8 (kk.block _ (World.rowIs.lt r_t8))
           replace r_t9 := World.rowIs.of_block r_t9 (kk.block _ (World.rowIs.lt r_t9))
           have Bw16 := Bw15.trans (kk.mono (HGS.out _ Bw15))
           clear Bw15 kk)
        | (have hgo := Bw16; clear hgo
           refine wpList_load_asg rfl 27 (.tmp 8) rfl 4 (ewF A) arrS r_t8 rfl (by omega) (fun i hi => by rw [Nat.zero_add]) ?_
           have Bw17 := Bw16
           clear Bw16)
        | (have hgo := Bw17; clear hgo
           refine wpList_load_asg rfl 27 (.tmp 9) rfl 4 (ewF C) arrS r_t9 rfl (by omega) (fun i hi => by rw [Nat.zero_add]) ?_
           have Bw18 := Bw17
           clear Bw17)
        | (have hgo := Bw18; clear hgo
           go_at_call 20
           refine (sSame_any A C _ HA.out HC.out).mono ?_
           rintro e w36 ⟨rfl, kk⟩
           replace r_t8 := World.rowIs.of_block r_t8 (kk.block _ (World.rowIs.lt r_t8))
           replace r_t9 := World.rowIs.of_block r_t9 (kk.block _ (World.rowIs.lt r_t9))
           have Bw19 := Bw18.trans (kk.mono (HGS.out _ Bw18))
           clear Bw18 kk)
        | (have hgo := Bw19; clear hgo
           refine wpList_value_given rfl (.bool (decide (A = C))) (by rw [exec_mkOp]; exact exec_u64_eql _ _ _ _ rfl rfl) ?_
           have Bw20 := Bw19
           clear Bw19)
        | (have hgo := Bw20; clear hgo
           go_at_call 8
           refine (awake7_any _).mono ?_
           rintro e w54 ⟨rfl, kk⟩
           replace r_t8 := World.rowIs.of_block r_t8 (kk.block _ (World.rowIs.lt r_t8))
           replace r_t9 := World.rowIs.of_block r_t9 (kk.block _ (World.rowIs.lt r_t9))
           have Bw21 := Bw20.trans (kk.mono (HGS.out _ Bw20))
           clear Bw20 kk))
      go_ret
      exact ⟨rfl, Bw21⟩
  · skip
    have hk0 : ¬ (0 ≤ x2) := by omega
    have hk1 : x2 < 0 := by omega
    have HK3 : Hid (x2 ≤ 63) := Lib.hid (by omega)
    have HB := Lib.hid fun w => sBit_to A x2 w hx2 hy2 0 (by unfold bitZ; rw [if_neg (fun h => hk0 h.1)]; rfl)
    clear hx2 hy2
    go_enter Try.func6, Try.ntmps6
    go_wp2_with (first
      | (have hgo := Bw0; clear hgo
         go_at_call 26
         refine (HMA.out _).mono ?_
         rintro e w4 ⟨rfl, kk⟩
         have Bw1 := Bw0.trans (kk.mono (HGS.out _ Bw0))
         clear Bw0 kk)
      | (have hgo := Bw1; clear hgo
         go_at_call 26
         refine (HMC.out _).mono ?_
         rintro e w7 ⟨rfl, kk⟩
         have Bw2 := Bw1.trans (kk.mono (HGS.out _ Bw1))
         clear Bw1 kk)
      | (have hgo := Bw2; clear hgo
         refine wpList_alloc_row rfl 27 rfl 4 (u64f fun _ => 0) zeroS ?_
         intro b_t8 w8 lk r_t8 kk
         have l_t8 := Nat.le_trans (HGS.out _ Bw2) lk
         have Bw3 := Bw2.trans (kk.mono (HGS.out _ Bw2))
         clear Bw2 kk lk)
      | (have hgo := Bw3; clear hgo
         refine wpList_alloc_row rfl 27 rfl 4 (u64f fun _ => 0) zeroS ?_
         intro b_t9 w9 lk r_t9 kk
         have n_t8_t9 : b_t8 ≠ b_t9 := Nat.ne_of_lt (Nat.lt_of_lt_of_le (World.rowIs.lt r_t8) lk)
         have l_t9 := Nat.le_trans (HGS.out _ Bw3) lk
         replace r_t8 := World.rowIs.of_block r_t8 (kk.block _ (World.rowIs.lt r_t8))
         have Bw4 := Bw3.trans (kk.mono (HGS.out _ Bw3))
         clear Bw3 kk lk)
      | (have hgo := Bw4; clear hgo
         refine wpList_store_as rfl 27 (.tmp 8) (.tmp 17) rfl 4 (ewF A) arrS r_t8 rfl rfl (by omega) (fun _ _ => rfl) (fun i hi => putN_whole hi) ?_
         intro w10 q gk
         replace r_t9 := gb_rowIs r_t9 gk (Ne.symm n_t8_t9)
         replace r_t8 := q
         have Bw5 := Bw4.grown gk (HGS.out _ Bw4) (by intro k hk; cases hk; exact l_t8)
         clear Bw4 gk q)
      | (have hgo := Bw5; clear hgo
         refine wpList_store_as rfl 27 (.tmp 9) (.tmp 20) rfl 4 (ewF C) arrS r_t9 rfl rfl (by omega) (fun _ _ => rfl) (fun i hi => putN_whole hi) ?_
         intro w11 q gk
         replace r_t8 := gb_rowIs r_t8 gk n_t8_t9
         replace r_t9 := q
         have Bw6 := Bw5.grown gk (HGS.out _ Bw5) (by intro k hk; cases hk; exact l_t9)
         clear Bw5 gk q)
      | (have hgo := Bw6; clear hgo
         refine wpList_load_as rfl 27 (.tmp 8) rfl 4 (ewF A) arrS r_t8 rfl (by omega) (fun i hi => by rw [Nat.zero_add]) ?_
         have Bw7 := Bw6
         clear Bw6)
      | (have hgo := Bw7; clear hgo
         refine wpList_load_as rfl 27 (.tmp 9) rfl 4 (ewF C) arrS r_t9 rfl (by omega) (fun i hi => by rw [Nat.zero_add]) ?_
         have Bw8 := Bw7
         clear Bw7)
      | (have hgo := Bw8; clear hgo
         go_at_call 14
         refine (sAdd_any A C _ HA.out HC.out).mono ?_
         rintro e w15 ⟨rfl, kk⟩
         replace r_t8 := World.rowIs.of_block r_t8 (kk.block _ (World.rowIs.lt r_t8))
         replace r_t9 := World.rowIs.of_block r_t9 (kk.block _ (World.rowIs.lt r_t9))
         have Bw9 := Bw8.trans (kk.mono (HGS.out _ Bw8))
         clear Bw8 kk)
      | (have hgo := Bw9; clear hgo
         go_at_call 26
         refine (HMS.out _).mono ?_
         rintro e w20 ⟨rfl, kk⟩
         replace r_t8 := World.rowIs.of_block r_t8 (kk.block _ (World.rowIs.lt r_t8))
         replace r_t9 := World.rowIs.of_block r_t9 (kk.block _ (World.rowIs.lt r_t9))
         have Bw10 := Bw9.trans (kk.mono (HGS.out _ Bw9))
         clear Bw9 kk)
      | (have hgo := Bw10; clear hgo
         go_at_call 20
         refine (same_to ((A + C) % ordL) S _ (Nat.mod_lt _ ordL_pos) HS.out HSE.out).mono ?_
         rintro e w21 ⟨rfl, kk⟩
         replace r_t8 := World.rowIs.of_block r_t8 (kk.block _ (World.rowIs.lt r_t8))
         replace r_t9 := World.rowIs.of_block r_t9 (kk.block _ (World.rowIs.lt r_t9))
         have Bw11 := Bw10.trans (kk.mono (HGS.out _ Bw10))
         clear Bw10 kk)
      | (have hgo := Bw11; clear hgo
         refine wpList_load_asg rfl 27 (.tmp 8) rfl 4 (ewF A) arrS r_t8 rfl (by omega) (fun i hi => by rw [Nat.zero_add]) ?_
         have Bw12 := Bw11
         clear Bw11)
      | (have hgo := Bw12; clear hgo
         refine wpList_load_asg rfl 27 (.tmp 9) rfl 4 (ewF C) arrS r_t9 rfl (by omega) (fun i hi => by rw [Nat.zero_add]) ?_
         have Bw13 := Bw12
         clear Bw12)
      | (have hgo := Bw13; clear hgo
         go_at_call 16
         refine (sMul_any A C _ HA.out HC.out).mono ?_
         rintro e w25 ⟨rfl, kk⟩
         replace r_t8 := World.rowIs.of_block r_t8 (kk.block _ (World.rowIs.lt r_t8))
         replace r_t9 := World.rowIs.of_block r_t9 (kk.block _ (World.rowIs.lt r_t9))
         have Bw14 := Bw13.trans (kk.mono (HGS.out _ Bw13))
         clear Bw13 kk)
      | (have hgo := Bw14; clear hgo
         go_at_call 26
         refine (HMP.out _).mono ?_
         rintro e w30 ⟨rfl, kk⟩
         replace r_t8 := World.rowIs.of_block r_t8 (kk.block _ (World.rowIs.lt r_t8))
         replace r_t9 := World.rowIs.of_block r_t9 (kk.block _ (World.rowIs.lt r_t9))
         have Bw15 := Bw14.trans (kk.mono (HGS.out _ Bw14))
         clear Bw14 kk)
      | (have hgo := Bw15; clear hgo
         go_at_call 20
         refine (same_to ((A * C) % ordL) P _ (Nat.mod_lt _ ordL_pos) HP.out HPE.out).mono ?_
         rintro e w31 ⟨rfl, kk⟩
         replace r_t8 := World.rowIs.of_block r_t8 (kk.block _ (World.rowIs.lt r_t8))
         replace r_t9 := World.rowIs.of_block r_t9 (kk.block _ (World.rowIs.lt r_t9))
         have Bw16 := Bw15.trans (kk.mono (HGS.out _ Bw15))
         clear Bw15 kk)
      | (have hgo := Bw16; clear hgo
         refine wpList_load_asg rfl 27 (.tmp 8) rfl 4 (ewF A) arrS r_t8 rfl (by omega) (fun i hi => by rw [Nat.zero_add]) ?_
         have Bw17 := Bw16
         clear Bw16)
      | (have hgo := Bw17; clear hgo
         refine wpList_load_asg rfl 27 (.tmp 9) rfl 4 (ewF C) arrS r_t9 rfl (by omega) (fun i hi => by rw [Nat.zero_add]) ?_
         have Bw18 := Bw17
         clear Bw17)
      | (have hgo := Bw18; clear hgo
         go_at_call 20
         refine (sSame_any A C _ HA.out HC.out).mono ?_
         rintro e w36 ⟨rfl, kk⟩
         replace r_t8 := World.rowIs.of_block r_t8 (kk.block _ (World.rowIs.lt r_t8))
         replace r_t9 := World.rowIs.of_block r_t9 (kk.block _ (World.rowIs.lt r_t9))
         have Bw19 := Bw18.trans (kk.mono (HGS.out _ Bw18))
         clear Bw18 kk)
      | (have hgo := Bw19; clear hgo
         refine wpList_value_given rfl (.bool (decide (A = C))) (by rw [exec_mkOp]; exact exec_u64_eql _ _ _ _ rfl rfl) ?_
         have Bw20 := Bw19
         clear Bw19)
      | (have hgo := Bw20; clear hgo
         refine wpList_value_given rfl (.bool false) (by rw [exec_mkOp]; exact exec_gt63_no _ _ _ _ rfl rfl HK3) ?_
         have Bw21 := Bw20
         clear Bw20)
      | (have hgo := Bw21; clear hgo
         refine wpList_load_asg rfl 27 (.tmp 8) rfl 4 (ewF A) arrS r_t8 rfl (by omega) (fun i hi => by rw [Nat.zero_add]) ?_
         have Bw22 := Bw21
         clear Bw21)
      | (have hgo := Bw22; clear hgo
         go_at_call 21
         refine (HB.out _).mono ?_
         rintro e w48 ⟨rfl, kk⟩
         replace r_t8 := World.rowIs.of_block r_t8 (kk.block _ (World.rowIs.lt r_t8))
         replace r_t9 := World.rowIs.of_block r_t9 (kk.block _ (World.rowIs.lt r_t9))
         have Bw23 := Bw22.trans (kk.mono (HGS.out _ Bw22))
         clear Bw22 kk)
      | (have hgo := Bw23; clear hgo
         go_at_call 8
         refine (awake7_any _).mono ?_
         rintro e w54 ⟨rfl, kk⟩
         replace r_t8 := World.rowIs.of_block r_t8 (kk.block _ (World.rowIs.lt r_t8))
         replace r_t9 := World.rowIs.of_block r_t9 (kk.block _ (World.rowIs.lt r_t9))
         have Bw24 := Bw23.trans (kk.mono (HGS.out _ Bw23))
         clear Bw23 kk))
    go_ret
    exact ⟨rfl, Bw24⟩
end Go.Proofs.Ytncdlaidmiokiaa
