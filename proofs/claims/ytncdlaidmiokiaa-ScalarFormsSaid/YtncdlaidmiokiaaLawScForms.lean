/- ScalarForms, walked. -/
import Derived.Test.YtncdlaidmiokiaaScJ
namespace Go.Proofs.Ytncdlaidmiokiaa
open Go.RowKit Go.Deep
set_option linter.unusedSimpArgs false
set_option linter.unusedVariables false

set_option maxHeartbeats 8000000 in
set_option maxRecDepth 100000 in
theorem law_scalarForms (w : World) (v0 : Value) (l0 : List UInt8) (h0 : Bs w v0 l0) : Calls Try.prog 5 #[v0] w fun e w' => e = .returned (.bool true) ∧ Below w.heap.size w w' := by
  obtain ⟨ad0, n0, c0, rfl, e0, y0, z0, hB0⟩ := h0.shape
  by_cases d0 : n0 ≤ 100
  · have q0 : ¬ (100 : Int) < (n0 : Int) := by omega
    have f_s0 := hB0
    have HF_s0 := Lib.hid hB0
    have Bw0 := Below.refl w.heap.size w
    have HGS : Hid (∀ wq : World, Below w.heap.size w wq → w.heap.size ≤ wq.heap.size) := Lib.hid fun wq h => h.size
    obtain ⟨X, hX⟩ := nat_var (numL (l0) 64 % ordL)
    have HX : Hid (X < ordL) := Lib.hid (by rw [hX]; exact Nat.mod_lt _ ordL_pos)
    have HNX := Lib.hid hX.symm
    clear hX
    have HWB := Lib.hid (forms_wide X HX.out)
    have HWD := Lib.hid (forms_wide2 X HX.out)
    have HAB := Lib.hid (all_bits X HX.out)
    have HAD := Lib.hid (all_bytes X HX.out)
    have HS1 := Lib.hid fun v w (h : Bs w v (litB X 32)) => sStrict_any v (litB X 32) w h
    rw [forms_strict X HX.out, show strictNE (some X) = 0 from rfl, show (some X).getD 0 = X from rfl] at HS1
    have HS2 := Lib.hid fun v w (h : Bs w v (litB (X + ordL) 32)) => sStrict_any v (litB (X + ordL) 32) w h
    rw [forms_none X HX.out, show strictNE none = 2 from rfl, show (none : Option Nat).getD 0 = 0 from rfl] at HS2
    clear h0 hB0 e0 d0
    go_enter Try.func5, Try.ntmps5
    go_wp2_with (first
      | (have hgo := Bw0; clear hgo
         go_at_call 9
         refine (sWide_to _ (l0) _ f_s0 (X) HNX.out).mono ?_
         rintro e w2 ⟨rfl, kk⟩
         replace f_s0 := Bs.below f_s0 kk (Nat.le_refl _)
         have Bw1 := Bw0.trans (kk.mono (HGS.out _ Bw0))
         clear Bw0 kk)
      | (have hgo := Bw1; clear hgo
         refine wpList_alloc_row rfl 27 rfl 4 (u64f fun _ => 0) zeroS ?_
         intro b_t3 w3 lk r_t3 kk
         have l_t3 := Nat.le_trans (HGS.out _ Bw1) lk
         have a_s0_t3 := Bs.away f_s0 lk
         replace f_s0 := Bs.below f_s0 kk (Nat.le_refl _)
         have Bw2 := Bw1.trans (kk.mono (HGS.out _ Bw1))
         clear Bw1 kk lk)
      | (have hgo := Bw2; clear hgo
         refine wpList_store_as rfl 27 (.tmp 3) (.tmp 22) rfl 4 (ewF X) arrS r_t3 rfl rfl (by omega) (fun _ _ => rfl) (fun i hi => putN_whole hi) ?_
         intro w4 q gk
         replace r_t3 := q
         have Bw3 := Bw2.grown gk (HGS.out _ Bw2) (by intro k hk; cases hk; exact l_t3)
         replace f_s0 := gb_bs f_s0 gk a_s0_t3
         clear Bw2 gk q)
      | (have hgo := Bw3; clear hgo
         refine wpList_load_as rfl 27 (.tmp 3) rfl 4 (ewF X) arrS r_t3 rfl (by omega) (fun i hi => by rw [Nat.zero_add]) ?_
         have Bw4 := Bw3
         clear Bw3)
      | (have hgo := Bw4; clear hgo
         go_at_call 23
         refine (sBytes_any X _).mono ?_
         rintro e w6 ⟨v_s24, rfl, o_s24, kk⟩
         replace r_t3 := World.rowIs.of_block r_t3 (kk.block _ (World.rowIs.lt r_t3))
         replace f_s0 := Bs.below f_s0 kk (Nat.le_refl _)
         have Bw5 := Bw4.trans (kk.mono (HGS.out _ Bw4))
         clear Bw4 kk
         have f_s24 := o_s24.bs
         clear o_s24)
      | (have hgo := Bw5; clear hgo
         go_at_call 11
         refine (HS1.out _ _ f_s24).mono ?_
         rintro e w9 ⟨rfl, kk⟩
         replace r_t3 := World.rowIs.of_block r_t3 (kk.block _ (World.rowIs.lt r_t3))
         replace f_s0 := Bs.below f_s0 kk (Nat.le_refl _)
         replace f_s24 := Bs.below f_s24 kk (Nat.le_refl _)
         have Bw6 := Bw5.trans (kk.mono (HGS.out _ Bw5))
         clear Bw5 kk)
      | (have hgo := Bw6; clear hgo
         refine wpList_alloc_row rfl 27 rfl 4 (u64f fun _ => 0) zeroS ?_
         intro b_t5 w13 lk r_t5 kk
         have n_t3_t5 : b_t3 ≠ b_t5 := Nat.ne_of_lt (Nat.lt_of_lt_of_le (World.rowIs.lt r_t3) lk)
         have l_t5 := Nat.le_trans (HGS.out _ Bw6) lk
         have a_s0_t5 := Bs.away f_s0 lk
         have a_s24_t5 := Bs.away f_s24 lk
         replace r_t3 := World.rowIs.of_block r_t3 (kk.block _ (World.rowIs.lt r_t3))
         replace f_s0 := Bs.below f_s0 kk (Nat.le_refl _)
         replace f_s24 := Bs.below f_s24 kk (Nat.le_refl _)
         have Bw7 := Bw6.trans (kk.mono (HGS.out _ Bw6))
         clear Bw6 kk lk)
      | (have hgo := Bw7; clear hgo
         refine wpList_store_as rfl 27 (.tmp 5) (.tmp 28) rfl 4 (ewF X) arrS r_t5 rfl rfl (by omega) (fun _ _ => rfl) (fun i hi => putN_whole hi) ?_
         intro w14 q gk
         replace r_t3 := gb_rowIs r_t3 gk n_t3_t5
         replace r_t5 := q
         have Bw8 := Bw7.grown gk (HGS.out _ Bw7) (by intro k hk; cases hk; exact l_t5)
         replace f_s0 := gb_bs f_s0 gk a_s0_t5
         replace f_s24 := gb_bs f_s24 gk a_s24_t5
         clear Bw7 gk q))
    have Bw9 := Bw8.drew
    replace r_t3 := World.rowIs.drew r_t3
    replace r_t5 := World.rowIs.drew r_t5
    replace f_s0 := Bs.drew f_s0
    replace f_s24 := Bs.drew f_s24
    clear Bw8
    refine wp_region_lint (.rd 0 (.rd 1 (.rd 2 (.rd 3 (.rd 4 (.rd 5 (.rd 6 (.rd 7 (.rd 8 (.rd 9 (.wr 10 (.rd 11 (.rd 12 (.rd 13 (.rd 14 (.rd 16 (.wr 15 (.wr 17 (.rd 18 (.rd 19 .done)))))))))))))))))))) (by kernel_rfl) (by kernel_rfl) (by decide) (by kernel_rfl) (fun d _ _ _ _ h => by cases d <;> exact h) ?_
    refine lint_pure 30 (Op.move (Operand.tmp 4)) 22 (v_s24) rfl rfl rfl rfl rfl (fun w0 hb0 => by unfold mkOp; go_simp; all_goals (with_reducible rfl)) ?_
    simp only [Act.put, List.setIfInBounds_toArray, List.set_cons_zero, List.set_cons_succ]
    refine lint_pure 31 (Op.call { callee := Callee.builtin Builtin.len, args := #[Operand.tmp 30], argTypes := #[22] }) 3 (.int .i64 32) rfl rfl rfl rfl rfl (fun w0 hb0 => by refine Eq.trans (exec_blen _ _ rfl (Bs.below f_s24 hb0 (Nat.le_refl _))) ?_; rw [litB_length]; rfl) ?_
    simp only [Act.put, List.setIfInBounds_toArray, List.set_cons_zero, List.set_cons_succ]
    refine lint_pure 32 (Op.binOp BinOp.neq 3 (Operand.tmp 31) (Operand.const (Value.int IntKind.i64 32)) 3) 4 (.bool false) rfl rfl rfl rfl rfl (fun w0 hb0 => by unfold mkOp; go_simp; all_goals (with_reducible rfl)) ?_
    simp only [Act.put, List.setIfInBounds_toArray, List.set_cons_zero, List.set_cons_succ]
    refine lint_pure 33 (Op.move (Operand.tmp 32)) 4 (.bool false) rfl rfl rfl rfl rfl (fun w0 hb0 => by unfold mkOp; go_simp; all_goals (with_reducible rfl)) ?_
    simp only [Act.put, List.setIfInBounds_toArray, List.set_cons_zero, List.set_cons_succ]
    refine lint_pure 34 (Op.move (Operand.tmp 6)) 32 ((.int .i64 0)) rfl rfl rfl rfl rfl (fun w0 hb0 => by unfold mkOp; go_simp; all_goals (with_reducible rfl)) ?_
    simp only [Act.put, List.setIfInBounds_toArray, List.set_cons_zero, List.set_cons_succ]
    refine lint_pure 35 (Op.binOp BinOp.neq 32 (Operand.tmp 34) (Operand.const (Value.int IntKind.i64 0)) 32) 4 (.bool false) rfl rfl rfl rfl rfl (fun w0 hb0 => by unfold mkOp; go_simp; all_goals (with_reducible rfl)) ?_
    simp only [Act.put, List.setIfInBounds_toArray, List.set_cons_zero, List.set_cons_succ]
    refine lint_pure 36 (Op.pick (Operand.tmp 33) (Operand.const (Value.bool true)) (Operand.tmp 35)) 4 (.bool false) rfl rfl rfl rfl rfl (fun w0 hb0 => by unfold mkOp; go_simp; all_goals (with_reducible rfl)) ?_
    simp only [Act.put, List.setIfInBounds_toArray, List.set_cons_zero, List.set_cons_succ]
    refine lint_pure 37 (Op.move (Operand.tmp 36)) 4 (.bool false) rfl rfl rfl rfl rfl (fun w0 hb0 => by unfold mkOp; go_simp; all_goals (with_reducible rfl)) ?_
    simp only [Act.put, List.setIfInBounds_toArray, List.set_cons_zero, List.set_cons_succ]
    refine lint_pure 38 (Op.load 27 (Operand.tmp 5)) 27 (.agg (arrOf 4 (ewF X))) rfl rfl rfl rfl rfl (fun w0 hb0 => by exact exec_load_as _ _ _ _ (ewF X) rfl arrS (World.rowIs.of_block r_t5 (hb0.block _ (World.rowIs.lt r_t5))) (by omega) (fun i hi => by rw [Nat.zero_add])) ?_
    simp only [Act.put, List.setIfInBounds_toArray, List.set_cons_zero, List.set_cons_succ]
    refine lint_pure 39 (Op.load 27 (Operand.tmp 3)) 27 (.agg (arrOf 4 (ewF X))) rfl rfl rfl rfl rfl (fun w0 hb0 => by exact exec_load_as _ _ _ _ (ewF X) rfl arrS (World.rowIs.of_block r_t3 (hb0.block _ (World.rowIs.lt r_t3))) (by omega) (fun i hi => by rw [Nat.zero_add])) ?_
    simp only [Act.put, List.setIfInBounds_toArray, List.set_cons_zero, List.set_cons_succ]
    refine stp_fn 40 20 #[Operand.tmp 38, Operand.tmp 39] #[27, 27] _ (same_yes X _ HX.out) rfl rfl rfl rfl Try.func20 (by kernel_rfl) (by kernel_rfl) (by go_simp) ?_
    rintro e w16 ⟨rfl, kk⟩
    refine ⟨_, rfl, kk, ?_⟩
    replace r_t3 := World.rowIs.of_block r_t3 (kk.block _ (World.rowIs.lt r_t3))
    replace r_t5 := World.rowIs.of_block r_t5 (kk.block _ (World.rowIs.lt r_t5))
    replace f_s0 := Bs.below f_s0 kk (Nat.le_refl _)
    replace f_s24 := Bs.below f_s24 kk (Nat.le_refl _)
    have Bw10 := Bw9.trans (kk.mono (HGS.out _ Bw9))
    clear Bw9 kk
    simp only [Act.put, List.setIfInBounds_toArray, List.set_cons_zero, List.set_cons_succ]
    refine lint_pure 41 (Op.unOp UnOp.not 4 (Operand.tmp 40)) 4 (.bool false) rfl rfl rfl rfl rfl (fun w0 hb0 => by unfold mkOp; go_simp; all_goals (with_reducible rfl)) ?_
    simp only [Act.put, List.setIfInBounds_toArray, List.set_cons_zero, List.set_cons_succ]
    refine lint_pure 42 (Op.pick (Operand.tmp 37) (Operand.const (Value.bool true)) (Operand.tmp 41)) 4 (.bool false) rfl rfl rfl rfl rfl (fun w0 hb0 => by unfold mkOp; go_simp; all_goals (with_reducible rfl)) ?_
    simp only [Act.put, List.setIfInBounds_toArray, List.set_cons_zero, List.set_cons_succ]
    refine lint_pure 43 (Op.move (Operand.tmp 42)) 4 (.bool false) rfl rfl rfl rfl rfl (fun w0 hb0 => by unfold mkOp; go_simp; all_goals (with_reducible rfl)) ?_
    simp only [Act.put, List.setIfInBounds_toArray, List.set_cons_zero, List.set_cons_succ]
    refine lint_pure 44 (Op.move (Operand.tmp 4)) 22 (v_s24) rfl rfl rfl rfl rfl (fun w0 hb0 => by unfold mkOp; go_simp; all_goals (with_reducible rfl)) ?_
    simp only [Act.put, List.setIfInBounds_toArray, List.set_cons_zero, List.set_cons_succ]
    refine lint_pure 46 (Op.load 27 (Operand.tmp 3)) 27 (.agg (arrOf 4 (ewF X))) rfl rfl rfl rfl rfl (fun w0 hb0 => by exact exec_load_as _ _ _ _ (ewF X) rfl arrS (World.rowIs.of_block r_t3 (hb0.block _ (World.rowIs.lt r_t3))) (by omega) (fun i hi => by rw [Nat.zero_add])) ?_
    simp only [Act.put, List.setIfInBounds_toArray, List.set_cons_zero, List.set_cons_succ]
    refine stp_fn 45 9 #[Operand.tmp 44] #[22] _ (sWide_to _ (litB X 32) _ f_s24 (X) HWB.out) rfl rfl rfl rfl Try.func9 (by kernel_rfl) (by kernel_rfl) (by go_simp) ?_
    rintro e w17 ⟨rfl, kk⟩
    refine ⟨_, rfl, kk, ?_⟩
    replace r_t3 := World.rowIs.of_block r_t3 (kk.block _ (World.rowIs.lt r_t3))
    replace r_t5 := World.rowIs.of_block r_t5 (kk.block _ (World.rowIs.lt r_t5))
    replace f_s0 := Bs.below f_s0 kk (Nat.le_refl _)
    replace f_s24 := Bs.below f_s24 kk (Nat.le_refl _)
    have Bw11 := Bw10.trans (kk.mono (HGS.out _ Bw10))
    clear Bw10 kk
    simp only [Act.put, List.setIfInBounds_toArray, List.set_cons_zero, List.set_cons_succ]
    refine stp_fn 47 20 #[Operand.tmp 45, Operand.tmp 46] #[27, 27] _ (same_yes X _ HX.out) rfl rfl rfl rfl Try.func20 (by kernel_rfl) (by kernel_rfl) (by go_simp) ?_
    rintro e w18 ⟨rfl, kk⟩
    refine ⟨_, rfl, kk, ?_⟩
    replace r_t3 := World.rowIs.of_block r_t3 (kk.block _ (World.rowIs.lt r_t3))
    replace r_t5 := World.rowIs.of_block r_t5 (kk.block _ (World.rowIs.lt r_t5))
    replace f_s0 := Bs.below f_s0 kk (Nat.le_refl _)
    replace f_s24 := Bs.below f_s24 kk (Nat.le_refl _)
    have Bw12 := Bw11.trans (kk.mono (HGS.out _ Bw11))
    clear Bw11 kk
    simp only [Act.put, List.setIfInBounds_toArray, List.set_cons_zero, List.set_cons_succ]
    refine lint_pure 48 (Op.unOp UnOp.not 4 (Operand.tmp 47)) 4 (.bool false) rfl rfl rfl rfl rfl (fun w0 hb0 => by unfold mkOp; go_simp; all_goals (with_reducible rfl)) ?_
    simp only [Act.put, List.setIfInBounds_toArray, List.set_cons_zero, List.set_cons_succ]
    refine lint_pure 49 (Op.pick (Operand.tmp 43) (Operand.const (Value.bool true)) (Operand.tmp 48)) 4 (.bool false) rfl rfl rfl rfl rfl (fun w0 hb0 => by unfold mkOp; go_simp; all_goals (with_reducible rfl)) ?_
    simp only [Act.put, List.setIfInBounds_toArray, List.set_cons_zero, List.set_cons_succ]
    refine lint_end ?_
    obtain ⟨gb, ob, cb, rfl, hb1, hb2, hb3, hb4⟩ := f_s24.open_n (n := 32) (litB_length X 32) (by decide)
    clear hb1 hb2 hb3 hb4
    go_wp2_with (refine wpList_make32 rfl rfl ?_
                 intro gc w40 lk oc kk
                 have n_c := Nat.ne_of_lt (Nat.lt_of_lt_of_le (World.rowIs.lt r_t3) lk)
                 have l_c := Nat.le_trans (HGS.out _ Bw12) lk
                 have a_b := Bs.away f_s24 lk
                 replace r_t3 := World.rowIs.of_block r_t3 (kk.block _ (World.rowIs.lt r_t3))
                 replace f_s24 := Bs.below f_s24 kk (Nat.le_refl _)
                 have Bw40 := Bw12.trans (kk.mono (HGS.out _ Bw12))
                 clear Bw12 kk lk r_t5 f_s0)
    go_loopw [9] (fun kk wr => ∃ k : Nat, k ≤ 256 ∧ kk = .int .i64 (k : Int) ∧ Owns wr gc (.slice (some ⟨gc, 0, none⟩) 32 32) (litB (X % 2 ^ k) 32) ∧ wr.rowIs b_t3 27 4 (ewF X) ∧ Bs wr (.slice (some ⟨gb, ob, none⟩) 32 cb) (litB X 32) ∧ Below w.heap.size w wr) (fun kk _ => 256 - (intOf kk).toNat)
    case atStart => exact ⟨0, Nat.zero_le _, rfl, by rw [Nat.pow_zero, Nat.mod_one, litB_zero]; exact oc, r_t3, f_s24, Bw40⟩
    case round =>
      clear oc r_t3 f_s24 Bw40
      obtain ⟨k, hk, rfl, oc, r_t3, f_b, Bw⟩ := hrel
      by_cases hlt : k < 256
      · have hkI : 0 ≤ (k : Int) ∧ (k : Int) < 256 := by omega
        have hlow := bit_low X k
        have hbyte := bit_byte X k
        have hbl2 := byteN_lt (X % 2 ^ (k + 1)) (k / 8)
        obtain ⟨q, hq⟩ := nat_var (k / 8)
        obtain ⟨s, hs⟩ := nat_var (k % 8)
        obtain ⟨a, ha⟩ := nat_var (byteN (X % 2 ^ k) (k / 8))
        obtain ⟨b, hb⟩ := nat_var (X / 2 ^ k % 2)
        obtain ⟨y, hy⟩ := nat_var (2 ^ (k % 8) * (X / 2 ^ k % 2))
        obtain ⟨z, hz⟩ := nat_var (a + y)
        have hbl : b ≤ 1 := by omega
        have hset := bits_set X k z (by rw [hz, ha, hy])
        have hor := or8 a s b (by omega) (by rw [ha, hs]; exact hlow) hbl
        have hysb : 2 ^ s * b = y := by rw [hy, hs, hb]
        rw [hysb, ← hz] at hor
        have hzl : z < 256 := by rw [hz, ha, hy, ← hbyte]; exact hbl2
        have hcv : IntKind.u8.wrap (b : Int) = (b : Int) := IntWalk.u8_in _ ⟨by omega, by omega⟩
        have hshl : IntKind.u8.wrap ((b : Int) * 2 ^ s) = (y : Int) := by
          have e : (b : Int) * 2 ^ s = (y : Int) := by rw [← hysb, Int.natCast_mul, Int.natCast_pow, Int.mul_comm]; rfl
          rw [e]
          exact IntWalk.u8_in _ ⟨by omega, by omega⟩
        have hsh2 : IntKind.u8.wrap ((b : Int) * 2 ^ min s 8) = (y : Int) := by rw [Nat.min_eq_left (by omega)]; exact hshl
        have hquo : IntKind.i64.wrap ((k : Int).tdiv 8) = (q : Int) := by rw [Int.tdiv_eq_ediv_of_nonneg (by omega), IntWalk.i64_in _ (by omega)]; omega
        have hquo2 : IntKind.i64.wrap ((k : Int) / 8) = (q : Int) := by rw [IntWalk.i64_in _ (by omega)]; omega
        have hrem : IntKind.i64.wrap ((k : Int).tmod 8) = (s : Int) := by rw [Int.tmod_eq_emod_of_nonneg (by omega), IntWalk.i64_in _ (by omega)]; omega
        have hrem2 : (k : Int).tmod 8 = (s : Int) := by rw [Int.tmod_eq_emod_of_nonneg (by omega)]; omega
        have hqI : 0 ≤ (q : Int) ∧ (q : Int) < 32 := by omega
        have hsI : 0 ≤ (s : Int) := by omega
        have hsJ : (s : Int) < 64 := by omega
        have hql : q < 32 := by omega
        have HC : Hid (∀ w0, Below wr.drew.heap.size wr.drew w0 → w0.cell? ⟨gc, q, none⟩ = some (.int .u8 (a : Int))) := Lib.hid fun w0 h0 => by
          have h1 := (Owns.belowJ oc.drew h0).cellAt (litB_length _ _).symm q (by rw [litB_length]; exact hql)
          rw [h1, litB_at, UInt8.toNat_ofNat', hq, ha]
          rfl
        have HR := Lib.hid fun w => sBit_to X (k : Int) w (by omega) (by omega) (b : Int) (by rw [bit_in X k hlt, hb])
        rw [← hq] at hset
        have HSET := Lib.hid hset
        have HZL := Lib.hid hzl
        have HQL := Lib.hid hql
        clear hlow hbyte hbl2 hq hs ha hb hy hz hbl hset hysb hzl hql
        replace oc := oc.drew
        replace r_t3 := World.rowIs.drew r_t3
        replace f_b := Bs.drew f_b
        replace Bw := Bw.drew
        go_wp2
        refine wp_region_lins [(0, some [18]), (1, some [18]), (2, some [18]), (3, some [18]), (4, some [18]), (5, some [18]), (6, some [18]), (7, some [18]), (8, some [11, 18]), (9, some [11, 18]), (10, some [11, 18]), (13, some [18]), (14, some [18]), (11, none), (12, some [18]), (15, some [18]), (16, some [18]), (17, some [18]), (18, none)] (fun c w' => Below wr.drew.heap.size wr.drew w') (by kernel_rfl) (by kernel_rfl) (by decide) (by kernel_rfl) (fun d _ _ _ _ h => by cases d <;> exact h) (fun c hc => Below.refl _ _) ?_
        refine lins_read 55 (Op.move (Operand.tmp 8)) 22 (_) rfl rfl rfl rfl rfl (fun w0 hw0 => by unfold mkOp; go_simp; all_goals (with_reducible rfl)) ?_
        simp only [Act.put, List.setIfInBounds_toArray, List.set_cons_zero, List.set_cons_succ]
        refine lins_read 56 (Op.move (Operand.tmp 9)) 3 (_) rfl rfl rfl rfl rfl (fun w0 hw0 => by unfold mkOp; go_simp; all_goals (with_reducible rfl)) ?_
        simp only [Act.put, List.setIfInBounds_toArray, List.set_cons_zero, List.set_cons_succ]
        refine lins_read 57 (Op.binOp BinOp.quo 3 (Operand.tmp 56) (Operand.const (Value.int IntKind.i64 8)) 3) 3 (.int .i64 (q : Int)) rfl rfl rfl rfl rfl (fun w0 hw0 => by unfold mkOp; go_simp; all_goals (with_reducible rfl)) ?_
        simp only [Act.put, List.setIfInBounds_toArray, List.set_cons_zero, List.set_cons_succ]
        refine lins_read 58 (Op.move (Operand.tmp 8)) 22 (_) rfl rfl rfl rfl rfl (fun w0 hw0 => by unfold mkOp; go_simp; all_goals (with_reducible rfl)) ?_
        simp only [Act.put, List.setIfInBounds_toArray, List.set_cons_zero, List.set_cons_succ]
        refine lins_read 59 (Op.move (Operand.tmp 9)) 3 (_) rfl rfl rfl rfl rfl (fun w0 hw0 => by unfold mkOp; go_simp; all_goals (with_reducible rfl)) ?_
        simp only [Act.put, List.setIfInBounds_toArray, List.set_cons_zero, List.set_cons_succ]
        refine lins_read 60 (Op.binOp BinOp.quo 3 (Operand.tmp 59) (Operand.const (Value.int IntKind.i64 8)) 3) 3 (.int .i64 (q : Int)) rfl rfl rfl rfl rfl (fun w0 hw0 => by unfold mkOp; go_simp; all_goals (with_reducible rfl)) ?_
        simp only [Act.put, List.setIfInBounds_toArray, List.set_cons_zero, List.set_cons_succ]
        refine lins_read 61 (Op.indexAddr 22 (Operand.tmp 58) (Operand.tmp 60)) 0 (.pointer (some ⟨gc, q, none⟩)) rfl rfl rfl rfl rfl (fun w0 hw0 => by unfold mkOp; go_simp; all_goals (with_reducible rfl)) ?_
        simp only [Act.put, List.setIfInBounds_toArray, List.set_cons_zero, List.set_cons_succ]
        refine lins_read 62 (Op.load 5 (Operand.tmp 61)) 5 (.int .u8 (a : Int)) rfl rfl rfl rfl rfl (fun w0 hw0 => by exact exec_load_cell _ 5 _ _ rfl (by kernel_rfl) (HC.out _ (hw0 18 (by simp)))) ?_
        simp only [Act.put, List.setIfInBounds_toArray, List.set_cons_zero, List.set_cons_succ]
        refine lins_read 63 (Op.move (Operand.tmp 7)) 48 (_) rfl rfl rfl rfl rfl (fun w0 hw0 => by unfold mkOp; go_simp; all_goals (with_reducible rfl)) ?_
        simp only [Act.put, List.setIfInBounds_toArray, List.set_cons_zero, List.set_cons_succ]
        refine lins_read 64 (Op.load 27 (Operand.tmp 3)) 27 (.agg (arrOf 4 (ewF X))) rfl rfl rfl rfl rfl (fun w0 hw0 => by exact exec_load_as _ _ _ _ (ewF X) rfl arrS (World.rowIs.of_block r_t3 ((hw0 18 (by simp)).block _ (World.rowIs.lt r_t3))) (by omega) (fun i hi => by rw [Nat.zero_add])) ?_
        simp only [Act.put, List.setIfInBounds_toArray, List.set_cons_zero, List.set_cons_succ]
        refine lins_read 65 (Op.move (Operand.tmp 9)) 3 (_) rfl rfl rfl rfl rfl (fun w0 hw0 => by unfold mkOp; go_simp; all_goals (with_reducible rfl)) ?_
        simp only [Act.put, List.setIfInBounds_toArray, List.set_cons_zero, List.set_cons_succ]
        refine lins_read 68 (Op.move (Operand.tmp 9)) 3 (_) rfl rfl rfl rfl rfl (fun w0 hw0 => by unfold mkOp; go_simp; all_goals (with_reducible rfl)) ?_
        simp only [Act.put, List.setIfInBounds_toArray, List.set_cons_zero, List.set_cons_succ]
        refine lins_read 69 (Op.binOp BinOp.rem 3 (Operand.tmp 68) (Operand.const (Value.int IntKind.i64 8)) 3) 3 (.int .i64 (s : Int)) rfl rfl rfl rfl rfl (fun w0 hw0 => by unfold mkOp; go_simp; all_goals (with_reducible rfl)) ?_
        simp only [Act.put, List.setIfInBounds_toArray, List.set_cons_zero, List.set_cons_succ]
        refine lins_val (some 66) (.tmp 63) 21 #[.tmp 64, .tmp 65] #[27, 3] _ (HR.out _) rfl rfl rfl rfl rfl Try.func21 (by kernel_rfl) (by kernel_rfl) (by go_simp) ?_
        rintro e w6 ⟨rfl, b6⟩
        refine ⟨_, rfl, fun _ w'' => Below w6.heap.size w6 w'', fun c hc => ⟨Below.refl _ _, fun w'' h => b6.trans (h.mono b6.size)⟩, ?_⟩
        replace oc := Owns.belowJ oc b6
        replace r_t3 := World.rowIs.of_block r_t3 (b6.block _ (World.rowIs.lt r_t3))
        replace f_b := Bs.below f_b b6 (Nat.le_refl _)
        replace Bw := Bw.trans (b6.mono (HGS.out _ Bw))
        simp only [Act.put, List.setIfInBounds_toArray, List.set_cons_zero, List.set_cons_succ]
        refine lins_read 67 (Op.convert 3 5 (Operand.tmp 66)) 5 (.int .u8 (b : Int)) rfl rfl rfl rfl rfl (fun w0 hw0 => by unfold mkOp; go_simp; all_goals (with_reducible rfl)) ?_
        simp only [Act.put, List.setIfInBounds_toArray, List.set_cons_zero, List.set_cons_succ]
        refine lins_read 70 (Op.binOp BinOp.shl 5 (Operand.tmp 67) (Operand.tmp 69) 3) 5 (.int .u8 (y : Int)) rfl rfl rfl rfl rfl (fun w0 hw0 => by unfold mkOp; go_simp; all_goals (with_reducible rfl)) ?_
        simp only [Act.put, List.setIfInBounds_toArray, List.set_cons_zero, List.set_cons_succ]
        refine lins_read 71 (Op.binOp BinOp.or 5 (Operand.tmp 62) (Operand.tmp 70) 5) 5 (.int .u8 (z : Int)) rfl rfl rfl rfl rfl (fun w0 hw0 => by unfold mkOp; go_simp; all_goals (with_reducible rfl)) ?_
        simp only [Act.put, List.setIfInBounds_toArray, List.set_cons_zero, List.set_cons_succ]
        refine lins_read 72 (Op.indexAddr 22 (Operand.tmp 55) (Operand.tmp 57)) 0 (.pointer (some ⟨gc, q, none⟩)) rfl rfl rfl rfl rfl (fun w0 hw0 => by unfold mkOp; go_simp; all_goals (with_reducible rfl)) ?_
        simp only [Act.put, List.setIfInBounds_toArray, List.set_cons_zero, List.set_cons_succ]
        refine lins_store_byte (.tmp 72) (.tmp 71) rfl rfl rfl rfl q z oc (litB_length _ _).symm (Nat.le_refl _) (by rw [litB_length]; exact HQL.out) rfl rfl HZL.out ?_
        intro w7 o7 g7
        refine ⟨fun _ _ => True, fun c hc => (by cases hc), ?_⟩
        rw [HSET.out] at o7
        replace r_t3 := gb_rowIs r_t3 g7 n_c
        replace f_b := gb_bs f_b g7 a_b
        replace Bw := Bw.grown g7 (HGS.out _ Bw) (by intro k hk; cases hk; exact l_c)
        clear oc g7 HC HR
        refine lins_end ?_
        go_wp2
        go_roundw
        case rel => exact ⟨k + 1, by omega, by go_num, o7, r_t3, f_b, Bw⟩
        case measure => (simp [intOf]; try omega)
      · obtain rfl : k = 256 := by omega
        rw [HAB.out] at oc
        have f_c := oc.bs
        clear oc
        go_wp2_with (first
          | (go_at_call 24
             refine (refOrderO_any _).mono ?_
             rintro e w50 ⟨v_l, rfl, o_l, kk⟩
             have f_l := o_l.bs
             obtain ⟨gl, ol, cl, rfl, hb1, hb2, hb3, hb4⟩ := f_l.open_n (n := 32) (litB_length ordL 32) (by decide)
             replace r_t3 := World.rowIs.of_block r_t3 (kk.block _ (World.rowIs.lt r_t3))
             replace f_b := Bs.below f_b kk (Nat.le_refl _)
             replace f_c := Bs.below f_c kk (Nat.le_refl _)
             have Bw50 := Bw.trans (kk.mono (HGS.out _ Bw))
             clear Bw kk o_l hb1 hb2 hb3 hb4)
          | (refine wpList_make32 rfl rfl ?_
             intro gd w51 lk od kk
             have n_d := Nat.ne_of_lt (Nat.lt_of_lt_of_le (World.rowIs.lt r_t3) lk)
             have l_d := Nat.le_trans (HGS.out _ Bw50) lk
             have a_bd := Bs.away f_b lk
             have a_cd := Bs.away f_c lk
             have a_ld := Bs.away f_l lk
             replace r_t3 := World.rowIs.of_block r_t3 (kk.block _ (World.rowIs.lt r_t3))
             replace f_b := Bs.below f_b kk (Nat.le_refl _)
             replace f_c := Bs.below f_c kk (Nat.le_refl _)
             replace f_l := Bs.below f_l kk (Nat.le_refl _)
             have Bw51 := Bw50.trans (kk.mono (HGS.out _ Bw50))
             clear Bw50 kk lk))
        go_loopw [12, 13] (fun cc ii wq => ∃ i c : Nat, i ≤ 32 ∧ Hid (c = cyA X ordL i) ∧ cc = .int .i64 (c : Int) ∧ ii = .int .i64 (i : Int) ∧ Owns wq gd (.slice (some ⟨gd, 0, none⟩) 32 32) (litB ((X + ordL) % 256 ^ i) 32) ∧ wq.rowIs b_t3 27 4 (ewF X) ∧ Bs wq (.slice (some ⟨gb, ob, none⟩) 32 cb) (litB X 32) ∧ Bs wq (.slice (some ⟨gc, 0, none⟩) 32 32) (litB X 32) ∧ Bs wq (.slice (some ⟨gl, ol, none⟩) 32 cl) (litB ordL 32) ∧ Below w.heap.size w wq) (fun _ ii _ => 32 - (intOf ii).toNat)
        case atStart => exact ⟨0, 0, Nat.zero_le _, Lib.hid (cyA_zero X ordL).symm, rfl, rfl, by rw [Nat.pow_zero, Nat.mod_one, litB_zero]; exact od, r_t3, f_b, f_c, f_l, Bw51⟩
        case round =>
          clear od r_t3 f_b f_c f_l Bw51
          obtain ⟨i, c, hi, HC, rfl, rfl, od, r_t3, f_b, f_c, f_l, Bw⟩ := hrel
          by_cases hlt : i < 32
          · have hiI : 0 ≤ (i : Int) ∧ (i : Int) < 32 := by omega
            have hcs := cyA_step X ordL i
            have hcle := cyA_le X ordL i
            have hcl2 := cyA_le X ordL (i + 1)
            have hsl := byteN_lt (X + ordL) i
            rw [← HC.out] at hcs hcle
            obtain ⟨b1, o1, c1, he1, _, _, _, hcx⟩ := f_b.open_n (n := 32) (litB_length X 32) (by decide)
            cases he1
            obtain ⟨b2, o2, c2, he2, _, _, _, hcy⟩ := f_l.open_n (n := 32) (litB_length ordL 32) (by decide)
            cases he2
            replace hcx := hcx i (by rw [litB_length]; exact hlt)
            replace hcy := hcy i (by rw [litB_length]; exact hlt)
            rw [litB_at, UInt8.toNat_ofNat', show X / 256 ^ i % 2 ^ 8 = byteN X i from rfl] at hcx
            rw [litB_at, UInt8.toNat_ofNat', show ordL / 256 ^ i % 2 ^ 8 = byteN ordL i from rfl] at hcy
            obtain ⟨x, hx⟩ := nat_var (byteN X i)
            have hxl : x < 256 := by rw [hx]; exact byteN_lt X i
            obtain ⟨y, hy⟩ := nat_var (byteN ordL i)
            have hyl : y < 256 := by rw [hy]; exact byteN_lt ordL i
            rw [← hx] at hcx hcs
            rw [← hy] at hcy hcs
            obtain ⟨v, hv⟩ := nat_var (x + y + c)
            obtain ⟨z, hz⟩ := nat_var (v % 256)
            obtain ⟨q, hq⟩ := nat_var (v / 256)
            obtain ⟨xy, hxy⟩ := nat_var (x + y)
            have hz2 : z = byteN (X + ordL) i := by omega
            have hq2 : q = cyA X ordL (i + 1) := by omega
            have HQ2 := Lib.hid hq2
            have HSET := Lib.hid (add_set (X + ordL) i z hz2 hlt)
            have hwx : IntKind.i64.wrap (x : Int) = (x : Int) := IntWalk.i64_in _ (by omega)
            have hwy : IntKind.i64.wrap (y : Int) = (y : Int) := IntWalk.i64_in _ (by omega)
            have hwxy : IntKind.i64.wrap ((x : Int) + (y : Int)) = (xy : Int) := by rw [IntWalk.i64_in _ (by omega)]; omega
            have hwv : IntKind.i64.wrap ((xy : Int) + (c : Int)) = (v : Int) := by rw [IntWalk.i64_in _ (by omega)]; omega
            have hwz : IntKind.u8.wrap (v : Int) = (z : Int) := by rw [IntKind.wrap_u8]; omega
            have HZL : Hid (z < 256) := Lib.hid (by omega)
            have HQ := Lib.hid hq
            have HVL : Hid (v < 1000000000) := Lib.hid (by omega)
            have HIL := Lib.hid hlt
            clear hcs hcle hcl2 hsl hx hy hv hz hq hxy hz2 hq2 hxl hyl hlt HC
            go_wp2
            go_region
            replace od := od.drew
            replace r_t3 := World.rowIs.drew r_t3
            replace f_b := Bs.drew f_b
            replace f_c := Bs.drew f_c
            replace f_l := Bs.drew f_l
            replace Bw := Bw.drew
            go_wp2_with (first
              | (refine wpList_store_byte rfl (.tmp 96) (.tmp 95) rfl i z od (litB_length _ _).symm (Nat.le_refl _) (by rw [litB_length]; exact HIL.out) rfl rfl HZL.out ?_
                 intro w7 o7 g7
                 rw [HSET.out] at o7
                 replace r_t3 := gb_rowIs r_t3 g7 n_d
                 replace f_b := gb_bs f_b g7 a_bd
                 replace f_c := gb_bs f_c g7 a_cd
                 replace f_l := gb_bs f_l g7 a_ld
                 replace Bw := Bw.grown g7 (HGS.out _ Bw) (by intro k hk; cases hk; exact l_d)
                 clear od g7)
              | refine wpList_shrI8 rfl (.tmp 97) (.const (.int .u64 8)) rfl rfl rfl HQ.out HVL.out ?_)
            go_roundw
            case rel => exact ⟨i + 1, q, by have := HIL.out; omega, HQ2, rfl, by have := HIL.out; go_num, o7, r_t3, f_b, f_c, f_l, Bw⟩
            case measure => (have := HIL.out; simp [intOf]; try omega)
          · obtain rfl : i = 32 := by omega
            rw [HAD.out] at od
            have f_s24 := f_b
            have f_s50 := f_c
            have f_s74 := od.bs
            have Bw60 := Bw
            clear HC od f_b f_c f_l Bw
            go_wp2_with (first
              | (have hgo := Bw60; clear hgo
                 go_at_call 11
                 refine (HS2.out _ _ f_s74).mono ?_
                 rintro e w20 ⟨rfl, kk⟩
                 replace r_t3 := World.rowIs.of_block r_t3 (kk.block _ (World.rowIs.lt r_t3))
                 replace f_s24 := Bs.below f_s24 kk (Nat.le_refl _)
                 replace f_s50 := Bs.below f_s50 kk (Nat.le_refl _)
                 replace f_s74 := Bs.below f_s74 kk (Nat.le_refl _)
                 have Bw61 := Bw60.trans (kk.mono (HGS.out _ Bw60))
                 clear Bw60 kk)
              | (have hgo := Bw61; clear hgo
                 refine wpList_alloc_row rfl 27 rfl 4 (u64f fun _ => 0) zeroS ?_
                 intro b_t15 w24 lk r_t15 kk
                 have n_t3_t15 : b_t3 ≠ b_t15 := Nat.ne_of_lt (Nat.lt_of_lt_of_le (World.rowIs.lt r_t3) lk)
                 have l_t15 := Nat.le_trans (HGS.out _ Bw61) lk
                 have a_s24_t15 := Bs.away f_s24 lk
                 have a_s50_t15 := Bs.away f_s50 lk
                 have a_s74_t15 := Bs.away f_s74 lk
                 replace r_t3 := World.rowIs.of_block r_t3 (kk.block _ (World.rowIs.lt r_t3))
                 replace f_s24 := Bs.below f_s24 kk (Nat.le_refl _)
                 replace f_s50 := Bs.below f_s50 kk (Nat.le_refl _)
                 replace f_s74 := Bs.below f_s74 kk (Nat.le_refl _)
                 have Bw62 := Bw61.trans (kk.mono (HGS.out _ Bw61))
                 clear Bw61 kk lk)
              | (have hgo := Bw62; clear hgo
                 refine wpList_store_as rfl 27 (.tmp 15) (.tmp 102) rfl 4 (ewF 0) arrS r_t15 rfl rfl (by omega) (fun _ _ => rfl) (fun i hi => putN_whole hi) ?_
                 intro w25 q gk
                 replace r_t3 := gb_rowIs r_t3 gk n_t3_t15
                 replace r_t15 := q
                 have Bw63 := Bw62.grown gk (HGS.out _ Bw62) (by intro k hk; cases hk; exact l_t15)
                 replace f_s24 := gb_bs f_s24 gk a_s24_t15
                 replace f_s50 := gb_bs f_s50 gk a_s50_t15
                 replace f_s74 := gb_bs f_s74 gk a_s74_t15
                 clear Bw62 gk q))
            have Bw64 := Bw63.drew
            replace r_t3 := World.rowIs.drew r_t3
            replace r_t15 := World.rowIs.drew r_t15
            replace f_s24 := Bs.drew f_s24
            replace f_s50 := Bs.drew f_s50
            replace f_s74 := Bs.drew f_s74
            clear Bw63
            refine wp_region_lint (.rd 0 (.rd 1 (.rd 2 (.rd 3 (.rd 4 (.rd 5 (.rd 6 (.rd 7 (.rd 8 (.rd 9 (.rd 10 (.rd 12 (.wr 11 (.wr 13 (.rd 14 (.rd 15 (.rd 16 (.wr 17 (.wr 18 (.rd 19 (.rd 20 (.rd 21 (.rd 22 (.wr 23 (.rd 24 (.rd 25 (.rd 26 (.wr 27 (.rd 28 (.rd 29 .done)))))))))))))))))))))))))))))) (by kernel_rfl) (by kernel_rfl) (by decide) (by kernel_rfl) (fun d _ _ _ _ h => by cases d <;> exact h) ?_
            refine lint_pure 104 (Op.move (Operand.tmp 8)) 22 (.slice (some ⟨gc, 0, none⟩) 32 32) rfl rfl rfl rfl rfl (fun w0 hb0 => by unfold mkOp; go_simp; all_goals (with_reducible rfl)) ?_
            simp only [Act.put, List.setIfInBounds_toArray, List.set_cons_zero, List.set_cons_succ]
            refine lint_conv 105 (.tmp 104) _ _ rfl rfl rfl rfl rfl f_s50 ?_
            simp only [Act.put, List.setIfInBounds_toArray, List.set_cons_zero, List.set_cons_succ]
            refine lint_pure 106 (Op.move (Operand.tmp 4)) 22 (.slice (some ⟨gb, ob, none⟩) 32 cb) rfl rfl rfl rfl rfl (fun w0 hb0 => by unfold mkOp; go_simp; all_goals (with_reducible rfl)) ?_
            simp only [Act.put, List.setIfInBounds_toArray, List.set_cons_zero, List.set_cons_succ]
            refine lint_conv 107 (.tmp 106) _ _ rfl rfl rfl rfl rfl f_s24 ?_
            simp only [Act.put, List.setIfInBounds_toArray, List.set_cons_zero, List.set_cons_succ]
            refine lint_pure 108 (Op.binOp BinOp.eql 9 (Operand.tmp 105) (Operand.tmp 107) 9) 4 (.bool true) rfl rfl rfl rfl rfl (fun w0 hb0 => by exact exec_str_yes _ _ _ _ (rfl) rfl rfl) ?_
            simp only [Act.put, List.setIfInBounds_toArray, List.set_cons_zero, List.set_cons_succ]
            refine lint_pure 109 (Op.move (Operand.tmp 108)) 4 (.bool true) rfl rfl rfl rfl rfl (fun w0 hb0 => by unfold mkOp; go_simp; all_goals (with_reducible rfl)) ?_
            simp only [Act.put, List.setIfInBounds_toArray, List.set_cons_zero, List.set_cons_succ]
            refine lint_pure 110 (Op.move (Operand.tmp 16)) 32 ((.int .i64 2)) rfl rfl rfl rfl rfl (fun w0 hb0 => by unfold mkOp; go_simp; all_goals (with_reducible rfl)) ?_
            simp only [Act.put, List.setIfInBounds_toArray, List.set_cons_zero, List.set_cons_succ]
            refine lint_pure 111 (Op.binOp BinOp.eql 32 (Operand.tmp 110) (Operand.const (Value.int IntKind.i64 2)) 32) 4 (.bool true) rfl rfl rfl rfl rfl (fun w0 hb0 => by unfold mkOp; go_simp) ?_
            simp only [Act.put, List.setIfInBounds_toArray, List.set_cons_zero, List.set_cons_succ]
            refine lint_pure 112 (Op.pick (Operand.tmp 109) (Operand.tmp 111) (Operand.const (Value.bool false))) 4 (.bool true) rfl rfl rfl rfl rfl (fun w0 hb0 => by unfold mkOp; go_simp; all_goals (with_reducible rfl)) ?_
            simp only [Act.put, List.setIfInBounds_toArray, List.set_cons_zero, List.set_cons_succ]
            refine lint_pure 113 (Op.move (Operand.tmp 112)) 4 (.bool true) rfl rfl rfl rfl rfl (fun w0 hb0 => by unfold mkOp; go_simp; all_goals (with_reducible rfl)) ?_
            simp only [Act.put, List.setIfInBounds_toArray, List.set_cons_zero, List.set_cons_succ]
            refine lint_pure 114 (Op.move (Operand.tmp 11)) 22 (.slice (some ⟨gd, 0, none⟩) 32 32) rfl rfl rfl rfl rfl (fun w0 hb0 => by unfold mkOp; go_simp; all_goals (with_reducible rfl)) ?_
            simp only [Act.put, List.setIfInBounds_toArray, List.set_cons_zero, List.set_cons_succ]
            refine lint_pure 116 (Op.load 27 (Operand.tmp 3)) 27 (.agg (arrOf 4 (ewF X))) rfl rfl rfl rfl rfl (fun w0 hb0 => by exact exec_load_as _ _ _ _ (ewF X) rfl arrS (World.rowIs.of_block r_t3 (hb0.block _ (World.rowIs.lt r_t3))) (by omega) (fun i hi => by rw [Nat.zero_add])) ?_
            simp only [Act.put, List.setIfInBounds_toArray, List.set_cons_zero, List.set_cons_succ]
            refine stp_fn 115 9 #[Operand.tmp 114] #[22] _ (sWide_to _ (litB (X + ordL) 32) _ f_s74 (X) HWD.out) rfl rfl rfl rfl Try.func9 (by kernel_rfl) (by kernel_rfl) (by go_simp) ?_
            rintro e w27 ⟨rfl, kk⟩
            refine ⟨_, rfl, kk, ?_⟩
            replace r_t3 := World.rowIs.of_block r_t3 (kk.block _ (World.rowIs.lt r_t3))
            replace r_t15 := World.rowIs.of_block r_t15 (kk.block _ (World.rowIs.lt r_t15))
            replace f_s24 := Bs.below f_s24 kk (Nat.le_refl _)
            replace f_s50 := Bs.below f_s50 kk (Nat.le_refl _)
            replace f_s74 := Bs.below f_s74 kk (Nat.le_refl _)
            have Bw65 := Bw64.trans (kk.mono (HGS.out _ Bw64))
            clear Bw64 kk
            simp only [Act.put, List.setIfInBounds_toArray, List.set_cons_zero, List.set_cons_succ]
            refine stp_fn 117 20 #[Operand.tmp 115, Operand.tmp 116] #[27, 27] _ (same_yes X _ HX.out) rfl rfl rfl rfl Try.func20 (by kernel_rfl) (by kernel_rfl) (by go_simp) ?_
            rintro e w28 ⟨rfl, kk⟩
            refine ⟨_, rfl, kk, ?_⟩
            replace r_t3 := World.rowIs.of_block r_t3 (kk.block _ (World.rowIs.lt r_t3))
            replace r_t15 := World.rowIs.of_block r_t15 (kk.block _ (World.rowIs.lt r_t15))
            replace f_s24 := Bs.below f_s24 kk (Nat.le_refl _)
            replace f_s50 := Bs.below f_s50 kk (Nat.le_refl _)
            replace f_s74 := Bs.below f_s74 kk (Nat.le_refl _)
            have Bw66 := Bw65.trans (kk.mono (HGS.out _ Bw65))
            clear Bw65 kk
            simp only [Act.put, List.setIfInBounds_toArray, List.set_cons_zero, List.set_cons_succ]
            refine lint_pure 118 (Op.pick (Operand.tmp 113) (Operand.tmp 117) (Operand.const (Value.bool false))) 4 (.bool true) rfl rfl rfl rfl rfl (fun w0 hb0 => by unfold mkOp; go_simp; all_goals (with_reducible rfl)) ?_
            simp only [Act.put, List.setIfInBounds_toArray, List.set_cons_zero, List.set_cons_succ]
            refine lint_pure 119 (Op.move (Operand.tmp 118)) 4 (.bool true) rfl rfl rfl rfl rfl (fun w0 hb0 => by unfold mkOp; go_simp; all_goals (with_reducible rfl)) ?_
            simp only [Act.put, List.setIfInBounds_toArray, List.set_cons_zero, List.set_cons_succ]
            refine lint_pure 120 (Op.load 27 (Operand.tmp 3)) 27 (.agg (arrOf 4 (ewF X))) rfl rfl rfl rfl rfl (fun w0 hb0 => by exact exec_load_as _ _ _ _ (ewF X) rfl arrS (World.rowIs.of_block r_t3 (hb0.block _ (World.rowIs.lt r_t3))) (by omega) (fun i hi => by rw [Nat.zero_add])) ?_
            simp only [Act.put, List.setIfInBounds_toArray, List.set_cons_zero, List.set_cons_succ]
            refine stp_fn 121 21 #[Operand.tmp 120, Operand.const (Value.int IntKind.i64 (-1))] #[27, 3] _ (sBit_to X (-1) _ (by decide) (by decide) 0 (bit_neg X)) rfl rfl rfl rfl Try.func21 (by kernel_rfl) (by kernel_rfl) (by go_simp) ?_
            rintro e w29 ⟨rfl, kk⟩
            refine ⟨_, rfl, kk, ?_⟩
            replace r_t3 := World.rowIs.of_block r_t3 (kk.block _ (World.rowIs.lt r_t3))
            replace r_t15 := World.rowIs.of_block r_t15 (kk.block _ (World.rowIs.lt r_t15))
            replace f_s24 := Bs.below f_s24 kk (Nat.le_refl _)
            replace f_s50 := Bs.below f_s50 kk (Nat.le_refl _)
            replace f_s74 := Bs.below f_s74 kk (Nat.le_refl _)
            have Bw67 := Bw66.trans (kk.mono (HGS.out _ Bw66))
            clear Bw66 kk
            simp only [Act.put, List.setIfInBounds_toArray, List.set_cons_zero, List.set_cons_succ]
            refine stp_fn 122 25 #[Operand.tmp 121, Operand.const (Value.int IntKind.i64 2)] #[3, 3] _ (round0_any _) rfl rfl rfl rfl Try.func25 (by kernel_rfl) (by kernel_rfl) (by go_simp) ?_
            rintro e w30 ⟨rfl, kk⟩
            refine ⟨_, rfl, kk, ?_⟩
            replace r_t3 := World.rowIs.of_block r_t3 (kk.block _ (World.rowIs.lt r_t3))
            replace r_t15 := World.rowIs.of_block r_t15 (kk.block _ (World.rowIs.lt r_t15))
            replace f_s24 := Bs.below f_s24 kk (Nat.le_refl _)
            replace f_s50 := Bs.below f_s50 kk (Nat.le_refl _)
            replace f_s74 := Bs.below f_s74 kk (Nat.le_refl _)
            have Bw68 := Bw67.trans (kk.mono (HGS.out _ Bw67))
            clear Bw67 kk
            simp only [Act.put, List.setIfInBounds_toArray, List.set_cons_zero, List.set_cons_succ]
            refine lint_pure 123 (Op.binOp BinOp.eql 3 (Operand.tmp 122) (Operand.const (Value.int IntKind.i64 0)) 3) 4 (.bool true) rfl rfl rfl rfl rfl (fun w0 hb0 => by unfold mkOp; go_simp) ?_
            simp only [Act.put, List.setIfInBounds_toArray, List.set_cons_zero, List.set_cons_succ]
            refine lint_pure 124 (Op.pick (Operand.tmp 119) (Operand.tmp 123) (Operand.const (Value.bool false))) 4 (.bool true) rfl rfl rfl rfl rfl (fun w0 hb0 => by unfold mkOp; go_simp; all_goals (with_reducible rfl)) ?_
            simp only [Act.put, List.setIfInBounds_toArray, List.set_cons_zero, List.set_cons_succ]
            refine lint_pure 125 (Op.move (Operand.tmp 124)) 4 (.bool true) rfl rfl rfl rfl rfl (fun w0 hb0 => by unfold mkOp; go_simp; all_goals (with_reducible rfl)) ?_
            simp only [Act.put, List.setIfInBounds_toArray, List.set_cons_zero, List.set_cons_succ]
            refine lint_pure 126 (Op.load 27 (Operand.tmp 3)) 27 (.agg (arrOf 4 (ewF X))) rfl rfl rfl rfl rfl (fun w0 hb0 => by exact exec_load_as _ _ _ _ (ewF X) rfl arrS (World.rowIs.of_block r_t3 (hb0.block _ (World.rowIs.lt r_t3))) (by omega) (fun i hi => by rw [Nat.zero_add])) ?_
            simp only [Act.put, List.setIfInBounds_toArray, List.set_cons_zero, List.set_cons_succ]
            refine stp_fn 127 21 #[Operand.tmp 126, Operand.const (Value.int IntKind.i64 256)] #[27, 3] _ (sBit_to X (256) _ (by decide) (by decide) 0 (bit_far X)) rfl rfl rfl rfl Try.func21 (by kernel_rfl) (by kernel_rfl) (by go_simp) ?_
            rintro e w31 ⟨rfl, kk⟩
            refine ⟨_, rfl, kk, ?_⟩
            replace r_t3 := World.rowIs.of_block r_t3 (kk.block _ (World.rowIs.lt r_t3))
            replace r_t15 := World.rowIs.of_block r_t15 (kk.block _ (World.rowIs.lt r_t15))
            replace f_s24 := Bs.below f_s24 kk (Nat.le_refl _)
            replace f_s50 := Bs.below f_s50 kk (Nat.le_refl _)
            replace f_s74 := Bs.below f_s74 kk (Nat.le_refl _)
            have Bw69 := Bw68.trans (kk.mono (HGS.out _ Bw68))
            clear Bw68 kk
            simp only [Act.put, List.setIfInBounds_toArray, List.set_cons_zero, List.set_cons_succ]
            refine lint_pure 128 (Op.binOp BinOp.eql 3 (Operand.tmp 127) (Operand.const (Value.int IntKind.i64 0)) 3) 4 (.bool true) rfl rfl rfl rfl rfl (fun w0 hb0 => by unfold mkOp; go_simp) ?_
            simp only [Act.put, List.setIfInBounds_toArray, List.set_cons_zero, List.set_cons_succ]
            refine lint_pure 129 (Op.pick (Operand.tmp 125) (Operand.tmp 128) (Operand.const (Value.bool false))) 4 (.bool true) rfl rfl rfl rfl rfl (fun w0 hb0 => by unfold mkOp; go_simp; all_goals (with_reducible rfl)) ?_
            simp only [Act.put, List.setIfInBounds_toArray, List.set_cons_zero, List.set_cons_succ]
            refine lint_pure 130 (Op.move (Operand.tmp 129)) 4 (.bool true) rfl rfl rfl rfl rfl (fun w0 hb0 => by unfold mkOp; go_simp; all_goals (with_reducible rfl)) ?_
            simp only [Act.put, List.setIfInBounds_toArray, List.set_cons_zero, List.set_cons_succ]
            refine stp_fn 131 8 #[] #[] _ (awake7_any _) rfl rfl rfl rfl Try.func8 (by kernel_rfl) (by kernel_rfl) (by go_simp) ?_
            rintro e w32 ⟨rfl, kk⟩
            refine ⟨_, rfl, kk, ?_⟩
            replace r_t3 := World.rowIs.of_block r_t3 (kk.block _ (World.rowIs.lt r_t3))
            replace r_t15 := World.rowIs.of_block r_t15 (kk.block _ (World.rowIs.lt r_t15))
            replace f_s24 := Bs.below f_s24 kk (Nat.le_refl _)
            replace f_s50 := Bs.below f_s50 kk (Nat.le_refl _)
            replace f_s74 := Bs.below f_s74 kk (Nat.le_refl _)
            have Bw70 := Bw69.trans (kk.mono (HGS.out _ Bw69))
            clear Bw69 kk
            simp only [Act.put, List.setIfInBounds_toArray, List.set_cons_zero, List.set_cons_succ]
            refine lint_pure 132 (Op.pick (Operand.tmp 130) (Operand.tmp 131) (Operand.const (Value.bool false))) 4 (.bool true) rfl rfl rfl rfl rfl (fun w0 hb0 => by unfold mkOp; go_simp; all_goals (with_reducible rfl)) ?_
            simp only [Act.put, List.setIfInBounds_toArray, List.set_cons_zero, List.set_cons_succ]
            refine lint_pure 2 (Op.assign (Operand.tmp 132)) 4 (.bool true) rfl rfl rfl rfl rfl (fun w0 hb0 => by unfold mkOp; go_simp; all_goals (with_reducible rfl)) ?_
            simp only [Act.put, List.setIfInBounds_toArray, List.set_cons_zero, List.set_cons_succ]
            refine lint_end ?_
            go_wp2
            go_ret
            exact ⟨rfl, Bw70⟩
  · have q0 : (100 : Int) < (n0 : Int) := by omega
    clear h0 hB0 e0 d0
    go_enter Try.func5, Try.ntmps5
    go_wp2_with (go_at_call 8; refine (awake7_any _).mono ?_; rintro e w9 ⟨rfl, hb9⟩)
    go_ret
    exact ⟨rfl, hb9⟩
end Go.Proofs.Ytncdlaidmiokiaa
