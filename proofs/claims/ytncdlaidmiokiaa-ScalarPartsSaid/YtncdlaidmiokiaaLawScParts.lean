/- ScalarParts, walked. -/
import Derived.Test.YtncdlaidmiokiaaSwF
namespace Go.Proofs.Ytncdlaidmiokiaa
open Go.RowKit Go.Deep
set_option linter.unusedSimpArgs false
set_option linter.unusedVariables false

theorem numL_app (l m : List UInt8) (h : l.length = 32) : ∀ k, numL ([] ++ l ++ m) (32 + k) = numL l 32 + 256 ^ 32 * numL m k
  | 0 => by
    rw [Nat.add_zero, show numL m 0 = 0 from rfl, Nat.mul_zero, Nat.add_zero]
    refine numL_congr 32 fun i hi => ?_
    rw [List.nil_append, List.getD_eq_getElem?_getD, List.getD_eq_getElem?_getD, List.getElem?_append_left (by omega)]
  | k + 1 => by
    show numL ([] ++ l ++ m) (32 + k) + (([] ++ l ++ m).getD (32 + k) 0).toNat * 256 ^ (32 + k) = numL l 32 + 256 ^ 32 * (numL m k + (m.getD k 0).toNat * 256 ^ k)
    rw [numL_app l m h k, Nat.mul_add]
    have e : ([] ++ l ++ m).getD (32 + k) 0 = m.getD k 0 := by
      rw [List.nil_append, List.getD_eq_getElem?_getD, List.getD_eq_getElem?_getD, List.getElem?_append_right (by omega), h, Nat.add_sub_cancel_left]
    rw [e, Nat.pow_add]
    have e2 : (m.getD k 0).toNat * (256 ^ 32 * 256 ^ k) = 256 ^ 32 * ((m.getD k 0).toNat * 256 ^ k) := by ac_rfl
    omega
theorem two256 : numL ((List.replicate 33 (0 : UInt8)).set 32 (UInt8.ofNat 1)) 64 = 256 ^ 32 := by decide +kernel
theorem parts_eq (l m : List UInt8) (h : l.length = 32) (h1 : m.length = 32) : numL ([] ++ l ++ m) 64 % ordL = (numL l 64 % ordL + 256 ^ 32 % ordL * (numL m 64 % ordL) % ordL) % ordL := by
  rw [numL_app l m h 32, wide_32 l h, wide_32 m h1]
  generalize (256 : Nat) ^ 32 = P
  generalize numL l 32 = a
  generalize numL m 32 = b
  rw [← Nat.mul_mod, ← Nat.add_mod]
set_option maxHeartbeats 8000000 in
set_option maxRecDepth 100000 in
theorem law_scalarParts (w : World) (v0 : Value) (l0 : List UInt8) (h0 : Bs w v0 l0) (v1 : Value) (l1 : List UInt8) (h1 : Bs w v1 l1) : Calls Try.prog 7 #[v0, v1] w fun e w' => e = .returned (.bool true) ∧ Below w.heap.size w w' := by
  obtain ⟨ad0, n0, c0, rfl, e0, y0, z0, hB0⟩ := h0.shape
  obtain ⟨ad1, n1, c1, rfl, e1, y1, z1, hB1⟩ := h1.shape
  by_cases d0 : n0 = 32
  · have q0 : (n0 : Int) = 32 := by omega
    by_cases d1 : n1 = 32
    · have q1 : (n1 : Int) = 32 := by omega
      have f_s0 := hB0
      have HF_s0 := Lib.hid hB0
      have f_s1 := hB1
      have HF_s1 := Lib.hid hB1
      have Bw0 := Below.refl w.heap.size w
      have HGS : Hid (∀ wq : World, Below w.heap.size w wq → w.heap.size ≤ wq.heap.size) := Lib.hid fun wq h => h.size
      have HL0 : Hid (l0.length = 32) := Lib.hid (by omega)
      have HL1 : Hid (l1.length = 32) := Lib.hid (by omega)
      subst d0
      subst d1
      have hpe := parts_eq l0 l1 HL0.out HL1.out
      obtain ⟨U, hU⟩ := nat_var (numL (l0) 64 % ordL)
      have HU : Hid (U < ordL) := Lib.hid (by rw [hU]; exact Nat.mod_lt _ ordL_pos)
      have HNU := Lib.hid hU.symm
      obtain ⟨V, hV⟩ := nat_var (numL (l1) 64 % ordL)
      have HV : Hid (V < ordL) := Lib.hid (by rw [hV]; exact Nat.mod_lt _ ordL_pos)
      have HNV := Lib.hid hV.symm
      obtain ⟨X, hX⟩ := nat_var (numL ([] ++ l0 ++ l1) 64 % ordL)
      have HX : Hid (X < ordL) := Lib.hid (by rw [hX]; exact Nat.mod_lt _ ordL_pos)
      have HNX := Lib.hid hX.symm
      obtain ⟨K, hK⟩ := nat_var (256 ^ 32 % ordL)
      have HK : Hid (K < ordL) := Lib.hid (by rw [hK]; exact Nat.mod_lt _ ordL_pos)
      obtain ⟨TL, hTL⟩ : ∃ T, T = (List.replicate 33 (0 : UInt8)).set 32 (UInt8.ofNat 1) := ⟨_, rfl⟩
      have HNK : Hid (numL TL 64 % ordL = K) := Lib.hid (by rw [hTL, two256, hK])
      rw [← hU, ← hV, ← hX, ← hK] at hpe
      have HPE : Hid (decide (X = (U + K * V % ordL) % ordL) = true) := Lib.hid (decide_eq_true hpe)
      have HTL := Lib.hid hTL
      have om := made_own w 33 (by unfold maxLen; omega)
      have b0 := (Below.refl w.heap.size w).alloc (Nat.le_refl _) (.cells (madeCells #[.int .u8 0] 33) 5)
      have hmk := run_make33
      have HL33 : Hid ((List.replicate 33 (0 : UInt8)).length = 33) := Lib.hid List.length_replicate
      clear h0 hB0 e0 h1 hB1 e1 hpe hU hV hX hK hTL Bw0 f_s0 f_s1
      go_enter Try.func7, Try.ntmps7
      go_wp2_with (first
        | (refine wpList_store_byte rfl (.tmp 18) (.const (.int .u8 1)) rfl 32 1 om HL33.out.symm (Nat.le_refl _) (by rw [HL33.out]; decide) rfl rfl (by decide) ?_; intro w1 o1 gs
           have b1 := b0.grown gs (HGS.out _ b0) (by intro k hk; cases hk; exact Nat.le_refl _)
           rw [← HTL.out] at o1
           have f_s5 := o1.bs
           have O1 := Owns.empty w1
           have k1 := (Below.refl w1.heap.size w1).alloc (Nat.le_refl _) (.cells #[] 5)
           have F1 := (HF_s0.out.below b1 (Nat.le_refl _)).below k1 (Nat.le_refl _)
           clear om b0 gs o1)
        | (refine wpList_app rfl (.tmp 19) (.tmp 20) rfl w1.heap.size _ _ [] l0 O1 F1 rfl rfl (by simp [HL0.out]) (by simp) ?_; intro v2 w2 o2 hgr
           have C2 := k1.grown hgr (by simp) (fun k hk => by simp [Value.ownBlock] at hk; omega)
           have F2 := (HF_s1.out.below b1 (Nat.le_refl _)).below C2 (Nat.le_refl _)
           clear O1 F1 k1 hgr)
        | (refine wpList_app rfl (.tmp 21) (.tmp 22) rfl w1.heap.size _ _ ([] ++ l0) l1 o2 F2 rfl rfl (by simp [HL0.out, HL1.out]) C2.size ?_; intro v3 w3 o3 hgr
           have C3 := C2.grown hgr C2.size (fun k hk => Owns.block o2 k hk)
           have Bw0 := b1.trans (C3.mono (HGS.out _ b1))
           replace f_s5 := f_s5.below C3 (Nat.le_refl _)
           have f_s0 := HF_s0.out.below Bw0 (Nat.le_refl _)
           have f_s1 := HF_s1.out.below Bw0 (Nat.le_refl _)
           have f_s23 := o3.bs
           clear o2 F2 C2 C3 b1 hgr o3)
        | (have hgo := Bw0; clear hgo
           go_at_call 9
           refine (sWide_to _ ([] ++ l0 ++ l1) _ f_s23 (X) HNX.out).mono ?_
           rintro e w1 ⟨rfl, kk⟩
           replace f_s0 := Bs.below f_s0 kk (Nat.le_refl _)
           replace f_s1 := Bs.below f_s1 kk (Nat.le_refl _)
           replace f_s5 := Bs.below f_s5 kk (Nat.le_refl _)
           replace f_s23 := Bs.below f_s23 kk (Nat.le_refl _)
           have Bw1 := Bw0.trans (kk.mono (HGS.out _ Bw0))
           clear Bw0 kk)
        | (have hgo := Bw1; clear hgo
           refine wpList_alloc_row rfl 27 rfl 4 (u64f fun _ => 0) zeroS ?_
           intro b_t6 w2 lk r_t6 kk
           have l_t6 := Nat.le_trans (HGS.out _ Bw1) lk
           have a_s0_t6 := Bs.away f_s0 lk
           have a_s1_t6 := Bs.away f_s1 lk
           have a_s5_t6 := Bs.away f_s5 lk
           have a_s23_t6 := Bs.away f_s23 lk
           replace f_s0 := Bs.below f_s0 kk (Nat.le_refl _)
           replace f_s1 := Bs.below f_s1 kk (Nat.le_refl _)
           replace f_s5 := Bs.below f_s5 kk (Nat.le_refl _)
           replace f_s23 := Bs.below f_s23 kk (Nat.le_refl _)
           have Bw2 := Bw1.trans (kk.mono (HGS.out _ Bw1))
           clear Bw1 kk lk)
        | (have hgo := Bw2; clear hgo
           refine wpList_store_as rfl 27 (.tmp 6) (.tmp 24) rfl 4 (ewF X) arrS r_t6 rfl rfl (by omega) (fun _ _ => rfl) (fun i hi => putN_whole hi) ?_
           intro w3 q gk
           replace r_t6 := q
           have Bw3 := Bw2.grown gk (HGS.out _ Bw2) (by intro k hk; cases hk; exact l_t6)
           replace f_s0 := gb_bs f_s0 gk a_s0_t6
           replace f_s1 := gb_bs f_s1 gk a_s1_t6
           replace f_s5 := gb_bs f_s5 gk a_s5_t6
           replace f_s23 := gb_bs f_s23 gk a_s23_t6
           clear Bw2 gk q))
      have Bw4 := Bw3.drew
      replace r_t6 := World.rowIs.drew r_t6
      replace f_s0 := Bs.drew f_s0
      replace f_s1 := Bs.drew f_s1
      replace f_s5 := Bs.drew f_s5
      replace f_s23 := Bs.drew f_s23
      clear Bw3
      refine wp_region_lint (.rd 0 (.rd 1 (.rd 3 (.rd 5 (.wr 2 (.wr 4 (.wr 6 (.wr 7 (.wr 8 (.wr 9 (.rd 10 (.rd 11 (.wr 12 (.rd 13 (.rd 14 (.rd 15 (.rd 16 (.wr 17 (.rd 18 (.rd 19 .done)))))))))))))))))))) (by kernel_rfl) (by kernel_rfl) (by decide) (by kernel_rfl) (fun d _ _ _ _ h => by cases d <;> exact h) ?_
      refine lint_pure 25 (Op.load 27 (Operand.tmp 6)) 27 (.agg (arrOf 4 (ewF X))) rfl rfl rfl rfl rfl (fun w0 hb0 => by exact exec_load_as _ _ _ _ (ewF X) rfl arrS (World.rowIs.of_block r_t6 (hb0.block _ (World.rowIs.lt r_t6))) (by omega) (fun i hi => by rw [Nat.zero_add])) ?_
      simp only [Act.put, List.setIfInBounds_toArray, List.set_cons_zero, List.set_cons_succ]
      refine lint_pure 26 (Op.move (Operand.tmp 0)) 22 (.slice ad0 32 c0) rfl rfl rfl rfl rfl (fun w0 hb0 => by unfold mkOp; go_simp; all_goals (with_reducible rfl)) ?_
      simp only [Act.put, List.setIfInBounds_toArray, List.set_cons_zero, List.set_cons_succ]
      refine lint_pure 28 (Op.move (Operand.tmp 5)) 22 (.slice (some ⟨w.heap.size, 0, none⟩) 33 33) rfl rfl rfl rfl rfl (fun w0 hb0 => by unfold mkOp; go_simp; all_goals (with_reducible rfl)) ?_
      simp only [Act.put, List.setIfInBounds_toArray, List.set_cons_zero, List.set_cons_succ]
      refine lint_pure 30 (Op.move (Operand.tmp 1)) 22 (.slice ad1 32 c1) rfl rfl rfl rfl rfl (fun w0 hb0 => by unfold mkOp; go_simp; all_goals (with_reducible rfl)) ?_
      simp only [Act.put, List.setIfInBounds_toArray, List.set_cons_zero, List.set_cons_succ]
      refine stp_fn 27 9 #[Operand.tmp 26] #[22] _ (sWide_to _ (l0) _ f_s0 (U) HNU.out) rfl rfl rfl rfl Try.func9 (by kernel_rfl) (by kernel_rfl) (by go_simp) ?_
      rintro e w4 ⟨rfl, kk⟩
      refine ⟨_, rfl, kk, ?_⟩
      replace r_t6 := World.rowIs.of_block r_t6 (kk.block _ (World.rowIs.lt r_t6))
      replace f_s0 := Bs.below f_s0 kk (Nat.le_refl _)
      replace f_s1 := Bs.below f_s1 kk (Nat.le_refl _)
      replace f_s5 := Bs.below f_s5 kk (Nat.le_refl _)
      replace f_s23 := Bs.below f_s23 kk (Nat.le_refl _)
      have Bw5 := Bw4.trans (kk.mono (HGS.out _ Bw4))
      clear Bw4 kk
      simp only [Act.put, List.setIfInBounds_toArray, List.set_cons_zero, List.set_cons_succ]
      refine stp_fn 29 9 #[Operand.tmp 28] #[22] _ (sWide_to _ (TL) _ f_s5 (K) HNK.out) rfl rfl rfl rfl Try.func9 (by kernel_rfl) (by kernel_rfl) (by go_simp) ?_
      rintro e w5 ⟨rfl, kk⟩
      refine ⟨_, rfl, kk, ?_⟩
      replace r_t6 := World.rowIs.of_block r_t6 (kk.block _ (World.rowIs.lt r_t6))
      replace f_s0 := Bs.below f_s0 kk (Nat.le_refl _)
      replace f_s1 := Bs.below f_s1 kk (Nat.le_refl _)
      replace f_s5 := Bs.below f_s5 kk (Nat.le_refl _)
      replace f_s23 := Bs.below f_s23 kk (Nat.le_refl _)
      have Bw6 := Bw5.trans (kk.mono (HGS.out _ Bw5))
      clear Bw5 kk
      simp only [Act.put, List.setIfInBounds_toArray, List.set_cons_zero, List.set_cons_succ]
      refine stp_fn 31 9 #[Operand.tmp 30] #[22] _ (sWide_to _ (l1) _ f_s1 (V) HNV.out) rfl rfl rfl rfl Try.func9 (by kernel_rfl) (by kernel_rfl) (by go_simp) ?_
      rintro e w6 ⟨rfl, kk⟩
      refine ⟨_, rfl, kk, ?_⟩
      replace r_t6 := World.rowIs.of_block r_t6 (kk.block _ (World.rowIs.lt r_t6))
      replace f_s0 := Bs.below f_s0 kk (Nat.le_refl _)
      replace f_s1 := Bs.below f_s1 kk (Nat.le_refl _)
      replace f_s5 := Bs.below f_s5 kk (Nat.le_refl _)
      replace f_s23 := Bs.below f_s23 kk (Nat.le_refl _)
      have Bw7 := Bw6.trans (kk.mono (HGS.out _ Bw6))
      clear Bw6 kk
      simp only [Act.put, List.setIfInBounds_toArray, List.set_cons_zero, List.set_cons_succ]
      refine stp_fn 32 16 #[Operand.tmp 29, Operand.tmp 31] #[27, 27] _ (sMul_any K V _ HK.out HV.out) rfl rfl rfl rfl Try.func16 (by kernel_rfl) (by kernel_rfl) (by go_simp) ?_
      rintro e w7 ⟨rfl, kk⟩
      refine ⟨_, rfl, kk, ?_⟩
      replace r_t6 := World.rowIs.of_block r_t6 (kk.block _ (World.rowIs.lt r_t6))
      replace f_s0 := Bs.below f_s0 kk (Nat.le_refl _)
      replace f_s1 := Bs.below f_s1 kk (Nat.le_refl _)
      replace f_s5 := Bs.below f_s5 kk (Nat.le_refl _)
      replace f_s23 := Bs.below f_s23 kk (Nat.le_refl _)
      have Bw8 := Bw7.trans (kk.mono (HGS.out _ Bw7))
      clear Bw7 kk
      simp only [Act.put, List.setIfInBounds_toArray, List.set_cons_zero, List.set_cons_succ]
      refine stp_fn 33 14 #[Operand.tmp 27, Operand.tmp 32] #[27, 27] _ (sAdd_any U ((K * V) % ordL) _ HU.out (Nat.mod_lt _ ordL_pos)) rfl rfl rfl rfl Try.func14 (by kernel_rfl) (by kernel_rfl) (by go_simp) ?_
      rintro e w8 ⟨rfl, kk⟩
      refine ⟨_, rfl, kk, ?_⟩
      replace r_t6 := World.rowIs.of_block r_t6 (kk.block _ (World.rowIs.lt r_t6))
      replace f_s0 := Bs.below f_s0 kk (Nat.le_refl _)
      replace f_s1 := Bs.below f_s1 kk (Nat.le_refl _)
      replace f_s5 := Bs.below f_s5 kk (Nat.le_refl _)
      replace f_s23 := Bs.below f_s23 kk (Nat.le_refl _)
      have Bw9 := Bw8.trans (kk.mono (HGS.out _ Bw8))
      clear Bw8 kk
      simp only [Act.put, List.setIfInBounds_toArray, List.set_cons_zero, List.set_cons_succ]
      refine stp_fn 34 20 #[Operand.tmp 25, Operand.tmp 33] #[27, 27] _ (same_to X ((U + ((K * V) % ordL)) % ordL) _ HX.out (Nat.mod_lt _ ordL_pos) HPE.out) rfl rfl rfl rfl Try.func20 (by kernel_rfl) (by kernel_rfl) (by go_simp) ?_
      rintro e w9 ⟨rfl, kk⟩
      refine ⟨_, rfl, kk, ?_⟩
      replace r_t6 := World.rowIs.of_block r_t6 (kk.block _ (World.rowIs.lt r_t6))
      replace f_s0 := Bs.below f_s0 kk (Nat.le_refl _)
      replace f_s1 := Bs.below f_s1 kk (Nat.le_refl _)
      replace f_s5 := Bs.below f_s5 kk (Nat.le_refl _)
      replace f_s23 := Bs.below f_s23 kk (Nat.le_refl _)
      have Bw10 := Bw9.trans (kk.mono (HGS.out _ Bw9))
      clear Bw9 kk
      simp only [Act.put, List.setIfInBounds_toArray, List.set_cons_zero, List.set_cons_succ]
      refine lint_pure 35 (Op.move (Operand.tmp 34)) 4 (.bool true) rfl rfl rfl rfl rfl (fun w0 hb0 => by unfold mkOp; go_simp; all_goals (with_reducible rfl)) ?_
      simp only [Act.put, List.setIfInBounds_toArray, List.set_cons_zero, List.set_cons_succ]
      refine lint_pure 36 (Op.load 27 (Operand.tmp 6)) 27 (.agg (arrOf 4 (ewF X))) rfl rfl rfl rfl rfl (fun w0 hb0 => by exact exec_load_as _ _ _ _ (ewF X) rfl arrS (World.rowIs.of_block r_t6 (hb0.block _ (World.rowIs.lt r_t6))) (by omega) (fun i hi => by rw [Nat.zero_add])) ?_
      simp only [Act.put, List.setIfInBounds_toArray, List.set_cons_zero, List.set_cons_succ]
      refine stp_fn 37 23 #[Operand.tmp 36] #[27] _ (sBytes_any X _) rfl rfl rfl rfl Try.func23 (by kernel_rfl) (by kernel_rfl) (by go_simp) ?_
      rintro e w10 ⟨v_s37, rfl, o_s37, kk⟩
      refine ⟨_, rfl, kk, ?_⟩
      replace r_t6 := World.rowIs.of_block r_t6 (kk.block _ (World.rowIs.lt r_t6))
      replace f_s0 := Bs.below f_s0 kk (Nat.le_refl _)
      replace f_s1 := Bs.below f_s1 kk (Nat.le_refl _)
      replace f_s5 := Bs.below f_s5 kk (Nat.le_refl _)
      replace f_s23 := Bs.below f_s23 kk (Nat.le_refl _)
      have Bw11 := Bw10.trans (kk.mono (HGS.out _ Bw10))
      clear Bw10 kk
      have f_s37 := o_s37.bs
      clear o_s37
      simp only [Act.put, List.setIfInBounds_toArray, List.set_cons_zero, List.set_cons_succ]
      refine lint_pure 38 (Op.call { callee := Callee.builtin Builtin.len, args := #[Operand.tmp 37], argTypes := #[22] }) 3 (.int .i64 32) rfl rfl rfl rfl rfl (fun w0 hb0 => by have h9 := fun ρ (hx : ρ (Operand.tmp 37) = v_s37) => exec_blen (w := w0) ρ (.tmp 37) hx (Bs.below f_s37 hb0 (Nat.le_refl _)); simp only [litB_length] at h9; exact h9 _ rfl) ?_
      simp only [Act.put, List.setIfInBounds_toArray, List.set_cons_zero, List.set_cons_succ]
      refine lint_pure 39 (Op.binOp BinOp.eql 3 (Operand.tmp 38) (Operand.const (Value.int IntKind.i64 32)) 3) 4 (.bool true) rfl rfl rfl rfl rfl (fun w0 hb0 => by unfold mkOp; go_simp) ?_
      simp only [Act.put, List.setIfInBounds_toArray, List.set_cons_zero, List.set_cons_succ]
      refine lint_pure 40 (Op.pick (Operand.tmp 35) (Operand.tmp 39) (Operand.const (Value.bool false))) 4 (.bool true) rfl rfl rfl rfl rfl (fun w0 hb0 => by unfold mkOp; go_simp; all_goals (with_reducible rfl)) ?_
      simp only [Act.put, List.setIfInBounds_toArray, List.set_cons_zero, List.set_cons_succ]
      refine lint_pure 41 (Op.move (Operand.tmp 40)) 4 (.bool true) rfl rfl rfl rfl rfl (fun w0 hb0 => by unfold mkOp; go_simp; all_goals (with_reducible rfl)) ?_
      simp only [Act.put, List.setIfInBounds_toArray, List.set_cons_zero, List.set_cons_succ]
      refine stp_fn 42 8 #[] #[] _ (awake7_any _) rfl rfl rfl rfl Try.func8 (by kernel_rfl) (by kernel_rfl) (by go_simp) ?_
      rintro e w11 ⟨rfl, kk⟩
      refine ⟨_, rfl, kk, ?_⟩
      replace r_t6 := World.rowIs.of_block r_t6 (kk.block _ (World.rowIs.lt r_t6))
      replace f_s0 := Bs.below f_s0 kk (Nat.le_refl _)
      replace f_s1 := Bs.below f_s1 kk (Nat.le_refl _)
      replace f_s5 := Bs.below f_s5 kk (Nat.le_refl _)
      replace f_s23 := Bs.below f_s23 kk (Nat.le_refl _)
      replace f_s37 := Bs.below f_s37 kk (Nat.le_refl _)
      have Bw12 := Bw11.trans (kk.mono (HGS.out _ Bw11))
      clear Bw11 kk
      simp only [Act.put, List.setIfInBounds_toArray, List.set_cons_zero, List.set_cons_succ]
      refine lint_pure 43 (Op.pick (Operand.tmp 41) (Operand.tmp 42) (Operand.const (Value.bool false))) 4 (.bool true) rfl rfl rfl rfl rfl (fun w0 hb0 => by unfold mkOp; go_simp; all_goals (with_reducible rfl)) ?_
      simp only [Act.put, List.setIfInBounds_toArray, List.set_cons_zero, List.set_cons_succ]
      refine lint_pure 4 (Op.assign (Operand.tmp 43)) 4 (.bool true) rfl rfl rfl rfl rfl (fun w0 hb0 => by unfold mkOp; go_simp; all_goals (with_reducible rfl)) ?_
      simp only [Act.put, List.setIfInBounds_toArray, List.set_cons_zero, List.set_cons_succ]
      refine lint_end ?_
      go_wp2
      go_ret
      exact ⟨rfl, Bw12⟩
    · have q1 : ¬ (n1 : Int) = 32 := by omega
      clear h0 hB0 e0 h1 hB1 e1 d0 d1
      go_enter Try.func7, Try.ntmps7
      go_wp2_with (go_at_call 8; refine (awake7_any _).mono ?_; rintro e w9 ⟨rfl, hb9⟩)
      go_ret
      exact ⟨rfl, hb9⟩
  · have q0 : ¬ (n0 : Int) = 32 := by omega
    clear h0 hB0 e0 h1 hB1 e1 d0
    go_enter Try.func7, Try.ntmps7
    go_wp2_with (go_at_call 8; refine (awake7_any _).mono ?_; rintro e w9 ⟨rfl, hb9⟩)
    go_ret
    exact ⟨rfl, hb9⟩
end Go.Proofs.Ytncdlaidmiokiaa
