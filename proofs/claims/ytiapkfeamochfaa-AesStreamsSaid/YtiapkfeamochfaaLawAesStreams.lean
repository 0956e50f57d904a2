/- AesStreams, walked. -/
import Derived.Test.YtiapkfeamochfaaMM3
namespace Go.Proofs.Ytiapkfeamochfaa
open Go.RowKit Go.Deep
set_option linter.unusedSimpArgs false
set_option linter.unusedVariables false

set_option maxHeartbeats 8000000 in
set_option maxRecDepth 100000 in
theorem law_aesStreams (w : World) (v0 : Value) (l0 : List UInt8) (h0 : Bs w v0 l0) (v1 : Value) (l1 : List UInt8) (h1 : Bs w v1 l1) (x2 : Int) (w2 : (Lit.int .i64 x2).wf = true) (v3 : Value) (l3 : List UInt8) (h3 : Bs w v3 l3) : Calls Try.prog 4 #[v0, v1, .int .i64 x2, v3] w fun e w' => e = .returned (.bool true) ∧ Below w.heap.size w w' := by
  obtain ⟨ad0, n0, c0, rfl, e0, y0, z0, hB0⟩ := h0.shape
  obtain ⟨ad1, n1, c1, rfl, e1, y1, z1, hB1⟩ := h1.shape
  obtain ⟨ad3, n3, c3, rfl, e3, y3, z3, hB3⟩ := h3.shape
  by_cases d0 : n0 ≤ 40
  · have q0 : ¬ (40 : Int) < (n0 : Int) := by omega
    by_cases d1 : n1 ≤ 40
    · have q1 : ¬ (40 : Int) < (n1 : Int) := by omega
      by_cases d2 : x2 ≤ 300
      · have q2 : ¬ (300 : Int) < x2 := by omega
        by_cases d3 : n3 ≤ 300
        · have q3 : ¬ (300 : Int) < (n3 : Int) := by omega
          have HL0 : Hid (l0.length = n0) := Lib.hid e0
          have f_s_0 := hB0
          have HF_s_0 := Lib.hid hB0
          have HL1 : Hid (l1.length = n1) := Lib.hid e1
          have f_s_1 := hB1
          have HF_s_1 := Lib.hid hB1
          have HL3 : Hid (l3.length = n3) := Lib.hid e3
          have f_s_3 := hB3
          have HF_s_3 := Lib.hid hB3
          have Bw0 := Below.refl w.heap.size w
          have HGS : Hid (∀ wq : World, Below w.heap.size w wq → w.heap.size ≤ wq.heap.size) := Lib.hid fun wq h => h.size
          obtain ⟨XE, hXE⟩ : ∃ E, E = stE l0 l1 x2 := ⟨_, rfl⟩
          obtain ⟨XL, hXL⟩ : ∃ E, E = stL l0 l1 x2 := ⟨_, rfl⟩
          have HP := Lib.hid fun v u w h0 h1 => pStream_to v l0 u l1 x2 w h0 h1
          have HR := Lib.hid fun v u w h0 h1 => rStream_to v l0 u l1 x2 w h0 h1
          rw [← hXE, ← hXL] at HP HR
          obtain ⟨YE, hYE⟩ : ∃ E, E = stE l0 l1 (l3.length : Int) := ⟨_, rfl⟩
          obtain ⟨YL, hYL⟩ : ∃ E, E = stL l0 l1 (l3.length : Int) := ⟨_, rfl⟩
          have HC := Lib.hid fun v u t w h0 h1 h3 => pCrypt_to v l0 u l1 t l3 w h0 h1 h3
          have HS := Lib.hid fun v u w h0 h1 => rStream_to v l0 u l1 (l3.length : Int) w h0 h1
          rw [← hYE, ← hYL] at HC HS
          have HN3 : Hid (l3.length ≤ 2147480000) := Lib.hid (by omega)
          rw [e3] at HS
          clear hXE hXL hYE hYL h0 h1 h3 hB0 hB1 hB3 e0 e1 e3 w2 d0 d1 d2 d3
          go_enter Try.func4, Try.ntmps4
          go_wp2_with (first
            | (have hgo := Bw0; clear hgo
               go_at_call 14
               refine (HP.out _ _ _ f_s_0 f_s_1).mono ?_
               rintro e w26 ⟨v_s43, rfl, f_s43, kk⟩
               replace f_s_0 := zfb f_s_0 kk
               replace f_s_1 := zfb f_s_1 kk
               replace f_s_3 := zfb f_s_3 kk
               have Bw1 := zbt HGS Bw0 kk
               clear Bw0 kk)
            | (have hgo := Bw1; clear hgo
               go_at_call 15
               refine (HR.out _ _ _ f_s_0 f_s_1).mono ?_
               rintro e w35 ⟨v_s50, rfl, f_s50, kk⟩
               replace f_s_0 := zfb f_s_0 kk
               replace f_s_1 := zfb f_s_1 kk
               replace f_s_3 := zfb f_s_3 kk
               replace f_s43 := zfb f_s43 kk
               have Bw2 := zbt HGS Bw1 kk
               clear Bw1 kk)
            | (have hgo := Bw2; clear hgo
               go_at_call 16
               refine (HC.out _ _ _ _ f_s_0 f_s_1 f_s_3).mono ?_
               rintro e w44 ⟨v_s57, rfl, f_s57, kk⟩
               replace f_s_0 := zfb f_s_0 kk
               replace f_s_1 := zfb f_s_1 kk
               replace f_s_3 := zfb f_s_3 kk
               replace f_s43 := zfb f_s43 kk
               replace f_s50 := zfb f_s50 kk
               have Bw3 := zbt HGS Bw2 kk
               clear Bw2 kk)
            | (have hgo := Bw3; clear hgo
               go_at_call 15
               refine (HS.out _ _ _ f_s_0 f_s_1).mono ?_
               rintro e w54 ⟨v_s65, rfl, f_s65, kk⟩
               replace f_s_0 := zfb f_s_0 kk
               replace f_s_1 := zfb f_s_1 kk
               replace f_s_3 := zfb f_s_3 kk
               replace f_s43 := zfb f_s43 kk
               replace f_s50 := zfb f_s50 kk
               replace f_s57 := zfb f_s57 kk
               have Bw4 := zbt HGS Bw3 kk
               clear Bw3 kk))
          have Bw5 := Bw4.drew
          replace f_s_0 := Bs.drew f_s_0
          replace f_s_1 := Bs.drew f_s_1
          replace f_s_3 := Bs.drew f_s_3
          replace f_s43 := Bs.drew f_s43
          replace f_s50 := Bs.drew f_s50
          replace f_s57 := Bs.drew f_s57
          replace f_s65 := Bs.drew f_s65
          clear Bw4
          refine wp_region_lint (.rd 0 (.rd 1 (.rd 2 (.rd 3 (.rd 4 (.rd 5 (.rd 6 (.rd 7 (.rd 8 (.rd 9 (.rd 10 (.rd 11 (.rd 12 (.rd 13 (.rd 14 (.wr 15 (.rd 16 (.rd 17 (.rd 18 (.rd 19 (.rd 20 (.rd 21 (.rd 22 (.rd 23 (.rd 24 (.wr 25 (.rd 26 (.rd 27 .done)))))))))))))))))))))))))))) (by kernel_rfl) (by kernel_rfl) (by decide) (by kernel_rfl) (fun d _ _ _ _ h => by cases d <;> exact h) ?_
          refine lint_pure 68 (Op.move (Operand.tmp 9)) 22 (v_s43) rfl rfl rfl rfl rfl (fun w0 hb0 => by unfold mkOp; go_simp; all_goals (with_reducible rfl)) ?_
          simp only [Act.put, zA, zB, zC]
          refine lint_conv 69 (.tmp 68) _ _ rfl rfl rfl rfl rfl f_s43 ?_
          simp only [Act.put, zA, zB, zC]
          refine lint_pure 70 (Op.move (Operand.tmp 11)) 22 (v_s50) rfl rfl rfl rfl rfl (fun w0 hb0 => by unfold mkOp; go_simp; all_goals (with_reducible rfl)) ?_
          simp only [Act.put, zA, zB, zC]
          refine lint_conv 71 (.tmp 70) _ _ rfl rfl rfl rfl rfl f_s50 ?_
          simp only [Act.put, zA, zB, zC]
          refine lint_pure 72 (Op.binOp BinOp.eql 9 (Operand.tmp 69) (Operand.tmp 71) 9) 4 (.bool true) rfl rfl rfl rfl rfl (fun w0 hb0 => by exact exec_str_yes _ _ _ _ (rfl) rfl rfl) ?_
          simp only [Act.put, zA, zB, zC]
          refine lint_pure 73 (Op.move (Operand.tmp 72)) 4 (.bool true) rfl rfl rfl rfl rfl (fun w0 hb0 => by unfold mkOp; go_simp; all_goals (with_reducible rfl)) ?_
          simp only [Act.put, zA, zB, zC]
          refine lint_pure 74 (Op.move (Operand.tmp 10)) 24 (.int .i64 XE) rfl rfl rfl rfl rfl (fun w0 hb0 => by unfold mkOp; go_simp; all_goals (with_reducible rfl)) ?_
          simp only [Act.put, zA, zB, zC]
          refine lint_pure 75 (Op.move (Operand.tmp 12)) 3 (.int .i64 XE) rfl rfl rfl rfl rfl (fun w0 hb0 => by unfold mkOp; go_simp; all_goals (with_reducible rfl)) ?_
          simp only [Act.put, zA, zB, zC]
          refine lint_pure 76 (Op.binOp BinOp.eql 3 (Operand.tmp 74) (Operand.tmp 75) 3) 4 (.bool true) rfl rfl rfl rfl rfl (fun w0 hb0 => by unfold mkOp; go_simp; all_goals (with_reducible rfl)) ?_
          simp only [Act.put, zA, zB, zC]
          refine lint_pure 77 (Op.pick (Operand.tmp 73) (Operand.tmp 76) (Operand.const (Value.bool false))) 4 (.bool true) rfl rfl rfl rfl rfl (fun w0 hb0 => by unfold mkOp; go_simp; all_goals (with_reducible rfl)) ?_
          simp only [Act.put, zA, zB, zC]
          refine lint_pure 78 (Op.move (Operand.tmp 77)) 4 (.bool true) rfl rfl rfl rfl rfl (fun w0 hb0 => by unfold mkOp; go_simp; all_goals (with_reducible rfl)) ?_
          simp only [Act.put, zA, zB, zC]
          refine lint_pure 79 (Op.move (Operand.tmp 13)) 22 (v_s57) rfl rfl rfl rfl rfl (fun w0 hb0 => by unfold mkOp; go_simp; all_goals (with_reducible rfl)) ?_
          simp only [Act.put, zA, zB, zC]
          refine lint_conv 80 (.tmp 79) _ _ rfl rfl rfl rfl rfl f_s57 ?_
          simp only [Act.put, zA, zB, zC]
          refine lint_pure 81 (Op.move (Operand.tmp 3)) 22 (.slice ad3 n3 c3) rfl rfl rfl rfl rfl (fun w0 hb0 => by unfold mkOp; go_simp; all_goals (with_reducible rfl)) ?_
          simp only [Act.put, zA, zB, zC]
          refine lint_pure 82 (Op.move (Operand.tmp 15)) 22 (v_s65) rfl rfl rfl rfl rfl (fun w0 hb0 => by unfold mkOp; go_simp; all_goals (with_reducible rfl)) ?_
          simp only [Act.put, zA, zB, zC]
          refine stp_fn 83 17 #[Operand.tmp 81, Operand.tmp 82] #[22, 22] _ (refXor_any _ _ l3 YL _ f_s_3 f_s65 HN3.out) rfl rfl rfl rfl Try.func17 (by kernel_rfl) (by kernel_rfl) (by go_simp) ?_
          rintro e w60 ⟨v_s83, rfl, f_s83, kk⟩
          refine ⟨_, rfl, kk, ?_⟩
          replace f_s_0 := zfb f_s_0 kk
          replace f_s_1 := zfb f_s_1 kk
          replace f_s_3 := zfb f_s_3 kk
          replace f_s43 := zfb f_s43 kk
          replace f_s50 := zfb f_s50 kk
          replace f_s57 := zfb f_s57 kk
          replace f_s65 := zfb f_s65 kk
          have Bw6 := zbt HGS Bw5 kk
          clear Bw5 kk
          simp only [Act.put, zA, zB, zC]
          refine lint_conv 84 (.tmp 83) _ _ rfl rfl rfl rfl rfl f_s83 ?_
          simp only [Act.put, zA, zB, zC]
          refine lint_pure 85 (Op.binOp BinOp.eql 9 (Operand.tmp 80) (Operand.tmp 84) 9) 4 (.bool true) rfl rfl rfl rfl rfl (fun w0 hb0 => by exact exec_str_yes _ _ _ _ (rfl) rfl rfl) ?_
          simp only [Act.put, zA, zB, zC]
          refine lint_pure 86 (Op.pick (Operand.tmp 78) (Operand.tmp 85) (Operand.const (Value.bool false))) 4 (.bool true) rfl rfl rfl rfl rfl (fun w0 hb0 => by unfold mkOp; go_simp; all_goals (with_reducible rfl)) ?_
          simp only [Act.put, zA, zB, zC]
          refine lint_pure 87 (Op.move (Operand.tmp 86)) 4 (.bool true) rfl rfl rfl rfl rfl (fun w0 hb0 => by unfold mkOp; go_simp; all_goals (with_reducible rfl)) ?_
          simp only [Act.put, zA, zB, zC]
          refine lint_pure 88 (Op.move (Operand.tmp 14)) 24 (.int .i64 YE) rfl rfl rfl rfl rfl (fun w0 hb0 => by unfold mkOp; go_simp; all_goals (with_reducible rfl)) ?_
          simp only [Act.put, zA, zB, zC]
          refine lint_pure 89 (Op.move (Operand.tmp 16)) 3 (.int .i64 YE) rfl rfl rfl rfl rfl (fun w0 hb0 => by unfold mkOp; go_simp; all_goals (with_reducible rfl)) ?_
          simp only [Act.put, zA, zB, zC]
          refine lint_pure 90 (Op.binOp BinOp.eql 3 (Operand.tmp 88) (Operand.tmp 89) 3) 4 (.bool true) rfl rfl rfl rfl rfl (fun w0 hb0 => by unfold mkOp; go_simp; all_goals (with_reducible rfl)) ?_
          simp only [Act.put, zA, zB, zC]
          refine lint_pure 91 (Op.pick (Operand.tmp 87) (Operand.tmp 90) (Operand.const (Value.bool false))) 4 (.bool true) rfl rfl rfl rfl rfl (fun w0 hb0 => by unfold mkOp; go_simp; all_goals (with_reducible rfl)) ?_
          simp only [Act.put, zA, zB, zC]
          refine lint_pure 92 (Op.move (Operand.tmp 91)) 4 (.bool true) rfl rfl rfl rfl rfl (fun w0 hb0 => by unfold mkOp; go_simp; all_goals (with_reducible rfl)) ?_
          simp only [Act.put, zA, zB, zC]
          refine stp_fn 93 9 #[] #[] _ (awake12_any _) rfl rfl rfl rfl Try.func9 (by kernel_rfl) (by kernel_rfl) (by go_simp) ?_
          rintro e w61 ⟨rfl, kk⟩
          refine ⟨_, rfl, kk, ?_⟩
          replace f_s_0 := zfb f_s_0 kk
          replace f_s_1 := zfb f_s_1 kk
          replace f_s_3 := zfb f_s_3 kk
          replace f_s43 := zfb f_s43 kk
          replace f_s50 := zfb f_s50 kk
          replace f_s57 := zfb f_s57 kk
          replace f_s65 := zfb f_s65 kk
          replace f_s83 := zfb f_s83 kk
          have Bw7 := zbt HGS Bw6 kk
          clear Bw6 kk
          simp only [Act.put, zA, zB, zC]
          refine lint_pure 94 (Op.pick (Operand.tmp 92) (Operand.tmp 93) (Operand.const (Value.bool false))) 4 (.bool true) rfl rfl rfl rfl rfl (fun w0 hb0 => by unfold mkOp; go_simp; all_goals (with_reducible rfl)) ?_
          simp only [Act.put, zA, zB, zC]
          refine lint_pure 8 (Op.assign (Operand.tmp 94)) 4 (.bool true) rfl rfl rfl rfl rfl (fun w0 hb0 => by unfold mkOp; go_simp; all_goals (with_reducible rfl)) ?_
          simp only [Act.put, zA, zB, zC]
          refine lint_end ?_
          go_wp2
          go_ret
          exact ⟨rfl, Bw7⟩
        · have q3 : (300 : Int) < (n3 : Int) := by omega
          clear h0 hB0 e0 h1 hB1 e1 h3 hB3 e3 d0 d1 d2 d3
          go_enter Try.func4, Try.ntmps4
          go_wp2_with (go_at_call 9; refine (awake12_any _).mono ?_; rintro e w9 ⟨rfl, hb9⟩)
          go_ret
          exact ⟨rfl, hb9⟩
      · have q2 : (300 : Int) < x2 := by omega
        by_cases d3 : x2 ≤ 1048576
        · have q3 : x2 ≤ (1048576 : Int) := by omega
          clear h0 hB0 e0 h1 hB1 e1 h3 hB3 e3 d0 d1 d2 d3
          go_enter Try.func4, Try.ntmps4
          go_wp2_with (go_at_call 9; refine (awake12_any _).mono ?_; rintro e w9 ⟨rfl, hb9⟩)
          go_ret
          exact ⟨rfl, hb9⟩
        · have q3 : ¬ x2 ≤ (1048576 : Int) := by omega
          by_cases d4 : n3 ≤ 300
          · have q4 : ¬ (300 : Int) < (n3 : Int) := by omega
            have HL0 : Hid (l0.length = n0) := Lib.hid e0
            have f_s_0 := hB0
            have HF_s_0 := Lib.hid hB0
            have HL1 : Hid (l1.length = n1) := Lib.hid e1
            have f_s_1 := hB1
            have HF_s_1 := Lib.hid hB1
            have HL3 : Hid (l3.length = n3) := Lib.hid e3
            have f_s_3 := hB3
            have HF_s_3 := Lib.hid hB3
            have Bw0 := Below.refl w.heap.size w
            have HGS : Hid (∀ wq : World, Below w.heap.size w wq → w.heap.size ≤ wq.heap.size) := Lib.hid fun wq h => h.size
            obtain ⟨XE, hXE⟩ : ∃ E, E = stE l0 l1 x2 := ⟨_, rfl⟩
            obtain ⟨XL, hXL⟩ : ∃ E, E = stL l0 l1 x2 := ⟨_, rfl⟩
            have HP := Lib.hid fun v u w h0 h1 => pStream_to v l0 u l1 x2 w h0 h1
            have HR := Lib.hid fun v u w h0 h1 => rStream_to v l0 u l1 x2 w h0 h1
            rw [← hXE, ← hXL] at HP HR
            obtain ⟨YE, hYE⟩ : ∃ E, E = stE l0 l1 (l3.length : Int) := ⟨_, rfl⟩
            obtain ⟨YL, hYL⟩ : ∃ E, E = stL l0 l1 (l3.length : Int) := ⟨_, rfl⟩
            have HC := Lib.hid fun v u t w h0 h1 h3 => pCrypt_to v l0 u l1 t l3 w h0 h1 h3
            have HS := Lib.hid fun v u w h0 h1 => rStream_to v l0 u l1 (l3.length : Int) w h0 h1
            rw [← hYE, ← hYL] at HC HS
            have HN3 : Hid (l3.length ≤ 2147480000) := Lib.hid (by omega)
            rw [e3] at HS
            clear hXE hXL hYE hYL h0 h1 h3 hB0 hB1 hB3 e0 e1 e3 w2 d0 d1 d2 d3 d4
            go_enter Try.func4, Try.ntmps4
            go_wp2_with (first
              | (have hgo := Bw0; clear hgo
                 go_at_call 14
                 refine (HP.out _ _ _ f_s_0 f_s_1).mono ?_
                 rintro e w26 ⟨v_s43, rfl, f_s43, kk⟩
                 replace f_s_0 := zfb f_s_0 kk
                 replace f_s_1 := zfb f_s_1 kk
                 replace f_s_3 := zfb f_s_3 kk
                 have Bw1 := zbt HGS Bw0 kk
                 clear Bw0 kk)
              | (have hgo := Bw1; clear hgo
                 go_at_call 15
                 refine (HR.out _ _ _ f_s_0 f_s_1).mono ?_
                 rintro e w35 ⟨v_s50, rfl, f_s50, kk⟩
                 replace f_s_0 := zfb f_s_0 kk
                 replace f_s_1 := zfb f_s_1 kk
                 replace f_s_3 := zfb f_s_3 kk
                 replace f_s43 := zfb f_s43 kk
                 have Bw2 := zbt HGS Bw1 kk
                 clear Bw1 kk)
              | (have hgo := Bw2; clear hgo
                 go_at_call 16
                 refine (HC.out _ _ _ _ f_s_0 f_s_1 f_s_3).mono ?_
                 rintro e w44 ⟨v_s57, rfl, f_s57, kk⟩
                 replace f_s_0 := zfb f_s_0 kk
                 replace f_s_1 := zfb f_s_1 kk
                 replace f_s_3 := zfb f_s_3 kk
                 replace f_s43 := zfb f_s43 kk
                 replace f_s50 := zfb f_s50 kk
                 have Bw3 := zbt HGS Bw2 kk
                 clear Bw2 kk)
              | (have hgo := Bw3; clear hgo
                 go_at_call 15
                 refine (HS.out _ _ _ f_s_0 f_s_1).mono ?_
                 rintro e w54 ⟨v_s65, rfl, f_s65, kk⟩
                 replace f_s_0 := zfb f_s_0 kk
                 replace f_s_1 := zfb f_s_1 kk
                 replace f_s_3 := zfb f_s_3 kk
                 replace f_s43 := zfb f_s43 kk
                 replace f_s50 := zfb f_s50 kk
                 replace f_s57 := zfb f_s57 kk
                 have Bw4 := zbt HGS Bw3 kk
                 clear Bw3 kk))
            have Bw5 := Bw4.drew
            replace f_s_0 := Bs.drew f_s_0
            replace f_s_1 := Bs.drew f_s_1
            replace f_s_3 := Bs.drew f_s_3
            replace f_s43 := Bs.drew f_s43
            replace f_s50 := Bs.drew f_s50
            replace f_s57 := Bs.drew f_s57
            replace f_s65 := Bs.drew f_s65
            clear Bw4
            refine wp_region_lint (.rd 0 (.rd 1 (.rd 2 (.rd 3 (.rd 4 (.rd 5 (.rd 6 (.rd 7 (.rd 8 (.rd 9 (.rd 10 (.rd 11 (.rd 12 (.rd 13 (.rd 14 (.wr 15 (.rd 16 (.rd 17 (.rd 18 (.rd 19 (.rd 20 (.rd 21 (.rd 22 (.rd 23 (.rd 24 (.wr 25 (.rd 26 (.rd 27 .done)))))))))))))))))))))))))))) (by kernel_rfl) (by kernel_rfl) (by decide) (by kernel_rfl) (fun d _ _ _ _ h => by cases d <;> exact h) ?_
            refine lint_pure 68 (Op.move (Operand.tmp 9)) 22 (v_s43) rfl rfl rfl rfl rfl (fun w0 hb0 => by unfold mkOp; go_simp; all_goals (with_reducible rfl)) ?_
            simp only [Act.put, zA, zB, zC]
            refine lint_conv 69 (.tmp 68) _ _ rfl rfl rfl rfl rfl f_s43 ?_
            simp only [Act.put, zA, zB, zC]
            refine lint_pure 70 (Op.move (Operand.tmp 11)) 22 (v_s50) rfl rfl rfl rfl rfl (fun w0 hb0 => by unfold mkOp; go_simp; all_goals (with_reducible rfl)) ?_
            simp only [Act.put, zA, zB, zC]
            refine lint_conv 71 (.tmp 70) _ _ rfl rfl rfl rfl rfl f_s50 ?_
            simp only [Act.put, zA, zB, zC]
            refine lint_pure 72 (Op.binOp BinOp.eql 9 (Operand.tmp 69) (Operand.tmp 71) 9) 4 (.bool true) rfl rfl rfl rfl rfl (fun w0 hb0 => by exact exec_str_yes _ _ _ _ (rfl) rfl rfl) ?_
            simp only [Act.put, zA, zB, zC]
            refine lint_pure 73 (Op.move (Operand.tmp 72)) 4 (.bool true) rfl rfl rfl rfl rfl (fun w0 hb0 => by unfold mkOp; go_simp; all_goals (with_reducible rfl)) ?_
            simp only [Act.put, zA, zB, zC]
            refine lint_pure 74 (Op.move (Operand.tmp 10)) 24 (.int .i64 XE) rfl rfl rfl rfl rfl (fun w0 hb0 => by unfold mkOp; go_simp; all_goals (with_reducible rfl)) ?_
            simp only [Act.put, zA, zB, zC]
            refine lint_pure 75 (Op.move (Operand.tmp 12)) 3 (.int .i64 XE) rfl rfl rfl rfl rfl (fun w0 hb0 => by unfold mkOp; go_simp; all_goals (with_reducible rfl)) ?_
            simp only [Act.put, zA, zB, zC]
            refine lint_pure 76 (Op.binOp BinOp.eql 3 (Operand.tmp 74) (Operand.tmp 75) 3) 4 (.bool true) rfl rfl rfl rfl rfl (fun w0 hb0 => by unfold mkOp; go_simp; all_goals (with_reducible rfl)) ?_
            simp only [Act.put, zA, zB, zC]
            refine lint_pure 77 (Op.pick (Operand.tmp 73) (Operand.tmp 76) (Operand.const (Value.bool false))) 4 (.bool true) rfl rfl rfl rfl rfl (fun w0 hb0 => by unfold mkOp; go_simp; all_goals (with_reducible rfl)) ?_
            simp only [Act.put, zA, zB, zC]
            refine lint_pure 78 (Op.move (Operand.tmp 77)) 4 (.bool true) rfl rfl rfl rfl rfl (fun w0 hb0 => by unfold mkOp; go_simp; all_goals (with_reducible rfl)) ?_
            simp only [Act.put, zA, zB, zC]
            refine lint_pure 79 (Op.move (Operand.tmp 13)) 22 (v_s57) rfl rfl rfl rfl rfl (fun w0 hb0 => by unfold mkOp; go_simp; all_goals (with_reducible rfl)) ?_
            simp only [Act.put, zA, zB, zC]
            refine lint_conv 80 (.tmp 79) _ _ rfl rfl rfl rfl rfl f_s57 ?_
            simp only [Act.put, zA, zB, zC]
            refine lint_pure 81 (Op.move (Operand.tmp 3)) 22 (.slice ad3 n3 c3) rfl rfl rfl rfl rfl (fun w0 hb0 => by unfold mkOp; go_simp; all_goals (with_reducible rfl)) ?_
            simp only [Act.put, zA, zB, zC]
            refine lint_pure 82 (Op.move (Operand.tmp 15)) 22 (v_s65) rfl rfl rfl rfl rfl (fun w0 hb0 => by unfold mkOp; go_simp; all_goals (with_reducible rfl)) ?_
            simp only [Act.put, zA, zB, zC]
            refine stp_fn 83 17 #[Operand.tmp 81, Operand.tmp 82] #[22, 22] _ (refXor_any _ _ l3 YL _ f_s_3 f_s65 HN3.out) rfl rfl rfl rfl Try.func17 (by kernel_rfl) (by kernel_rfl) (by go_simp) ?_
            rintro e w60 ⟨v_s83, rfl, f_s83, kk⟩
            refine ⟨_, rfl, kk, ?_⟩
            replace f_s_0 := zfb f_s_0 kk
            replace f_s_1 := zfb f_s_1 kk
            replace f_s_3 := zfb f_s_3 kk
            replace f_s43 := zfb f_s43 kk
            replace f_s50 := zfb f_s50 kk
            replace f_s57 := zfb f_s57 kk
            replace f_s65 := zfb f_s65 kk
            have Bw6 := zbt HGS Bw5 kk
            clear Bw5 kk
            simp only [Act.put, zA, zB, zC]
            refine lint_conv 84 (.tmp 83) _ _ rfl rfl rfl rfl rfl f_s83 ?_
            simp only [Act.put, zA, zB, zC]
            refine lint_pure 85 (Op.binOp BinOp.eql 9 (Operand.tmp 80) (Operand.tmp 84) 9) 4 (.bool true) rfl rfl rfl rfl rfl (fun w0 hb0 => by exact exec_str_yes _ _ _ _ (rfl) rfl rfl) ?_
            simp only [Act.put, zA, zB, zC]
            refine lint_pure 86 (Op.pick (Operand.tmp 78) (Operand.tmp 85) (Operand.const (Value.bool false))) 4 (.bool true) rfl rfl rfl rfl rfl (fun w0 hb0 => by unfold mkOp; go_simp; all_goals (with_reducible rfl)) ?_
            simp only [Act.put, zA, zB, zC]
            refine lint_pure 87 (Op.move (Operand.tmp 86)) 4 (.bool true) rfl rfl rfl rfl rfl (fun w0 hb0 => by unfold mkOp; go_simp; all_goals (with_reducible rfl)) ?_
            simp only [Act.put, zA, zB, zC]
            refine lint_pure 88 (Op.move (Operand.tmp 14)) 24 (.int .i64 YE) rfl rfl rfl rfl rfl (fun w0 hb0 => by unfold mkOp; go_simp; all_goals (with_reducible rfl)) ?_
            simp only [Act.put, zA, zB, zC]
            refine lint_pure 89 (Op.move (Operand.tmp 16)) 3 (.int .i64 YE) rfl rfl rfl rfl rfl (fun w0 hb0 => by unfold mkOp; go_simp; all_goals (with_reducible rfl)) ?_
            simp only [Act.put, zA, zB, zC]
            refine lint_pure 90 (Op.binOp BinOp.eql 3 (Operand.tmp 88) (Operand.tmp 89) 3) 4 (.bool true) rfl rfl rfl rfl rfl (fun w0 hb0 => by unfold mkOp; go_simp; all_goals (with_reducible rfl)) ?_
            simp only [Act.put, zA, zB, zC]
            refine lint_pure 91 (Op.pick (Operand.tmp 87) (Operand.tmp 90) (Operand.const (Value.bool false))) 4 (.bool true) rfl rfl rfl rfl rfl (fun w0 hb0 => by unfold mkOp; go_simp; all_goals (with_reducible rfl)) ?_
            simp only [Act.put, zA, zB, zC]
            refine lint_pure 92 (Op.move (Operand.tmp 91)) 4 (.bool true) rfl rfl rfl rfl rfl (fun w0 hb0 => by unfold mkOp; go_simp; all_goals (with_reducible rfl)) ?_
            simp only [Act.put, zA, zB, zC]
            refine stp_fn 93 9 #[] #[] _ (awake12_any _) rfl rfl rfl rfl Try.func9 (by kernel_rfl) (by kernel_rfl) (by go_simp) ?_
            rintro e w61 ⟨rfl, kk⟩
            refine ⟨_, rfl, kk, ?_⟩
            replace f_s_0 := zfb f_s_0 kk
            replace f_s_1 := zfb f_s_1 kk
            replace f_s_3 := zfb f_s_3 kk
            replace f_s43 := zfb f_s43 kk
            replace f_s50 := zfb f_s50 kk
            replace f_s57 := zfb f_s57 kk
            replace f_s65 := zfb f_s65 kk
            replace f_s83 := zfb f_s83 kk
            have Bw7 := zbt HGS Bw6 kk
            clear Bw6 kk
            simp only [Act.put, zA, zB, zC]
            refine lint_pure 94 (Op.pick (Operand.tmp 92) (Operand.tmp 93) (Operand.const (Value.bool false))) 4 (.bool true) rfl rfl rfl rfl rfl (fun w0 hb0 => by unfold mkOp; go_simp; all_goals (with_reducible rfl)) ?_
            simp only [Act.put, zA, zB, zC]
            refine lint_pure 8 (Op.assign (Operand.tmp 94)) 4 (.bool true) rfl rfl rfl rfl rfl (fun w0 hb0 => by unfold mkOp; go_simp; all_goals (with_reducible rfl)) ?_
            simp only [Act.put, zA, zB, zC]
            refine lint_end ?_
            go_wp2
            go_ret
            exact ⟨rfl, Bw7⟩
          · have q4 : (300 : Int) < (n3 : Int) := by omega
            clear h0 hB0 e0 h1 hB1 e1 h3 hB3 e3 d0 d1 d2 d3 d4
            go_enter Try.func4, Try.ntmps4
            go_wp2_with (go_at_call 9; refine (awake12_any _).mono ?_; rintro e w9 ⟨rfl, hb9⟩)
            go_ret
            exact ⟨rfl, hb9⟩
    · have q1 : (40 : Int) < (n1 : Int) := by omega
      clear h0 hB0 e0 h1 hB1 e1 h3 hB3 e3 d0 d1
      go_enter Try.func4, Try.ntmps4
      go_wp2_with (go_at_call 9; refine (awake12_any _).mono ?_; rintro e w9 ⟨rfl, hb9⟩)
      go_ret
      exact ⟨rfl, hb9⟩
  · have q0 : (40 : Int) < (n0 : Int) := by omega
    clear h0 hB0 e0 h1 hB1 e1 h3 hB3 e3 d0
    go_enter Try.func4, Try.ntmps4
    go_wp2_with (go_at_call 9; refine (awake12_any _).mono ?_; rintro e w9 ⟨rfl, hb9⟩)
    go_ret
    exact ⟨rfl, hb9⟩
end Go.Proofs.Ytiapkfeamochfaa
