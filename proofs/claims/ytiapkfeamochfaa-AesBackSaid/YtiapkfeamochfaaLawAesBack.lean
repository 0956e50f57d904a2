/- AesBack, walked. -/
import Derived.Test.YtiapkfeamochfaaMM3
namespace Go.Proofs.Ytiapkfeamochfaa
open Go.RowKit Go.Deep
set_option linter.unusedSimpArgs false
set_option linter.unusedVariables false

set_option maxHeartbeats 8000000 in
set_option maxRecDepth 100000 in
theorem law_aesBack (w : World) (v0 : Value) (l0 : List UInt8) (h0 : Bs w v0 l0) (v1 : Value) (l1 : List UInt8) (h1 : Bs w v1 l1) (v2 : Value) (l2 : List UInt8) (h2 : Bs w v2 l2) (x3 : Int) (w3 : (Lit.int .i64 x3).wf = true) (x4 : Int) (w4 : (Lit.int .i64 x4).wf = true) : Calls Try.prog 5 #[v0, v1, v2, .int .i64 x3, .int .i64 x4] w fun e w' => e = .returned (.bool true) ∧ Below w.heap.size w w' := by
  obtain ⟨ad0, n0, c0, rfl, e0, y0, z0, hB0⟩ := h0.shape
  obtain ⟨ad1, n1, c1, rfl, e1, y1, z1, hB1⟩ := h1.shape
  obtain ⟨ad2, n2, c2, rfl, e2, y2, z2, hB2⟩ := h2.shape
  by_cases d0 : n0 = 32
  · have q0 : (n0 : Int) = 32 := by omega
    by_cases d1 : n1 = 12
    · have q1 : (n1 : Int) = 12 := by omega
      by_cases d2 : n2 ≤ 500
      · have q2 : ¬ (500 : Int) < (n2 : Int) := by omega
        by_cases d3 : 0 ≤ x3
        · have q3 : ¬ x3 < 0 := by omega
          by_cases d4 : x3 ≤ x4
          · have q4 : ¬ x4 < x3 := by omega
            by_cases d5 : x4 ≤ 600
            · have q5 : ¬ (600 : Int) < x4 := by omega
              have HL0 : Hid (l0.length = n0) := Lib.hid e0
              have f_s_0 := hB0
              have HF_s_0 := Lib.hid hB0
              have HL1 : Hid (l1.length = n1) := Lib.hid e1
              have f_s_1 := hB1
              have HF_s_1 := Lib.hid hB1
              have HL2 : Hid (l2.length = n2) := Lib.hid e2
              have f_s_2 := hB2
              have HF_s_2 := Lib.hid hB2
              have Bw0 := Below.refl w.heap.size w
              have HGS : Hid (∀ wq : World, Below w.heap.size w wq → w.heap.size ≤ wq.heap.size) := Lib.hid fun wq h => h.size
              obtain ⟨N, rfl⟩ := Int.eq_ofNat_of_zero_le (show 0 ≤ x3 by omega)
              obtain ⟨M, rfl⟩ := Int.eq_ofNat_of_zero_le (show 0 ≤ x4 by omega)
              have h32 : l0.length = 32 := by omega
              have h12 : l1.length = 12 := by omega
              have hM : M ≤ 600 := by omega
              have hNM : N ≤ M := by omega
              have h2l : l2.length ≤ 500 := by omega
              obtain ⟨XL, hXL⟩ : ∃ E, E = stL l0 l1 (N : Int) := ⟨_, rfl⟩
              have hXN : XL.length = N := by rw [hXL]; exact stL_len l0 l1 N h32 h12 (by omega)
              have HP := Lib.hid fun v u w h0 h1 => pStream_to v l0 u l1 (N : Int) w h0 h1
              rw [← hXL, stE_ok l0 l1 N h32 h12 (by omega)] at HP
              obtain ⟨YL, hYL⟩ : ∃ E, E = stL l0 l1 (M : Int) := ⟨_, rfl⟩
              have hYN : YL.length = M := by rw [hYL]; exact stL_len l0 l1 M h32 h12 (by omega)
              have HQ := Lib.hid fun v u w h0 h1 => pStream_to v l0 u l1 (M : Int) w h0 h1
              rw [← hYL, stE_ok l0 l1 M h32 h12 (by omega)] at HQ
              obtain ⟨SL, hSL⟩ : ∃ E, E = stL l0 l1 (l2.length : Int) := ⟨_, rfl⟩
              have hSN : SL.length = l2.length := by rw [hSL]; exact stL_len l0 l1 l2.length h32 h12 (by omega)
              have HC := Lib.hid fun v u t w h0 h1 h2 => pCrypt_to v l0 u l1 t l2 w h0 h1 h2
              rw [stE_ok l0 l1 l2.length h32 h12 (by omega), ← hSL] at HC
              have hCN : (xorB l2 SL).length = l2.length := by rw [xorB_length, hSN, Nat.min_self]
              obtain ⟨CL, hCL⟩ : ∃ C, C = xorB l2 SL := ⟨_, rfl⟩
              have HD := Lib.hid fun v u t w h0 h1 h2 => pCrypt_to v l0 u l1 t CL w h0 h1 h2
              rw [show CL.length = l2.length by rw [hCL]; exact hCN, stE_ok l0 l1 l2.length h32 h12 (by omega), ← hSL, show xorB CL SL = l2 by rw [hCL]; exact xorB_twice l2 SL hSN] at HD
              rw [← hCL] at HC
              have HCN : Hid (CL.length = n2) := Lib.hid (by rw [hCL, hCN, e2])
              have HYX : Hid (YL.take N = XL) := Lib.hid (by rw [hYL, hXL]; exact stL_take l0 l1 N M h32 h12 (by omega) hNM)
              have HB : Hid (∀ k, 16 * k + 16 ≤ M → (YL.take (16 * k + 16)).drop (16 * k) = aesL l0 (l1 ++ bigB k 4)) := Lib.hid fun k hk => by rw [hYL]; exact stL_block l0 l1 M k h32 h12 (by omega) hk
              have H32 := Lib.hid h32
              have H12 := Lib.hid h12
              have HN := Lib.hid (And.intro hNM hM)
              have HXN := Lib.hid hXN
              have HYN := Lib.hid hYN
              clear hXL hXN hYL hYN hSL hSN hCL hCN h32 h12 hM hNM h2l h0 h1 h2 hB0 hB1 hB2 e0 e1 e2 w3 w4 d0 d1 d2 d3 d4 d5
              go_enter Try.func5, Try.ntmps5
              go_wp2_with (first
                | (have hgo := Bw0; clear hgo
                   go_at_call 16
                   refine (HC.out _ _ _ _ f_s_0 f_s_1 f_s_2).mono ?_
                   rintro e w31 ⟨v_s53, rfl, f_s53, kk⟩
                   replace f_s_0 := zfb f_s_0 kk
                   replace f_s_1 := zfb f_s_1 kk
                   replace f_s_2 := zfb f_s_2 kk
                   have Bw1 := zbt HGS Bw0 kk
                   clear Bw0 kk
                   obtain ⟨ad_c, n_c, c_c, rfl, he, hy, hz, _⟩ := f_s53.shape
                   have hn : n2 = n_c := by rw [← he]; exact HCN.out.symm
                   subst hn
                   clear he hy hz)
                | (have hgo := Bw1; clear hgo
                   go_at_call 16
                   refine (HD.out _ _ _ _ f_s_0 f_s_1 f_s53).mono ?_
                   rintro e w40 ⟨v_s60, rfl, f_s60, kk⟩
                   replace f_s_0 := zfb f_s_0 kk
                   replace f_s_1 := zfb f_s_1 kk
                   replace f_s_2 := zfb f_s_2 kk
                   replace f_s53 := zfb f_s53 kk
                   have Bw2 := zbt HGS Bw1 kk
                   clear Bw1 kk)
                | (have hgo := Bw2; clear hgo
                   go_at_call 14
                   refine (HP.out _ _ _ f_s_0 f_s_1).mono ?_
                   rintro e w49 ⟨v_s67, rfl, f_s67, kk⟩
                   replace f_s_0 := zfb f_s_0 kk
                   replace f_s_1 := zfb f_s_1 kk
                   replace f_s_2 := zfb f_s_2 kk
                   replace f_s53 := zfb f_s53 kk
                   replace f_s60 := zfb f_s60 kk
                   have Bw3 := zbt HGS Bw2 kk
                   clear Bw2 kk
                   obtain ⟨ad_x, n_x, c_x, rfl, he, hy, hz, _⟩ := f_s67.shape
                   have hn : N = n_x := by rw [← he]; exact HXN.out.symm
                   subst hn
                   clear he hy hz)
                | (have hgo := Bw3; clear hgo
                   go_at_call 14
                   refine (HQ.out _ _ _ f_s_0 f_s_1).mono ?_
                   rintro e w58 ⟨v_s74, rfl, f_s74, kk⟩
                   replace f_s_0 := zfb f_s_0 kk
                   replace f_s_1 := zfb f_s_1 kk
                   replace f_s_2 := zfb f_s_2 kk
                   replace f_s53 := zfb f_s53 kk
                   replace f_s60 := zfb f_s60 kk
                   replace f_s67 := zfb f_s67 kk
                   have Bw4 := zbt HGS Bw3 kk
                   clear Bw3 kk
                   obtain ⟨ad_y, n_y, c_y, rfl, he, hy, hz, _⟩ := f_s74.shape
                   have hn : M = n_y := by rw [← he]; exact HYN.out.symm
                   subst hn
                   clear he hy hz))
              clear HP HQ HC HD
              have Bw41 := Bw4.drew
              replace f_s_2 := f_s_2.drew
              replace f_s60 := f_s60.drew
              replace f_s67 := f_s67.drew
              replace f_s74 := f_s74.drew
              obtain ⟨v_p, f_p, hrp⟩ := takeB f_s74 N (by rw [HYN.out]; exact HN.out.1)
              rw [HYX.out] at f_p
              clear Bw4 f_s_0 f_s_1 f_s53
              refine wp_region_lint (.rd 0 (.rd 1 (.rd 2 (.rd 3 (.rd 4 (.rd 5 (.rd 6 (.rd 7 (.rd 8 (.rd 9 (.rd 10 (.rd 11 (.rd 12 (.rd 13 (.rd 14 (.rd 15 (.rd 16 (.rd 17 (.rd 18 (.rd 19 (.rd 20 (.rd 21 (.rd 22 (.rd 23 (.rd 24 (.rd 25 (.rd 26 (.rd 27 (.rd 28 (.rd 29 (.rd 30 (.rd 31 (.rd 32 (.rd 33 (.rd 34 (.rd 35 (.rd 36 (.rd 37 (.rd 38 (.rd 39 (.rd 40 (.rd 41 (.rd 42 (.rd 43 (.rd 44 (.rd 45 (.rd 46 (.rd 47 (.rd 48 .done))))))))))))))))))))))))))))))))))))))))))))))))) (by kernel_rfl) (by kernel_rfl) (by decide) (by kernel_rfl) (fun d _ _ _ _ h => by cases d <;> exact h) ?_
              refine lint_pure 77 _ _ (.int .i64 0) rfl rfl rfl rfl rfl (fun w0 hb0 => by unfold mkOp; go_simp; all_goals (with_reducible rfl)) ?_
              simp only [Act.put, zA, zB, zC]
              refine lint_pure 78 _ _ (.bool false) rfl rfl rfl rfl rfl (fun w0 hb0 => by unfold mkOp; go_simp; all_goals (with_reducible rfl)) ?_
              simp only [Act.put, zA, zB, zC]
              refine lint_pure 79 _ _ (.bool false) rfl rfl rfl rfl rfl (fun w0 hb0 => by unfold mkOp; go_simp; all_goals (with_reducible rfl)) ?_
              simp only [Act.put, zA, zB, zC]
              refine lint_pure 80 _ _ (.int .i64 0) rfl rfl rfl rfl rfl (fun w0 hb0 => by unfold mkOp; go_simp; all_goals (with_reducible rfl)) ?_
              simp only [Act.put, zA, zB, zC]
              refine lint_pure 81 _ _ (.bool false) rfl rfl rfl rfl rfl (fun w0 hb0 => by unfold mkOp; go_simp; all_goals (with_reducible rfl)) ?_
              simp only [Act.put, zA, zB, zC]
              refine lint_pure 82 _ _ (.bool false) rfl rfl rfl rfl rfl (fun w0 hb0 => by unfold mkOp; go_simp; all_goals (with_reducible rfl)) ?_
              simp only [Act.put, zA, zB, zC]
              refine lint_pure 83 _ _ (.bool false) rfl rfl rfl rfl rfl (fun w0 hb0 => by unfold mkOp; go_simp; all_goals (with_reducible rfl)) ?_
              simp only [Act.put, zA, zB, zC]
              refine lint_pure 84 _ _ (.int .i64 0) rfl rfl rfl rfl rfl (fun w0 hb0 => by unfold mkOp; go_simp; all_goals (with_reducible rfl)) ?_
              simp only [Act.put, zA, zB, zC]
              refine lint_pure 85 _ _ (.bool false) rfl rfl rfl rfl rfl (fun w0 hb0 => by unfold mkOp; go_simp; all_goals (with_reducible rfl)) ?_
              simp only [Act.put, zA, zB, zC]
              refine lint_pure 86 _ _ (.bool false) rfl rfl rfl rfl rfl (fun w0 hb0 => by unfold mkOp; go_simp; all_goals (with_reducible rfl)) ?_
              simp only [Act.put, zA, zB, zC]
              refine lint_pure 87 _ _ (.bool false) rfl rfl rfl rfl rfl (fun w0 hb0 => by unfold mkOp; go_simp; all_goals (with_reducible rfl)) ?_
              simp only [Act.put, zA, zB, zC]
              refine lint_pure 88 _ _ (.int .i64 0) rfl rfl rfl rfl rfl (fun w0 hb0 => by unfold mkOp; go_simp; all_goals (with_reducible rfl)) ?_
              simp only [Act.put, zA, zB, zC]
              refine lint_pure 89 _ _ (.bool false) rfl rfl rfl rfl rfl (fun w0 hb0 => by unfold mkOp; go_simp; all_goals (with_reducible rfl)) ?_
              simp only [Act.put, zA, zB, zC]
              refine lint_pure 90 _ _ (.bool false) rfl rfl rfl rfl rfl (fun w0 hb0 => by unfold mkOp; go_simp; all_goals (with_reducible rfl)) ?_
              simp only [Act.put, zA, zB, zC]
              refine lint_pure 91 _ _ (.bool false) rfl rfl rfl rfl rfl (fun w0 hb0 => by unfold mkOp; go_simp; all_goals (with_reducible rfl)) ?_
              simp only [Act.put, zA, zB, zC]
              refine lint_pure 92 _ _ (v_s60) rfl rfl rfl rfl rfl (fun w0 hb0 => by unfold mkOp; go_simp; all_goals (with_reducible rfl)) ?_
              simp only [Act.put, zA, zB, zC]
              refine lint_conv 93 (.tmp 92) _ _ rfl rfl rfl rfl rfl f_s60 ?_
              simp only [Act.put, zA, zB, zC]
              refine lint_pure 94 _ _ (.slice ad2 n2 c2) rfl rfl rfl rfl rfl (fun w0 hb0 => by unfold mkOp; go_simp; all_goals (with_reducible rfl)) ?_
              simp only [Act.put, zA, zB, zC]
              refine lint_conv 95 (.tmp 94) _ _ rfl rfl rfl rfl rfl f_s_2 ?_
              simp only [Act.put, zA, zB, zC]
              refine lint_pure 96 _ _ (.bool false) rfl rfl rfl rfl rfl (fun w0 hb0 => by exact exec_neqstr _ _ _ _ _ rfl rfl) ?_
              simp only [Act.put, zA, zB, zC]
              refine lint_pure 97 _ _ (.bool false) rfl rfl rfl rfl rfl (fun w0 hb0 => by unfold mkOp; go_simp; all_goals (with_reducible rfl)) ?_
              simp only [Act.put, zA, zB, zC]
              refine lint_pure 98 _ _ (.bool false) rfl rfl rfl rfl rfl (fun w0 hb0 => by unfold mkOp; go_simp; all_goals (with_reducible rfl)) ?_
              simp only [Act.put, zA, zB, zC]
              refine lint_pure 99 _ _ (.slice ad_c n2 c_c) rfl rfl rfl rfl rfl (fun w0 hb0 => by unfold mkOp; go_simp; all_goals (with_reducible rfl)) ?_
              simp only [Act.put, zA, zB, zC]
              refine lint_pure 100 _ _ (.int .i64 (n2 : Int)) rfl rfl rfl rfl rfl (fun w0 hb0 => by unfold mkOp; go_simp; all_goals (with_reducible rfl)) ?_
              simp only [Act.put, zA, zB, zC]
              refine lint_pure 101 _ _ (.slice ad2 n2 c2) rfl rfl rfl rfl rfl (fun w0 hb0 => by unfold mkOp; go_simp; all_goals (with_reducible rfl)) ?_
              simp only [Act.put, zA, zB, zC]
              refine lint_pure 102 _ _ (.int .i64 (n2 : Int)) rfl rfl rfl rfl rfl (fun w0 hb0 => by unfold mkOp; go_simp; all_goals (with_reducible rfl)) ?_
              simp only [Act.put, zA, zB, zC]
              refine lint_pure 103 _ _ (.bool false) rfl rfl rfl rfl rfl (fun w0 hb0 => by unfold mkOp; go_simp; all_goals (with_reducible rfl)) ?_
              simp only [Act.put, zA, zB, zC]
              refine lint_pure 104 _ _ (.bool false) rfl rfl rfl rfl rfl (fun w0 hb0 => by unfold mkOp; go_simp; all_goals (with_reducible rfl)) ?_
              simp only [Act.put, zA, zB, zC]
              refine lint_pure 105 _ _ (.bool false) rfl rfl rfl rfl rfl (fun w0 hb0 => by unfold mkOp; go_simp; all_goals (with_reducible rfl)) ?_
              simp only [Act.put, zA, zB, zC]
              refine lint_pure 106 _ _ (.slice ad_x N c_x) rfl rfl rfl rfl rfl (fun w0 hb0 => by unfold mkOp; go_simp; all_goals (with_reducible rfl)) ?_
              simp only [Act.put, zA, zB, zC]
              refine lint_pure 107 _ _ (.int .i64 (N : Int)) rfl rfl rfl rfl rfl (fun w0 hb0 => by unfold mkOp; go_simp; all_goals (with_reducible rfl)) ?_
              simp only [Act.put, zA, zB, zC]
              refine lint_pure 108 _ _ (.int .i64 (N : Int)) rfl rfl rfl rfl rfl (fun w0 hb0 => by unfold mkOp; go_simp; all_goals (with_reducible rfl)) ?_
              simp only [Act.put, zA, zB, zC]
              refine lint_pure 109 _ _ (.bool false) rfl rfl rfl rfl rfl (fun w0 hb0 => by unfold mkOp; go_simp; all_goals (with_reducible rfl)) ?_
              simp only [Act.put, zA, zB, zC]
              refine lint_pure 110 _ _ (.bool false) rfl rfl rfl rfl rfl (fun w0 hb0 => by unfold mkOp; go_simp; all_goals (with_reducible rfl)) ?_
              simp only [Act.put, zA, zB, zC]
              refine lint_pure 111 _ _ (.bool false) rfl rfl rfl rfl rfl (fun w0 hb0 => by unfold mkOp; go_simp; all_goals (with_reducible rfl)) ?_
              simp only [Act.put, zA, zB, zC]
              refine lint_pure 112 _ _ (.slice ad_y M c_y) rfl rfl rfl rfl rfl (fun w0 hb0 => by unfold mkOp; go_simp; all_goals (with_reducible rfl)) ?_
              simp only [Act.put, zA, zB, zC]
              refine lint_pure 113 _ _ (.int .i64 (M : Int)) rfl rfl rfl rfl rfl (fun w0 hb0 => by unfold mkOp; go_simp; all_goals (with_reducible rfl)) ?_
              simp only [Act.put, zA, zB, zC]
              refine lint_pure 114 _ _ (.int .i64 (M : Int)) rfl rfl rfl rfl rfl (fun w0 hb0 => by unfold mkOp; go_simp; all_goals (with_reducible rfl)) ?_
              simp only [Act.put, zA, zB, zC]
              refine lint_pure 115 _ _ (.bool false) rfl rfl rfl rfl rfl (fun w0 hb0 => by unfold mkOp; go_simp; all_goals (with_reducible rfl)) ?_
              simp only [Act.put, zA, zB, zC]
              refine lint_pure 116 _ _ (.bool false) rfl rfl rfl rfl rfl (fun w0 hb0 => by unfold mkOp; go_simp; all_goals (with_reducible rfl)) ?_
              simp only [Act.put, zA, zB, zC]
              refine lint_pure 117 _ _ (.bool false) rfl rfl rfl rfl rfl (fun w0 hb0 => by unfold mkOp; go_simp; all_goals (with_reducible rfl)) ?_
              simp only [Act.put, zA, zB, zC]
              refine lint_pure 118 _ _ (.slice ad_y M c_y) rfl rfl rfl rfl rfl (fun w0 hb0 => by unfold mkOp; go_simp; all_goals (with_reducible rfl)) ?_
              simp only [Act.put, zA, zB, zC]
              refine lint_pure 119 _ _ (.int .i64 (N : Int)) rfl rfl rfl rfl rfl (fun w0 hb0 => by unfold mkOp; go_simp; all_goals (with_reducible rfl)) ?_
              simp only [Act.put, zA, zB, zC]
              refine lint_pure 120 _ _ (v_p) rfl rfl rfl rfl rfl (fun w0 hb0 => by exact hrp _ _ _ _ w0 rfl rfl) ?_
              simp only [Act.put, zA, zB, zC]
              refine lint_conv 121 (.tmp 120) _ _ rfl rfl rfl rfl rfl f_p ?_
              simp only [Act.put, zA, zB, zC]
              refine lint_pure 122 _ _ (.slice ad_x N c_x) rfl rfl rfl rfl rfl (fun w0 hb0 => by unfold mkOp; go_simp; all_goals (with_reducible rfl)) ?_
              simp only [Act.put, zA, zB, zC]
              refine lint_conv 123 (.tmp 122) _ _ rfl rfl rfl rfl rfl f_s67 ?_
              simp only [Act.put, zA, zB, zC]
              refine lint_pure 124 _ _ (.bool false) rfl rfl rfl rfl rfl (fun w0 hb0 => by exact exec_neqstr _ _ _ _ _ rfl rfl) ?_
              simp only [Act.put, zA, zB, zC]
              refine lint_pure 125 _ _ (.bool false) rfl rfl rfl rfl rfl (fun w0 hb0 => by unfold mkOp; go_simp; all_goals (with_reducible rfl)) ?_
              simp only [Act.put, zA, zB, zC]
              refine lint_end ?_
              clear f_p hrp f_s60 f_s67 f_s_2
              obtain ⟨Q, hQ⟩ := nat_var (M / 16)
              obtain ⟨Q1, hQ1⟩ := nat_var (Q + 1)
              obtain ⟨k, hk⟩ := nat_var (N % Q1)
              have hN := HN.out
              have hkN : k ≤ N := by rw [hk]; exact Nat.mod_le _ _
              have HR : Hid (∀ w1, Calls Try.prog 18 #[.int .i64 (N : Int), .int .i64 ((M : Int) / 16 + 1)] w1 fun e w' => e = .returned (.int .i64 (k : Int)) ∧ w' = w1) := Lib.hid fun w1 => by
                have h := round_any (N : Int) (Q1 : Int) w1 (by omega) (by omega) (by omega) (by omega)
                rwa [show (N : Int) % (Q1 : Int) = (k : Int) by rw [hk]; exact (Int.natCast_emod N Q1).symm, show (Q1 : Int) = (M : Int) / 16 + 1 by omega] at h
              obtain ⟨lo, hlo⟩ := nat_var (16 * k)
              obtain ⟨hi, hhi⟩ := nat_var (lo + 16)
              have hw1 : IntKind.i64.wrap (16 * (k : Int)) = (lo : Int) := by rw [IntWalk.i64_in _ (by omega)]; omega
              have hw2 : IntKind.i64.wrap ((lo : Int) + 16) = (hi : Int) := by rw [IntWalk.i64_in _ (by omega)]; omega
              have hw3 : IntKind.u64.wrap (k : Int) = (k : Int) := by rw [IntKind.wrap_u64]; omega
              have HK64 : Hid (k < 2 ^ 64) := Lib.hid (Nat.lt_of_le_of_lt (show k ≤ 600 by omega) (by decide))
              by_cases hlt : hi ≤ M
              · have hltI : ¬ (M : Int) < (hi : Int) := by omega
                have HLO : Hid (lo ≤ hi) := Lib.hid (by omega)
                have HHI : Hid (hi ≤ YL.length) := Lib.hid (by rw [HYN.out]; exact hlt)
                have HBL : Hid ((YL.take hi).drop lo = aesL l0 (l1 ++ bigB k 4)) := Lib.hid (by rw [hhi, hlo]; exact HB.out k (by omega))
                have f_s0 := HF_s_0.out.below Bw41 (Nat.le_refl _)
                have f_s1 := HF_s_1.out.below Bw41 (Nat.le_refl _)
                clear hlo hhi hN hlt hk hQ hQ1 hkN
                go_wp2_with (first
                  | (have hgo := HR; clear hgo
                     go_at_call 18
                     refine (HR.out _).mono ?_
                     clear HR
                     rintro e w59 ⟨rfl, rfl⟩)
                  | (have hgo := Bw41; clear hgo
                     go_at_call 20
                     refine (bigK_to k _ HK64.out).mono ?_
                     rintro e w60 ⟨v_c, rfl, f_c, kk⟩
                     replace f_s74 := zfb f_s74 kk
                     replace f_s0 := zfb f_s0 kk
                     replace f_s1 := zfb f_s1 kk
                     have Bx1 := zbt HGS Bw41 kk
                     clear Bw41 kk)
                  | (have hgo := Bx1; clear hgo
                     refine wpList_rows2 rfl (.tmp 139) (.tmp 142) rfl f_s1 f_c rfl rfl ?_
                     intro v_r w61 F_r kk
                     replace f_s74 := zfb f_s74 kk
                     replace f_s0 := zfb f_s0 kk
                     have Bx2 := zbt HGS Bx1 kk
                     clear Bx1 kk f_s1 f_c)
                  | (have hgo := Bx2; clear hgo
                     go_at_call 19
                     refine (catK_to _ _ _ _ F_r (by rw [H12.out, bigB_len4]; decide)).mono ?_
                     rintro e w62 ⟨v_t, rfl, f_t, kk⟩
                     replace f_s74 := zfb f_s74 kk
                     replace f_s0 := zfb f_s0 kk
                     have Bx3 := zbt HGS Bx2 kk
                     clear Bx2 kk F_r)
                  | (have hgo := Bx3; clear hgo
                     go_at_call 10
                     refine (pBlock_any _ l0 _ _ _ f_s0 H32.out f_t (by rw [List.length_append, H12.out, bigB_len4])).mono ?_
                     rintro e w63 ⟨v_b, rfl, f_b, kk⟩
                     replace f_s74 := zfb f_s74 kk
                     have Bx4 := zbt HGS Bx3 kk
                     clear Bx3 kk f_s0 f_t))
                replace Bx4 := Bx4.drew
                replace f_s74 := f_s74.drew
                replace f_b := f_b.drew
                obtain ⟨v_p, f_p, hrp⟩ := partBA f_s74 lo hi HLO.out HHI.out
                rw [HBL.out] at f_p
                refine wp_region_lint (.rd 0 (.rd 1 (.rd 2 (.rd 3 (.rd 4 (.rd 5 (.rd 6 (.rd 7 (.rd 8 (.rd 9 (.rd 10 (.rd 11 (.rd 12 (.rd 13 (.rd 14 (.rd 15 (.wr 16 (.rd 17 (.rd 18 .done))))))))))))))))))) (by kernel_rfl) (by kernel_rfl) (by decide) (by kernel_rfl) (fun d _ _ _ _ h => by cases d <;> exact h) ?_
                refine lint_pure 148 _ _ (.int .i64 0) rfl rfl rfl rfl rfl (fun w0 hb0 => by unfold mkOp; go_simp; all_goals (with_reducible rfl)) ?_
                simp only [Act.put, zA, zB, zC]
                refine lint_pure 149 _ _ (.bool true) rfl rfl rfl rfl rfl (fun w0 hb0 => by unfold mkOp; go_simp; all_goals (with_reducible rfl)) ?_
                simp only [Act.put, zA, zB, zC]
                refine lint_pure 150 _ _ (.bool true) rfl rfl rfl rfl rfl (fun w0 hb0 => by unfold mkOp; go_simp; all_goals (with_reducible rfl)) ?_
                simp only [Act.put, zA, zB, zC]
                refine lint_pure 151 _ _ (v_b) rfl rfl rfl rfl rfl (fun w0 hb0 => by unfold mkOp; go_simp; all_goals (with_reducible rfl)) ?_
                simp only [Act.put, zA, zB, zC]
                refine lint_conv 152 (.tmp 151) _ _ rfl rfl rfl rfl rfl f_b ?_
                simp only [Act.put, zA, zB, zC]
                refine lint_pure 153 _ _ (.slice ad_y M c_y) rfl rfl rfl rfl rfl (fun w0 hb0 => by unfold mkOp; go_simp; all_goals (with_reducible rfl)) ?_
                simp only [Act.put, zA, zB, zC]
                refine lint_pure 154 _ _ (.int .i64 (k : Int)) rfl rfl rfl rfl rfl (fun w0 hb0 => by unfold mkOp; go_simp; all_goals (with_reducible rfl)) ?_
                simp only [Act.put, zA, zB, zC]
                refine lint_pure 155 _ _ (.int .i64 (lo : Int)) rfl rfl rfl rfl rfl (fun w0 hb0 => by unfold mkOp; go_simp; all_goals (with_reducible rfl)) ?_
                simp only [Act.put, zA, zB, zC]
                refine lint_pure 156 _ _ (.int .i64 (k : Int)) rfl rfl rfl rfl rfl (fun w0 hb0 => by unfold mkOp; go_simp; all_goals (with_reducible rfl)) ?_
                simp only [Act.put, zA, zB, zC]
                refine lint_pure 157 _ _ (.int .i64 (lo : Int)) rfl rfl rfl rfl rfl (fun w0 hb0 => by unfold mkOp; go_simp; all_goals (with_reducible rfl)) ?_
                simp only [Act.put, zA, zB, zC]
                refine lint_pure 158 _ _ (.int .i64 (hi : Int)) rfl rfl rfl rfl rfl (fun w0 hb0 => by unfold mkOp; go_simp; all_goals (with_reducible rfl)) ?_
                simp only [Act.put, zA, zB, zC]
                refine lint_pure 159 _ _ (v_p) rfl rfl rfl rfl rfl (fun w0 hb0 => by exact hrp _ _ _ _ _ w0 rfl rfl rfl) ?_
                simp only [Act.put, zA, zB, zC]
                refine lint_conv 160 (.tmp 159) _ _ rfl rfl rfl rfl rfl f_p ?_
                simp only [Act.put, zA, zB, zC]
                refine lint_pure 161 _ _ (.bool true) rfl rfl rfl rfl rfl (fun w0 hb0 => by exact exec_str_yes _ _ _ _ rfl rfl rfl) ?_
                simp only [Act.put, zA, zB, zC]
                refine lint_pure 162 _ _ (.bool true) rfl rfl rfl rfl rfl (fun w0 hb0 => by unfold mkOp; go_simp; all_goals (with_reducible rfl)) ?_
                simp only [Act.put, zA, zB, zC]
                refine lint_pure 163 _ _ (.bool true) rfl rfl rfl rfl rfl (fun w0 hb0 => by unfold mkOp; go_simp; all_goals (with_reducible rfl)) ?_
                simp only [Act.put, zA, zB, zC]
                refine stp_fn 164 9 #[] #[] _ (awake12_any _) rfl rfl rfl rfl Try.func9 (by kernel_rfl) (by kernel_rfl) (by go_simp) ?_
                rintro e w64 ⟨rfl, kk⟩
                refine ⟨_, rfl, kk, ?_⟩
                have Bx5 := zbt HGS Bx4 kk
                simp only [Act.put, zA, zB, zC]
                refine lint_pure 165 _ _ (.bool true) rfl rfl rfl rfl rfl (fun w0 hb0 => by unfold mkOp; go_simp; all_goals (with_reducible rfl)) ?_
                simp only [Act.put, zA, zB, zC]
                refine lint_pure 10 _ _ (.bool true) rfl rfl rfl rfl rfl (fun w0 hb0 => by unfold mkOp; go_simp; all_goals (with_reducible rfl)) ?_
                simp only [Act.put, zA, zB, zC]
                refine lint_end ?_
                go_wp2
                go_ret
                exact ⟨rfl, Bx5⟩
              · have hltI : (M : Int) < (hi : Int) := by omega
                clear hlo hhi hN hlt hk hQ hQ1 hkN
                go_wp2_with (first
                  | (have hgo := HR; clear hgo
                     go_at_call 18
                     refine (HR.out _).mono ?_
                     clear HR
                     rintro e w59 ⟨rfl, rfl⟩)
                  | (have hgo := Bw41; clear hgo
                     go_at_call 9
                     refine (awake12_any _).mono ?_
                     rintro e w9 ⟨rfl, hb9⟩
                     replace Bw41 := zbt HGS Bw41 hb9
                     clear hb9))
                go_ret
                exact ⟨rfl, Bw41⟩
            · have q5 : (600 : Int) < x4 := by omega
              clear h0 hB0 e0 h1 hB1 e1 h2 hB2 e2 d0 d1 d2 d3 d4 d5
              go_enter Try.func5, Try.ntmps5
              go_wp2_with (go_at_call 9; refine (awake12_any _).mono ?_; rintro e w9 ⟨rfl, hb9⟩)
              go_ret
              exact ⟨rfl, hb9⟩
          · have q4 : x4 < x3 := by omega
            clear h0 hB0 e0 h1 hB1 e1 h2 hB2 e2 d0 d1 d2 d3 d4
            go_enter Try.func5, Try.ntmps5
            go_wp2_with (go_at_call 9; refine (awake12_any _).mono ?_; rintro e w9 ⟨rfl, hb9⟩)
            go_ret
            exact ⟨rfl, hb9⟩
        · have q3 : x3 < 0 := by omega
          clear h0 hB0 e0 h1 hB1 e1 h2 hB2 e2 d0 d1 d2 d3
          go_enter Try.func5, Try.ntmps5
          go_wp2_with (go_at_call 9; refine (awake12_any _).mono ?_; rintro e w9 ⟨rfl, hb9⟩)
          go_ret
          exact ⟨rfl, hb9⟩
      · have q2 : (500 : Int) < (n2 : Int) := by omega
        clear h0 hB0 e0 h1 hB1 e1 h2 hB2 e2 d0 d1 d2
        go_enter Try.func5, Try.ntmps5
        go_wp2_with (go_at_call 9; refine (awake12_any _).mono ?_; rintro e w9 ⟨rfl, hb9⟩)
        go_ret
        exact ⟨rfl, hb9⟩
    · have q1 : ¬ (n1 : Int) = 12 := by omega
      clear h0 hB0 e0 h1 hB1 e1 h2 hB2 e2 d0 d1
      go_enter Try.func5, Try.ntmps5
      go_wp2_with (go_at_call 9; refine (awake12_any _).mono ?_; rintro e w9 ⟨rfl, hb9⟩)
      go_ret
      exact ⟨rfl, hb9⟩
  · have q0 : ¬ (n0 : Int) = 32 := by omega
    clear h0 hB0 e0 h1 hB1 e1 h2 hB2 e2 d0
    go_enter Try.func5, Try.ntmps5
    go_wp2_with (go_at_call 9; refine (awake12_any _).mono ?_; rintro e w9 ⟨rfl, hb9⟩)
    go_ret
    exact ⟨rfl, hb9⟩
end Go.Proofs.Ytiapkfeamochfaa
