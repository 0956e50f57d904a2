/- SealParts, walked. -/
import Derived.Test.YtclbfbkbmiijnaaMM3
namespace Go.Proofs.Ytclbfbkbmiijnaa
open Go.RowKit Go.Deep
set_option linter.unusedSimpArgs false
set_option linter.unusedVariables false

set_option maxHeartbeats 8000000 in
set_option maxRecDepth 100000 in
theorem law_sealParts (w : World) (v0 : Value) (l0 : List UInt8) (h0 : Bs w v0 l0) (v1 : Value) (l1 : List UInt8) (h1 : Bs w v1 l1) (v2 : Value) (l2 : List UInt8) (h2 : Bs w v2 l2) (v3 : Value) (l3 : List UInt8) (h3 : Bs w v3 l3) : Calls Try.prog 6 #[v0, v1, v2, v3] w fun e w' => e = .returned (.bool true) ∧ Below w.heap.size w w' := by
  obtain ⟨ad0, n0, c0, rfl, e0, y0, z0, hB0⟩ := h0.shape
  obtain ⟨ad1, n1, c1, rfl, e1, y1, z1, hB1⟩ := h1.shape
  obtain ⟨ad2, n2, c2, rfl, e2, y2, z2, hB2⟩ := h2.shape
  obtain ⟨ad3, n3, c3, rfl, e3, y3, z3, hB3⟩ := h3.shape
  by_cases d0 : n0 = 32
  · have q0 : (n0 : Int) = 32 := by omega
    by_cases d1 : n1 = 12
    · have q1 : (n1 : Int) = 12 := by omega
      by_cases d2 : n2 ≤ 400
      · have q2 : ¬ (400 : Int) < (n2 : Int) := by omega
        by_cases d3 : n3 ≤ 400
        · have q3 : ¬ (400 : Int) < (n3 : Int) := by omega
          obtain ⟨BX, hBX⟩ : ∃ E, E = boxL l0 l1 l2 l3 := ⟨_, rfl⟩
          have hok : okK l0 l1 := ⟨by omega, by omega⟩
          have hsz : okSz 65536 l2 l3 := ⟨by omega, by omega⟩
          have hs := seE_ok hok hsz
          have ho := op_box l0 l1 l2 l3 hok hsz
          obtain ⟨m, hm⟩ := nat_var (n3 + 32)
          have HXL : Hid (BX.length = m) := Lib.hid (by rw [hBX, boxL_len, hm, e3])
          rw [← hBX] at hs ho
          obtain ⟨CL, hCL⟩ : ∃ C, C = cryL l0 l1 l3 := ⟨_, rfl⟩
          obtain ⟨ML, hML⟩ : ∃ C, C = macL l0 l1 l2 CL := ⟨_, rfl⟩
          have hcl : CL.length = n3 := by rw [hCL, cryL_len, e3]
          have hbt : BX.take n3 = CL := by rw [hBX, ← e3, boxL_take, hCL]
          have hbd : BX.drop n3 = ML := by rw [hBX, ← e3, boxL_drop, hML, hCL]
          have HBT := Lib.hid hbt
          have HBD := Lib.hid hbd
          have HK : Hid (n3 ≤ BX.length) := Lib.hid (by rw [HXL.out]; omega)
          have HCL := Lib.hid hcl
          have hw1 : IntKind.i64.wrap ((n3 : Int) + 32) = (m : Int) := by rw [IntWalk.i64_in _ (by omega)]; omega
          have hw2 : IntKind.u64.wrap (n2 : Int) = (n2 : Int) := by rw [IntKind.wrap_u64]; omega
          have HN : Hid (n2 ≤ 400 ∧ n3 ≤ 400 ∧ l1.length = 12 ∧ l2.length = n2) := Lib.hid (by omega)
          have HX : Hid (xorB l3 (ctrL (sAes l0) l1 n3) = CL) := Lib.hid (by rw [hCL]; unfold cryL; rw [e3])
          have HM : Hid (hmac (sMac l0) (l1 ++ (bigB n2 8 ++ (l2 ++ CL))) = ML) := Lib.hid (by rw [hML]; unfold macL; rw [e2])
          have H32 : Hid (l0.length = 32) := Lib.hid hok.1
          have H12 : Hid (l1.length = 12) := Lib.hid hok.2
          have HS : Hid (∀ v0 v1 v2 v3 w, Bs w v0 l0 → Bs w v1 l1 → Bs w v2 l2 → Bs w v3 l3 → Calls Try.prog 8 #[v0, v1, v2, v3] w fun e w' => ∃ v, e = .returned (.tuple #[v, .int .i64 0]) ∧ Bs w' v BX ∧ Below w.heap.size w w') := Lib.hid fun v0 v1 v2 v3 w h0 h1 h2 h3 => by
            rw [← hs.1, ← hs.2]
            exact pSeal_to v0 l0 v1 l1 v2 l2 v3 l3 w h0 h1 h2 h3
          have Bw0 := Below.refl w.heap.size w
          have HGS : Hid (∀ wq : World, Below w.heap.size w wq → w.heap.size ≤ wq.heap.size) := Lib.hid fun wq h => h.size
          have f_0 := hB0
          have HL0 : Hid (l0.length = n0) := Lib.hid e0
          have f_1 := hB1
          have HL1 : Hid (l1.length = n1) := Lib.hid e1
          have f_2 := hB2
          have HL2 : Hid (l2.length = n2) := Lib.hid e2
          have f_3 := hB3
          have HL3 : Hid (l3.length = n3) := Lib.hid e3
          clear hBX hCL hML hcl hbt hbd hs ho hok hsz hm h0 h1 h2 h3 hB0 hB1 hB2 hB3 e0 e1 e2 e3 d0 d1 d2 d3
          go_enter Try.func6, Try.ntmps6
          go_wp2_with (first
            | (have hgo := Bw0; clear hgo
               go_at_call 8
               refine (HS.out _ _ _ _ _ f_0 f_1 f_2 f_3).mono ?_
               rintro e w1 ⟨v_x, rfl, f_x, kk⟩
               replace f_0 := zfb f_0 kk
               replace f_1 := zfb f_1 kk
               replace f_2 := zfb f_2 kk
               replace f_3 := zfb f_3 kk
               have Bw1 := zbt HGS Bw0 kk
               clear Bw0 kk
               obtain ⟨ad_x, n_x, c_x, rfl, he, hy, hz, _⟩ := f_x.shape
               have hn : n_x = m := by rw [← he]; exact HXL.out
               subst hn
               clear he hy hz HS)
            | (have hgo := Bw1; clear hgo
               refine wpList_sealT rfl rfl (.tmp 42) rfl rfl (fun _ => rfl) ?_
               intro v_t v_u w2 f_u kk
               replace f_0 := zfb f_0 kk
               replace f_1 := zfb f_1 kk
               replace f_2 := zfb f_2 kk
               replace f_3 := zfb f_3 kk
               replace f_x := zfb f_x kk
               have Bw2 := zbt HGS Bw1 kk
               clear Bw1 kk)
            | (have hgo := Bw2; clear hgo
               go_at_call 16
               refine (refSealK_to _ _ l0 _ f_0 H32.out f_u).mono ?_
               rintro e w3 ⟨v_k, rfl, f_k, kk⟩
               replace f_0 := zfb f_0 kk
               replace f_1 := zfb f_1 kk
               replace f_2 := zfb f_2 kk
               replace f_3 := zfb f_3 kk
               replace f_x := zfb f_x kk
               have Bw3 := zbt HGS Bw2 kk
               clear Bw2 kk
               clear f_u
               obtain ⟨v_a, f_a, hra⟩ := takeB f_k 32 (by rw [sealK_len]; decide)
               have HRA := Lib.hid hra
               clear hra)
            | (have hgo := HRA; clear hgo
               refine wpList_value rfl _ (by rw [exec_mkOp]; exact HRA.out _ _ _ _ _ rfl rfl) ?_
               clear HRA)
            | (have hgo := Bw3; clear hgo
               go_at_call 17
               refine (refStream_any _ (sAes l0) _ l1 n3 _ f_a (sAes_len _) f_1 H12.out (by have := HN.out; omega)).mono ?_
               rintro e w4 ⟨v_s, rfl, f_s, kk⟩
               replace f_0 := zfb f_0 kk
               replace f_1 := zfb f_1 kk
               replace f_2 := zfb f_2 kk
               replace f_3 := zfb f_3 kk
               replace f_x := zfb f_x kk
               replace f_k := zfb f_k kk
               have Bw4 := zbt HGS Bw3 kk
               clear Bw3 kk
               clear f_a f_0))
          obtain ⟨v_m, f_m, hrm⟩ := dropB f_k 32 (by rw [sealK_len]; decide)
          replace f_m : Bs w4 v_m (sMac l0) := f_m
          obtain ⟨v_b, f_b, hrb⟩ := takeB f_x n3 HK.out
          rw [HBT.out] at f_b
          obtain ⟨v_d, f_d, hrd⟩ := dropB f_x n3 HK.out
          rw [HBD.out] at f_d
          clear f_x f_k
          replace f_1 := f_1.drew
          replace f_2 := f_2.drew
          replace f_3 := f_3.drew
          replace f_s := f_s.drew
          replace f_m := f_m.drew
          replace f_b := f_b.drew
          replace f_d := f_d.drew
          have Bw5 := Bw4.drew
          clear Bw4
          refine wp_region_lint (.rd 0 (.rd 1 (.rd 2 (.rd 3 (.rd 4 (.rd 5 (.rd 6 (.rd 7 (.rd 8 (.rd 9 (.rd 10 (.rd 11 (.rd 12 (.rd 13 (.rd 14 (.rd 15 (.rd 16 (.rd 17 (.wr 18 (.rd 19 (.rd 20 (.rd 21 .done)))))))))))))))))))))) (by kernel_rfl) (by kernel_rfl) (by decide) (by kernel_rfl) (fun d _ _ _ _ h => by cases d <;> exact h) ?_
          refine lint_pure 54 _ _ (.int .i64 (0 : Int)) rfl rfl rfl rfl rfl (fun wx hx => by unfold mkOp; go_simp; all_goals (with_reducible rfl)) ?_
          simp only [Act.put, zA, zB, zC]
          refine lint_pure 55 _ _ (.bool false) rfl rfl rfl rfl rfl (fun wx hx => by unfold mkOp; go_simp; all_goals (with_reducible rfl)) ?_
          simp only [Act.put, zA, zB, zC]
          refine lint_pure 56 _ _ (.bool false) rfl rfl rfl rfl rfl (fun wx hx => by unfold mkOp; go_simp; all_goals (with_reducible rfl)) ?_
          simp only [Act.put, zA, zB, zC]
          refine lint_pure 57 _ _ (.slice ad_x n_x c_x) rfl rfl rfl rfl rfl (fun wx hx => by unfold mkOp; go_simp; all_goals (with_reducible rfl)) ?_
          simp only [Act.put, zA, zB, zC]
          refine lint_pure 58 _ _ (.int .i64 (n_x : Int)) rfl rfl rfl rfl rfl (fun wx hx => by unfold mkOp; go_simp; all_goals (with_reducible rfl)) ?_
          simp only [Act.put, zA, zB, zC]
          refine lint_pure 59 _ _ (.slice ad3 n3 c3) rfl rfl rfl rfl rfl (fun wx hx => by unfold mkOp; go_simp; all_goals (with_reducible rfl)) ?_
          simp only [Act.put, zA, zB, zC]
          refine lint_pure 60 _ _ (.int .i64 (n3 : Int)) rfl rfl rfl rfl rfl (fun wx hx => by unfold mkOp; go_simp; all_goals (with_reducible rfl)) ?_
          simp only [Act.put, zA, zB, zC]
          refine lint_pure 61 _ _ (.int .i64 (n_x : Int)) rfl rfl rfl rfl rfl (fun wx hx => by unfold mkOp; go_simp; all_goals (with_reducible rfl)) ?_
          simp only [Act.put, zA, zB, zC]
          refine lint_pure 62 _ _ (.bool false) rfl rfl rfl rfl rfl (fun wx hx => by unfold mkOp; go_simp; all_goals (with_reducible rfl)) ?_
          simp only [Act.put, zA, zB, zC]
          refine lint_pure 63 _ _ (.bool false) rfl rfl rfl rfl rfl (fun wx hx => by unfold mkOp; go_simp; all_goals (with_reducible rfl)) ?_
          simp only [Act.put, zA, zB, zC]
          refine lint_pure 64 _ _ (.bool false) rfl rfl rfl rfl rfl (fun wx hx => by unfold mkOp; go_simp; all_goals (with_reducible rfl)) ?_
          simp only [Act.put, zA, zB, zC]
          refine lint_pure 65 _ _ (.slice ad_x n_x c_x) rfl rfl rfl rfl rfl (fun wx hx => by unfold mkOp; go_simp; all_goals (with_reducible rfl)) ?_
          simp only [Act.put, zA, zB, zC]
          refine lint_pure 66 _ _ (.slice ad3 n3 c3) rfl rfl rfl rfl rfl (fun wx hx => by unfold mkOp; go_simp; all_goals (with_reducible rfl)) ?_
          simp only [Act.put, zA, zB, zC]
          refine lint_pure 67 _ _ (.int .i64 (n3 : Int)) rfl rfl rfl rfl rfl (fun wx hx => by unfold mkOp; go_simp; all_goals (with_reducible rfl)) ?_
          simp only [Act.put, zA, zB, zC]
          refine lint_pure 68 _ _ (v_b) rfl rfl rfl rfl rfl (fun wx hx => by exact hrb _ _ _ _ _ rfl rfl) ?_
          simp only [Act.put, zA, zB, zC]
          refine lint_conv 69 (.tmp 68) _ _ rfl rfl rfl rfl rfl f_b ?_
          simp only [Act.put, zA, zB, zC]
          refine lint_pure 70 _ _ (.slice ad3 n3 c3) rfl rfl rfl rfl rfl (fun wx hx => by unfold mkOp; go_simp; all_goals (with_reducible rfl)) ?_
          simp only [Act.put, zA, zB, zC]
          refine lint_pure 71 _ _ (v_s) rfl rfl rfl rfl rfl (fun wx hx => by unfold mkOp; go_simp; all_goals (with_reducible rfl)) ?_
          simp only [Act.put, zA, zB, zC]
          refine stp_fn 72 18 _ _ _ (refXor_any _ _ l3 (ctrL (sAes l0) l1 n3) _ f_3 f_s (by have := HN.out; have := HL3.out; omega)) rfl rfl rfl rfl Try.func18 (by kernel_rfl) (by kernel_rfl) (by go_simp) ?_
          rintro e wq72 ⟨v_72, rfl, f_72, kk⟩
          refine ⟨_, rfl, kk, ?_⟩
          replace f_1 := zfb f_1 kk
          replace f_2 := zfb f_2 kk
          replace f_3 := zfb f_3 kk
          replace f_s := zfb f_s kk
          replace f_m := zfb f_m kk
          replace f_b := zfb f_b kk
          replace f_d := zfb f_d kk
          have Bw6 := zbt HGS Bw5 kk
          clear Bw5 kk
          rw [HX.out] at f_72
          simp only [Act.put, zA, zB, zC]
          refine lint_conv 73 (.tmp 72) _ _ rfl rfl rfl rfl rfl f_72 ?_
          simp only [Act.put, zA, zB, zC]
          refine lint_pure 74 _ _ (.bool false) rfl rfl rfl rfl rfl (fun wx hx => by exact exec_neqstr _ _ _ _ _ rfl rfl) ?_
          simp only [Act.put, zA, zB, zC]
          refine lint_pure 75 _ _ (.bool false) rfl rfl rfl rfl rfl (fun wx hx => by unfold mkOp; go_simp; all_goals (with_reducible rfl)) ?_
          simp only [Act.put, zA, zB, zC]
          refine lint_end ?_
          clear f_72 f_s
          go_wp2
          replace f_1 := f_1.drew
          replace f_2 := f_2.drew
          replace f_3 := f_3.drew
          replace f_m := f_m.drew
          replace f_b := f_b.drew
          replace f_d := f_d.drew
          have Bw7 := Bw6.drew
          clear Bw6
          refine wp_region_lint (.rd 0 (.rd 1 (.rd 2 (.rd 3 (.rd 4 (.rd 5 (.rd 6 (.rd 7 (.rd 8 (.rd 9 (.rd 10 (.rd 12 (.rd 13 (.rd 14 (.rd 15 (.rd 16 (.wr 11 (.wr 17 (.wr 18 (.wr 19 (.rd 20 (.rd 21 (.rd 22 (.wr 23 (.rd 24 (.rd 25 .done)))))))))))))))))))))))))) (by kernel_rfl) (by kernel_rfl) (by decide) (by kernel_rfl) (fun d _ _ _ _ h => by cases d <;> exact h) ?_
          refine lint_pure 76 _ _ (.slice ad_x n_x c_x) rfl rfl rfl rfl rfl (fun wx hx => by unfold mkOp; go_simp; all_goals (with_reducible rfl)) ?_
          simp only [Act.put, zA, zB, zC]
          refine lint_pure 77 _ _ (.slice ad3 n3 c3) rfl rfl rfl rfl rfl (fun wx hx => by unfold mkOp; go_simp; all_goals (with_reducible rfl)) ?_
          simp only [Act.put, zA, zB, zC]
          refine lint_pure 78 _ _ (.int .i64 (n3 : Int)) rfl rfl rfl rfl rfl (fun wx hx => by unfold mkOp; go_simp; all_goals (with_reducible rfl)) ?_
          simp only [Act.put, zA, zB, zC]
          refine lint_pure 79 _ _ (v_d) rfl rfl rfl rfl rfl (fun wx hx => by exact hrd _ _ _ _ _ rfl rfl) ?_
          simp only [Act.put, zA, zB, zC]
          refine lint_conv 80 (.tmp 79) _ _ rfl rfl rfl rfl rfl f_d ?_
          simp only [Act.put, zA, zB, zC]
          refine lint_pure 81 _ _ (v_k) rfl rfl rfl rfl rfl (fun wx hx => by unfold mkOp; go_simp; all_goals (with_reducible rfl)) ?_
          simp only [Act.put, zA, zB, zC]
          refine lint_pure 82 _ _ (v_m) rfl rfl rfl rfl rfl (fun wx hx => by exact hrm _ _ _ _ _ rfl rfl) ?_
          simp only [Act.put, zA, zB, zC]
          refine lint_pure 83 _ _ (.slice ad1 n1 c1) rfl rfl rfl rfl rfl (fun wx hx => by unfold mkOp; go_simp; all_goals (with_reducible rfl)) ?_
          simp only [Act.put, zA, zB, zC]
          refine lint_pure 84 _ _ (.slice ad2 n2 c2) rfl rfl rfl rfl rfl (fun wx hx => by unfold mkOp; go_simp; all_goals (with_reducible rfl)) ?_
          simp only [Act.put, zA, zB, zC]
          refine lint_pure 85 _ _ (.int .i64 (n2 : Int)) rfl rfl rfl rfl rfl (fun wx hx => by unfold mkOp; go_simp; all_goals (with_reducible rfl)) ?_
          simp only [Act.put, zA, zB, zC]
          refine lint_pure 86 _ _ (.int .u64 (n2 : Int)) rfl rfl rfl rfl rfl (fun wx hx => by unfold mkOp; go_simp; all_goals (with_reducible rfl)) ?_
          simp only [Act.put, zA, zB, zC]
          refine lint_pure 88 _ _ (.slice ad2 n2 c2) rfl rfl rfl rfl rfl (fun wx hx => by unfold mkOp; go_simp; all_goals (with_reducible rfl)) ?_
          simp only [Act.put, zA, zB, zC]
          refine lint_pure 89 _ _ (.slice ad_x n_x c_x) rfl rfl rfl rfl rfl (fun wx hx => by unfold mkOp; go_simp; all_goals (with_reducible rfl)) ?_
          simp only [Act.put, zA, zB, zC]
          refine lint_pure 90 _ _ (.slice ad3 n3 c3) rfl rfl rfl rfl rfl (fun wx hx => by unfold mkOp; go_simp; all_goals (with_reducible rfl)) ?_
          simp only [Act.put, zA, zB, zC]
          refine lint_pure 91 _ _ (.int .i64 (n3 : Int)) rfl rfl rfl rfl rfl (fun wx hx => by unfold mkOp; go_simp; all_goals (with_reducible rfl)) ?_
          simp only [Act.put, zA, zB, zC]
          refine lint_pure 92 _ _ (v_b) rfl rfl rfl rfl rfl (fun wx hx => by exact hrb _ _ _ _ _ rfl rfl) ?_
          simp only [Act.put, zA, zB, zC]
          refine stp_fn 87 21 _ _ _ (refBig8_to n2 _ (by have := HN.out; omega)) rfl rfl rfl rfl Try.func21 (by kernel_rfl) (by kernel_rfl) (by go_simp) ?_
          rintro e wq87 ⟨v_87, rfl, f_87, kk⟩
          refine ⟨_, rfl, kk, ?_⟩
          replace f_1 := zfb f_1 kk
          replace f_2 := zfb f_2 kk
          replace f_3 := zfb f_3 kk
          replace f_m := zfb f_m kk
          replace f_b := zfb f_b kk
          replace f_d := zfb f_d kk
          have Bw8 := zbt HGS Bw7 kk
          clear Bw7 kk
          simp only [Act.put, zA, zB, zC]
          refine stp_rowsS4 93 (.tmp 83) (.tmp 87) (.tmp 88) (.tmp 92) rfl rfl rfl rfl f_1 f_87 f_2 f_b rfl rfl rfl rfl  ?_
          intro wq93 v_93 F_r kk
          replace f_1 := zfb f_1 kk
          replace f_2 := zfb f_2 kk
          replace f_3 := zfb f_3 kk
          replace f_m := zfb f_m kk
          replace f_b := zfb f_b kk
          replace f_d := zfb f_d kk
          replace f_87 := zfb f_87 kk
          have Bw9 := zbt HGS Bw8 kk
          clear Bw8 kk
          simp only [Act.put, zA, zB, zC]
          refine stp_fn 94 20 _ _ _ (refCat4_to _ _ _ _ _ _ F_r (by rw [big8_len, HCL.out]; have := HN.out; omega)) rfl rfl rfl rfl Try.func20 (by kernel_rfl) (by kernel_rfl) (by go_simp) ?_
          rintro e wq94 ⟨v_94, rfl, f_94, kk⟩
          refine ⟨_, rfl, kk, ?_⟩
          replace f_1 := zfb f_1 kk
          replace f_2 := zfb f_2 kk
          replace f_3 := zfb f_3 kk
          replace f_m := zfb f_m kk
          replace f_b := zfb f_b kk
          replace f_d := zfb f_d kk
          replace f_87 := zfb f_87 kk
          have Bw10 := zbt HGS Bw9 kk
          clear Bw9 kk
          simp only [Act.put, zA, zB, zC]
          refine stp_fn 95 19 _ _ _ (refMac_to _ _ (sMac l0) _ ML _ f_m f_94 (by rw [sMac_len]; decide) (by rw [List.length_append, List.length_append, List.length_append, big8_len, HCL.out]; have := HN.out; omega) HM.out) rfl rfl rfl rfl Try.func19 (by kernel_rfl) (by kernel_rfl) (by go_simp) ?_
          rintro e wq95 ⟨v_95, rfl, f_95, kk⟩
          refine ⟨_, rfl, kk, ?_⟩
          replace f_1 := zfb f_1 kk
          replace f_2 := zfb f_2 kk
          replace f_3 := zfb f_3 kk
          replace f_m := zfb f_m kk
          replace f_b := zfb f_b kk
          replace f_d := zfb f_d kk
          replace f_87 := zfb f_87 kk
          replace f_94 := zfb f_94 kk
          have Bw11 := zbt HGS Bw10 kk
          clear Bw10 kk
          simp only [Act.put, zA, zB, zC]
          refine lint_conv 96 (.tmp 95) _ _ rfl rfl rfl rfl rfl f_95 ?_
          simp only [Act.put, zA, zB, zC]
          refine lint_pure 97 _ _ (.bool true) rfl rfl rfl rfl rfl (fun wx hx => by exact exec_str_yes _ _ _ _ rfl rfl rfl) ?_
          simp only [Act.put, zA, zB, zC]
          refine lint_pure 98 _ _ (.bool true) rfl rfl rfl rfl rfl (fun wx hx => by unfold mkOp; go_simp; all_goals (with_reducible rfl)) ?_
          simp only [Act.put, zA, zB, zC]
          refine stp_fn 99 7 _ _ _ (awake13_any _) rfl rfl rfl rfl Try.func7 (by kernel_rfl) (by kernel_rfl) (by go_simp) ?_
          rintro e wq99 ⟨rfl, kk⟩
          refine ⟨_, rfl, kk, ?_⟩
          replace f_1 := zfb f_1 kk
          replace f_2 := zfb f_2 kk
          replace f_3 := zfb f_3 kk
          replace f_m := zfb f_m kk
          replace f_b := zfb f_b kk
          replace f_d := zfb f_d kk
          replace f_87 := zfb f_87 kk
          replace f_94 := zfb f_94 kk
          replace f_95 := zfb f_95 kk
          have Bw12 := zbt HGS Bw11 kk
          clear Bw11 kk
          simp only [Act.put, zA, zB, zC]
          refine lint_pure 100 _ _ (.bool true) rfl rfl rfl rfl rfl (fun wx hx => by unfold mkOp; go_simp; all_goals (with_reducible rfl)) ?_
          simp only [Act.put, zA, zB, zC]
          refine lint_pure 8 _ _ (.bool true) rfl rfl rfl rfl rfl (fun wx hx => by unfold mkOp; go_simp; all_goals (with_reducible rfl)) ?_
          simp only [Act.put, zA, zB, zC]
          refine lint_end ?_
          go_wp2
          go_ret
          exact ⟨rfl, Bw12⟩
        · have q3 : (400 : Int) < (n3 : Int) := by omega
          clear h0 hB0 e0 h1 hB1 e1 h2 hB2 e2 h3 hB3 e3 d0 d1 d2 d3
          go_enter Try.func6, Try.ntmps6
          go_wp2_with (go_at_call 7; refine (awake13_any _).mono ?_; rintro e w9 ⟨rfl, hb9⟩)
          go_ret
          exact ⟨rfl, hb9⟩
      · have q2 : (400 : Int) < (n2 : Int) := by omega
        clear h0 hB0 e0 h1 hB1 e1 h2 hB2 e2 h3 hB3 e3 d0 d1 d2
        go_enter Try.func6, Try.ntmps6
        go_wp2_with (go_at_call 7; refine (awake13_any _).mono ?_; rintro e w9 ⟨rfl, hb9⟩)
        go_ret
        exact ⟨rfl, hb9⟩
    · have q1 : ¬ (n1 : Int) = 12 := by omega
      clear h0 hB0 e0 h1 hB1 e1 h2 hB2 e2 h3 hB3 e3 d0 d1
      go_enter Try.func6, Try.ntmps6
      go_wp2_with (go_at_call 7; refine (awake13_any _).mono ?_; rintro e w9 ⟨rfl, hb9⟩)
      go_ret
      exact ⟨rfl, hb9⟩
  · have q0 : ¬ (n0 : Int) = 32 := by omega
    clear h0 hB0 e0 h1 hB1 e1 h2 hB2 e2 h3 hB3 e3 d0
    go_enter Try.func6, Try.ntmps6
    go_wp2_with (go_at_call 7; refine (awake13_any _).mono ?_; rintro e w9 ⟨rfl, hb9⟩)
    go_ret
    exact ⟨rfl, hb9⟩
end Go.Proofs.Ytclbfbkbmiijnaa
