/- AesCounters, walked. -/
import Derived.Test.YtiapkfeamochfaaMM3
namespace Go.Proofs.Ytiapkfeamochfaa
open Go.RowKit Go.Deep
set_option linter.unusedSimpArgs false
set_option linter.unusedVariables false

set_option maxHeartbeats 8000000 in
set_option maxRecDepth 100000 in
theorem law_aesCounters (w : World) (v0 : Value) (l0 : List UInt8) (h0 : Bs w v0 l0) (v1 : Value) (l1 : List UInt8) (h1 : Bs w v1 l1) (x2 : Int) (w2 : (Lit.int .i64 x2).wf = true) : Calls Try.prog 7 #[v0, v1, .int .i64 x2] w fun e w' => e = .returned (.bool true) ∧ Below w.heap.size w w' := by
  obtain ⟨ad0, n0, c0, rfl, e0, y0, z0, hB0⟩ := h0.shape
  obtain ⟨ad1, n1, c1, rfl, e1, y1, z1, hB1⟩ := h1.shape
  by_cases d0 : n0 = 32
  · have q0 : (n0 : Int) = 32 := by omega
    by_cases d1 : n1 = 12
    · have q1 : (n1 : Int) = 12 := by omega
      by_cases d2 : 0 ≤ x2
      · have q2 : ¬ x2 < 0 := by omega
        by_cases d3 : x2 ≤ 200
        · have q3 : ¬ (200 : Int) < x2 := by omega
          have HL0 : Hid (l0.length = n0) := Lib.hid e0
          have f_s_0 := hB0
          have HF_s_0 := Lib.hid hB0
          have HL1 : Hid (l1.length = n1) := Lib.hid e1
          have f_s_1 := hB1
          have HF_s_1 := Lib.hid hB1
          have Bw0 := Below.refl w.heap.size w
          have HGS : Hid (∀ wq : World, Below w.heap.size w wq → w.heap.size ≤ wq.heap.size) := Lib.hid fun wq h => h.size
          obtain ⟨N, rfl⟩ := Int.eq_ofNat_of_zero_le (show 0 ≤ x2 by omega)
          have h32 : l0.length = 32 := by omega
          have h12 : l1.length = 12 := by omega
          have hN : N ≤ 200 := by omega
          obtain ⟨XL, hXL⟩ : ∃ E, E = stL l0 l1 (N : Int) := ⟨_, rfl⟩
          have hXN : XL.length = N := by rw [hXL]; exact stL_len l0 l1 N h32 h12 (by omega)
          have HP := Lib.hid fun v u w h0 h1 => pStream_to v l0 u l1 (N : Int) w h0 h1
          rw [← hXL, stE_ok l0 l1 N h32 h12 (by omega)] at HP
          have HC := Lib.hid fun v u t w h0 h1 h2 => pCrypt_to v l0 u l1 t (List.replicate N 0) w h0 h1 h2
          rw [List.length_replicate, ← hXL, stE_ok l0 l1 N h32 h12 (by omega), xorB_zero XL N hXN] at HC
          have HB : Hid (∀ k, 16 * k + 16 ≤ N → (XL.take (16 * k + 16)).drop (16 * k) = aesL l0 (l1 ++ bigB k 4)) := Lib.hid fun k hk => by rw [hXL]; exact stL_block l0 l1 N k h32 h12 (by omega) hk
          have H32 := Lib.hid h32
          have H12 := Lib.hid h12
          have HN := Lib.hid hN
          have HXN := Lib.hid hXN
          have HN2 : Hid (N ≤ 2147483647) := Lib.hid (by omega)
          clear hXL hXN h32 h12 hN h0 h1 hB0 hB1 e0 e1 w2 d0 d1 d2 d3
          go_enter Try.func7, Try.ntmps7
          go_wp2_with (first
            | (have hgo := Bw0; clear hgo
               go_at_call 14
               refine (HP.out _ _ _ f_s_0 f_s_1).mono ?_
               rintro e w21 ⟨v_s35, rfl, f_s35, kk⟩
               replace f_s_0 := zfb f_s_0 kk
               replace f_s_1 := zfb f_s_1 kk
               have Bw1 := zbt HGS Bw0 kk
               clear Bw0 kk
               obtain ⟨ad_x, n_x, c_x, rfl, he, hy, hz, _⟩ := f_s35.shape
               have hn : N = n_x := by rw [← he]; exact HXN.out.symm
               subst hn
               clear he hy hz)
            | (have hgo := Bw1; clear hgo
               refine wpList_makeO rfl (.tmp 41) rfl N rfl HN2.out ?_
               intro v_m w30 f_m kk
               replace f_s_0 := zfb f_s_0 kk
               replace f_s_1 := zfb f_s_1 kk
               replace f_s35 := zfb f_s35 kk
               have Bw2 := zbt HGS Bw1 kk
               clear Bw1 kk)
            | (have hgo := Bw2; clear hgo
               go_at_call 16
               refine (HC.out _ _ _ _ f_s_0 f_s_1 f_m).mono ?_
               rintro e w31 ⟨v_s43, rfl, f_s43, kk⟩
               replace f_s_0 := zfb f_s_0 kk
               replace f_s_1 := zfb f_s_1 kk
               replace f_s35 := zfb f_s35 kk
               replace f_m := zfb f_m kk
               have Bw3 := zbt HGS Bw2 kk
               clear Bw2 kk)
            | (have hgo := Bw3; clear hgo
               refine wpList_value_given rfl (.string ⟨(XL).toArray⟩) (by rw [exec_mkOp]; exact exec_str _ _ _ rfl f_s43) ?_
               have Bw4 := Bw3
               clear Bw3)
            | (have hgo := Bw4; clear hgo
               refine wpList_value_given rfl (.string ⟨(XL).toArray⟩) (by rw [exec_mkOp]; exact exec_str _ _ _ rfl f_s35) ?_
               have Bw5 := Bw4
               clear Bw4)
            | (have hgo := Bw5; clear hgo
               refine wpList_value_given rfl (.bool false) (by rw [exec_mkOp]; exact exec_neqstr _ _ _ _ _ rfl rfl) ?_
               have Bw6 := Bw5
               clear Bw5))
          clear HP HC f_s43 f_m f_s_0 f_s_1
          go_loopw [11] (fun kv wr => ∃ k : Nat, kv = .int .i64 (k : Int) ∧ k ≤ 13 ∧ Bs wr (.slice ad_x N c_x) XL ∧ Below w.heap.size w wr) (fun kv _ => 14 - (intOf kv).toNat)
          case atStart => exact ⟨0, rfl, by decide, f_s35, Bw6⟩
          case round =>
            clear f_s35 Bw6
            obtain ⟨k, rfl, hk, f_s, Bw0⟩ := hrel
            obtain ⟨lo, hlo⟩ := nat_var (16 * k)
            obtain ⟨hi, hhi⟩ := nat_var (lo + 16)
            have hN := HN.out
            have hw1 : IntKind.i64.wrap (16 * (k : Int)) = (lo : Int) := by rw [IntWalk.i64_in _ (by omega)]; omega
            have hw2 : IntKind.i64.wrap ((lo : Int) + 16) = (hi : Int) := by rw [IntWalk.i64_in _ (by omega)]; omega
            by_cases hlt : hi ≤ N
            · have hltI : (hi : Int) ≤ (N : Int) := by omega
              have hw3 : IntKind.u64.wrap (k : Int) = (k : Int) := by rw [IntKind.wrap_u64]; omega
              obtain ⟨k1, hk1⟩ := nat_var (k + 1)
              have hw4 : IntKind.i64.wrap ((k : Int) + 1) = (k1 : Int) := by rw [IntWalk.i64_in _ (by omega)]; omega
              have HK1 : Hid (k1 = k + 1 ∧ k + 1 ≤ 13) := Lib.hid (by omega)
              have HK64 : Hid (k < 2 ^ 64) := Lib.hid (Nat.lt_of_lt_of_le (show k < 64 by omega) (by decide))
              have HLO : Hid (lo ≤ hi) := Lib.hid (by omega)
              have HHI : Hid (hi ≤ XL.length) := Lib.hid (by rw [HXN.out]; exact hlt)
              have HBL : Hid ((XL.take hi).drop lo = aesL l0 (l1 ++ bigB k 4)) := Lib.hid (by rw [hhi, hlo]; exact HB.out k (by omega))
              have f_s0 := HF_s_0.out.below Bw0 (Nat.le_refl _)
              have f_s1 := HF_s_1.out.below Bw0 (Nat.le_refl _)
              clear hlo hhi hN hlt hk1 hk
              go_wp2_with (first
                | (have hgo := Bw0; clear hgo
                   go_at_call 20
                   refine (bigK_to k _ HK64.out).mono ?_
                   rintro e w60 ⟨v_c, rfl, f_c, kk⟩
                   replace f_s := zfb f_s kk
                   replace f_s0 := zfb f_s0 kk
                   replace f_s1 := zfb f_s1 kk
                   have Bw1 := zbt HGS Bw0 kk
                   clear Bw0 kk)
                | (have hgo := Bw1; clear hgo
                   refine wpList_rows2 rfl (.tmp 74) (.tmp 77) rfl f_s1 f_c rfl rfl ?_
                   intro v_r w61 F_r kk
                   replace f_s := zfb f_s kk
                   replace f_s0 := zfb f_s0 kk
                   have Bw2 := zbt HGS Bw1 kk
                   clear Bw1 kk f_s1 f_c)
                | (have hgo := Bw2; clear hgo
                   go_at_call 19
                   refine (catK_to _ _ _ _ F_r (by rw [H12.out, bigB_len4]; decide)).mono ?_
                   rintro e w62 ⟨v_t, rfl, f_t, kk⟩
                   replace f_s := zfb f_s kk
                   replace f_s0 := zfb f_s0 kk
                   have Bw3 := zbt HGS Bw2 kk
                   clear Bw2 kk F_r)
                | (have hgo := Bw3; clear hgo
                   go_at_call 10
                   refine (pBlock_any _ l0 _ _ _ f_s0 H32.out f_t (by rw [List.length_append, H12.out, bigB_len4])).mono ?_
                   rintro e w63 ⟨v_b, rfl, f_b, kk⟩
                   replace f_s := zfb f_s kk
                   have Bw4 := zbt HGS Bw3 kk
                   clear Bw3 kk f_s0 f_t))
              replace Bw4 := Bw4.drew
              replace f_s := f_s.drew
              replace f_b := f_b.drew
              obtain ⟨v_p, f_p, hrp⟩ := partBA f_s lo hi HLO.out HHI.out
              rw [HBL.out] at f_p
              refine wp_region_lint (.rd 0 (.rd 1 (.rd 2 (.rd 3 (.rd 4 (.rd 5 (.rd 6 (.rd 7 (.rd 8 (.rd 9 (.rd 10 (.rd 11 (.rd 12 (.rd 13 (.rd 14 .done))))))))))))))) (by kernel_rfl) (by kernel_rfl) (by decide) (by kernel_rfl) (fun d _ _ _ _ h => by cases d <;> exact h) ?_
              refine lint_pure 83 _ _ (.int .i64 0) rfl rfl rfl rfl rfl (fun w0 hb0 => by unfold mkOp; go_simp; all_goals (with_reducible rfl)) ?_
              simp only [Act.put, zA, zB, zC]
              refine lint_pure 84 _ _ (.bool false) rfl rfl rfl rfl rfl (fun w0 hb0 => by unfold mkOp; go_simp; all_goals (with_reducible rfl)) ?_
              simp only [Act.put, zA, zB, zC]
              refine lint_pure 85 _ _ (.bool false) rfl rfl rfl rfl rfl (fun w0 hb0 => by unfold mkOp; go_simp; all_goals (with_reducible rfl)) ?_
              simp only [Act.put, zA, zB, zC]
              refine lint_pure 86 _ _ (v_b) rfl rfl rfl rfl rfl (fun w0 hb0 => by unfold mkOp; go_simp; all_goals (with_reducible rfl)) ?_
              simp only [Act.put, zA, zB, zC]
              refine lint_conv 87 (.tmp 86) _ _ rfl rfl rfl rfl rfl f_b ?_
              simp only [Act.put, zA, zB, zC]
              refine lint_pure 88 _ _ (.slice ad_x N c_x) rfl rfl rfl rfl rfl (fun w0 hb0 => by unfold mkOp; go_simp; all_goals (with_reducible rfl)) ?_
              simp only [Act.put, zA, zB, zC]
              refine lint_pure 89 _ _ (.int .i64 (k : Int)) rfl rfl rfl rfl rfl (fun w0 hb0 => by unfold mkOp; go_simp; all_goals (with_reducible rfl)) ?_
              simp only [Act.put, zA, zB, zC]
              refine lint_pure 90 _ _ (.int .i64 (lo : Int)) rfl rfl rfl rfl rfl (fun w0 hb0 => by unfold mkOp; go_simp; all_goals (with_reducible rfl)) ?_
              simp only [Act.put, zA, zB, zC]
              refine lint_pure 91 _ _ (.int .i64 (k : Int)) rfl rfl rfl rfl rfl (fun w0 hb0 => by unfold mkOp; go_simp; all_goals (with_reducible rfl)) ?_
              simp only [Act.put, zA, zB, zC]
              refine lint_pure 92 _ _ (.int .i64 (lo : Int)) rfl rfl rfl rfl rfl (fun w0 hb0 => by unfold mkOp; go_simp; all_goals (with_reducible rfl)) ?_
              simp only [Act.put, zA, zB, zC]
              refine lint_pure 93 _ _ (.int .i64 (hi : Int)) rfl rfl rfl rfl rfl (fun w0 hb0 => by unfold mkOp; go_simp; all_goals (with_reducible rfl)) ?_
              simp only [Act.put, zA, zB, zC]
              refine lint_pure 94 _ _ (v_p) rfl rfl rfl rfl rfl (fun w0 hb0 => by exact hrp _ _ _ _ _ w0 rfl rfl rfl) ?_
              simp only [Act.put, zA, zB, zC]
              refine lint_conv 95 (.tmp 94) _ _ rfl rfl rfl rfl rfl f_p ?_
              simp only [Act.put, zA, zB, zC]
              refine lint_pure 96 _ _ (.bool false) rfl rfl rfl rfl rfl (fun w0 hb0 => by exact exec_neqstr _ _ _ _ _ rfl rfl) ?_
              simp only [Act.put, zA, zB, zC]
              refine lint_pure 97 _ _ (.bool false) rfl rfl rfl rfl rfl (fun w0 hb0 => by unfold mkOp; go_simp; all_goals (with_reducible rfl)) ?_
              simp only [Act.put, zA, zB, zC]
              refine lint_end ?_
              go_wp2
              go_roundw
              case rel => exact ⟨k + 1, by rw [HK1.out.1], HK1.out.2, f_s, Bw4⟩
              case measure => (have := HK1.out; simp [intOf]; try omega)
            · have hltI : ¬ (hi : Int) ≤ (N : Int) := by omega
              clear hlo hhi hN hlt hk
              go_wp2_with (go_at_call 9; refine (awake12_any _).mono ?_; rintro e w9 ⟨rfl, hb9⟩)
              go_ret
              exact ⟨rfl, zbt HGS Bw0 hb9⟩
        · have q3 : (200 : Int) < x2 := by omega
          clear h0 hB0 e0 h1 hB1 e1 d0 d1 d2 d3
          go_enter Try.func7, Try.ntmps7
          go_wp2_with (go_at_call 9; refine (awake12_any _).mono ?_; rintro e w9 ⟨rfl, hb9⟩)
          go_ret
          exact ⟨rfl, hb9⟩
      · have q2 : x2 < 0 := by omega
        clear h0 hB0 e0 h1 hB1 e1 d0 d1 d2
        go_enter Try.func7, Try.ntmps7
        go_wp2_with (go_at_call 9; refine (awake12_any _).mono ?_; rintro e w9 ⟨rfl, hb9⟩)
        go_ret
        exact ⟨rfl, hb9⟩
    · have q1 : ¬ (n1 : Int) = 12 := by omega
      clear h0 hB0 e0 h1 hB1 e1 d0 d1
      go_enter Try.func7, Try.ntmps7
      go_wp2_with (go_at_call 9; refine (awake12_any _).mono ?_; rintro e w9 ⟨rfl, hb9⟩)
      go_ret
      exact ⟨rfl, hb9⟩
  · have q0 : ¬ (n0 : Int) = 32 := by omega
    clear h0 hB0 e0 h1 hB1 e1 d0
    go_enter Try.func7, Try.ntmps7
    go_wp2_with (go_at_call 9; refine (awake12_any _).mono ?_; rintro e w9 ⟨rfl, hb9⟩)
    go_ret
    exact ⟨rfl, hb9⟩
end Go.Proofs.Ytiapkfeamochfaa
