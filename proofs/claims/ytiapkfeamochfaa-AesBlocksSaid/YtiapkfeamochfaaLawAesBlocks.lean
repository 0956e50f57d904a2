/- AesBlocks, walked. -/
import Derived.Test.YtiapkfeamochfaaMM3
namespace Go.Proofs.Ytiapkfeamochfaa
open Go.RowKit Go.Deep
set_option linter.unusedSimpArgs false
set_option linter.unusedVariables false

set_option maxHeartbeats 8000000 in
set_option maxRecDepth 100000 in
theorem law_aesBlocks (w : World) (v0 : Value) (l0 : List UInt8) (h0 : Bs w v0 l0) (v1 : Value) (l1 : List UInt8) (h1 : Bs w v1 l1) (x2 : Int) (w2 : (Lit.int .u8 x2).wf = true) : Calls Try.prog 3 #[v0, v1, .int .u8 x2] w fun e w' => e = .returned (.bool true) ∧ Below w.heap.size w w' := by
  obtain ⟨b, rfl, hb⟩ := bd_nat8 w2
  obtain ⟨ad0, n0, c0, rfl, e0, y0, z0, hB0⟩ := h0.shape
  obtain ⟨ad1, n1, c1, rfl, e1, y1, z1, hB1⟩ := h1.shape
  by_cases d0 : n0 ≤ 40
  · have q0 : ¬ (40 : Int) < (n0 : Int) := by omega
    by_cases d1 : n1 ≤ 40
    · have q1 : ¬ (40 : Int) < (n1 : Int) := by omega
      have HL0 : Hid (l0.length = n0) := Lib.hid e0
      have f_s_0 := hB0
      have HF_s_0 := Lib.hid hB0
      have HL1 : Hid (l1.length = n1) := Lib.hid e1
      have f_s_1 := hB1
      have HF_s_1 := Lib.hid hB1
      have Bw0 := Below.refl w.heap.size w
      have HGS : Hid (∀ wq : World, Below w.heap.size w wq → w.heap.size ≤ wq.heap.size) := Lib.hid fun wq h => h.size
      obtain ⟨XE, hXE⟩ : ∃ E, E = blE l0 l1 := ⟨_, rfl⟩
      obtain ⟨XL, hXL⟩ : ∃ E, E = blL l0 l1 := ⟨_, rfl⟩
      have HP := Lib.hid fun v u w h0 h1 => pBlock_to v l0 u l1 w h0 h1
      have HR := Lib.hid fun v u w h0 h1 => rBlock_to v l0 u l1 w h0 h1
      rw [← hXE, ← hXL] at HP HR
      obtain ⟨z, hz⟩ := nat_var (boxN b)
      have HB1 := Lib.hid fun w => pBox_any b w hb
      have HB2 := Lib.hid fun w => refBox_any b w hb
      rw [← hz] at HB1 HB2
      clear hXE hXL hz hb h0 h1 hB0 hB1 e0 e1 d0 d1
      go_enter Try.func3, Try.ntmps3
      go_wp2_with (first
        | (have hgo := Bw0; clear hgo
           go_at_call 10
           refine (HP.out _ _ _ f_s_0 f_s_1).mono ?_
           rintro e w12 ⟨v_s23, rfl, f_s23, kk⟩
           replace f_s_0 := zfb f_s_0 kk
           replace f_s_1 := zfb f_s_1 kk
           have Bw1 := zbt HGS Bw0 kk
           clear Bw0 kk)
        | (have hgo := Bw1; clear hgo
           go_at_call 11
           refine (HR.out _ _ _ f_s_0 f_s_1).mono ?_
           rintro e w20 ⟨v_s29, rfl, f_s29, kk⟩
           replace f_s_0 := zfb f_s_0 kk
           replace f_s_1 := zfb f_s_1 kk
           replace f_s23 := zfb f_s23 kk
           have Bw2 := zbt HGS Bw1 kk
           clear Bw1 kk)
        | (have hgo := Bw2; clear hgo
           refine wpList_value rfl (.string ⟨(XL).toArray⟩) (by rw [exec_mkOp]; exact exec_str _ _ _ rfl f_s23) ?_
           have Bw3 := Bw2
           clear Bw2)
        | (have hgo := Bw3; clear hgo
           refine wpList_value rfl (.string ⟨(XL).toArray⟩) (by rw [exec_mkOp]; exact exec_str _ _ _ rfl f_s29) ?_
           have Bw4 := Bw3
           clear Bw3)
        | (have hgo := Bw4; clear hgo
           refine wpList_value rfl (.bool true) (by rw [exec_mkOp]; exact exec_str_yes _ _ _ _ rfl rfl rfl) ?_
           have Bw5 := Bw4
           clear Bw4)
        | (have hgo := Bw5; clear hgo
           go_at_call 12
           refine (HB1.out _).mono ?_
           rintro e w38 ⟨rfl, kk⟩
           replace f_s_0 := zfb f_s_0 kk
           replace f_s_1 := zfb f_s_1 kk
           replace f_s23 := zfb f_s23 kk
           replace f_s29 := zfb f_s29 kk
           have Bw6 := zbt HGS Bw5 kk
           clear Bw5 kk)
        | (have hgo := Bw6; clear hgo
           go_at_call 13
           refine (HB2.out _).mono ?_
           rintro e w40 ⟨rfl, kk⟩
           replace f_s_0 := zfb f_s_0 kk
           replace f_s_1 := zfb f_s_1 kk
           replace f_s23 := zfb f_s23 kk
           replace f_s29 := zfb f_s29 kk
           have Bw7 := zbt HGS Bw6 kk
           clear Bw6 kk)
        | (have hgo := Bw7; clear hgo
           go_at_call 9
           refine (awake12_any _).mono ?_
           rintro e w44 ⟨rfl, kk⟩
           replace f_s_0 := zfb f_s_0 kk
           replace f_s_1 := zfb f_s_1 kk
           replace f_s23 := zfb f_s23 kk
           replace f_s29 := zfb f_s29 kk
           have Bw8 := zbt HGS Bw7 kk
           clear Bw7 kk))
      go_ret
      exact ⟨rfl, Bw8⟩
    · have q1 : (40 : Int) < (n1 : Int) := by omega
      clear h0 hB0 e0 h1 hB1 e1 d0 d1
      go_enter Try.func3, Try.ntmps3
      go_wp2_with (go_at_call 9; refine (awake12_any _).mono ?_; rintro e w9 ⟨rfl, hb9⟩)
      go_ret
      exact ⟨rfl, hb9⟩
  · have q0 : (40 : Int) < (n0 : Int) := by omega
    clear h0 hB0 e0 h1 hB1 e1 d0
    go_enter Try.func3, Try.ntmps3
    go_wp2_with (go_at_call 9; refine (awake12_any _).mono ?_; rintro e w9 ⟨rfl, hb9⟩)
    go_ret
    exact ⟨rfl, hb9⟩
end Go.Proofs.Ytiapkfeamochfaa
