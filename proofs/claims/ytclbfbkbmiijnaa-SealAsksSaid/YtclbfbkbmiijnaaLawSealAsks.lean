/- SealAsks, walked. -/
import Derived.Test.YtclbfbkbmiijnaaMM3
namespace Go.Proofs.Ytclbfbkbmiijnaa
open Go.RowKit Go.Deep
set_option linter.unusedSimpArgs false
set_option linter.unusedVariables false

set_option maxHeartbeats 8000000 in
set_option maxRecDepth 100000 in
theorem law_sealAsks (w : World) (v0 : Value) (l0 : List UInt8) (h0 : Bs w v0 l0) (v1 : Value) (l1 : List UInt8) (h1 : Bs w v1 l1) (v2 : Value) (l2 : List UInt8) (h2 : Bs w v2 l2) (v3 : Value) (l3 : List UInt8) (h3 : Bs w v3 l3) (v4 : Value) (l4 : List UInt8) (h4 : Bs w v4 l4) : Calls Try.prog 3 #[v0, v1, v2, v3, v4] w fun e w' => e = .returned (.bool true) ∧ Below w.heap.size w w' := by
  obtain ⟨ad0, n0, c0, rfl, e0, y0, z0, hB0⟩ := h0.shape
  obtain ⟨ad1, n1, c1, rfl, e1, y1, z1, hB1⟩ := h1.shape
  obtain ⟨ad2, n2, c2, rfl, e2, y2, z2, hB2⟩ := h2.shape
  obtain ⟨ad3, n3, c3, rfl, e3, y3, z3, hB3⟩ := h3.shape
  obtain ⟨ad4, n4, c4, rfl, e4, y4, z4, hB4⟩ := h4.shape
  by_cases d0 : n0 ≤ 40
  · have q0 : ¬ (40 : Int) < (n0 : Int) := by omega
    by_cases d1 : n1 ≤ 20
    · have q1 : ¬ (20 : Int) < (n1 : Int) := by omega
      by_cases d2 : n2 ≤ 400
      · have q2 : ¬ (400 : Int) < (n2 : Int) := by omega
        by_cases d3 : n3 ≤ 400
        · have q3 : ¬ (400 : Int) < (n3 : Int) := by omega
          by_cases d4 : n4 ≤ 400
          · have q4 : ¬ (400 : Int) < (n4 : Int) := by omega
            have HL0 : Hid (l0.length = n0) := Lib.hid e0
            have f_s_0 := hB0
            have HF_s_0 := Lib.hid hB0
            have HL1 : Hid (l1.length = n1) := Lib.hid e1
            have f_s_1 := hB1
            have HF_s_1 := Lib.hid hB1
            have HL2 : Hid (l2.length = n2) := Lib.hid e2
            have f_s_2 := hB2
            have HF_s_2 := Lib.hid hB2
            have HL3 : Hid (l3.length = n3) := Lib.hid e3
            have f_s_3 := hB3
            have HF_s_3 := Lib.hid hB3
            have HL4 : Hid (l4.length = n4) := Lib.hid e4
            have f_s_4 := hB4
            have HF_s_4 := Lib.hid hB4
            have Bw0 := Below.refl w.heap.size w
            have HGS : Hid (∀ wq : World, Below w.heap.size w wq → w.heap.size ≤ wq.heap.size) := Lib.hid fun wq h => h.size
            obtain ⟨XE, hXE⟩ : ∃ E, E = seE l0 l1 l2 l3 := ⟨_, rfl⟩
            obtain ⟨XL, hXL⟩ : ∃ E, E = seL l0 l1 l2 l3 := ⟨_, rfl⟩
            obtain ⟨YE, hYE⟩ : ∃ E, E = opE l0 l1 l2 l4 := ⟨_, rfl⟩
            obtain ⟨YL, hYL⟩ : ∃ E, E = opL l0 l1 l2 l4 := ⟨_, rfl⟩
            have HS := Lib.hid fun v0 v1 v2 v3 w h0 h1 h2 h3 => pSeal_to v0 l0 v1 l1 v2 l2 v3 l3 w h0 h1 h2 h3
            have HT := Lib.hid fun v0 v1 v2 v3 w h0 h1 h2 h3 => rSeal_to v0 l0 v1 l1 v2 l2 v3 l3 w h0 h1 h2 h3
            have HO := Lib.hid fun v0 v1 v2 v3 w h0 h1 h2 h3 => pOpen_to v0 l0 v1 l1 v2 l2 v3 l4 w h0 h1 h2 h3
            have HR := Lib.hid fun v0 v1 v2 v3 w h0 h1 h2 h3 => rOpen_to v0 l0 v1 l1 v2 l2 v3 l4 w h0 h1 h2 h3
            rw [← hXE, ← hXL] at HS HT
            rw [← hYE, ← hYL] at HO HR
            clear hXE hXL hYE hYL h0 h1 h2 h3 h4 hB0 hB1 hB2 hB3 hB4 e0 e1 e2 e3 e4 d0 d1 d2 d3 d4
            go_enter Try.func3, Try.ntmps3
            go_wp2_with (first
              | (have hgo := Bw0; clear hgo
                 go_at_call 8
                 refine (HS.out _ _ _ _ _ f_s_0 f_s_1 f_s_2 f_s_3).mono ?_
                 rintro e w29 ⟨v_s48, rfl, f_s48, kk⟩
                 replace f_s_0 := zfb f_s_0 kk
                 replace f_s_1 := zfb f_s_1 kk
                 replace f_s_2 := zfb f_s_2 kk
                 replace f_s_3 := zfb f_s_3 kk
                 replace f_s_4 := zfb f_s_4 kk
                 have Bw1 := zbt HGS Bw0 kk
                 clear Bw0 kk)
              | (have hgo := Bw1; clear hgo
                 go_at_call 9
                 refine (HT.out _ _ _ _ _ f_s_0 f_s_1 f_s_2 f_s_3).mono ?_
                 rintro e w39 ⟨v_s56, rfl, f_s56, kk⟩
                 replace f_s_0 := zfb f_s_0 kk
                 replace f_s_1 := zfb f_s_1 kk
                 replace f_s_2 := zfb f_s_2 kk
                 replace f_s_3 := zfb f_s_3 kk
                 replace f_s_4 := zfb f_s_4 kk
                 replace f_s48 := zfb f_s48 kk
                 have Bw2 := zbt HGS Bw1 kk
                 clear Bw1 kk)
              | (have hgo := Bw2; clear hgo
                 go_at_call 10
                 refine (HO.out _ _ _ _ _ f_s_0 f_s_1 f_s_2 f_s_4).mono ?_
                 rintro e w49 ⟨v_s64, rfl, f_s64, kk⟩
                 replace f_s_0 := zfb f_s_0 kk
                 replace f_s_1 := zfb f_s_1 kk
                 replace f_s_2 := zfb f_s_2 kk
                 replace f_s_3 := zfb f_s_3 kk
                 replace f_s_4 := zfb f_s_4 kk
                 replace f_s48 := zfb f_s48 kk
                 replace f_s56 := zfb f_s56 kk
                 have Bw3 := zbt HGS Bw2 kk
                 clear Bw2 kk)
              | (have hgo := Bw3; clear hgo
                 go_at_call 11
                 refine (HR.out _ _ _ _ _ f_s_0 f_s_1 f_s_2 f_s_4).mono ?_
                 rintro e w59 ⟨v_s72, rfl, f_s72, kk⟩
                 replace f_s_0 := zfb f_s_0 kk
                 replace f_s_1 := zfb f_s_1 kk
                 replace f_s_2 := zfb f_s_2 kk
                 replace f_s_3 := zfb f_s_3 kk
                 replace f_s_4 := zfb f_s_4 kk
                 replace f_s48 := zfb f_s48 kk
                 replace f_s56 := zfb f_s56 kk
                 replace f_s64 := zfb f_s64 kk
                 have Bw4 := zbt HGS Bw3 kk
                 clear Bw3 kk)
              | (have hgo := Bw4; clear hgo
                 refine wpList_value rfl (.string ⟨(XL).toArray⟩) (by rw [exec_mkOp]; exact exec_str _ _ _ rfl f_s48) ?_
                 have Bw5 := Bw4
                 clear Bw4)
              | (have hgo := Bw5; clear hgo
                 refine wpList_value rfl (.string ⟨(XL).toArray⟩) (by rw [exec_mkOp]; exact exec_str _ _ _ rfl f_s56) ?_
                 have Bw6 := Bw5
                 clear Bw5)
              | (have hgo := Bw6; clear hgo
                 refine wpList_value rfl (.bool true) (by rw [exec_mkOp]; exact exec_str_yes _ _ _ _ rfl rfl rfl) ?_
                 have Bw7 := Bw6
                 clear Bw6)
              | (have hgo := Bw7; clear hgo
                 refine wpList_value_given rfl (.string ⟨(YL).toArray⟩) (by rw [exec_mkOp]; exact exec_str _ _ _ rfl f_s64) ?_
                 have Bw8 := Bw7
                 clear Bw7)
              | (have hgo := Bw8; clear hgo
                 refine wpList_value_given rfl (.string ⟨(YL).toArray⟩) (by rw [exec_mkOp]; exact exec_str _ _ _ rfl f_s72) ?_
                 have Bw9 := Bw8
                 clear Bw8)
              | (have hgo := Bw9; clear hgo
                 refine wpList_value_given rfl (.bool true) (by rw [exec_mkOp]; exact exec_str_yes _ _ _ _ rfl rfl rfl) ?_
                 have Bw10 := Bw9
                 clear Bw9)
              | (have hgo := Bw10; clear hgo
                 go_at_call 7
                 refine (awake13_any _).mono ?_
                 rintro e w88 ⟨rfl, kk⟩
                 replace f_s_0 := zfb f_s_0 kk
                 replace f_s_1 := zfb f_s_1 kk
                 replace f_s_2 := zfb f_s_2 kk
                 replace f_s_3 := zfb f_s_3 kk
                 replace f_s_4 := zfb f_s_4 kk
                 replace f_s48 := zfb f_s48 kk
                 replace f_s56 := zfb f_s56 kk
                 replace f_s64 := zfb f_s64 kk
                 replace f_s72 := zfb f_s72 kk
                 have Bw11 := zbt HGS Bw10 kk
                 clear Bw10 kk))
            go_ret
            exact ⟨rfl, Bw11⟩
          · have q4 : (400 : Int) < (n4 : Int) := by omega
            clear h0 hB0 e0 h1 hB1 e1 h2 hB2 e2 h3 hB3 e3 h4 hB4 e4 d0 d1 d2 d3 d4
            go_enter Try.func3, Try.ntmps3
            go_wp2_with (go_at_call 7; refine (awake13_any _).mono ?_; rintro e w9 ⟨rfl, hb9⟩)
            go_ret
            exact ⟨rfl, hb9⟩
        · have q3 : (400 : Int) < (n3 : Int) := by omega
          clear h0 hB0 e0 h1 hB1 e1 h2 hB2 e2 h3 hB3 e3 h4 hB4 e4 d0 d1 d2 d3
          go_enter Try.func3, Try.ntmps3
          go_wp2_with (go_at_call 7; refine (awake13_any _).mono ?_; rintro e w9 ⟨rfl, hb9⟩)
          go_ret
          exact ⟨rfl, hb9⟩
      · have q2 : (400 : Int) < (n2 : Int) := by omega
        clear h0 hB0 e0 h1 hB1 e1 h2 hB2 e2 h3 hB3 e3 h4 hB4 e4 d0 d1 d2
        go_enter Try.func3, Try.ntmps3
        go_wp2_with (go_at_call 7; refine (awake13_any _).mono ?_; rintro e w9 ⟨rfl, hb9⟩)
        go_ret
        exact ⟨rfl, hb9⟩
    · have q1 : (20 : Int) < (n1 : Int) := by omega
      clear h0 hB0 e0 h1 hB1 e1 h2 hB2 e2 h3 hB3 e3 h4 hB4 e4 d0 d1
      go_enter Try.func3, Try.ntmps3
      go_wp2_with (go_at_call 7; refine (awake13_any _).mono ?_; rintro e w9 ⟨rfl, hb9⟩)
      go_ret
      exact ⟨rfl, hb9⟩
  · have q0 : (40 : Int) < (n0 : Int) := by omega
    clear h0 hB0 e0 h1 hB1 e1 h2 hB2 e2 h3 hB3 e3 h4 hB4 e4 d0
    go_enter Try.func3, Try.ntmps3
    go_wp2_with (go_at_call 7; refine (awake13_any _).mono ?_; rintro e w9 ⟨rfl, hb9⟩)
    go_ret
    exact ⟨rfl, hb9⟩
end Go.Proofs.Ytclbfbkbmiijnaa
