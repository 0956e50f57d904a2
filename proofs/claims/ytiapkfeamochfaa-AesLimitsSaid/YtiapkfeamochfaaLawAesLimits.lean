/- AesLimits, walked. -/
import Derived.Test.YtiapkfeamochfaaMM3
namespace Go.Proofs.Ytiapkfeamochfaa
open Go.RowKit Go.Deep
set_option linter.unusedSimpArgs false
set_option linter.unusedVariables false

set_option maxHeartbeats 8000000 in
set_option maxRecDepth 100000 in
theorem law_aesLimits (w : World) (x0 : Int) (w0 : (Lit.int .i64 x0).wf = true) (x1 : Int) (w1 : (Lit.int .i64 x1).wf = true) (x2 : Int) (w2 : (Lit.int .i64 x2).wf = true) : Calls Try.prog 8 #[.int .i64 x0, .int .i64 x1, .int .i64 x2] w fun e w' => e = .returned (.bool true) ∧ Below w.heap.size w w' := by
  by_cases d0 : 0 ≤ x0
  · have q0 : ¬ x0 < 0 := by omega
    by_cases d1 : x0 ≤ 70
    · have q1 : ¬ (70 : Int) < x0 := by omega
      by_cases d2 : 0 ≤ x1
      · have q2 : ¬ x1 < 0 := by omega
        by_cases d3 : x1 ≤ 40
        · have q3 : ¬ (40 : Int) < x1 := by omega
          by_cases d4 : x2 ≤ 2097152
          · have q4 : ¬ (2097152 : Int) < x2 := by omega
            by_cases d5 : x2 ≤ 100
            · have q5 : ¬ (100 : Int) < x2 := by omega
              obtain ⟨K, rfl⟩ := Int.eq_ofNat_of_zero_le (show 0 ≤ x0 by omega)
              obtain ⟨M, rfl⟩ := Int.eq_ofNat_of_zero_le (show 0 ≤ x1 by omega)
              have hb := bd_i64 w2
              obtain ⟨hb1, hb2⟩ := hb
              by_cases t0 : K = 32
              · have k0 : (K : Int) = 32 := by omega
                by_cases t1 : M = 16
                · have k1 : (M : Int) = 16 := by omega
                  have k2 : ¬ (M : Int) = 12 := by omega
                  have hN : ¬ okS (List.replicate K 0) (List.replicate M 0) x2 := fun g => by
                    have g1 := g.1
                    have g2 := g.2.1
                    rw [List.length_replicate] at g1 g2
                    have g3 := g.2.2
                    omega
                  have hBy : okB (List.replicate K 0) (List.replicate M 0) := ⟨by rw [List.length_replicate]; exact t0, by rw [List.length_replicate]; exact t1⟩
                  have HKN : Hid (K ≤ 2147483647) := Lib.hid (by omega)
                  have HMN : Hid (M ≤ 2147483647) := Lib.hid (by omega)
                  obtain ⟨XL, hXL⟩ : ∃ E, E = stL (List.replicate K 0) (List.replicate M 0) x2 := ⟨_, rfl⟩
                  obtain ⟨XB, hXB⟩ : ∃ E, E = blL (List.replicate K 0) (List.replicate M 0) := ⟨_, rfl⟩
                  have HP := Lib.hid fun v u w h0 h1 => pStream_to v (List.replicate K 0) u (List.replicate M 0) x2 w h0 h1
                  have HB := Lib.hid fun v u w h0 h1 => pBlock_to v (List.replicate K 0) u (List.replicate M 0) w h0 h1
                  rw [← hXL, show stE (List.replicate K 0) (List.replicate M 0) x2 = 1 from if_neg hN] at HP
                  rw [← hXB, show blE (List.replicate K 0) (List.replicate M 0) = 0 from if_pos hBy] at HB
                  have HXL : Hid (XL.length = 0) := Lib.hid (by rw [hXL]; unfold stL; rw [if_neg hN]; rfl)
                  have Bw0 := Below.refl w.heap.size w
                  have HGS : Hid (∀ wq : World, Below w.heap.size w wq → w.heap.size ≤ wq.heap.size) := Lib.hid fun wq h => h.size
                  clear hXL hXB hN w0 w1 w2 hBy t0 t1
                  replace k0 := Lib.hid k0
                  replace k1 := Lib.hid k1
                  replace k2 := Lib.hid k2
                  go_enter Try.func8, Try.ntmps8
                  go_wp2
                  have Bw1 := Bw0.drew
                  clear Bw0
                  refine zpo [] (.rd 0 (.rd 2 .done)) #[true, false, true, false, false, false] [1, 3, 4, 5] [some 42, some 44, some 7, some 8] [[], [], [0], [0, 1, 2]] [(0, []), (1, [0, 0]), (2, []), (3, [2, 2]), (4, [1, 0, 1]), (5, [3, 4, 0, 1, 2, 3, 4])] 5 ?_
                  refine zmv (.int .i64 (K : Int)) rfl rfl rfl rfl rfl ?_
                  refine zmv (.int .i64 (M : Int)) rfl rfl rfl rfl rfl ?_
                  simp only [Act.put, zA, zB, zC]
                  refine lintz_leaf ?_
                  refine po_start [.own (List.replicate K 0) 2, .own (List.replicate M 0) 3, .own (List.replicate K 0) 4, .own (List.replicate M 0) 4] [] (fun i hi => absurd hi (Nat.not_lt_zero _)) (fun HWF m gz wa p az hp hm hmp hcl hdn hE hJ hS hO => ?_) (fun gz wa hE hJ => ?_)
                  · rcases (show p = 0 ∨ p = 1 ∨ p = 2 ∨ p = 3 by have h9 : p < 4 := hp; omega) with rfl | rfl | rfl | rfl
                    · have e41 : az.eval (.tmp 41) = .int .i64 (K : Int) := hO 41 rfl
                      exact po_made 42 (Op.makeSlice 22 (Operand.tmp 41) (Operand.tmp 41)) 22 HWF hJ rfl hE rfl rfl rfl rfl rfl rfl (exec_makeN _ _ _ _ e41 HKN.out) ((Below.refl _ _).alloc (Nat.le_refl _) _) (made_own _ K (by have := HKN.out; unfold maxLen; omega))
                    · have e43 : az.eval (.tmp 43) = .int .i64 (M : Int) := hO 43 rfl
                      exact po_made 44 (Op.makeSlice 22 (Operand.tmp 43) (Operand.tmp 43)) 22 HWF hJ rfl hE rfl rfl rfl rfl rfl rfl (exec_makeN _ _ _ _ e43 HMN.out) ((Below.refl _ _).alloc (Nat.le_refl _) _) (made_own _ M (by have := HMN.out; unfold maxLen; omega))
                    · exact po_mv 7 0 (.tmp 42) HWF (by rw [hm]; exact hp) hmp hJ rfl rfl (hdn 0 (by decide)) (fun i hi => absurd hi (Nat.not_lt_zero _)) hE rfl rfl rfl rfl rfl ((po_e0 hS hdn 0 42 rfl rfl rfl))
                    · exact po_mv 8 1 (.tmp 44) HWF (by rw [hm]; exact hp) hmp hJ rfl rfl (hdn 1 (by decide)) (fun i hi => absurd hi (Nat.not_lt_zero _)) hE rfl rfl rfl rfl rfl ((po_e0 hS hdn 1 44 rfl rfl rfl))
                  · rw [putO_true _ _ _ _ _ rfl]
                    simp only [putA, Nat.zero_add, Nat.reduceAdd]
                    simp only [Act.put, zA, zB, zC]
                    refine po_end ?_
                    have f_s7 := (hJ.own (p := 2) (by decide) rfl (by decide)).bs
                    have f_s8 := (hJ.own (p := 3) (by decide) rfl (by decide)).bs
                    have Bw2 := hE.below Bw1 (HGS.out _ Bw1) rfl
                    clear Bw1 hE hJ 
                    generalize gz 2 = v_s7 at f_s7 ⊢
                    generalize gz 3 = v_s8 at f_s8 ⊢
                    replace k0 := k0.out
                    replace k1 := k1.out
                    replace k2 := k2.out
                    go_wp2_with (first
                      | (have hgo := Bw2; clear hgo
                         go_at_call 14
                         refine (HP.out _ _ _ f_s7 f_s8).mono ?_
                         rintro e w31 ⟨v_s49, rfl, f_s49, kk⟩
                         replace f_s7 := zfb f_s7 kk
                         replace f_s8 := zfb f_s8 kk
                         have Bw3 := zbt HGS Bw2 kk
                         clear Bw2 kk
                         obtain ⟨ad_x, n_x, c_x, rfl, he, hy, hz, _⟩ := f_s49.shape
                         have hn : n_x = 0 := by rw [← he]; exact HXL.out
                         subst hn
                         clear he hy hz)
                      | (have hgo := Bw3; clear hgo
                         go_at_call 10
                         refine (HB.out _ _ _ f_s7 f_s8).mono ?_
                         rintro e w39 ⟨v_s55, rfl, f_s55, kk⟩
                         replace f_s7 := zfb f_s7 kk
                         replace f_s8 := zfb f_s8 kk
                         replace f_s49 := zfb f_s49 kk
                         have Bw4 := zbt HGS Bw3 kk
                         clear Bw3 kk)
                      | (have hgo := Bw4; clear hgo
                         go_at_call 21
                         refine (one_no _).mono ?_
                         rintro e w90 ⟨rfl, rfl⟩)
                      | (have hgo := Bw4; clear hgo
                         go_at_call 9
                         refine (awake12_any _).mono ?_
                         rintro e w91 ⟨rfl, kk⟩
                         have Bw99 := zbt HGS Bw4 kk
                         clear Bw4 kk))
                    all_goals go_ret
                    all_goals first | exact ⟨rfl, Bw99⟩ | (refine ⟨?_, Bw99⟩; show Ending.returned (Value.bool (!((M : Int) == 16))) = _; rw [KB.out]; rfl)
                · have k1 : ¬ (M : Int) = 16 := by omega
                  have KB : Hid (((M : Int) == 16) = false) := Lib.hid (by simp; omega)
                  by_cases t2 : M = 12
                  · have k2 : (M : Int) = 12 := by omega
                    by_cases t3 : x2 < 0
                    · have k5 : ¬ x2 ≥ 0 := by omega
                      have hN : ¬ okS (List.replicate K 0) (List.replicate M 0) x2 := fun g => by
                        have g1 := g.1
                        have g2 := g.2.1
                        rw [List.length_replicate] at g1 g2
                        have g3 := g.2.2
                        omega
                      have hBn : ¬ okB (List.replicate K 0) (List.replicate M 0) := fun g => by
                        have g1 := g.1
                        have g2 := g.2
                        rw [List.length_replicate] at g1 g2
                        omega
                      have HKN : Hid (K ≤ 2147483647) := Lib.hid (by omega)
                      have HMN : Hid (M ≤ 2147483647) := Lib.hid (by omega)
                      obtain ⟨XL, hXL⟩ : ∃ E, E = stL (List.replicate K 0) (List.replicate M 0) x2 := ⟨_, rfl⟩
                      obtain ⟨XB, hXB⟩ : ∃ E, E = blL (List.replicate K 0) (List.replicate M 0) := ⟨_, rfl⟩
                      have HP := Lib.hid fun v u w h0 h1 => pStream_to v (List.replicate K 0) u (List.replicate M 0) x2 w h0 h1
                      have HB := Lib.hid fun v u w h0 h1 => pBlock_to v (List.replicate K 0) u (List.replicate M 0) w h0 h1
                      rw [← hXL, show stE (List.replicate K 0) (List.replicate M 0) x2 = 1 from if_neg hN] at HP
                      rw [← hXB, show blE (List.replicate K 0) (List.replicate M 0) = 1 from if_neg hBn] at HB
                      have HXL : Hid (XL.length = 0) := Lib.hid (by rw [hXL]; unfold stL; rw [if_neg hN]; rfl)
                      have Bw0 := Below.refl w.heap.size w
                      have HGS : Hid (∀ wq : World, Below w.heap.size w wq → w.heap.size ≤ wq.heap.size) := Lib.hid fun wq h => h.size
                      clear hXL hXB hN w0 w1 w2 hBn t0 t1 t2
                      replace k0 := Lib.hid k0
                      replace k1 := Lib.hid k1
                      replace k2 := Lib.hid k2
                      go_enter Try.func8, Try.ntmps8
                      go_wp2
                      have Bw1 := Bw0.drew
                      clear Bw0
                      refine zpo [] (.rd 0 (.rd 2 .done)) #[true, false, true, false, false, false] [1, 3, 4, 5] [some 42, some 44, some 7, some 8] [[], [], [0], [0, 1, 2]] [(0, []), (1, [0, 0]), (2, []), (3, [2, 2]), (4, [1, 0, 1]), (5, [3, 4, 0, 1, 2, 3, 4])] 5 ?_
                      refine zmv (.int .i64 (K : Int)) rfl rfl rfl rfl rfl ?_
                      refine zmv (.int .i64 (M : Int)) rfl rfl rfl rfl rfl ?_
                      simp only [Act.put, zA, zB, zC]
                      refine lintz_leaf ?_
                      refine po_start [.own (List.replicate K 0) 2, .own (List.replicate M 0) 3, .own (List.replicate K 0) 4, .own (List.replicate M 0) 4] [] (fun i hi => absurd hi (Nat.not_lt_zero _)) (fun HWF m gz wa p az hp hm hmp hcl hdn hE hJ hS hO => ?_) (fun gz wa hE hJ => ?_)
                      · rcases (show p = 0 ∨ p = 1 ∨ p = 2 ∨ p = 3 by have h9 : p < 4 := hp; omega) with rfl | rfl | rfl | rfl
                        · have e41 : az.eval (.tmp 41) = .int .i64 (K : Int) := hO 41 rfl
                          exact po_made 42 (Op.makeSlice 22 (Operand.tmp 41) (Operand.tmp 41)) 22 HWF hJ rfl hE rfl rfl rfl rfl rfl rfl (exec_makeN _ _ _ _ e41 HKN.out) ((Below.refl _ _).alloc (Nat.le_refl _) _) (made_own _ K (by have := HKN.out; unfold maxLen; omega))
                        · have e43 : az.eval (.tmp 43) = .int .i64 (M : Int) := hO 43 rfl
                          exact po_made 44 (Op.makeSlice 22 (Operand.tmp 43) (Operand.tmp 43)) 22 HWF hJ rfl hE rfl rfl rfl rfl rfl rfl (exec_makeN _ _ _ _ e43 HMN.out) ((Below.refl _ _).alloc (Nat.le_refl _) _) (made_own _ M (by have := HMN.out; unfold maxLen; omega))
                        · exact po_mv 7 0 (.tmp 42) HWF (by rw [hm]; exact hp) hmp hJ rfl rfl (hdn 0 (by decide)) (fun i hi => absurd hi (Nat.not_lt_zero _)) hE rfl rfl rfl rfl rfl ((po_e0 hS hdn 0 42 rfl rfl rfl))
                        · exact po_mv 8 1 (.tmp 44) HWF (by rw [hm]; exact hp) hmp hJ rfl rfl (hdn 1 (by decide)) (fun i hi => absurd hi (Nat.not_lt_zero _)) hE rfl rfl rfl rfl rfl ((po_e0 hS hdn 1 44 rfl rfl rfl))
                      · rw [putO_true _ _ _ _ _ rfl]
                        simp only [putA, Nat.zero_add, Nat.reduceAdd]
                        simp only [Act.put, zA, zB, zC]
                        refine po_end ?_
                        have f_s7 := (hJ.own (p := 2) (by decide) rfl (by decide)).bs
                        have f_s8 := (hJ.own (p := 3) (by decide) rfl (by decide)).bs
                        have Bw2 := hE.below Bw1 (HGS.out _ Bw1) rfl
                        clear Bw1 hE hJ 
                        generalize gz 2 = v_s7 at f_s7 ⊢
                        generalize gz 3 = v_s8 at f_s8 ⊢
                        replace k0 := k0.out
                        replace k1 := k1.out
                        replace k2 := k2.out
                        go_wp2_with (first
                          | (have hgo := Bw2; clear hgo
                             go_at_call 14
                             refine (HP.out _ _ _ f_s7 f_s8).mono ?_
                             rintro e w31 ⟨v_s49, rfl, f_s49, kk⟩
                             replace f_s7 := zfb f_s7 kk
                             replace f_s8 := zfb f_s8 kk
                             have Bw3 := zbt HGS Bw2 kk
                             clear Bw2 kk
                             obtain ⟨ad_x, n_x, c_x, rfl, he, hy, hz, _⟩ := f_s49.shape
                             have hn : n_x = 0 := by rw [← he]; exact HXL.out
                             subst hn
                             clear he hy hz)
                          | (have hgo := Bw3; clear hgo
                             go_at_call 10
                             refine (HB.out _ _ _ f_s7 f_s8).mono ?_
                             rintro e w39 ⟨v_s55, rfl, f_s55, kk⟩
                             replace f_s7 := zfb f_s7 kk
                             replace f_s8 := zfb f_s8 kk
                             replace f_s49 := zfb f_s49 kk
                             have Bw4 := zbt HGS Bw3 kk
                             clear Bw3 kk)
                          | (have hgo := Bw4; clear hgo
                             go_at_call 21
                             refine (one_no _).mono ?_
                             rintro e w90 ⟨rfl, rfl⟩)
                          | (have hgo := Bw4; clear hgo
                             go_at_call 9
                             refine (awake12_any _).mono ?_
                             rintro e w91 ⟨rfl, kk⟩
                             have Bw99 := zbt HGS Bw4 kk
                             clear Bw4 kk))
                        all_goals go_ret
                        all_goals first | exact ⟨rfl, Bw99⟩ | (refine ⟨?_, Bw99⟩; show Ending.returned (Value.bool (!((M : Int) == 16))) = _; rw [KB.out]; rfl)
                    · have k5 : x2 ≥ 0 := by omega
                      obtain ⟨N, rfl⟩ := Int.eq_ofNat_of_zero_le (show 0 ≤ x2 by omega)
                      have hn0 : N ≤ 100 := by omega
                      have hn1 : (N : Int) ≤ 1048576 := by omega
                      have hw1 : IntKind.i64.wrap ((N : Int) * 1) = (N : Int) := by rw [IntWalk.i64_in _ (by omega)]; omega
                      have hw2 : IntKind.i64.wrap (N : Int) = (N : Int) := by rw [IntWalk.i64_in _ (by omega)]
                      have hN : okS (List.replicate K 0) (List.replicate M 0) (N : Int) := ⟨by rw [List.length_replicate]; exact t0, by rw [List.length_replicate]; exact t2, by omega, by omega⟩
                      have hBn : ¬ okB (List.replicate K 0) (List.replicate M 0) := fun g => by
                        have g1 := g.1
                        have g2 := g.2
                        rw [List.length_replicate] at g1 g2
                        omega
                      have HKN : Hid (K ≤ 2147483647) := Lib.hid (by omega)
                      have HMN : Hid (M ≤ 2147483647) := Lib.hid (by omega)
                      obtain ⟨XL, hXL⟩ : ∃ E, E = stL (List.replicate K 0) (List.replicate M 0) (N : Int) := ⟨_, rfl⟩
                      obtain ⟨XB, hXB⟩ : ∃ E, E = blL (List.replicate K 0) (List.replicate M 0) := ⟨_, rfl⟩
                      have HP := Lib.hid fun v u w h0 h1 => pStream_to v (List.replicate K 0) u (List.replicate M 0) (N : Int) w h0 h1
                      have HB := Lib.hid fun v u w h0 h1 => pBlock_to v (List.replicate K 0) u (List.replicate M 0) w h0 h1
                      rw [← hXL, show stE (List.replicate K 0) (List.replicate M 0) (N : Int) = 0 from if_pos hN] at HP
                      rw [← hXB, show blE (List.replicate K 0) (List.replicate M 0) = 1 from if_neg hBn] at HB
                      have HXL : Hid (XL.length = N) := Lib.hid (by rw [hXL]; exact stL_len _ _ N (by rw [List.length_replicate]; exact t0) (by rw [List.length_replicate]; exact t2) (by omega))
                      have Bw0 := Below.refl w.heap.size w
                      have HGS : Hid (∀ wq : World, Below w.heap.size w wq → w.heap.size ≤ wq.heap.size) := Lib.hid fun wq h => h.size
                      clear hXL hXB hN w0 w1 w2 hn0 hBn t0 t1 t2
                      replace k0 := Lib.hid k0
                      replace k1 := Lib.hid k1
                      replace k2 := Lib.hid k2
                      go_enter Try.func8, Try.ntmps8
                      go_wp2
                      have Bw1 := Bw0.drew
                      clear Bw0
                      refine zpo [] (.rd 0 (.rd 2 .done)) #[true, false, true, false, false, false] [1, 3, 4, 5] [some 42, some 44, some 7, some 8] [[], [], [0], [0, 1, 2]] [(0, []), (1, [0, 0]), (2, []), (3, [2, 2]), (4, [1, 0, 1]), (5, [3, 4, 0, 1, 2, 3, 4])] 5 ?_
                      refine zmv (.int .i64 (K : Int)) rfl rfl rfl rfl rfl ?_
                      refine zmv (.int .i64 (M : Int)) rfl rfl rfl rfl rfl ?_
                      simp only [Act.put, zA, zB, zC]
                      refine lintz_leaf ?_
                      refine po_start [.own (List.replicate K 0) 2, .own (List.replicate M 0) 3, .own (List.replicate K 0) 4, .own (List.replicate M 0) 4] [] (fun i hi => absurd hi (Nat.not_lt_zero _)) (fun HWF m gz wa p az hp hm hmp hcl hdn hE hJ hS hO => ?_) (fun gz wa hE hJ => ?_)
                      · rcases (show p = 0 ∨ p = 1 ∨ p = 2 ∨ p = 3 by have h9 : p < 4 := hp; omega) with rfl | rfl | rfl | rfl
                        · have e41 : az.eval (.tmp 41) = .int .i64 (K : Int) := hO 41 rfl
                          exact po_made 42 (Op.makeSlice 22 (Operand.tmp 41) (Operand.tmp 41)) 22 HWF hJ rfl hE rfl rfl rfl rfl rfl rfl (exec_makeN _ _ _ _ e41 HKN.out) ((Below.refl _ _).alloc (Nat.le_refl _) _) (made_own _ K (by have := HKN.out; unfold maxLen; omega))
                        · have e43 : az.eval (.tmp 43) = .int .i64 (M : Int) := hO 43 rfl
                          exact po_made 44 (Op.makeSlice 22 (Operand.tmp 43) (Operand.tmp 43)) 22 HWF hJ rfl hE rfl rfl rfl rfl rfl rfl (exec_makeN _ _ _ _ e43 HMN.out) ((Below.refl _ _).alloc (Nat.le_refl _) _) (made_own _ M (by have := HMN.out; unfold maxLen; omega))
                        · exact po_mv 7 0 (.tmp 42) HWF (by rw [hm]; exact hp) hmp hJ rfl rfl (hdn 0 (by decide)) (fun i hi => absurd hi (Nat.not_lt_zero _)) hE rfl rfl rfl rfl rfl ((po_e0 hS hdn 0 42 rfl rfl rfl))
                        · exact po_mv 8 1 (.tmp 44) HWF (by rw [hm]; exact hp) hmp hJ rfl rfl (hdn 1 (by decide)) (fun i hi => absurd hi (Nat.not_lt_zero _)) hE rfl rfl rfl rfl rfl ((po_e0 hS hdn 1 44 rfl rfl rfl))
                      · rw [putO_true _ _ _ _ _ rfl]
                        simp only [putA, Nat.zero_add, Nat.reduceAdd]
                        simp only [Act.put, zA, zB, zC]
                        refine po_end ?_
                        have f_s7 := (hJ.own (p := 2) (by decide) rfl (by decide)).bs
                        have f_s8 := (hJ.own (p := 3) (by decide) rfl (by decide)).bs
                        have Bw2 := hE.below Bw1 (HGS.out _ Bw1) rfl
                        clear Bw1 hE hJ 
                        generalize gz 2 = v_s7 at f_s7 ⊢
                        generalize gz 3 = v_s8 at f_s8 ⊢
                        replace k0 := k0.out
                        replace k1 := k1.out
                        replace k2 := k2.out
                        go_wp2_with (first
                          | (have hgo := Bw2; clear hgo
                             go_at_call 14
                             refine (HP.out _ _ _ f_s7 f_s8).mono ?_
                             rintro e w31 ⟨v_s49, rfl, f_s49, kk⟩
                             replace f_s7 := zfb f_s7 kk
                             replace f_s8 := zfb f_s8 kk
                             have Bw3 := zbt HGS Bw2 kk
                             clear Bw2 kk
                             obtain ⟨ad_x, n_x, c_x, rfl, he, hy, hz, _⟩ := f_s49.shape
                             have hn : n_x = N := by rw [← he]; exact HXL.out
                             subst hn
                             clear he hy hz)
                          | (have hgo := Bw3; clear hgo
                             go_at_call 10
                             refine (HB.out _ _ _ f_s7 f_s8).mono ?_
                             rintro e w39 ⟨v_s55, rfl, f_s55, kk⟩
                             replace f_s7 := zfb f_s7 kk
                             replace f_s8 := zfb f_s8 kk
                             replace f_s49 := zfb f_s49 kk
                             have Bw4 := zbt HGS Bw3 kk
                             clear Bw3 kk)
                          | (have hgo := Bw4; clear hgo
                             go_at_call 21
                             refine (one_yes _).mono ?_
                             rintro e w90 ⟨rfl, rfl⟩)
                          | (have hgo := Bw4; clear hgo
                             go_at_call 9
                             refine (awake12_any _).mono ?_
                             rintro e w91 ⟨rfl, kk⟩
                             have Bw99 := zbt HGS Bw4 kk
                             clear Bw4 kk))
                        all_goals go_ret
                        all_goals first | exact ⟨rfl, Bw99⟩ | (refine ⟨?_, Bw99⟩; show Ending.returned (Value.bool (!((M : Int) == 16))) = _; rw [KB.out]; rfl)
                  · have k2 : ¬ (M : Int) = 12 := by omega
                    have hN : ¬ okS (List.replicate K 0) (List.replicate M 0) x2 := fun g => by
                      have g1 := g.1
                      have g2 := g.2.1
                      rw [List.length_replicate] at g1 g2
                      have g3 := g.2.2
                      omega
                    have hBn : ¬ okB (List.replicate K 0) (List.replicate M 0) := fun g => by
                      have g1 := g.1
                      have g2 := g.2
                      rw [List.length_replicate] at g1 g2
                      omega
                    have HKN : Hid (K ≤ 2147483647) := Lib.hid (by omega)
                    have HMN : Hid (M ≤ 2147483647) := Lib.hid (by omega)
                    obtain ⟨XL, hXL⟩ : ∃ E, E = stL (List.replicate K 0) (List.replicate M 0) x2 := ⟨_, rfl⟩
                    obtain ⟨XB, hXB⟩ : ∃ E, E = blL (List.replicate K 0) (List.replicate M 0) := ⟨_, rfl⟩
                    have HP := Lib.hid fun v u w h0 h1 => pStream_to v (List.replicate K 0) u (List.replicate M 0) x2 w h0 h1
                    have HB := Lib.hid fun v u w h0 h1 => pBlock_to v (List.replicate K 0) u (List.replicate M 0) w h0 h1
                    rw [← hXL, show stE (List.replicate K 0) (List.replicate M 0) x2 = 1 from if_neg hN] at HP
                    rw [← hXB, show blE (List.replicate K 0) (List.replicate M 0) = 1 from if_neg hBn] at HB
                    have HXL : Hid (XL.length = 0) := Lib.hid (by rw [hXL]; unfold stL; rw [if_neg hN]; rfl)
                    have Bw0 := Below.refl w.heap.size w
                    have HGS : Hid (∀ wq : World, Below w.heap.size w wq → w.heap.size ≤ wq.heap.size) := Lib.hid fun wq h => h.size
                    clear hXL hXB hN w0 w1 w2 hBn t0 t1 t2
                    replace k0 := Lib.hid k0
                    replace k1 := Lib.hid k1
                    replace k2 := Lib.hid k2
                    go_enter Try.func8, Try.ntmps8
                    go_wp2
                    have Bw1 := Bw0.drew
                    clear Bw0
                    refine zpo [] (.rd 0 (.rd 2 .done)) #[true, false, true, false, false, false] [1, 3, 4, 5] [some 42, some 44, some 7, some 8] [[], [], [0], [0, 1, 2]] [(0, []), (1, [0, 0]), (2, []), (3, [2, 2]), (4, [1, 0, 1]), (5, [3, 4, 0, 1, 2, 3, 4])] 5 ?_
                    refine zmv (.int .i64 (K : Int)) rfl rfl rfl rfl rfl ?_
                    refine zmv (.int .i64 (M : Int)) rfl rfl rfl rfl rfl ?_
                    simp only [Act.put, zA, zB, zC]
                    refine lintz_leaf ?_
                    refine po_start [.own (List.replicate K 0) 2, .own (List.replicate M 0) 3, .own (List.replicate K 0) 4, .own (List.replicate M 0) 4] [] (fun i hi => absurd hi (Nat.not_lt_zero _)) (fun HWF m gz wa p az hp hm hmp hcl hdn hE hJ hS hO => ?_) (fun gz wa hE hJ => ?_)
                    · rcases (show p = 0 ∨ p = 1 ∨ p = 2 ∨ p = 3 by have h9 : p < 4 := hp; omega) with rfl | rfl | rfl | rfl
                      · have e41 : az.eval (.tmp 41) = .int .i64 (K : Int) := hO 41 rfl
                        exact po_made 42 (Op.makeSlice 22 (Operand.tmp 41) (Operand.tmp 41)) 22 HWF hJ rfl hE rfl rfl rfl rfl rfl rfl (exec_makeN _ _ _ _ e41 HKN.out) ((Below.refl _ _).alloc (Nat.le_refl _) _) (made_own _ K (by have := HKN.out; unfold maxLen; omega))
                      · have e43 : az.eval (.tmp 43) = .int .i64 (M : Int) := hO 43 rfl
                        exact po_made 44 (Op.makeSlice 22 (Operand.tmp 43) (Operand.tmp 43)) 22 HWF hJ rfl hE rfl rfl rfl rfl rfl rfl (exec_makeN _ _ _ _ e43 HMN.out) ((Below.refl _ _).alloc (Nat.le_refl _) _) (made_own _ M (by have := HMN.out; unfold maxLen; omega))
                      · exact po_mv 7 0 (.tmp 42) HWF (by rw [hm]; exact hp) hmp hJ rfl rfl (hdn 0 (by decide)) (fun i hi => absurd hi (Nat.not_lt_zero _)) hE rfl rfl rfl rfl rfl ((po_e0 hS hdn 0 42 rfl rfl rfl))
                      · exact po_mv 8 1 (.tmp 44) HWF (by rw [hm]; exact hp) hmp hJ rfl rfl (hdn 1 (by decide)) (fun i hi => absurd hi (Nat.not_lt_zero _)) hE rfl rfl rfl rfl rfl ((po_e0 hS hdn 1 44 rfl rfl rfl))
                    · rw [putO_true _ _ _ _ _ rfl]
                      simp only [putA, Nat.zero_add, Nat.reduceAdd]
                      simp only [Act.put, zA, zB, zC]
                      refine po_end ?_
                      have f_s7 := (hJ.own (p := 2) (by decide) rfl (by decide)).bs
                      have f_s8 := (hJ.own (p := 3) (by decide) rfl (by decide)).bs
                      have Bw2 := hE.below Bw1 (HGS.out _ Bw1) rfl
                      clear Bw1 hE hJ 
                      generalize gz 2 = v_s7 at f_s7 ⊢
                      generalize gz 3 = v_s8 at f_s8 ⊢
                      replace k0 := k0.out
                      replace k1 := k1.out
                      replace k2 := k2.out
                      go_wp2_with (first
                        | (have hgo := Bw2; clear hgo
                           go_at_call 14
                           refine (HP.out _ _ _ f_s7 f_s8).mono ?_
                           rintro e w31 ⟨v_s49, rfl, f_s49, kk⟩
                           replace f_s7 := zfb f_s7 kk
                           replace f_s8 := zfb f_s8 kk
                           have Bw3 := zbt HGS Bw2 kk
                           clear Bw2 kk
                           obtain ⟨ad_x, n_x, c_x, rfl, he, hy, hz, _⟩ := f_s49.shape
                           have hn : n_x = 0 := by rw [← he]; exact HXL.out
                           subst hn
                           clear he hy hz)
                        | (have hgo := Bw3; clear hgo
                           go_at_call 10
                           refine (HB.out _ _ _ f_s7 f_s8).mono ?_
                           rintro e w39 ⟨v_s55, rfl, f_s55, kk⟩
                           replace f_s7 := zfb f_s7 kk
                           replace f_s8 := zfb f_s8 kk
                           replace f_s49 := zfb f_s49 kk
                           have Bw4 := zbt HGS Bw3 kk
                           clear Bw3 kk)
                        | (have hgo := Bw4; clear hgo
                           go_at_call 21
                           refine (one_no _).mono ?_
                           rintro e w90 ⟨rfl, rfl⟩)
                        | (have hgo := Bw4; clear hgo
                           go_at_call 9
                           refine (awake12_any _).mono ?_
                           rintro e w91 ⟨rfl, kk⟩
                           have Bw99 := zbt HGS Bw4 kk
                           clear Bw4 kk))
                      all_goals go_ret
                      all_goals first | exact ⟨rfl, Bw99⟩ | (refine ⟨?_, Bw99⟩; show Ending.returned (Value.bool (!((M : Int) == 16))) = _; rw [KB.out]; rfl)
              · have k0 : ¬ (K : Int) = 32 := by omega
                have hN : ¬ okS (List.replicate K 0) (List.replicate M 0) x2 := fun g => by
                  have g1 := g.1
                  have g2 := g.2.1
                  rw [List.length_replicate] at g1 g2
                  have g3 := g.2.2
                  omega
                have hBn : ¬ okB (List.replicate K 0) (List.replicate M 0) := fun g => by
                  have g1 := g.1
                  have g2 := g.2
                  rw [List.length_replicate] at g1 g2
                  omega
                have HKN : Hid (K ≤ 2147483647) := Lib.hid (by omega)
                have HMN : Hid (M ≤ 2147483647) := Lib.hid (by omega)
                obtain ⟨XL, hXL⟩ : ∃ E, E = stL (List.replicate K 0) (List.replicate M 0) x2 := ⟨_, rfl⟩
                obtain ⟨XB, hXB⟩ : ∃ E, E = blL (List.replicate K 0) (List.replicate M 0) := ⟨_, rfl⟩
                have HP := Lib.hid fun v u w h0 h1 => pStream_to v (List.replicate K 0) u (List.replicate M 0) x2 w h0 h1
                have HB := Lib.hid fun v u w h0 h1 => pBlock_to v (List.replicate K 0) u (List.replicate M 0) w h0 h1
                rw [← hXL, show stE (List.replicate K 0) (List.replicate M 0) x2 = 1 from if_neg hN] at HP
                rw [← hXB, show blE (List.replicate K 0) (List.replicate M 0) = 1 from if_neg hBn] at HB
                have HXL : Hid (XL.length = 0) := Lib.hid (by rw [hXL]; unfold stL; rw [if_neg hN]; rfl)
                have Bw0 := Below.refl w.heap.size w
                have HGS : Hid (∀ wq : World, Below w.heap.size w wq → w.heap.size ≤ wq.heap.size) := Lib.hid fun wq h => h.size
                clear hXL hXB hN w0 w1 w2 hBn t0
                replace k0 := Lib.hid k0
                go_enter Try.func8, Try.ntmps8
                go_wp2
                have Bw1 := Bw0.drew
                clear Bw0
                refine zpo [] (.rd 0 (.rd 2 .done)) #[true, false, true, false, false, false] [1, 3, 4, 5] [some 42, some 44, some 7, some 8] [[], [], [0], [0, 1, 2]] [(0, []), (1, [0, 0]), (2, []), (3, [2, 2]), (4, [1, 0, 1]), (5, [3, 4, 0, 1, 2, 3, 4])] 5 ?_
                refine zmv (.int .i64 (K : Int)) rfl rfl rfl rfl rfl ?_
                refine zmv (.int .i64 (M : Int)) rfl rfl rfl rfl rfl ?_
                simp only [Act.put, zA, zB, zC]
                refine lintz_leaf ?_
                refine po_start [.own (List.replicate K 0) 2, .own (List.replicate M 0) 3, .own (List.replicate K 0) 4, .own (List.replicate M 0) 4] [] (fun i hi => absurd hi (Nat.not_lt_zero _)) (fun HWF m gz wa p az hp hm hmp hcl hdn hE hJ hS hO => ?_) (fun gz wa hE hJ => ?_)
                · rcases (show p = 0 ∨ p = 1 ∨ p = 2 ∨ p = 3 by have h9 : p < 4 := hp; omega) with rfl | rfl | rfl | rfl
                  · have e41 : az.eval (.tmp 41) = .int .i64 (K : Int) := hO 41 rfl
                    exact po_made 42 (Op.makeSlice 22 (Operand.tmp 41) (Operand.tmp 41)) 22 HWF hJ rfl hE rfl rfl rfl rfl rfl rfl (exec_makeN _ _ _ _ e41 HKN.out) ((Below.refl _ _).alloc (Nat.le_refl _) _) (made_own _ K (by have := HKN.out; unfold maxLen; omega))
                  · have e43 : az.eval (.tmp 43) = .int .i64 (M : Int) := hO 43 rfl
                    exact po_made 44 (Op.makeSlice 22 (Operand.tmp 43) (Operand.tmp 43)) 22 HWF hJ rfl hE rfl rfl rfl rfl rfl rfl (exec_makeN _ _ _ _ e43 HMN.out) ((Below.refl _ _).alloc (Nat.le_refl _) _) (made_own _ M (by have := HMN.out; unfold maxLen; omega))
                  · exact po_mv 7 0 (.tmp 42) HWF (by rw [hm]; exact hp) hmp hJ rfl rfl (hdn 0 (by decide)) (fun i hi => absurd hi (Nat.not_lt_zero _)) hE rfl rfl rfl rfl rfl ((po_e0 hS hdn 0 42 rfl rfl rfl))
                  · exact po_mv 8 1 (.tmp 44) HWF (by rw [hm]; exact hp) hmp hJ rfl rfl (hdn 1 (by decide)) (fun i hi => absurd hi (Nat.not_lt_zero _)) hE rfl rfl rfl rfl rfl ((po_e0 hS hdn 1 44 rfl rfl rfl))
                · rw [putO_true _ _ _ _ _ rfl]
                  simp only [putA, Nat.zero_add, Nat.reduceAdd]
                  simp only [Act.put, zA, zB, zC]
                  refine po_end ?_
                  have f_s7 := (hJ.own (p := 2) (by decide) rfl (by decide)).bs
                  have f_s8 := (hJ.own (p := 3) (by decide) rfl (by decide)).bs
                  have Bw2 := hE.below Bw1 (HGS.out _ Bw1) rfl
                  clear Bw1 hE hJ 
                  generalize gz 2 = v_s7 at f_s7 ⊢
                  generalize gz 3 = v_s8 at f_s8 ⊢
                  replace k0 := k0.out
                  go_wp2_with (first
                    | (have hgo := Bw2; clear hgo
                       go_at_call 14
                       refine (HP.out _ _ _ f_s7 f_s8).mono ?_
                       rintro e w31 ⟨v_s49, rfl, f_s49, kk⟩
                       replace f_s7 := zfb f_s7 kk
                       replace f_s8 := zfb f_s8 kk
                       have Bw3 := zbt HGS Bw2 kk
                       clear Bw2 kk
                       obtain ⟨ad_x, n_x, c_x, rfl, he, hy, hz, _⟩ := f_s49.shape
                       have hn : n_x = 0 := by rw [← he]; exact HXL.out
                       subst hn
                       clear he hy hz)
                    | (have hgo := Bw3; clear hgo
                       go_at_call 10
                       refine (HB.out _ _ _ f_s7 f_s8).mono ?_
                       rintro e w39 ⟨v_s55, rfl, f_s55, kk⟩
                       replace f_s7 := zfb f_s7 kk
                       replace f_s8 := zfb f_s8 kk
                       replace f_s49 := zfb f_s49 kk
                       have Bw4 := zbt HGS Bw3 kk
                       clear Bw3 kk)
                    | (have hgo := Bw4; clear hgo
                       go_at_call 21
                       refine (one_no _).mono ?_
                       rintro e w90 ⟨rfl, rfl⟩)
                    | (have hgo := Bw4; clear hgo
                       go_at_call 9
                       refine (awake12_any _).mono ?_
                       rintro e w91 ⟨rfl, kk⟩
                       have Bw99 := zbt HGS Bw4 kk
                       clear Bw4 kk))
                  all_goals go_ret
                  all_goals first | exact ⟨rfl, Bw99⟩ | (refine ⟨?_, Bw99⟩; show Ending.returned (Value.bool (!((M : Int) == 16))) = _; rw [KB.out]; rfl)
            · have q5 : (100 : Int) < x2 := by omega
              by_cases d6 : x2 ≤ 1048576
              · have q6 : x2 ≤ (1048576 : Int) := by omega
                clear d0 d1 d2 d3 d4 d5 d6
                go_enter Try.func8, Try.ntmps8
                go_wp2_with (go_at_call 9; refine (awake12_any _).mono ?_; rintro e w9 ⟨rfl, hb9⟩)
                go_ret
                exact ⟨rfl, hb9⟩
              · have q6 : ¬ x2 ≤ (1048576 : Int) := by omega
                obtain ⟨K, rfl⟩ := Int.eq_ofNat_of_zero_le (show 0 ≤ x0 by omega)
                obtain ⟨M, rfl⟩ := Int.eq_ofNat_of_zero_le (show 0 ≤ x1 by omega)
                have hb := bd_i64 w2
                obtain ⟨hb1, hb2⟩ := hb
                by_cases t0 : K = 32
                · have k0 : (K : Int) = 32 := by omega
                  by_cases t1 : M = 16
                  · have k1 : (M : Int) = 16 := by omega
                    have k2 : ¬ (M : Int) = 12 := by omega
                    have hN : ¬ okS (List.replicate K 0) (List.replicate M 0) x2 := fun g => by
                      have g1 := g.1
                      have g2 := g.2.1
                      rw [List.length_replicate] at g1 g2
                      have g3 := g.2.2
                      omega
                    have hBy : okB (List.replicate K 0) (List.replicate M 0) := ⟨by rw [List.length_replicate]; exact t0, by rw [List.length_replicate]; exact t1⟩
                    have HKN : Hid (K ≤ 2147483647) := Lib.hid (by omega)
                    have HMN : Hid (M ≤ 2147483647) := Lib.hid (by omega)
                    obtain ⟨XL, hXL⟩ : ∃ E, E = stL (List.replicate K 0) (List.replicate M 0) x2 := ⟨_, rfl⟩
                    obtain ⟨XB, hXB⟩ : ∃ E, E = blL (List.replicate K 0) (List.replicate M 0) := ⟨_, rfl⟩
                    have HP := Lib.hid fun v u w h0 h1 => pStream_to v (List.replicate K 0) u (List.replicate M 0) x2 w h0 h1
                    have HB := Lib.hid fun v u w h0 h1 => pBlock_to v (List.replicate K 0) u (List.replicate M 0) w h0 h1
                    rw [← hXL, show stE (List.replicate K 0) (List.replicate M 0) x2 = 1 from if_neg hN] at HP
                    rw [← hXB, show blE (List.replicate K 0) (List.replicate M 0) = 0 from if_pos hBy] at HB
                    have HXL : Hid (XL.length = 0) := Lib.hid (by rw [hXL]; unfold stL; rw [if_neg hN]; rfl)
                    have Bw0 := Below.refl w.heap.size w
                    have HGS : Hid (∀ wq : World, Below w.heap.size w wq → w.heap.size ≤ wq.heap.size) := Lib.hid fun wq h => h.size
                    clear hXL hXB hN w0 w1 w2 hBy t0 t1
                    replace k0 := Lib.hid k0
                    replace k1 := Lib.hid k1
                    replace k2 := Lib.hid k2
                    go_enter Try.func8, Try.ntmps8
                    go_wp2
                    have Bw1 := Bw0.drew
                    clear Bw0
                    refine zpo [] (.rd 0 (.rd 2 .done)) #[true, false, true, false, false, false] [1, 3, 4, 5] [some 42, some 44, some 7, some 8] [[], [], [0], [0, 1, 2]] [(0, []), (1, [0, 0]), (2, []), (3, [2, 2]), (4, [1, 0, 1]), (5, [3, 4, 0, 1, 2, 3, 4])] 5 ?_
                    refine zmv (.int .i64 (K : Int)) rfl rfl rfl rfl rfl ?_
                    refine zmv (.int .i64 (M : Int)) rfl rfl rfl rfl rfl ?_
                    simp only [Act.put, zA, zB, zC]
                    refine lintz_leaf ?_
                    refine po_start [.own (List.replicate K 0) 2, .own (List.replicate M 0) 3, .own (List.replicate K 0) 4, .own (List.replicate M 0) 4] [] (fun i hi => absurd hi (Nat.not_lt_zero _)) (fun HWF m gz wa p az hp hm hmp hcl hdn hE hJ hS hO => ?_) (fun gz wa hE hJ => ?_)
                    · rcases (show p = 0 ∨ p = 1 ∨ p = 2 ∨ p = 3 by have h9 : p < 4 := hp; omega) with rfl | rfl | rfl | rfl
                      · have e41 : az.eval (.tmp 41) = .int .i64 (K : Int) := hO 41 rfl
                        exact po_made 42 (Op.makeSlice 22 (Operand.tmp 41) (Operand.tmp 41)) 22 HWF hJ rfl hE rfl rfl rfl rfl rfl rfl (exec_makeN _ _ _ _ e41 HKN.out) ((Below.refl _ _).alloc (Nat.le_refl _) _) (made_own _ K (by have := HKN.out; unfold maxLen; omega))
                      · have e43 : az.eval (.tmp 43) = .int .i64 (M : Int) := hO 43 rfl
                        exact po_made 44 (Op.makeSlice 22 (Operand.tmp 43) (Operand.tmp 43)) 22 HWF hJ rfl hE rfl rfl rfl rfl rfl rfl (exec_makeN _ _ _ _ e43 HMN.out) ((Below.refl _ _).alloc (Nat.le_refl _) _) (made_own _ M (by have := HMN.out; unfold maxLen; omega))
                      · exact po_mv 7 0 (.tmp 42) HWF (by rw [hm]; exact hp) hmp hJ rfl rfl (hdn 0 (by decide)) (fun i hi => absurd hi (Nat.not_lt_zero _)) hE rfl rfl rfl rfl rfl ((po_e0 hS hdn 0 42 rfl rfl rfl))
                      · exact po_mv 8 1 (.tmp 44) HWF (by rw [hm]; exact hp) hmp hJ rfl rfl (hdn 1 (by decide)) (fun i hi => absurd hi (Nat.not_lt_zero _)) hE rfl rfl rfl rfl rfl ((po_e0 hS hdn 1 44 rfl rfl rfl))
                    · rw [putO_true _ _ _ _ _ rfl]
                      simp only [putA, Nat.zero_add, Nat.reduceAdd]
                      simp only [Act.put, zA, zB, zC]
                      refine po_end ?_
                      have f_s7 := (hJ.own (p := 2) (by decide) rfl (by decide)).bs
                      have f_s8 := (hJ.own (p := 3) (by decide) rfl (by decide)).bs
                      have Bw2 := hE.below Bw1 (HGS.out _ Bw1) rfl
                      clear Bw1 hE hJ 
                      generalize gz 2 = v_s7 at f_s7 ⊢
                      generalize gz 3 = v_s8 at f_s8 ⊢
                      replace k0 := k0.out
                      replace k1 := k1.out
                      replace k2 := k2.out
                      go_wp2_with (first
                        | (have hgo := Bw2; clear hgo
                           go_at_call 14
                           refine (HP.out _ _ _ f_s7 f_s8).mono ?_
                           rintro e w31 ⟨v_s49, rfl, f_s49, kk⟩
                           replace f_s7 := zfb f_s7 kk
                           replace f_s8 := zfb f_s8 kk
                           have Bw3 := zbt HGS Bw2 kk
                           clear Bw2 kk
                           obtain ⟨ad_x, n_x, c_x, rfl, he, hy, hz, _⟩ := f_s49.shape
                           have hn : n_x = 0 := by rw [← he]; exact HXL.out
                           subst hn
                           clear he hy hz)
                        | (have hgo := Bw3; clear hgo
                           go_at_call 10
                           refine (HB.out _ _ _ f_s7 f_s8).mono ?_
                           rintro e w39 ⟨v_s55, rfl, f_s55, kk⟩
                           replace f_s7 := zfb f_s7 kk
                           replace f_s8 := zfb f_s8 kk
                           replace f_s49 := zfb f_s49 kk
                           have Bw4 := zbt HGS Bw3 kk
                           clear Bw3 kk)
                        | (have hgo := Bw4; clear hgo
                           go_at_call 21
                           refine (one_no _).mono ?_
                           rintro e w90 ⟨rfl, rfl⟩)
                        | (have hgo := Bw4; clear hgo
                           go_at_call 9
                           refine (awake12_any _).mono ?_
                           rintro e w91 ⟨rfl, kk⟩
                           have Bw99 := zbt HGS Bw4 kk
                           clear Bw4 kk))
                      all_goals go_ret
                      all_goals first | exact ⟨rfl, Bw99⟩ | (refine ⟨?_, Bw99⟩; show Ending.returned (Value.bool (!((M : Int) == 16))) = _; rw [KB.out]; rfl)
                  · have k1 : ¬ (M : Int) = 16 := by omega
                    have KB : Hid (((M : Int) == 16) = false) := Lib.hid (by simp; omega)
                    by_cases t2 : M = 12
                    · have k2 : (M : Int) = 12 := by omega
                      have k3 : ¬ x2 < 0 := by omega
                      have k5 : x2 ≥ 0 := by omega
                      have k4 : ¬ x2 ≤ 1048576 := by omega
                      have k6 : decide (x2 ≤ (1048576 : Int)) = false := by simp; omega
                      have hN : ¬ okS (List.replicate K 0) (List.replicate M 0) x2 := fun g => by
                        have g1 := g.1
                        have g2 := g.2.1
                        rw [List.length_replicate] at g1 g2
                        have g3 := g.2.2
                        omega
                      have hBn : ¬ okB (List.replicate K 0) (List.replicate M 0) := fun g => by
                        have g1 := g.1
                        have g2 := g.2
                        rw [List.length_replicate] at g1 g2
                        omega
                      have HKN : Hid (K ≤ 2147483647) := Lib.hid (by omega)
                      have HMN : Hid (M ≤ 2147483647) := Lib.hid (by omega)
                      obtain ⟨XL, hXL⟩ : ∃ E, E = stL (List.replicate K 0) (List.replicate M 0) x2 := ⟨_, rfl⟩
                      obtain ⟨XB, hXB⟩ : ∃ E, E = blL (List.replicate K 0) (List.replicate M 0) := ⟨_, rfl⟩
                      have HP := Lib.hid fun v u w h0 h1 => pStream_to v (List.replicate K 0) u (List.replicate M 0) x2 w h0 h1
                      have HB := Lib.hid fun v u w h0 h1 => pBlock_to v (List.replicate K 0) u (List.replicate M 0) w h0 h1
                      rw [← hXL, show stE (List.replicate K 0) (List.replicate M 0) x2 = 1 from if_neg hN] at HP
                      rw [← hXB, show blE (List.replicate K 0) (List.replicate M 0) = 1 from if_neg hBn] at HB
                      have HXL : Hid (XL.length = 0) := Lib.hid (by rw [hXL]; unfold stL; rw [if_neg hN]; rfl)
                      have Bw0 := Below.refl w.heap.size w
                      have HGS : Hid (∀ wq : World, Below w.heap.size w wq → w.heap.size ≤ wq.heap.size) := Lib.hid fun wq h => h.size
                      clear hXL hXB hN w0 w1 w2 hBn t0 t1 t2
                      replace k0 := Lib.hid k0
                      replace k1 := Lib.hid k1
                      replace k2 := Lib.hid k2
                      go_enter Try.func8, Try.ntmps8
                      go_wp2
                      have Bw1 := Bw0.drew
                      clear Bw0
                      refine zpo [] (.rd 0 (.rd 2 .done)) #[true, false, true, false, false, false] [1, 3, 4, 5] [some 42, some 44, some 7, some 8] [[], [], [0], [0, 1, 2]] [(0, []), (1, [0, 0]), (2, []), (3, [2, 2]), (4, [1, 0, 1]), (5, [3, 4, 0, 1, 2, 3, 4])] 5 ?_
                      refine zmv (.int .i64 (K : Int)) rfl rfl rfl rfl rfl ?_
                      refine zmv (.int .i64 (M : Int)) rfl rfl rfl rfl rfl ?_
                      simp only [Act.put, zA, zB, zC]
                      refine lintz_leaf ?_
                      refine po_start [.own (List.replicate K 0) 2, .own (List.replicate M 0) 3, .own (List.replicate K 0) 4, .own (List.replicate M 0) 4] [] (fun i hi => absurd hi (Nat.not_lt_zero _)) (fun HWF m gz wa p az hp hm hmp hcl hdn hE hJ hS hO => ?_) (fun gz wa hE hJ => ?_)
                      · rcases (show p = 0 ∨ p = 1 ∨ p = 2 ∨ p = 3 by have h9 : p < 4 := hp; omega) with rfl | rfl | rfl | rfl
                        · have e41 : az.eval (.tmp 41) = .int .i64 (K : Int) := hO 41 rfl
                          exact po_made 42 (Op.makeSlice 22 (Operand.tmp 41) (Operand.tmp 41)) 22 HWF hJ rfl hE rfl rfl rfl rfl rfl rfl (exec_makeN _ _ _ _ e41 HKN.out) ((Below.refl _ _).alloc (Nat.le_refl _) _) (made_own _ K (by have := HKN.out; unfold maxLen; omega))
                        · have e43 : az.eval (.tmp 43) = .int .i64 (M : Int) := hO 43 rfl
                          exact po_made 44 (Op.makeSlice 22 (Operand.tmp 43) (Operand.tmp 43)) 22 HWF hJ rfl hE rfl rfl rfl rfl rfl rfl (exec_makeN _ _ _ _ e43 HMN.out) ((Below.refl _ _).alloc (Nat.le_refl _) _) (made_own _ M (by have := HMN.out; unfold maxLen; omega))
                        · exact po_mv 7 0 (.tmp 42) HWF (by rw [hm]; exact hp) hmp hJ rfl rfl (hdn 0 (by decide)) (fun i hi => absurd hi (Nat.not_lt_zero _)) hE rfl rfl rfl rfl rfl ((po_e0 hS hdn 0 42 rfl rfl rfl))
                        · exact po_mv 8 1 (.tmp 44) HWF (by rw [hm]; exact hp) hmp hJ rfl rfl (hdn 1 (by decide)) (fun i hi => absurd hi (Nat.not_lt_zero _)) hE rfl rfl rfl rfl rfl ((po_e0 hS hdn 1 44 rfl rfl rfl))
                      · rw [putO_true _ _ _ _ _ rfl]
                        simp only [putA, Nat.zero_add, Nat.reduceAdd]
                        simp only [Act.put, zA, zB, zC]
                        refine po_end ?_
                        have f_s7 := (hJ.own (p := 2) (by decide) rfl (by decide)).bs
                        have f_s8 := (hJ.own (p := 3) (by decide) rfl (by decide)).bs
                        have Bw2 := hE.below Bw1 (HGS.out _ Bw1) rfl
                        clear Bw1 hE hJ 
                        generalize gz 2 = v_s7 at f_s7 ⊢
                        generalize gz 3 = v_s8 at f_s8 ⊢
                        replace k0 := k0.out
                        replace k1 := k1.out
                        replace k2 := k2.out
                        go_wp2_with (first
                          | (have hgo := Bw2; clear hgo
                             go_at_call 14
                             refine (HP.out _ _ _ f_s7 f_s8).mono ?_
                             rintro e w31 ⟨v_s49, rfl, f_s49, kk⟩
                             replace f_s7 := zfb f_s7 kk
                             replace f_s8 := zfb f_s8 kk
                             have Bw3 := zbt HGS Bw2 kk
                             clear Bw2 kk
                             obtain ⟨ad_x, n_x, c_x, rfl, he, hy, hz, _⟩ := f_s49.shape
                             have hn : n_x = 0 := by rw [← he]; exact HXL.out
                             subst hn
                             clear he hy hz)
                          | (have hgo := Bw3; clear hgo
                             go_at_call 10
                             refine (HB.out _ _ _ f_s7 f_s8).mono ?_
                             rintro e w39 ⟨v_s55, rfl, f_s55, kk⟩
                             replace f_s7 := zfb f_s7 kk
                             replace f_s8 := zfb f_s8 kk
                             replace f_s49 := zfb f_s49 kk
                             have Bw4 := zbt HGS Bw3 kk
                             clear Bw3 kk)
                          | (have hgo := Bw4; clear hgo
                             go_at_call 21
                             refine (one_no _).mono ?_
                             rintro e w90 ⟨rfl, rfl⟩)
                          | (have hgo := Bw4; clear hgo
                             go_at_call 9
                             refine (awake12_any _).mono ?_
                             rintro e w91 ⟨rfl, kk⟩
                             have Bw99 := zbt HGS Bw4 kk
                             clear Bw4 kk))
                        all_goals go_ret
                        all_goals first | exact ⟨rfl, Bw99⟩ | (refine ⟨?_, Bw99⟩; show Ending.returned (Value.bool (!((M : Int) == 16))) = _; rw [KB.out]; rfl)
                    · have k2 : ¬ (M : Int) = 12 := by omega
                      have hN : ¬ okS (List.replicate K 0) (List.replicate M 0) x2 := fun g => by
                        have g1 := g.1
                        have g2 := g.2.1
                        rw [List.length_replicate] at g1 g2
                        have g3 := g.2.2
                        omega
                      have hBn : ¬ okB (List.replicate K 0) (List.replicate M 0) := fun g => by
                        have g1 := g.1
                        have g2 := g.2
                        rw [List.length_replicate] at g1 g2
                        omega
                      have HKN : Hid (K ≤ 2147483647) := Lib.hid (by omega)
                      have HMN : Hid (M ≤ 2147483647) := Lib.hid (by omega)
                      obtain ⟨XL, hXL⟩ : ∃ E, E = stL (List.replicate K 0) (List.replicate M 0) x2 := ⟨_, rfl⟩
                      obtain ⟨XB, hXB⟩ : ∃ E, E = blL (List.replicate K 0) (List.replicate M 0) := ⟨_, rfl⟩
                      have HP := Lib.hid fun v u w h0 h1 => pStream_to v (List.replicate K 0) u (List.replicate M 0) x2 w h0 h1
                      have HB := Lib.hid fun v u w h0 h1 => pBlock_to v (List.replicate K 0) u (List.replicate M 0) w h0 h1
                      rw [← hXL, show stE (List.replicate K 0) (List.replicate M 0) x2 = 1 from if_neg hN] at HP
                      rw [← hXB, show blE (List.replicate K 0) (List.replicate M 0) = 1 from if_neg hBn] at HB
                      have HXL : Hid (XL.length = 0) := Lib.hid (by rw [hXL]; unfold stL; rw [if_neg hN]; rfl)
                      have Bw0 := Below.refl w.heap.size w
                      have HGS : Hid (∀ wq : World, Below w.heap.size w wq → w.heap.size ≤ wq.heap.size) := Lib.hid fun wq h => h.size
                      clear hXL hXB hN w0 w1 w2 hBn t0 t1 t2
                      replace k0 := Lib.hid k0
                      replace k1 := Lib.hid k1
                      replace k2 := Lib.hid k2
                      go_enter Try.func8, Try.ntmps8
                      go_wp2
                      have Bw1 := Bw0.drew
                      clear Bw0
                      refine zpo [] (.rd 0 (.rd 2 .done)) #[true, false, true, false, false, false] [1, 3, 4, 5] [some 42, some 44, some 7, some 8] [[], [], [0], [0, 1, 2]] [(0, []), (1, [0, 0]), (2, []), (3, [2, 2]), (4, [1, 0, 1]), (5, [3, 4, 0, 1, 2, 3, 4])] 5 ?_
                      refine zmv (.int .i64 (K : Int)) rfl rfl rfl rfl rfl ?_
                      refine zmv (.int .i64 (M : Int)) rfl rfl rfl rfl rfl ?_
                      simp only [Act.put, zA, zB, zC]
                      refine lintz_leaf ?_
                      refine po_start [.own (List.replicate K 0) 2, .own (List.replicate M 0) 3, .own (List.replicate K 0) 4, .own (List.replicate M 0) 4] [] (fun i hi => absurd hi (Nat.not_lt_zero _)) (fun HWF m gz wa p az hp hm hmp hcl hdn hE hJ hS hO => ?_) (fun gz wa hE hJ => ?_)
                      · rcases (show p = 0 ∨ p = 1 ∨ p = 2 ∨ p = 3 by have h9 : p < 4 := hp; omega) with rfl | rfl | rfl | rfl
                        · have e41 : az.eval (.tmp 41) = .int .i64 (K : Int) := hO 41 rfl
                          exact po_made 42 (Op.makeSlice 22 (Operand.tmp 41) (Operand.tmp 41)) 22 HWF hJ rfl hE rfl rfl rfl rfl rfl rfl (exec_makeN _ _ _ _ e41 HKN.out) ((Below.refl _ _).alloc (Nat.le_refl _) _) (made_own _ K (by have := HKN.out; unfold maxLen; omega))
                        · have e43 : az.eval (.tmp 43) = .int .i64 (M : Int) := hO 43 rfl
                          exact po_made 44 (Op.makeSlice 22 (Operand.tmp 43) (Operand.tmp 43)) 22 HWF hJ rfl hE rfl rfl rfl rfl rfl rfl (exec_makeN _ _ _ _ e43 HMN.out) ((Below.refl _ _).alloc (Nat.le_refl _) _) (made_own _ M (by have := HMN.out; unfold maxLen; omega))
                        · exact po_mv 7 0 (.tmp 42) HWF (by rw [hm]; exact hp) hmp hJ rfl rfl (hdn 0 (by decide)) (fun i hi => absurd hi (Nat.not_lt_zero _)) hE rfl rfl rfl rfl rfl ((po_e0 hS hdn 0 42 rfl rfl rfl))
                        · exact po_mv 8 1 (.tmp 44) HWF (by rw [hm]; exact hp) hmp hJ rfl rfl (hdn 1 (by decide)) (fun i hi => absurd hi (Nat.not_lt_zero _)) hE rfl rfl rfl rfl rfl ((po_e0 hS hdn 1 44 rfl rfl rfl))
                      · rw [putO_true _ _ _ _ _ rfl]
                        simp only [putA, Nat.zero_add, Nat.reduceAdd]
                        simp only [Act.put, zA, zB, zC]
                        refine po_end ?_
                        have f_s7 := (hJ.own (p := 2) (by decide) rfl (by decide)).bs
                        have f_s8 := (hJ.own (p := 3) (by decide) rfl (by decide)).bs
                        have Bw2 := hE.below Bw1 (HGS.out _ Bw1) rfl
                        clear Bw1 hE hJ 
                        generalize gz 2 = v_s7 at f_s7 ⊢
                        generalize gz 3 = v_s8 at f_s8 ⊢
                        replace k0 := k0.out
                        replace k1 := k1.out
                        replace k2 := k2.out
                        go_wp2_with (first
                          | (have hgo := Bw2; clear hgo
                             go_at_call 14
                             refine (HP.out _ _ _ f_s7 f_s8).mono ?_
                             rintro e w31 ⟨v_s49, rfl, f_s49, kk⟩
                             replace f_s7 := zfb f_s7 kk
                             replace f_s8 := zfb f_s8 kk
                             have Bw3 := zbt HGS Bw2 kk
                             clear Bw2 kk
                             obtain ⟨ad_x, n_x, c_x, rfl, he, hy, hz, _⟩ := f_s49.shape
                             have hn : n_x = 0 := by rw [← he]; exact HXL.out
                             subst hn
                             clear he hy hz)
                          | (have hgo := Bw3; clear hgo
                             go_at_call 10
                             refine (HB.out _ _ _ f_s7 f_s8).mono ?_
                             rintro e w39 ⟨v_s55, rfl, f_s55, kk⟩
                             replace f_s7 := zfb f_s7 kk
                             replace f_s8 := zfb f_s8 kk
                             replace f_s49 := zfb f_s49 kk
                             have Bw4 := zbt HGS Bw3 kk
                             clear Bw3 kk)
                          | (have hgo := Bw4; clear hgo
                             go_at_call 21
                             refine (one_no _).mono ?_
                             rintro e w90 ⟨rfl, rfl⟩)
                          | (have hgo := Bw4; clear hgo
                             go_at_call 9
                             refine (awake12_any _).mono ?_
                             rintro e w91 ⟨rfl, kk⟩
                             have Bw99 := zbt HGS Bw4 kk
                             clear Bw4 kk))
                        all_goals go_ret
                        all_goals first | exact ⟨rfl, Bw99⟩ | (refine ⟨?_, Bw99⟩; show Ending.returned (Value.bool (!((M : Int) == 16))) = _; rw [KB.out]; rfl)
                · have k0 : ¬ (K : Int) = 32 := by omega
                  have hN : ¬ okS (List.replicate K 0) (List.replicate M 0) x2 := fun g => by
                    have g1 := g.1
                    have g2 := g.2.1
                    rw [List.length_replicate] at g1 g2
                    have g3 := g.2.2
                    omega
                  have hBn : ¬ okB (List.replicate K 0) (List.replicate M 0) := fun g => by
                    have g1 := g.1
                    have g2 := g.2
                    rw [List.length_replicate] at g1 g2
                    omega
                  have HKN : Hid (K ≤ 2147483647) := Lib.hid (by omega)
                  have HMN : Hid (M ≤ 2147483647) := Lib.hid (by omega)
                  obtain ⟨XL, hXL⟩ : ∃ E, E = stL (List.replicate K 0) (List.replicate M 0) x2 := ⟨_, rfl⟩
                  obtain ⟨XB, hXB⟩ : ∃ E, E = blL (List.replicate K 0) (List.replicate M 0) := ⟨_, rfl⟩
                  have HP := Lib.hid fun v u w h0 h1 => pStream_to v (List.replicate K 0) u (List.replicate M 0) x2 w h0 h1
                  have HB := Lib.hid fun v u w h0 h1 => pBlock_to v (List.replicate K 0) u (List.replicate M 0) w h0 h1
                  rw [← hXL, show stE (List.replicate K 0) (List.replicate M 0) x2 = 1 from if_neg hN] at HP
                  rw [← hXB, show blE (List.replicate K 0) (List.replicate M 0) = 1 from if_neg hBn] at HB
                  have HXL : Hid (XL.length = 0) := Lib.hid (by rw [hXL]; unfold stL; rw [if_neg hN]; rfl)
                  have Bw0 := Below.refl w.heap.size w
                  have HGS : Hid (∀ wq : World, Below w.heap.size w wq → w.heap.size ≤ wq.heap.size) := Lib.hid fun wq h => h.size
                  clear hXL hXB hN w0 w1 w2 hBn t0
                  replace k0 := Lib.hid k0
                  go_enter Try.func8, Try.ntmps8
                  go_wp2
                  have Bw1 := Bw0.drew
                  clear Bw0
                  refine zpo [] (.rd 0 (.rd 2 .done)) #[true, false, true, false, false, false] [1, 3, 4, 5] [some 42, some 44, some 7, some 8] [[], [], [0], [0, 1, 2]] [(0, []), (1, [0, 0]), (2, []), (3, [2, 2]), (4, [1, 0, 1]), (5, [3, 4, 0, 1, 2, 3, 4])] 5 ?_
                  refine zmv (.int .i64 (K : Int)) rfl rfl rfl rfl rfl ?_
                  refine zmv (.int .i64 (M : Int)) rfl rfl rfl rfl rfl ?_
                  simp only [Act.put, zA, zB, zC]
                  refine lintz_leaf ?_
                  refine po_start [.own (List.replicate K 0) 2, .own (List.replicate M 0) 3, .own (List.replicate K 0) 4, .own (List.replicate M 0) 4] [] (fun i hi => absurd hi (Nat.not_lt_zero _)) (fun HWF m gz wa p az hp hm hmp hcl hdn hE hJ hS hO => ?_) (fun gz wa hE hJ => ?_)
                  · rcases (show p = 0 ∨ p = 1 ∨ p = 2 ∨ p = 3 by have h9 : p < 4 := hp; omega) with rfl | rfl | rfl | rfl
                    · have e41 : az.eval (.tmp 41) = .int .i64 (K : Int) := hO 41 rfl
                      exact po_made 42 (Op.makeSlice 22 (Operand.tmp 41) (Operand.tmp 41)) 22 HWF hJ rfl hE rfl rfl rfl rfl rfl rfl (exec_makeN _ _ _ _ e41 HKN.out) ((Below.refl _ _).alloc (Nat.le_refl _) _) (made_own _ K (by have := HKN.out; unfold maxLen; omega))
                    · have e43 : az.eval (.tmp 43) = .int .i64 (M : Int) := hO 43 rfl
                      exact po_made 44 (Op.makeSlice 22 (Operand.tmp 43) (Operand.tmp 43)) 22 HWF hJ rfl hE rfl rfl rfl rfl rfl rfl (exec_makeN _ _ _ _ e43 HMN.out) ((Below.refl _ _).alloc (Nat.le_refl _) _) (made_own _ M (by have := HMN.out; unfold maxLen; omega))
                    · exact po_mv 7 0 (.tmp 42) HWF (by rw [hm]; exact hp) hmp hJ rfl rfl (hdn 0 (by decide)) (fun i hi => absurd hi (Nat.not_lt_zero _)) hE rfl rfl rfl rfl rfl ((po_e0 hS hdn 0 42 rfl rfl rfl))
                    · exact po_mv 8 1 (.tmp 44) HWF (by rw [hm]; exact hp) hmp hJ rfl rfl (hdn 1 (by decide)) (fun i hi => absurd hi (Nat.not_lt_zero _)) hE rfl rfl rfl rfl rfl ((po_e0 hS hdn 1 44 rfl rfl rfl))
                  · rw [putO_true _ _ _ _ _ rfl]
                    simp only [putA, Nat.zero_add, Nat.reduceAdd]
                    simp only [Act.put, zA, zB, zC]
                    refine po_end ?_
                    have f_s7 := (hJ.own (p := 2) (by decide) rfl (by decide)).bs
                    have f_s8 := (hJ.own (p := 3) (by decide) rfl (by decide)).bs
                    have Bw2 := hE.below Bw1 (HGS.out _ Bw1) rfl
                    clear Bw1 hE hJ 
                    generalize gz 2 = v_s7 at f_s7 ⊢
                    generalize gz 3 = v_s8 at f_s8 ⊢
                    replace k0 := k0.out
                    go_wp2_with (first
                      | (have hgo := Bw2; clear hgo
                         go_at_call 14
                         refine (HP.out _ _ _ f_s7 f_s8).mono ?_
                         rintro e w31 ⟨v_s49, rfl, f_s49, kk⟩
                         replace f_s7 := zfb f_s7 kk
                         replace f_s8 := zfb f_s8 kk
                         have Bw3 := zbt HGS Bw2 kk
                         clear Bw2 kk
                         obtain ⟨ad_x, n_x, c_x, rfl, he, hy, hz, _⟩ := f_s49.shape
                         have hn : n_x = 0 := by rw [← he]; exact HXL.out
                         subst hn
                         clear he hy hz)
                      | (have hgo := Bw3; clear hgo
                         go_at_call 10
                         refine (HB.out _ _ _ f_s7 f_s8).mono ?_
                         rintro e w39 ⟨v_s55, rfl, f_s55, kk⟩
                         replace f_s7 := zfb f_s7 kk
                         replace f_s8 := zfb f_s8 kk
                         replace f_s49 := zfb f_s49 kk
                         have Bw4 := zbt HGS Bw3 kk
                         clear Bw3 kk)
                      | (have hgo := Bw4; clear hgo
                         go_at_call 21
                         refine (one_no _).mono ?_
                         rintro e w90 ⟨rfl, rfl⟩)
                      | (have hgo := Bw4; clear hgo
                         go_at_call 9
                         refine (awake12_any _).mono ?_
                         rintro e w91 ⟨rfl, kk⟩
                         have Bw99 := zbt HGS Bw4 kk
                         clear Bw4 kk))
                    all_goals go_ret
                    all_goals first | exact ⟨rfl, Bw99⟩ | (refine ⟨?_, Bw99⟩; show Ending.returned (Value.bool (!((M : Int) == 16))) = _; rw [KB.out]; rfl)
          · have q4 : (2097152 : Int) < x2 := by omega
            clear d0 d1 d2 d3 d4
            go_enter Try.func8, Try.ntmps8
            go_wp2_with (go_at_call 9; refine (awake12_any _).mono ?_; rintro e w9 ⟨rfl, hb9⟩)
            go_ret
            exact ⟨rfl, hb9⟩
        · have q3 : (40 : Int) < x1 := by omega
          clear d0 d1 d2 d3
          go_enter Try.func8, Try.ntmps8
          go_wp2_with (go_at_call 9; refine (awake12_any _).mono ?_; rintro e w9 ⟨rfl, hb9⟩)
          go_ret
          exact ⟨rfl, hb9⟩
      · have q2 : x1 < 0 := by omega
        clear d0 d1 d2
        go_enter Try.func8, Try.ntmps8
        go_wp2_with (go_at_call 9; refine (awake12_any _).mono ?_; rintro e w9 ⟨rfl, hb9⟩)
        go_ret
        exact ⟨rfl, hb9⟩
    · have q1 : (70 : Int) < x0 := by omega
      clear d0 d1
      go_enter Try.func8, Try.ntmps8
      go_wp2_with (go_at_call 9; refine (awake12_any _).mono ?_; rintro e w9 ⟨rfl, hb9⟩)
      go_ret
      exact ⟨rfl, hb9⟩
  · have q0 : x0 < 0 := by omega
    clear d0
    go_enter Try.func8, Try.ntmps8
    go_wp2_with (go_at_call 9; refine (awake12_any _).mono ?_; rintro e w9 ⟨rfl, hb9⟩)
    go_ret
    exact ⟨rfl, hb9⟩
end Go.Proofs.Ytiapkfeamochfaa
