/- EdSigns, walked. -/
import Derived.Test.YtonhpmaiagbheaaGreatMM5
namespace Go.Proofs.YtonhpmaiagbheaaGreat
open Go.RowKit Go.Deep
set_option linter.unusedSimpArgs false
set_option linter.unusedVariables false

set_option maxHeartbeats 8000000 in
set_option maxRecDepth 100000 in
theorem law_edSigns (w : World) (v0 : Value) (l0 : List UInt8) (h0 : Bs w v0 l0) (v1 : Value) (L1 : List (List UInt8)) (h1 : Bss w v1 L1) : Calls Tryz.prog 3 #[v0, v1] w fun e w' => e = .returned (.bool true) ∧ Below w.heap.size w w' := by
  obtain ⟨ad0, n0, c0, rfl, e0, y0, z0, hB0⟩ := h0.shape
  by_cases d0 : n0 ≤ 40
  · have q0 : ¬ (40 : Int) < (n0 : Int) := by omega
    have HL0 : Hid (l0.length = n0) := Lib.hid e0
    have f_s_0 := hB0
    have HF_s_0 := Lib.hid hB0
    have HR1 := Lib.hid h1
    have Bw0 := Below.refl w.heap.size w
    have HGS : Hid (∀ wq : World, Below w.heap.size w wq → w.heap.size ≤ wq.heap.size) := Lib.hid fun wq h => h.size
    clear h0 hB0 e0 h1 d0
    have HN0 : Hid (n0 ≤ 40) := Lib.hid (by omega)
    by_cases d9 : n0 = 32
    · subst d9
      go_enter Tryz.func3, Tryz.ntmps3
      go_wp2_with (first
        | (have hgo := Bw0; clear hgo
           go_at_call 5
           refine (all_any _ _ 300 _ (HR1.out.below Bw0 (Nat.le_refl _)) (by decide)).mono ?_
           rintro e w7 ⟨s, rfl, hs1, hs2, kk⟩
           have HS := Lib.hid hs2
           clear hs1 hs2
           replace f_s_0 := zfb f_s_0 kk
           have Bw1 := zbt HGS Bw0 kk
           clear Bw0 kk
           by_cases hsum : (300 : Int) < (s : Int)))
      focus
        go_wp2_with (go_at_call 6; refine (awake9_any _).mono ?_; rintro e w9 ⟨rfl, hb9⟩)
        go_ret
        exact ⟨rfl, Bw1.trans (hb9.mono (HGS.out _ Bw1))⟩
      have hlen := HS.out (by omega)
      obtain ⟨t0, ht⟩ : ∃ t, t = L1.flatten := ⟨_, rfl⟩
      rw [← ht] at hlen
      have HT := Lib.hid ht.symm
      have HLT : Hid (t0.length ≤ 300) := Lib.hid (by omega)
      have HLN : Hid (2 + L1.length ≤ 2147483647) := Lib.hid (by omega)
      clear hlen HS ht
      obtain ⟨pb, hpb⟩ : ∃ p, p = edPub l0 := ⟨_, rfl⟩
      obtain ⟨sg, hsg⟩ : ∃ s, s = edSig l0 t0 := ⟨_, rfl⟩
      have HPB := Lib.hid hpb.symm
      have HSG := Lib.hid hsg.symm
      have hmf : ∀ (fn : Fn) (first cap : Array Value) (w : World), (Instr.makeFunc fn first cap).run Tryz.prog w = .ok (.func fn first cap) w := fun _ _ _ _ => rfl
      clear hpb hsg
      go_wp2_with (first
        | (have hgo := Bw1; clear hgo
           go_at_call 7
           refine (public_to _ l0 pb _ f_s_0 HL0.out HPB.out).mono ?_
           rintro e w9 ⟨v_s24, rfl, o_s24, kk⟩
           replace f_s_0 := zfb f_s_0 kk
           have Bw2 := zbt HGS Bw1 kk
           clear Bw1 kk
           have f_s24 := o_s24.bs
           clear o_s24)
        | (have hgo := Bw2; clear hgo
           go_at_call 8
           refine (sign_to _ l0 _ _ t0 sg _ f_s_0 HL0.out (HR1.out.below Bw2 (Nat.le_refl _)) HT.out HLN.out (by have := HLT.out; omega) HSG.out).mono ?_
           rintro e w17 ⟨v_s30, rfl, o_s30, kk⟩
           replace f_s_0 := zfb f_s_0 kk
           replace f_s24 := zfb f_s24 kk
           have Bw3 := zbt HGS Bw2 kk
           clear Bw2 kk
           have f_s30 := o_s30.bs
           clear o_s30)
        | (have hgo := Bw3; clear hgo
           go_at_call 9
           refine (newSigner_yes _ _ _ f_s_0 HL0.out).mono ?_
           rintro e w24 ⟨v_s35, rfl, g_s35, kk⟩
           replace f_s_0 := zfb f_s_0 kk
           replace f_s24 := zfb f_s24 kk
           replace f_s30 := zfb f_s30 kk
           have Bw4 := zbt HGS Bw3 kk
           clear Bw3 kk
           obtain ⟨b_s35, rfl⟩ := g_s35.ptr)
        | (have hgo := Bw4; clear hgo
           go_at_call 10
           refine (sgSign_nil _ _).mono ?_
           rintro e w33 ⟨rfl, kk⟩
           replace f_s_0 := zfb f_s_0 kk
           replace f_s24 := zfb f_s24 kk
           replace f_s30 := zfb f_s30 kk
           replace g_s35 := g_s35.belowJ kk
           have Bw5 := zbt HGS Bw4 kk
           clear Bw4 kk)
        | (have hgo := Bw5; clear hgo
           go_at_call 11
           refine (sgPublic_nil _).mono ?_
           rintro e w38 ⟨rfl, kk⟩
           replace f_s_0 := zfb f_s_0 kk
           replace f_s24 := zfb f_s24 kk
           replace f_s30 := zfb f_s30 kk
           replace g_s35 := g_s35.belowJ kk
           have Bw6 := zbt HGS Bw5 kk
           clear Bw5 kk))
      have Bw7 := Bw6.drew
      replace f_s_0 := Bs.drew f_s_0
      replace f_s24 := Bs.drew f_s24
      replace f_s30 := Bs.drew f_s30
      replace g_s35 := g_s35.drew
      clear Bw6
      refine wp_region_lint (.rd 0 (.rd 1 (.rd 2 (.wr 3 (.rd 4 (.rd 5 (.rd 6 (.rd 7 (.rd 8 (.rd 9 (.rd 10 (.wr 11 (.wr 12 (.rd 13 (.rd 14 (.rd 15 (.rd 16 (.rd 17 (.rd 18 (.rd 21 (.rd 22 (.wr 19 (.rd 20 (.rd 23 (.rd 24 (.rd 25 (.rd 26 (.rd 29 (.rd 30 (.wr 27 (.rd 28 (.rd 31 (.rd 32 (.rd 33 (.wr 34 (.rd 35 (.rd 36 .done))))))))))))))))))))))))))))))))))))) (by kernel_rfl) (by kernel_rfl) (by decide) (by kernel_rfl) (fun d _ _ _ _ h => by cases d <;> exact h) ?_
      refine lint_pure 95 (Op.move (Operand.tmp 5)) 22 (v_s24) rfl rfl rfl rfl rfl (fun w0 hb0 => by unfold mkOp; go_simp; all_goals (with_reducible rfl)) ?_
      simp only [Act.put, zA, zB, zC]
      refine lint_conv 96 (.tmp 95) _ _ rfl rfl rfl rfl rfl f_s24 ?_
      simp only [Act.put, zA, zB, zC]
      refine lint_pure 97 (Op.move (Operand.tmp 0)) 22 (.slice ad0 32 c0) rfl rfl rfl rfl rfl (fun w0 hb0 => by unfold mkOp; go_simp; all_goals (with_reducible rfl)) ?_
      simp only [Act.put, zA, zB, zC]
      refine stp_fn 98 12 #[Operand.tmp 97] #[22] _ (edPublic_to _ l0 pb _ f_s_0 (by rw [HL0.out]; decide) HPB.out) rfl rfl rfl rfl Tryz.func12 (by kernel_rfl) (by kernel_rfl) (by go_simp) ?_
      rintro e w62 ⟨v_s98, rfl, o_s98, kk⟩
      refine ⟨_, rfl, kk, ?_⟩
      replace f_s_0 := zfb f_s_0 kk
      replace f_s24 := zfb f_s24 kk
      replace f_s30 := zfb f_s30 kk
      replace g_s35 := g_s35.belowJ kk
      have Bw8 := zbt HGS Bw7 kk
      clear Bw7 kk
      have f_s98 := o_s98.bs
      clear o_s98
      simp only [Act.put, zA, zB, zC]
      refine lint_conv 99 (.tmp 98) _ _ rfl rfl rfl rfl rfl f_s98 ?_
      simp only [Act.put, zA, zB, zC]
      refine lint_pure 100 (Op.binOp BinOp.eql 9 (Operand.tmp 96) (Operand.tmp 99) 9) 4 (.bool true) rfl rfl rfl rfl rfl (fun w0 hb0 => by exact exec_str_yes _ _ _ _ (rfl) rfl rfl) ?_
      simp only [Act.put, zA, zB, zC]
      refine lint_pure 101 (Op.move (Operand.tmp 100)) 4 (.bool true) rfl rfl rfl rfl rfl (fun w0 hb0 => by unfold mkOp; go_simp; all_goals (with_reducible rfl)) ?_
      simp only [Act.put, zA, zB, zC]
      refine lint_pure 102 (Op.move (Operand.tmp 7)) 22 (v_s30) rfl rfl rfl rfl rfl (fun w0 hb0 => by unfold mkOp; go_simp; all_goals (with_reducible rfl)) ?_
      simp only [Act.put, zA, zB, zC]
      refine lint_conv 103 (.tmp 102) _ _ rfl rfl rfl rfl rfl f_s30 ?_
      simp only [Act.put, zA, zB, zC]
      refine lint_pure 104 (Op.move (Operand.tmp 0)) 22 (.slice ad0 32 c0) rfl rfl rfl rfl rfl (fun w0 hb0 => by unfold mkOp; go_simp; all_goals (with_reducible rfl)) ?_
      simp only [Act.put, zA, zB, zC]
      refine lint_pure 105 (Op.move (Operand.tmp 1)) 23 (v1) rfl rfl rfl rfl rfl (fun w0 hb0 => by unfold mkOp; go_simp; all_goals (with_reducible rfl)) ?_
      simp only [Act.put, zA, zB, zC]
      refine stp_fn 106 14 #[Operand.tmp 105] #[23] _ (alikeCat_to _ _ t0 _ (HR1.out.below Bw8 (Nat.le_refl _)) HT.out (by have := HLT.out; omega)) rfl rfl rfl rfl Tryz.func14 (by kernel_rfl) (by kernel_rfl) (by go_simp) ?_
      rintro e w63 ⟨v_s106, rfl, o_s106, kk⟩
      refine ⟨_, rfl, kk, ?_⟩
      replace f_s_0 := zfb f_s_0 kk
      replace f_s24 := zfb f_s24 kk
      replace f_s30 := zfb f_s30 kk
      replace f_s98 := zfb f_s98 kk
      replace g_s35 := g_s35.belowJ kk
      have Bw9 := zbt HGS Bw8 kk
      clear Bw8 kk
      have f_s106 := o_s106.bs
      clear o_s106
      simp only [Act.put, zA, zB, zC]
      refine stp_fn 107 13 #[Operand.tmp 104, Operand.tmp 106] #[22, 22] _ (edSign_to _ l0 _ t0 sg _ f_s_0 f_s106 (by rw [HL0.out]; decide) (by have := HLT.out; omega) HSG.out) rfl rfl rfl rfl Tryz.func13 (by kernel_rfl) (by kernel_rfl) (by go_simp) ?_
      rintro e w64 ⟨v_s107, rfl, o_s107, kk⟩
      refine ⟨_, rfl, kk, ?_⟩
      replace f_s_0 := zfb f_s_0 kk
      replace f_s24 := zfb f_s24 kk
      replace f_s30 := zfb f_s30 kk
      replace f_s98 := zfb f_s98 kk
      replace f_s106 := zfb f_s106 kk
      replace g_s35 := g_s35.belowJ kk
      have Bw10 := zbt HGS Bw9 kk
      clear Bw9 kk
      have f_s107 := o_s107.bs
      clear o_s107
      simp only [Act.put, zA, zB, zC]
      refine lint_conv 108 (.tmp 107) _ _ rfl rfl rfl rfl rfl f_s107 ?_
      simp only [Act.put, zA, zB, zC]
      refine lint_pure 109 (Op.binOp BinOp.eql 9 (Operand.tmp 103) (Operand.tmp 108) 9) 4 (.bool true) rfl rfl rfl rfl rfl (fun w0 hb0 => by exact exec_str_yes _ _ _ _ (rfl) rfl rfl) ?_
      simp only [Act.put, zA, zB, zC]
      refine lint_pure 110 (Op.pick (Operand.tmp 101) (Operand.tmp 109) (Operand.const (Value.bool false))) 4 (.bool true) rfl rfl rfl rfl rfl (fun w0 hb0 => by unfold mkOp; go_simp; all_goals (with_reducible rfl)) ?_
      simp only [Act.put, zA, zB, zC]
      refine lint_pure 111 (Op.move (Operand.tmp 110)) 4 (.bool true) rfl rfl rfl rfl rfl (fun w0 hb0 => by unfold mkOp; go_simp; all_goals (with_reducible rfl)) ?_
      simp only [Act.put, zA, zB, zC]
      refine lint_pure 112 (Op.move (Operand.tmp 12)) 33 (.func (.func 10) #[.pointer (some ⟨b_s35, 0, none⟩)] #[]) rfl rfl rfl rfl rfl (fun w0 hb0 => by unfold mkOp; go_simp; all_goals (with_reducible rfl)) ?_
      simp only [Act.put, zA, zB, zC]
      refine lint_pure 113 (Op.move (Operand.tmp 1)) 23 (v1) rfl rfl rfl rfl rfl (fun w0 hb0 => by unfold mkOp; go_simp; all_goals (with_reducible rfl)) ?_
      simp only [Act.put, zA, zB, zC]
      refine lint_pure 116 (Op.move (Operand.tmp 7)) 22 (v_s30) rfl rfl rfl rfl rfl (fun w0 hb0 => by unfold mkOp; go_simp; all_goals (with_reducible rfl)) ?_
      simp only [Act.put, zA, zB, zC]
      refine lint_conv 117 (.tmp 116) _ _ rfl rfl rfl rfl rfl f_s30 ?_
      simp only [Act.put, zA, zB, zC]
      refine stp_valB1 114 (Operand.tmp 112) 10 #[Operand.tmp 113] #[23] (.pointer (some ⟨b_s35, 0, none⟩)) v1 (sgSign_to _ _ l0 _ t0 sg _ g_s35 (HR1.out.below Bw10 (Nat.le_refl _)) HT.out HLN.out (by have := HLT.out; omega) HSG.out) rfl rfl rfl rfl rfl Tryz.func10 (by kernel_rfl) (by kernel_rfl) (by go_simp) ?_
      rintro e w65 ⟨v_s114, rfl, o_s114, kk⟩
      refine ⟨_, rfl, kk, ?_⟩
      replace f_s_0 := zfb f_s_0 kk
      replace f_s24 := zfb f_s24 kk
      replace f_s30 := zfb f_s30 kk
      replace f_s98 := zfb f_s98 kk
      replace f_s106 := zfb f_s106 kk
      replace f_s107 := zfb f_s107 kk
      replace g_s35 := g_s35.belowJ kk
      have Bw11 := zbt HGS Bw10 kk
      clear Bw10 kk
      have f_s114 := o_s114.bs
      clear o_s114
      simp only [Act.put, zA, zB, zC]
      refine lint_conv 115 (.tmp 114) _ _ rfl rfl rfl rfl rfl f_s114 ?_
      simp only [Act.put, zA, zB, zC]
      refine lint_pure 118 (Op.binOp BinOp.eql 9 (Operand.tmp 115) (Operand.tmp 117) 9) 4 (.bool true) rfl rfl rfl rfl rfl (fun w0 hb0 => by exact exec_str_yes _ _ _ _ (rfl) rfl rfl) ?_
      simp only [Act.put, zA, zB, zC]
      refine lint_pure 119 (Op.pick (Operand.tmp 111) (Operand.tmp 118) (Operand.const (Value.bool false))) 4 (.bool true) rfl rfl rfl rfl rfl (fun w0 hb0 => by unfold mkOp; go_simp; all_goals (with_reducible rfl)) ?_
      simp only [Act.put, zA, zB, zC]
      refine lint_pure 120 (Op.move (Operand.tmp 119)) 4 (.bool true) rfl rfl rfl rfl rfl (fun w0 hb0 => by unfold mkOp; go_simp; all_goals (with_reducible rfl)) ?_
      simp only [Act.put, zA, zB, zC]
      refine lint_pure 121 (Op.move (Operand.tmp 9)) 30 (.pointer (some ⟨b_s35, 0, none⟩)) rfl rfl rfl rfl rfl (fun w0 hb0 => by unfold mkOp; go_simp; all_goals (with_reducible rfl)) ?_
      simp only [Act.put, zA, zB, zC]
      refine lint_pure 124 (Op.move (Operand.tmp 5)) 22 (v_s24) rfl rfl rfl rfl rfl (fun w0 hb0 => by unfold mkOp; go_simp; all_goals (with_reducible rfl)) ?_
      simp only [Act.put, zA, zB, zC]
      refine lint_conv 125 (.tmp 124) _ _ rfl rfl rfl rfl rfl f_s24 ?_
      simp only [Act.put, zA, zB, zC]
      refine stp_fn 122 11 #[Operand.tmp 121] #[30] _ (sgPublic_to _ l0 pb _ g_s35 HPB.out) rfl rfl rfl rfl Tryz.func11 (by kernel_rfl) (by kernel_rfl) (by go_simp) ?_
      rintro e w66 ⟨v_s122, rfl, o_s122, kk⟩
      refine ⟨_, rfl, kk, ?_⟩
      replace f_s_0 := zfb f_s_0 kk
      replace f_s24 := zfb f_s24 kk
      replace f_s30 := zfb f_s30 kk
      replace f_s98 := zfb f_s98 kk
      replace f_s106 := zfb f_s106 kk
      replace f_s107 := zfb f_s107 kk
      replace f_s114 := zfb f_s114 kk
      replace g_s35 := g_s35.belowJ kk
      have Bw12 := zbt HGS Bw11 kk
      clear Bw11 kk
      have f_s122 := o_s122.bs
      clear o_s122
      simp only [Act.put, zA, zB, zC]
      refine lint_conv 123 (.tmp 122) _ _ rfl rfl rfl rfl rfl f_s122 ?_
      simp only [Act.put, zA, zB, zC]
      refine lint_pure 126 (Op.binOp BinOp.eql 9 (Operand.tmp 123) (Operand.tmp 125) 9) 4 (.bool true) rfl rfl rfl rfl rfl (fun w0 hb0 => by exact exec_str_yes _ _ _ _ (rfl) rfl rfl) ?_
      simp only [Act.put, zA, zB, zC]
      refine lint_pure 127 (Op.pick (Operand.tmp 120) (Operand.tmp 126) (Operand.const (Value.bool false))) 4 (.bool true) rfl rfl rfl rfl rfl (fun w0 hb0 => by unfold mkOp; go_simp; all_goals (with_reducible rfl)) ?_
      simp only [Act.put, zA, zB, zC]
      refine lint_pure 128 (Op.move (Operand.tmp 127)) 4 (.bool true) rfl rfl rfl rfl rfl (fun w0 hb0 => by unfold mkOp; go_simp; all_goals (with_reducible rfl)) ?_
      simp only [Act.put, zA, zB, zC]
      refine stp_fn 129 6 #[] #[] _ (awake9_any _) rfl rfl rfl rfl Tryz.func6 (by kernel_rfl) (by kernel_rfl) (by go_simp) ?_
      rintro e w67 ⟨rfl, kk⟩
      refine ⟨_, rfl, kk, ?_⟩
      replace f_s_0 := zfb f_s_0 kk
      replace f_s24 := zfb f_s24 kk
      replace f_s30 := zfb f_s30 kk
      replace f_s98 := zfb f_s98 kk
      replace f_s106 := zfb f_s106 kk
      replace f_s107 := zfb f_s107 kk
      replace f_s114 := zfb f_s114 kk
      replace f_s122 := zfb f_s122 kk
      replace g_s35 := g_s35.belowJ kk
      have Bw13 := zbt HGS Bw12 kk
      clear Bw12 kk
      simp only [Act.put, zA, zB, zC]
      refine lint_pure 130 (Op.pick (Operand.tmp 128) (Operand.tmp 129) (Operand.const (Value.bool false))) 4 (.bool true) rfl rfl rfl rfl rfl (fun w0 hb0 => by unfold mkOp; go_simp; all_goals (with_reducible rfl)) ?_
      simp only [Act.put, zA, zB, zC]
      refine lint_pure 4 (Op.assign (Operand.tmp 130)) 4 (.bool true) rfl rfl rfl rfl rfl (fun w0 hb0 => by unfold mkOp; go_simp; all_goals (with_reducible rfl)) ?_
      simp only [Act.put, zA, zB, zC]
      refine lint_end ?_
      go_wp2
      go_ret
      exact ⟨rfl, Bw13⟩
    · have q9 : ¬ (n0 : Int) = 32 := by omega
      have HNE : Hid (¬ l0.length = 32) := Lib.hid (by rw [HL0.out]; exact d9)
      clear d9
      go_enter Tryz.func3, Tryz.ntmps3
      go_wp2_with (first
        | (have hgo := Bw0; clear hgo
           go_at_call 5
           refine (all_any _ _ 300 _ (HR1.out.below Bw0 (Nat.le_refl _)) (by decide)).mono ?_
           rintro e w7 ⟨s, rfl, hs1, hs2, kk⟩
           have HS := Lib.hid hs2
           clear hs1 hs2
           replace f_s_0 := zfb f_s_0 kk
           have Bw1 := zbt HGS Bw0 kk
           clear Bw0 kk
           by_cases hsum : (300 : Int) < (s : Int)))
      focus
        go_wp2_with (go_at_call 6; refine (awake9_any _).mono ?_; rintro e w9 ⟨rfl, hb9⟩)
        go_ret
        exact ⟨rfl, Bw1.trans (hb9.mono (HGS.out _ Bw1))⟩
      have hlen := HS.out (by omega)
      obtain ⟨t0, ht⟩ : ∃ t, t = L1.flatten := ⟨_, rfl⟩
      rw [← ht] at hlen
      have HT := Lib.hid ht.symm
      have HLT : Hid (t0.length ≤ 300) := Lib.hid (by omega)
      have HLN : Hid (2 + L1.length ≤ 2147483647) := Lib.hid (by omega)
      clear hlen HS ht
      go_wp2_with (first
        | (have hgo := Bw1; clear hgo
           go_at_call 7
           refine (public_no _ l0 _ f_s_0 HNE.out).mono ?_
           rintro e w9 ⟨rfl, kk⟩
           replace f_s_0 := zfb f_s_0 kk
           have Bw2 := zbt HGS Bw1 kk
           clear Bw1 kk)
        | (have hgo := Bw2; clear hgo
           go_at_call 8
           refine (sign_no _ l0 _ _ f_s_0 HNE.out).mono ?_
           rintro e w17 ⟨rfl, kk⟩
           replace f_s_0 := zfb f_s_0 kk
           have Bw3 := zbt HGS Bw2 kk
           clear Bw2 kk)
        | (have hgo := Bw3; clear hgo
           go_at_call 9
           refine (newSigner_no _ l0 _ f_s_0 HNE.out).mono ?_
           rintro e w24 ⟨rfl, kk⟩
           replace f_s_0 := zfb f_s_0 kk
           have Bw4 := zbt HGS Bw3 kk
           clear Bw3 kk)
        | (have hgo := Bw4; clear hgo
           go_at_call 10
           refine (sgSign_nil _ _).mono ?_
           rintro e w33 ⟨rfl, kk⟩
           replace f_s_0 := zfb f_s_0 kk
           have Bw5 := zbt HGS Bw4 kk
           clear Bw4 kk)
        | (have hgo := Bw5; clear hgo
           go_at_call 11
           refine (sgPublic_nil _).mono ?_
           rintro e w38 ⟨rfl, kk⟩
           replace f_s_0 := zfb f_s_0 kk
           have Bw6 := zbt HGS Bw5 kk
           clear Bw5 kk)
        | (have hgo := Bw6; clear hgo
           go_at_call 6
           refine (awake9_any _).mono ?_
           rintro e w70 ⟨rfl, kk⟩
           replace f_s_0 := zfb f_s_0 kk
           have Bw7 := zbt HGS Bw6 kk
           clear Bw6 kk))
      go_ret
      exact ⟨rfl, Bw7⟩
  · have q0 : (40 : Int) < (n0 : Int) := by omega
    clear h0 hB0 e0 d0
    go_enter Tryz.func3, Tryz.ntmps3
    go_wp2_with (go_at_call 6; refine (awake9_any _).mono ?_; rintro e w9 ⟨rfl, hb9⟩)
    go_ret
    exact ⟨rfl, hb9⟩
end Go.Proofs.YtonhpmaiagbheaaGreat
