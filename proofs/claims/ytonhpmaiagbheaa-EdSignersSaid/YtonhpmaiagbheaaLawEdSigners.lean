/- EdSigners, walked. -/
import Derived.Test.YtonhpmaiagbheaaMM4
namespace Go.Proofs.Ytonhpmaiagbheaa
open Go.RowKit Go.Deep
set_option linter.unusedSimpArgs false
set_option linter.unusedVariables false

set_option maxHeartbeats 8000000 in
set_option maxRecDepth 100000 in
theorem law_edSigners (w : World) (v0 : Value) (l0 : List UInt8) (h0 : Bs w v0 l0) (v1 : Value) (l1 : List UInt8) (h1 : Bs w v1 l1) (v2 : Value) (L2 : List (List UInt8)) (h2 : Bss w v2 L2) : Calls Try.prog 6 #[v0, v1, v2] w fun e w' => e = .returned (.bool true) ∧ Below w.heap.size w w' := by
  obtain ⟨ad0, n0, c0, rfl, e0, y0, z0, hB0⟩ := h0.shape
  obtain ⟨ad1, n1, c1, rfl, e1, y1, z1, hB1⟩ := h1.shape
  by_cases d0 : n0 = 32
  · have q0 : (n0 : Int) = 32 := by omega
    by_cases d1 : n1 = 32
    · have q1 : (n1 : Int) = 32 := by omega
      obtain rfl : n0 = 32 := d0
      have HL0 : Hid (l0.length = 32) := Lib.hid e0
      have f_s_0 := hB0
      have HF_s_0 := Lib.hid hB0
      obtain rfl : n1 = 32 := d1
      have HL1 : Hid (l1.length = 32) := Lib.hid e1
      have f_s_1 := hB1
      have HF_s_1 := Lib.hid hB1
      have HR2 := Lib.hid h2
      have Bw0 := Below.refl w.heap.size w
      have HGS : Hid (∀ wq : World, Below w.heap.size w wq → w.heap.size ≤ wq.heap.size) := Lib.hid fun wq h => h.size
      clear h0 hB0 e0 h1 hB1 e1 h2 
      go_enter Try.func6, Try.ntmps6
      go_wp2_with (first
        | (have hgo := Bw0; clear hgo
           go_at_call 7
           refine (all_any _ _ 300 _ (HR2.out.below Bw0 (Nat.le_refl _)) (by decide)).mono ?_
           rintro e w12 ⟨s, rfl, hs1, hs2, kk⟩
           have HS := Lib.hid hs2
           clear hs1 hs2
           replace f_s_0 := zfb f_s_0 kk
           replace f_s_1 := zfb f_s_1 kk
           have Bw1 := zbt HGS Bw0 kk
           clear Bw0 kk
           by_cases hsum : (300 : Int) < (s : Int)))
      focus
        go_wp2_with (go_at_call 8; refine (awake9_any _).mono ?_; rintro e w9 ⟨rfl, hb9⟩)
        go_ret
        exact ⟨rfl, Bw1.trans (hb9.mono (HGS.out _ Bw1))⟩
      have hlen := HS.out (by omega)
      obtain ⟨t0, ht⟩ : ∃ t, t = L2.flatten := ⟨_, rfl⟩
      rw [← ht] at hlen
      have HT := Lib.hid ht.symm
      have HLT : Hid (t0.length ≤ 300) := Lib.hid (by omega)
      have HLN : Hid (2 + L2.length ≤ 2147483647) := Lib.hid (by omega)
      clear hlen HS ht
      have HVS := Lib.hid (ver_sig l0 t0)
      have HSL := Lib.hid (edSig_length l0 t0)
      have HPL := Lib.hid (edPub_length l0)
      obtain ⟨pb, hpb⟩ : ∃ p, p = edPub l0 := ⟨_, rfl⟩
      obtain ⟨sg, hsg⟩ : ∃ s, s = edSig l0 t0 := ⟨_, rfl⟩
      obtain ⟨sh, hsh⟩ : ∃ s, s = edSig l1 t0 := ⟨_, rfl⟩
      rw [← hpb] at HVS HPL
      rw [← hsg] at HVS HSL
      have HPB := Lib.hid hpb.symm
      have HSG := Lib.hid hsg.symm
      have HSH := Lib.hid hsh.symm
      clear hpb hsg hsh
      go_wp2_with (first
        | (have hgo := Bw1; clear hgo
           go_at_call 16
           refine (newSigner_yes _ _ _ f_s_0 HL0.out).mono ?_
           rintro e w14 ⟨v_s33, rfl, g_s33, kk⟩
           replace f_s_0 := zfb f_s_0 kk
           replace f_s_1 := zfb f_s_1 kk
           have Bw2 := zbt HGS Bw1 kk
           clear Bw1 kk
           obtain ⟨b_s33, rfl⟩ := g_s33.ptr)
        | (have hgo := Bw2; clear hgo
           go_at_call 16
           refine (newSigner_yes _ _ _ f_s_1 HL1.out).mono ?_
           rintro e w21 ⟨v_s38, rfl, g_s38, kk⟩
           replace f_s_0 := zfb f_s_0 kk
           replace f_s_1 := zfb f_s_1 kk
           replace g_s33 := g_s33.belowJ kk
           have Bw3 := zbt HGS Bw2 kk
           clear Bw2 kk
           obtain ⟨b_s38, rfl⟩ := g_s38.ptr)
        | (have hgo := Bw3; clear hgo
           go_at_call 13
           refine (alikeCat_to _ _ t0 _ (HR2.out.below Bw3 (Nat.le_refl _)) HT.out (by have := HLT.out; omega)).mono ?_
           rintro e w42 ⟨v_s56, rfl, o_s56, kk⟩
           replace f_s_0 := zfb f_s_0 kk
           replace f_s_1 := zfb f_s_1 kk
           replace g_s33 := g_s33.belowJ kk
           replace g_s38 := g_s38.belowJ kk
           have Bw4 := zbt HGS Bw3 kk
           clear Bw3 kk
           have f_s56 := o_s56.bs
           clear o_s56)
        | (have hgo := Bw4; clear hgo
           go_at_call 17
           refine (sgSign_to _ _ l0 _ t0 sg _ g_s33 (HR2.out.below Bw4 (Nat.le_refl _)) HT.out HLN.out (by have := HLT.out; omega) HSG.out).mono ?_
           rintro e w46 ⟨v_s59, rfl, o_s59, kk⟩
           replace f_s_0 := zfb f_s_0 kk
           replace f_s_1 := zfb f_s_1 kk
           replace f_s56 := zfb f_s56 kk
           replace g_s33 := g_s33.belowJ kk
           replace g_s38 := g_s38.belowJ kk
           have Bw5 := zbt HGS Bw4 kk
           clear Bw4 kk
           have f_s59 := o_s59.bs
           clear o_s59
           obtain ⟨ad_s59, n_s59, c_s59, rfl, he, hy, hz, _⟩ := f_s59.shape
           have hn : n_s59 = 64 := by rw [← he]; exact HSL.out
           subst hn
           clear he hy hz)
        | (have hgo := Bw5; clear hgo
           go_at_call 17
           refine (sgSign_to _ _ l1 _ t0 sh _ g_s38 (HR2.out.below Bw5 (Nat.le_refl _)) HT.out HLN.out (by have := HLT.out; omega) HSH.out).mono ?_
           rintro e w50 ⟨v_s62, rfl, o_s62, kk⟩
           replace f_s_0 := zfb f_s_0 kk
           replace f_s_1 := zfb f_s_1 kk
           replace f_s56 := zfb f_s56 kk
           replace f_s59 := zfb f_s59 kk
           replace g_s33 := g_s33.belowJ kk
           replace g_s38 := g_s38.belowJ kk
           have Bw6 := zbt HGS Bw5 kk
           clear Bw5 kk
           have f_s62 := o_s62.bs
           clear o_s62
           clear f_s62 g_s38 f_s_1)
        | (have hgo := Bw6; clear hgo
           refine wpList_rows1 rfl (.tmp 65) rfl f_s56 rfl ?_
           intro v_r66 w53 F_r66 kk
           replace f_s_0 := zfb f_s_0 kk
           replace f_s56 := zfb f_s56 kk
           replace f_s59 := zfb f_s59 kk
           replace g_s33 := g_s33.belowJ kk
           have Bw7 := zbt HGS Bw6 kk
           clear Bw6 kk)
        | (have hgo := Bw7; clear hgo
           go_at_call 10
           refine (sign_to _ l0 _ _ t0 sg _ f_s_0 HL0.out F_r66 List.flatten_singleton (by simp) (by have := HLT.out; omega) HSG.out).mono ?_
           rintro e w54 ⟨v_s67, rfl, o_s67, kk⟩
           replace f_s_0 := zfb f_s_0 kk
           replace f_s56 := zfb f_s56 kk
           replace f_s59 := zfb f_s59 kk
           replace g_s33 := g_s33.belowJ kk
           have Bw8 := zbt HGS Bw7 kk
           clear Bw7 kk
           have f_s67 := o_s67.bs
           clear o_s67)
        | (have hgo := Bw8; clear hgo
           go_at_call 9
           refine (public_to _ l0 pb _ f_s_0 HL0.out HPB.out).mono ?_
           rintro e w61 ⟨v_s72, rfl, o_s72, kk⟩
           replace f_s_0 := zfb f_s_0 kk
           replace f_s56 := zfb f_s56 kk
           replace f_s59 := zfb f_s59 kk
           replace f_s67 := zfb f_s67 kk
           replace g_s33 := g_s33.belowJ kk
           have Bw9 := zbt HGS Bw8 kk
           clear Bw8 kk
           have f_s72 := o_s72.bs
           clear o_s72))
      have Bw10 := Bw9.drew
      replace f_s_0 := Bs.drew f_s_0
      replace f_s56 := Bs.drew f_s56
      replace f_s59 := Bs.drew f_s59
      replace f_s67 := Bs.drew f_s67
      replace f_s72 := Bs.drew f_s72
      replace g_s33 := g_s33.drew
      clear Bw9
      refine wp_region_lint (.rd 0 (.rd 1 (.rd 2 (.rd 3 (.rd 4 (.rd 5 (.rd 6 (.rd 7 (.rd 8 (.rd 9 (.rd 10 (.rd 11 (.rd 12 (.rd 16 (.rd 17 (.wr 13 (.wr 14 (.rd 15 (.rd 18 (.rd 19 (.rd 20 (.rd 21 (.rd 24 (.rd 25 (.wr 22 (.rd 23 (.rd 26 (.rd 27 (.rd 28 (.rd 29 (.rd 30 (.rd 31 (.wr 32 (.wr 33 (.rd 34 (.rd 35 (.rd 36 (.wr 37 (.rd 38 (.rd 39 .done)))))))))))))))))))))))))))))))))))))))) (by kernel_rfl) (by kernel_rfl) (by decide) (by kernel_rfl) (fun d _ _ _ _ h => by cases d <;> exact h) ?_
      refine lint_pure 75 (Op.move (Operand.tmp 12)) 22 (.slice ad_s59 64 c_s59) rfl rfl rfl rfl rfl (fun w0 hb0 => by unfold mkOp; go_simp; all_goals (with_reducible rfl)) ?_
      simp only [Act.put, zA, zB, zC]
      refine lint_pure 76 (Op.call { callee := Callee.builtin Builtin.len, args := #[Operand.tmp 75], argTypes := #[22] }) 3 (.int .i64 64) rfl rfl rfl rfl rfl (fun w0 hb0 => by unfold mkOp; go_simp; all_goals (with_reducible rfl)) ?_
      simp only [Act.put, zA, zB, zC]
      refine lint_pure 77 (Op.binOp BinOp.eql 3 (Operand.tmp 76) (Operand.const (Value.int IntKind.i64 64)) 3) 4 (.bool true) rfl rfl rfl rfl rfl (fun w0 hb0 => by unfold mkOp; go_simp; all_goals (with_reducible rfl)) ?_
      simp only [Act.put, zA, zB, zC]
      refine lint_pure 78 (Op.move (Operand.tmp 77)) 4 (.bool true) rfl rfl rfl rfl rfl (fun w0 hb0 => by unfold mkOp; go_simp; all_goals (with_reducible rfl)) ?_
      simp only [Act.put, zA, zB, zC]
      refine lint_pure 79 (Op.move (Operand.tmp 12)) 22 (.slice ad_s59 64 c_s59) rfl rfl rfl rfl rfl (fun w0 hb0 => by unfold mkOp; go_simp; all_goals (with_reducible rfl)) ?_
      simp only [Act.put, zA, zB, zC]
      refine lint_conv 80 (.tmp 79) _ _ rfl rfl rfl rfl rfl f_s59 ?_
      simp only [Act.put, zA, zB, zC]
      refine lint_pure 81 (Op.move (Operand.tmp 13)) 22 (v_s67) rfl rfl rfl rfl rfl (fun w0 hb0 => by unfold mkOp; go_simp; all_goals (with_reducible rfl)) ?_
      simp only [Act.put, zA, zB, zC]
      refine lint_conv 82 (.tmp 81) _ _ rfl rfl rfl rfl rfl f_s67 ?_
      simp only [Act.put, zA, zB, zC]
      refine lint_pure 83 (Op.binOp BinOp.eql 9 (Operand.tmp 80) (Operand.tmp 82) 9) 4 (.bool true) rfl rfl rfl rfl rfl (fun w0 hb0 => by exact exec_str_yes _ _ _ _ (rfl) rfl rfl) ?_
      simp only [Act.put, zA, zB, zC]
      refine lint_pure 84 (Op.pick (Operand.tmp 78) (Operand.tmp 83) (Operand.const (Value.bool false))) 4 (.bool true) rfl rfl rfl rfl rfl (fun w0 hb0 => by unfold mkOp; go_simp; all_goals (with_reducible rfl)) ?_
      simp only [Act.put, zA, zB, zC]
      refine lint_pure 85 (Op.move (Operand.tmp 84)) 4 (.bool true) rfl rfl rfl rfl rfl (fun w0 hb0 => by unfold mkOp; go_simp; all_goals (with_reducible rfl)) ?_
      simp only [Act.put, zA, zB, zC]
      refine lint_pure 86 (Op.move (Operand.tmp 7)) 39 (.pointer (some ⟨b_s33, 0, none⟩)) rfl rfl rfl rfl rfl (fun w0 hb0 => by unfold mkOp; go_simp; all_goals (with_reducible rfl)) ?_
      simp only [Act.put, zA, zB, zC]
      refine lint_pure 87 (Op.move (Operand.tmp 11)) 22 (v_s56) rfl rfl rfl rfl rfl (fun w0 hb0 => by unfold mkOp; go_simp; all_goals (with_reducible rfl)) ?_
      simp only [Act.put, zA, zB, zC]
      refine lint_pure 91 (Op.move (Operand.tmp 12)) 22 (.slice ad_s59 64 c_s59) rfl rfl rfl rfl rfl (fun w0 hb0 => by unfold mkOp; go_simp; all_goals (with_reducible rfl)) ?_
      simp only [Act.put, zA, zB, zC]
      refine lint_conv 92 (.tmp 91) _ _ rfl rfl rfl rfl rfl f_s59 ?_
      simp only [Act.put, zA, zB, zC]
      refine stp_rows1 88 (.tmp 87) 23 rfl rfl rfl rfl rfl f_s56 rfl ?_
      intro w67 v_r88 F_r88 kk
      replace f_s_0 := zfb f_s_0 kk
      replace f_s56 := zfb f_s56 kk
      replace f_s59 := zfb f_s59 kk
      replace f_s67 := zfb f_s67 kk
      replace f_s72 := zfb f_s72 kk
      replace g_s33 := g_s33.belowJ kk
      have Bw11 := zbt HGS Bw10 kk
      clear Bw10 kk
      simp only [Act.put, zA, zB, zC]
      refine stp_fn 89 17 #[Operand.tmp 86, Operand.tmp 88] #[39, 23] _ (sgSign_to _ _ l0 _ t0 sg _ g_s33 F_r88 List.flatten_singleton (by simp) (by have := HLT.out; omega) HSG.out) rfl rfl rfl rfl Try.func17 (by kernel_rfl) (by kernel_rfl) (by go_simp) ?_
      rintro e w68 ⟨v_s89, rfl, o_s89, kk⟩
      refine ⟨_, rfl, kk, ?_⟩
      replace f_s_0 := zfb f_s_0 kk
      replace f_s56 := zfb f_s56 kk
      replace f_s59 := zfb f_s59 kk
      replace f_s67 := zfb f_s67 kk
      replace f_s72 := zfb f_s72 kk
      replace g_s33 := g_s33.belowJ kk
      have Bw12 := zbt HGS Bw11 kk
      clear Bw11 kk
      have f_s89 := o_s89.bs
      clear o_s89
      simp only [Act.put, zA, zB, zC]
      refine lint_conv 90 (.tmp 89) _ _ rfl rfl rfl rfl rfl f_s89 ?_
      simp only [Act.put, zA, zB, zC]
      refine lint_pure 93 (Op.binOp BinOp.eql 9 (Operand.tmp 90) (Operand.tmp 92) 9) 4 (.bool true) rfl rfl rfl rfl rfl (fun w0 hb0 => by exact exec_str_yes _ _ _ _ (rfl) rfl rfl) ?_
      simp only [Act.put, zA, zB, zC]
      refine lint_pure 94 (Op.pick (Operand.tmp 85) (Operand.tmp 93) (Operand.const (Value.bool false))) 4 (.bool true) rfl rfl rfl rfl rfl (fun w0 hb0 => by unfold mkOp; go_simp; all_goals (with_reducible rfl)) ?_
      simp only [Act.put, zA, zB, zC]
      refine lint_pure 95 (Op.move (Operand.tmp 94)) 4 (.bool true) rfl rfl rfl rfl rfl (fun w0 hb0 => by unfold mkOp; go_simp; all_goals (with_reducible rfl)) ?_
      simp only [Act.put, zA, zB, zC]
      refine lint_pure 96 (Op.move (Operand.tmp 7)) 39 (.pointer (some ⟨b_s33, 0, none⟩)) rfl rfl rfl rfl rfl (fun w0 hb0 => by unfold mkOp; go_simp; all_goals (with_reducible rfl)) ?_
      simp only [Act.put, zA, zB, zC]
      refine lint_pure 99 (Op.move (Operand.tmp 15)) 22 (v_s72) rfl rfl rfl rfl rfl (fun w0 hb0 => by unfold mkOp; go_simp; all_goals (with_reducible rfl)) ?_
      simp only [Act.put, zA, zB, zC]
      refine lint_conv 100 (.tmp 99) _ _ rfl rfl rfl rfl rfl f_s72 ?_
      simp only [Act.put, zA, zB, zC]
      refine stp_fn 97 18 #[Operand.tmp 96] #[39] _ (sgPublic_to _ l0 pb _ g_s33 HPB.out) rfl rfl rfl rfl Try.func18 (by kernel_rfl) (by kernel_rfl) (by go_simp) ?_
      rintro e w69 ⟨v_s97, rfl, o_s97, kk⟩
      refine ⟨_, rfl, kk, ?_⟩
      replace f_s_0 := zfb f_s_0 kk
      replace f_s56 := zfb f_s56 kk
      replace f_s59 := zfb f_s59 kk
      replace f_s67 := zfb f_s67 kk
      replace f_s72 := zfb f_s72 kk
      replace f_s89 := zfb f_s89 kk
      replace g_s33 := g_s33.belowJ kk
      have Bw13 := zbt HGS Bw12 kk
      clear Bw12 kk
      have f_s97 := o_s97.bs
      clear o_s97
      simp only [Act.put, zA, zB, zC]
      refine lint_conv 98 (.tmp 97) _ _ rfl rfl rfl rfl rfl f_s97 ?_
      simp only [Act.put, zA, zB, zC]
      refine lint_pure 101 (Op.binOp BinOp.eql 9 (Operand.tmp 98) (Operand.tmp 100) 9) 4 (.bool true) rfl rfl rfl rfl rfl (fun w0 hb0 => by exact exec_str_yes _ _ _ _ (rfl) rfl rfl) ?_
      simp only [Act.put, zA, zB, zC]
      refine lint_pure 102 (Op.pick (Operand.tmp 95) (Operand.tmp 101) (Operand.const (Value.bool false))) 4 (.bool true) rfl rfl rfl rfl rfl (fun w0 hb0 => by unfold mkOp; go_simp; all_goals (with_reducible rfl)) ?_
      simp only [Act.put, zA, zB, zC]
      refine lint_pure 103 (Op.move (Operand.tmp 102)) 4 (.bool true) rfl rfl rfl rfl rfl (fun w0 hb0 => by unfold mkOp; go_simp; all_goals (with_reducible rfl)) ?_
      simp only [Act.put, zA, zB, zC]
      refine lint_pure 104 (Op.move (Operand.tmp 15)) 22 (v_s72) rfl rfl rfl rfl rfl (fun w0 hb0 => by unfold mkOp; go_simp; all_goals (with_reducible rfl)) ?_
      simp only [Act.put, zA, zB, zC]
      refine lint_pure 105 (Op.move (Operand.tmp 12)) 22 (.slice ad_s59 64 c_s59) rfl rfl rfl rfl rfl (fun w0 hb0 => by unfold mkOp; go_simp; all_goals (with_reducible rfl)) ?_
      simp only [Act.put, zA, zB, zC]
      refine lint_pure 106 (Op.move (Operand.tmp 11)) 22 (v_s56) rfl rfl rfl rfl rfl (fun w0 hb0 => by unfold mkOp; go_simp; all_goals (with_reducible rfl)) ?_
      simp only [Act.put, zA, zB, zC]
      refine stp_rows1 107 (.tmp 106) 23 rfl rfl rfl rfl rfl f_s56 rfl ?_
      intro w70 v_r107 F_r107 kk
      replace f_s_0 := zfb f_s_0 kk
      replace f_s56 := zfb f_s56 kk
      replace f_s59 := zfb f_s59 kk
      replace f_s67 := zfb f_s67 kk
      replace f_s72 := zfb f_s72 kk
      replace f_s89 := zfb f_s89 kk
      replace f_s97 := zfb f_s97 kk
      replace g_s33 := g_s33.belowJ kk
      have Bw14 := zbt HGS Bw13 kk
      clear Bw13 kk
      simp only [Act.put, zA, zB, zC]
      refine stp_fn 108 12 #[Operand.tmp 104, Operand.tmp 105, Operand.tmp 107] #[22, 22, 23] _ (verify_to _ (pb) _ (sg) _ _ t0 0 _ f_s72 f_s59 F_r107 List.flatten_singleton (by simp) (by have := HLT.out; have := HPL.out; omega) HVS.out) rfl rfl rfl rfl Try.func12 (by kernel_rfl) (by kernel_rfl) (by go_simp) ?_
      rintro e w71 ⟨rfl, kk⟩
      refine ⟨_, rfl, kk, ?_⟩
      replace f_s_0 := zfb f_s_0 kk
      replace f_s56 := zfb f_s56 kk
      replace f_s59 := zfb f_s59 kk
      replace f_s67 := zfb f_s67 kk
      replace f_s72 := zfb f_s72 kk
      replace f_s89 := zfb f_s89 kk
      replace f_s97 := zfb f_s97 kk
      replace g_s33 := g_s33.belowJ kk
      have Bw15 := zbt HGS Bw14 kk
      clear Bw14 kk
      simp only [Act.put, zA, zB, zC]
      refine lint_pure 109 (Op.binOp BinOp.eql 26 (Operand.tmp 108) (Operand.const (Value.int IntKind.i64 0)) 26) 4 (.bool true) rfl rfl rfl rfl rfl (fun w0 hb0 => by unfold mkOp; go_simp; all_goals (with_reducible rfl)) ?_
      simp only [Act.put, zA, zB, zC]
      refine lint_pure 110 (Op.pick (Operand.tmp 103) (Operand.tmp 109) (Operand.const (Value.bool false))) 4 (.bool true) rfl rfl rfl rfl rfl (fun w0 hb0 => by unfold mkOp; go_simp; all_goals (with_reducible rfl)) ?_
      simp only [Act.put, zA, zB, zC]
      refine lint_pure 111 (Op.move (Operand.tmp 110)) 4 (.bool true) rfl rfl rfl rfl rfl (fun w0 hb0 => by unfold mkOp; go_simp; all_goals (with_reducible rfl)) ?_
      simp only [Act.put, zA, zB, zC]
      refine stp_fn 112 8 #[] #[] _ (awake9_any _) rfl rfl rfl rfl Try.func8 (by kernel_rfl) (by kernel_rfl) (by go_simp) ?_
      rintro e w72 ⟨rfl, kk⟩
      refine ⟨_, rfl, kk, ?_⟩
      replace f_s_0 := zfb f_s_0 kk
      replace f_s56 := zfb f_s56 kk
      replace f_s59 := zfb f_s59 kk
      replace f_s67 := zfb f_s67 kk
      replace f_s72 := zfb f_s72 kk
      replace f_s89 := zfb f_s89 kk
      replace f_s97 := zfb f_s97 kk
      replace g_s33 := g_s33.belowJ kk
      have Bw16 := zbt HGS Bw15 kk
      clear Bw15 kk
      simp only [Act.put, zA, zB, zC]
      refine lint_pure 113 (Op.pick (Operand.tmp 111) (Operand.tmp 112) (Operand.const (Value.bool false))) 4 (.bool true) rfl rfl rfl rfl rfl (fun w0 hb0 => by unfold mkOp; go_simp; all_goals (with_reducible rfl)) ?_
      simp only [Act.put, zA, zB, zC]
      refine lint_pure 6 (Op.assign (Operand.tmp 113)) 4 (.bool true) rfl rfl rfl rfl rfl (fun w0 hb0 => by unfold mkOp; go_simp; all_goals (with_reducible rfl)) ?_
      simp only [Act.put, zA, zB, zC]
      refine lint_end ?_
      go_wp2
      go_ret
      exact ⟨rfl, Bw16⟩
    · have q1 : ¬ (n1 : Int) = 32 := by omega
      clear h0 hB0 e0 h1 hB1 e1 d0 d1
      go_enter Try.func6, Try.ntmps6
      go_wp2_with (go_at_call 8; refine (awake9_any _).mono ?_; rintro e w9 ⟨rfl, hb9⟩)
      go_ret
      exact ⟨rfl, hb9⟩
  · have q0 : ¬ (n0 : Int) = 32 := by omega
    clear h0 hB0 e0 h1 hB1 e1 d0
    go_enter Try.func6, Try.ntmps6
    go_wp2_with (go_at_call 8; refine (awake9_any _).mono ?_; rintro e w9 ⟨rfl, hb9⟩)
    go_ret
    exact ⟨rfl, hb9⟩
end Go.Proofs.Ytonhpmaiagbheaa
