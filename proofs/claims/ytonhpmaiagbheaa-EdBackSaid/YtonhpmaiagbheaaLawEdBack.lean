/- EdBack, walked. -/
import Derived.Test.YtonhpmaiagbheaaMM4
namespace Go.Proofs.Ytonhpmaiagbheaa
open Go.RowKit Go.Deep
set_option linter.unusedSimpArgs false
set_option linter.unusedVariables false

set_option maxHeartbeats 8000000 in
set_option maxRecDepth 100000 in
theorem law_edBack (w : World) (v0 : Value) (l0 : List UInt8) (h0 : Bs w v0 l0) (v1 : Value) (L1 : List (List UInt8)) (h1 : Bss w v1 L1) (x2 : Int) (w2 : (Lit.int .i64 x2).wf = true) : Calls Try.prog 3 #[v0, v1, .int .i64 x2] w fun e w' => e = .returned (.bool true) ∧ Below w.heap.size w w' := by
  obtain ⟨ad0, n0, c0, rfl, e0, y0, z0, hB0⟩ := h0.shape
  by_cases d0 : n0 = 32
  · have q0 : (n0 : Int) = 32 := by omega
    obtain rfl : n0 = 32 := d0
    have HL0 : Hid (l0.length = 32) := Lib.hid e0
    have f_s_0 := hB0
    have HF_s_0 := Lib.hid hB0
    have HR1 := Lib.hid h1
    have Bw0 := Below.refl w.heap.size w
    have HGS : Hid (∀ wq : World, Below w.heap.size w wq → w.heap.size ≤ wq.heap.size) := Lib.hid fun wq h => h.size
    clear h0 hB0 e0 h1 
    obtain ⟨hx1, hx2⟩ := bd_i64 w2
    have HX1 := Lib.hid hx1
    have HX2 := Lib.hid hx2
    clear hx1 hx2 w2
    go_enter Try.func3, Try.ntmps3
    go_wp2_with (first
      | (have hgo := Bw0; clear hgo
         go_at_call 7
         refine (all_any _ _ 300 _ (HR1.out.below Bw0 (Nat.le_refl _)) (by decide)).mono ?_
         rintro e w7 ⟨s, rfl, hs1, hs2, kk⟩
         have HS := Lib.hid hs2
         clear hs1 hs2
         replace f_s_0 := zfb f_s_0 kk
         have Bw1 := zbt HGS Bw0 kk
         clear Bw0 kk
         by_cases hsum : (300 : Int) < (s : Int)))
    focus
      go_wp2_with (go_at_call 8; refine (awake9_any _).mono ?_; rintro e w9 ⟨rfl, hb9⟩)
      go_ret
      exact ⟨rfl, Bw1.trans (hb9.mono (HGS.out _ Bw1))⟩
    have hlen := HS.out (by omega)
    obtain ⟨t0, ht⟩ : ∃ t, t = L1.flatten := ⟨_, rfl⟩
    rw [← ht] at hlen
    have HT := Lib.hid ht.symm
    have HLT : Hid (t0.length ≤ 300) := Lib.hid (by omega)
    have HLN : Hid (2 + L1.length ≤ 2147483647) := Lib.hid (by omega)
    clear hlen HS ht
    have HVS := Lib.hid (ver_sig l0 t0)
    have HVC := Lib.hid (ver_cut l0 ((edSig l0 t0).take 63) t0 (by rw [List.length_take, edSig_length]; decide))
    have HVF := Lib.hid (ver_flip l0 t0 x2)
    have HSL := Lib.hid (edSig_length l0 t0)
    have HPL := Lib.hid (edPub_length l0)
    obtain ⟨pb, hpb⟩ : ∃ p, p = edPub l0 := ⟨_, rfl⟩
    obtain ⟨sg, hsg⟩ : ∃ s, s = edSig l0 t0 := ⟨_, rfl⟩
    rw [← hpb] at HVS HVC HVF HPL
    rw [← hsg] at HVS HVC HVF HSL
    obtain ⟨F, hF⟩ : ∃ F, F = flipB (sg.drop 32) (x2 % 256).toNat := ⟨_, rfl⟩
    rw [← hF] at HVF
    have HVF2 : Hid (edVer pb ([] ++ sg.take 32 ++ F) t0 = 3) := Lib.hid (by rw [List.nil_append]; exact HVF.out)
    have HDL : Hid ((sg.drop 32).length = 32) := Lib.hid (by rw [List.length_drop, HSL.out])
    have HMN : Hid (min 32 sg.length = 32) := Lib.hid (by rw [HSL.out]; rfl)
    have HFL : Hid (F.length = 32) := Lib.hid (by rw [hF, flipB_length]; exact HDL.out)
    have HFF := Lib.hid hF.symm
    have HPB := Lib.hid hpb.symm
    have HSG := Lib.hid hsg.symm
    clear hF hpb hsg HVF
    go_wp2_with (first
      | (have hgo := Bw1; clear hgo
         go_at_call 9
         refine (public_to _ l0 pb _ f_s_0 HL0.out HPB.out).mono ?_
         rintro e w9 ⟨v_s23, rfl, o_s23, kk⟩
         replace f_s_0 := zfb f_s_0 kk
         have Bw2 := zbt HGS Bw1 kk
         clear Bw1 kk
         have f_s23 := o_s23.bs
         clear o_s23)
      | (have hgo := Bw2; clear hgo
         go_at_call 10
         refine (sign_to _ l0 _ _ t0 sg _ f_s_0 HL0.out (HR1.out.below Bw2 (Nat.le_refl _)) HT.out HLN.out (by have := HLT.out; omega) HSG.out).mono ?_
         rintro e w17 ⟨v_s29, rfl, o_s29, kk⟩
         replace f_s_0 := zfb f_s_0 kk
         replace f_s23 := zfb f_s23 kk
         have Bw3 := zbt HGS Bw2 kk
         clear Bw2 kk
         have f_s29 := o_s29.bs
         clear o_s29
         obtain ⟨ad_s29, n_s29, c_s29, rfl, he, hy, hz, _⟩ := f_s29.shape
         have hn : n_s29 = 64 := by rw [← he]; exact HSL.out
         subst hn
         clear he hy hz))
    have Bw4 := Bw3.drew
    replace f_s_0 := Bs.drew f_s_0
    replace f_s23 := Bs.drew f_s23
    replace f_s29 := Bs.drew f_s29
    clear Bw3
    refine zpo [] (.rd 1 (.rd 2 (.rd 4 (.rd 5 (.rd 6 .done))))) #[false, true, true, false, true, true, true, false, false, false] [0, 3, 7, 8, 9] [some 43, some 46, some 50, some 51, some 11] [[], [0], [1], [1, 2], [0, 1, 2, 3]] [(0, []), (1, []), (2, [1]), (3, [0, 2]), (4, []), (5, [4]), (6, []), (7, [5, 6, 3]), (8, [3, 7, 7]), (9, [8, 8, 0, 1, 2, 3, 4, 5, 6, 7, 8])] 118 ?_
    refine zmv (.slice ad_s29 64 c_s29) rfl rfl rfl rfl rfl ?_
    simp only [Act.put, zA, zB, zC]
    obtain ⟨v_s45, f_s45, hr45⟩ := takeB f_s29 32 (by rw [HSL.out]; decide)
    refine lintz_pure 45 (Op.slice 22 (Operand.tmp 44) none (some (Operand.const (Value.int IntKind.i64 32))) none) 22 v_s45 rfl rfl rfl rfl rfl (fun w0 hb => by exact hr45 _ _ _ _ w0 rfl rfl) ?_
    clear hr45
    simp only [Act.put, zA, zB, zC]
    refine zmv (.slice ad_s29 64 c_s29) rfl rfl rfl rfl rfl ?_
    simp only [Act.put, zA, zB, zC]
    obtain ⟨v_s48, f_s48, hr48⟩ := dropB f_s29 32 (by rw [HSL.out]; decide)
    refine lintz_pure 48 (Op.slice 22 (Operand.tmp 47) (some (Operand.const (Value.int IntKind.i64 32))) none none) 22 v_s48 rfl rfl rfl rfl rfl (fun w0 hb => by exact hr48 _ _ _ _ w0 rfl rfl) ?_
    clear hr48
    simp only [Act.put, zA, zB, zC]
    refine zmv (.int .i64 x2) rfl rfl rfl rfl rfl ?_
    simp only [Act.put, zA, zB, zC]
    refine lintz_leaf ?_
    refine po_start [.own ([]) 1, .own ([] ++ (sg).take 32) 3, .own (F) 5, .own ([] ++ (sg).take 32 ++ F) 4, .own ([] ++ (sg).take 32 ++ F) 5] [] (fun i hi => absurd hi (Nat.not_lt_zero _)) (fun HWF m gz wa p az hp hm hmp hcl hdn hE hJ hS hO => ?_) (fun gz wa hE hJ => ?_)
    · rcases (show p = 0 ∨ p = 1 ∨ p = 2 ∨ p = 3 ∨ p = 4 by have h9 : p < 5 := hp; omega) with rfl | rfl | rfl | rfl | rfl
      · exact po_made 43 (Op.buildSlice 22 0 #[]) 22 HWF hJ rfl hE rfl rfl rfl rfl rfl rfl (by unfold mkOp; go_simp) ((Below.refl _ _).alloc (Nat.le_refl _) _) (Owns.empty _)
      · have e43 := po_e0 hS hdn 0 43 rfl rfl rfl
        have e45 : az.eval (.tmp 45) = v_s45 := hO 45 rfl
        exact po_app 46 0 (.tmp 43) (.tmp 45) HWF (by rw [hm]; exact hp) hmp hJ rfl rfl (hdn 0 (by decide)) (fun i hi => absurd hi (Nat.not_lt_zero _)) hE (Bs.below f_s45 (Keep.nil hE) (Nat.le_refl _)) (by simp only [List.length_nil, List.length_take, HMN.out]; decide) rfl rfl rfl rfl rfl (e43) (e45)
      · have e48 : az.eval (.tmp 48) = v_s48 := hO 48 rfl
        have e49 : az.eval (.tmp 49) = .int .i64 x2 := hO 49 rfl
        exact po_ko HWF hJ hE (flip_to9 _ ((sg).drop 32) x2 F _ (Bs.below f_s48 (Keep.nil hE) (Nat.le_refl _)) HDL.out HX1.out HX2.out HFF.out) rfl rfl rfl rfl rfl rfl (ar2 e48 e49)
      · have e46 := po_e0 hS hdn 1 46 rfl rfl rfl
        have e50 := po_e0 hS hdn 2 50 rfl rfl rfl
        exact po_app 51 1 (.tmp 46) (.tmp 50) HWF (by rw [hm]; exact hp) hmp hJ rfl rfl (hdn 1 (by decide)) (fun i hi => absurd hi (Nat.not_lt_zero _)) hE (hJ.own (hdn 2 (by decide)) rfl (po_never hm (Nat.le_refl _))).bs (by simp only [List.nil_append, List.length_take, HMN.out, HFL.out]; decide) rfl rfl rfl rfl rfl (e46) (e50)
      · exact po_mv 11 3 (.tmp 51) HWF (by rw [hm]; exact hp) hmp hJ rfl rfl (hdn 3 (by decide)) (fun i hi => absurd hi (Nat.not_lt_zero _)) hE rfl rfl rfl rfl rfl ((po_e0 hS hdn 3 51 rfl rfl rfl))
    · rw [putO_true _ _ _ _ _ rfl]
      simp only [putA, Nat.zero_add, Nat.reduceAdd]
      simp only [Act.put, zA, zB, zC]
      refine po_end ?_
      replace f_s_0 := Bs.below f_s_0 (Keep.nil hE) (Nat.le_refl _)
      replace f_s23 := Bs.below f_s23 (Keep.nil hE) (Nat.le_refl _)
      replace f_s29 := Bs.below f_s29 (Keep.nil hE) (Nat.le_refl _)
      replace f_s45 := Bs.below f_s45 (Keep.nil hE) (Nat.le_refl _)
      replace f_s48 := Bs.below f_s48 (Keep.nil hE) (Nat.le_refl _)
      have f_s11 := (hJ.own (p := 4) (by decide) rfl (by decide)).bs
      have Bw5 := hE.below Bw4 (HGS.out _ Bw4) rfl
      clear Bw4 hE hJ 
      generalize gz 4 = v_s11 at f_s11 ⊢
      go_wp2_with (first
        | (have hgo := Bw5; clear hgo
           go_at_call 13
           refine (alikeCat_to _ _ t0 _ (HR1.out.below Bw5 (Nat.le_refl _)) HT.out (by have := HLT.out; omega)).mono ?_
           rintro e w37 ⟨v_s55, rfl, o_s55, kk⟩
           replace f_s_0 := zfb f_s_0 kk
           replace f_s23 := zfb f_s23 kk
           replace f_s29 := zfb f_s29 kk
           replace f_s45 := zfb f_s45 kk
           replace f_s48 := zfb f_s48 kk
           replace f_s11 := zfb f_s11 kk
           have Bw6 := zbt HGS Bw5 kk
           clear Bw5 kk
           have f_s55 := o_s55.bs
           clear o_s55)
        | (have hgo := Bw6; clear hgo
           refine wpList_rows1 rfl (.tmp 55) rfl f_s55 rfl ?_
           intro v_r56 w38 F_r56 kk
           replace f_s_0 := zfb f_s_0 kk
           replace f_s23 := zfb f_s23 kk
           replace f_s29 := zfb f_s29 kk
           replace f_s45 := zfb f_s45 kk
           replace f_s48 := zfb f_s48 kk
           replace f_s11 := zfb f_s11 kk
           replace f_s55 := zfb f_s55 kk
           have Bw7 := zbt HGS Bw6 kk
           clear Bw6 kk)
        | (have hgo := Bw7; clear hgo
           go_at_call 12
           refine (verify_to _ (pb) _ (sg) _ _ t0 0 _ f_s23 f_s29 F_r56 List.flatten_singleton (by simp) (by have := HLT.out; have := HPL.out; omega) HVS.out).mono ?_
           rintro e w39 ⟨rfl, kk⟩
           replace f_s_0 := zfb f_s_0 kk
           replace f_s23 := zfb f_s23 kk
           replace f_s29 := zfb f_s29 kk
           replace f_s45 := zfb f_s45 kk
           replace f_s48 := zfb f_s48 kk
           replace f_s11 := zfb f_s11 kk
           replace f_s55 := zfb f_s55 kk
           have Bw8 := zbt HGS Bw7 kk
           clear Bw7 kk)
        | (have hgo := Bw8; clear hgo
           obtain ⟨v_s62, f_s62, hr62⟩ := takeB f_s29 63 (by rw [HSL.out]; decide)
           refine wpList_value_given rfl _ (by rw [exec_mkOp]; exact hr62 _ _ _ _ _ rfl rfl) ?_
           clear hr62
           have Bw9 := Bw8
           clear Bw8)
        | (have hgo := Bw9; clear hgo
           go_at_call 12
           refine (verify_to _ (pb) _ ((sg).take 63) _ _ t0 3 _ f_s23 f_s62 (HR1.out.below Bw9 (Nat.le_refl _)) HT.out HLN.out (by have := HLT.out; have := HPL.out; omega) HVC.out).mono ?_
           rintro e w46 ⟨rfl, kk⟩
           replace f_s_0 := zfb f_s_0 kk
           replace f_s23 := zfb f_s23 kk
           replace f_s29 := zfb f_s29 kk
           replace f_s45 := zfb f_s45 kk
           replace f_s48 := zfb f_s48 kk
           replace f_s11 := zfb f_s11 kk
           replace f_s55 := zfb f_s55 kk
           replace f_s62 := zfb f_s62 kk
           have Bw10 := zbt HGS Bw9 kk
           clear Bw9 kk)
        | (have hgo := Bw10; clear hgo
           go_at_call 12
           refine (verify_to _ (pb) _ ([] ++ (sg).take 32 ++ F) _ _ t0 3 _ f_s23 f_s11 (HR1.out.below Bw10 (Nat.le_refl _)) HT.out HLN.out (by have := HLT.out; have := HPL.out; omega) HVF2.out).mono ?_
           rintro e w53 ⟨rfl, kk⟩
           replace f_s_0 := zfb f_s_0 kk
           replace f_s23 := zfb f_s23 kk
           replace f_s29 := zfb f_s29 kk
           replace f_s45 := zfb f_s45 kk
           replace f_s48 := zfb f_s48 kk
           replace f_s11 := zfb f_s11 kk
           replace f_s55 := zfb f_s55 kk
           replace f_s62 := zfb f_s62 kk
           have Bw11 := zbt HGS Bw10 kk
           clear Bw10 kk)
        | (have hgo := Bw11; clear hgo
           go_at_call 8
           refine (awake9_any _).mono ?_
           rintro e w57 ⟨rfl, kk⟩
           replace f_s_0 := zfb f_s_0 kk
           replace f_s23 := zfb f_s23 kk
           replace f_s29 := zfb f_s29 kk
           replace f_s45 := zfb f_s45 kk
           replace f_s48 := zfb f_s48 kk
           replace f_s11 := zfb f_s11 kk
           replace f_s55 := zfb f_s55 kk
           replace f_s62 := zfb f_s62 kk
           have Bw12 := zbt HGS Bw11 kk
           clear Bw11 kk))
      go_ret
      exact ⟨rfl, Bw12⟩
  · have q0 : ¬ (n0 : Int) = 32 := by omega
    clear h0 hB0 e0 d0
    go_enter Try.func3, Try.ntmps3
    go_wp2_with (go_at_call 8; refine (awake9_any _).mono ?_; rintro e w9 ⟨rfl, hb9⟩)
    go_ret
    exact ⟨rfl, hb9⟩
end Go.Proofs.Ytonhpmaiagbheaa
