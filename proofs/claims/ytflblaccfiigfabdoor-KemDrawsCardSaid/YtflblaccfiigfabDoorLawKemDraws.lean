/- KemDraws, walked. -/
import Derived.Test.YtflblaccfiigfabDoorMM3
namespace Go.Proofs.YtflblaccfiigfabDoor
open Go.RowKit Go.Deep
set_option linter.unusedSimpArgs false
set_option linter.unusedVariables false

theorem exec_str_yes {w : World} (ρ : Operand → Value) (x y : Operand) (t : TypeId) {l m : List UInt8} (h : l = m) (hx : ρ x = .string ⟨l.toArray⟩) (hy : ρ y = .string ⟨m.toArray⟩) :
    (execOp ρ (mkOp (.binOp .eql 9 x y 9) t)).run Tryd.prog w = .ok (.value (.bool true)) w := by
  subst h
  simp only [execOp, mkOp, hx, hy]
  all_goals go_simp
set_option maxHeartbeats 8000000 in
set_option maxRecDepth 100000 in
theorem law_kemDraws (w : World) (hL : Laid3 w) (v0 : Value) (l0 : List UInt8) (h0 : Bs w v0 l0) (v1 : Value) (l1 : List UInt8) (h1 : Bs w v1 l1) (v2 : Value) (l2 : List UInt8) (h2 : Bs w v2 l2) : Calls Tryd.prog 3 #[v0, v1, v2] w fun e w' => e = .returned (.bool true) ∧ Below w.heap.size w w' := by
  obtain ⟨ad0, n0, c0, rfl, e0, y0, z0, hB0⟩ := h0.shape
  obtain ⟨ad1, n1, c1, rfl, e1, y1, z1, hB1⟩ := h1.shape
  obtain ⟨ad2, n2, c2, rfl, e2, y2, z2, hB2⟩ := h2.shape
  have HT := Lib.hid hL
  clear hL
  by_cases d0 : n0 = 32
  · by_cases d1 : n1 = 32
    · by_cases d2 : n2 = 32
      · skip
        obtain rfl : n0 = 32 := d0
        have f_s0 := hB0
        have HF_s0 := Lib.hid hB0
        obtain rfl : n1 = 32 := d1
        have f_s1 := hB1
        have HF_s1 := Lib.hid hB1
        obtain rfl : n2 = 32 := d2
        have f_s2 := hB2
        have HF_s2 := Lib.hid hB2
        have HE0 := Lib.hid e0
        have HE1 := Lib.hid e1
        have HE2 := Lib.hid e2
        have HK1 := Lib.hid fun v u w hL h0 h1 => keys_yes v u l0 l1 w hL h0 HE0.out h1 HE1.out
        have HK2 := Lib.hid fun v u w hL h0 h1 => keys_yes v u l0 l2 w hL h0 HE0.out h1 HE2.out
        have HEN := Lib.hid fun v u w hL h0 h1 => encaps_yes v u (kEk l0) l2 w hL h0 (kEk_len l0) (kEk_ok l0) h1 HE2.out
        obtain ⟨KA, hKA⟩ : ∃ L, L = gA [l2, hSum (kEk l0)] := ⟨_, rfl⟩
        obtain ⟨CT, hCT⟩ : ∃ L, L = ctL (rdR ((kEk l0).take 1152) 12) ((kEk l0).drop 1152) l2 (gB [l2, hSum (kEk l0)]) := ⟨_, rfl⟩
        have HCL : Hid (CT.length = 1088) := Lib.hid (by rw [hCT]; exact ctL_len _ _ _ _)
        rw [← hKA, ← hCT] at HEN
        obtain ⟨EK, hEK⟩ : ∃ L, L = kEk l0 := ⟨_, rfl⟩
        obtain ⟨D1, hD1⟩ : ∃ L, L = kDk l0 l1 := ⟨_, rfl⟩
        obtain ⟨D2, hD2⟩ : ∃ L, L = kDk l0 l2 := ⟨_, rfl⟩
        have HL1 : Hid (D1.length = 2400) := Lib.hid (by rw [hD1]; exact kDk_len _ _ HE1.out)
        have HL2 : Hid (D2.length = 2400) := Lib.hid (by rw [hD2]; exact kDk_len _ _ HE2.out)
        have HTK : Hid (D1.take 2368 = D2.take 2368) := Lib.hid (by rw [hD1, hD2, kDk_take, kDk_take])
        have HD1 : Hid (D1.drop 2368 = l1) := Lib.hid (by rw [hD1]; exact kDk_drop _ _)
        have HD2 : Hid (D2.drop 2368 = l2) := Lib.hid (by rw [hD2]; exact kDk_drop _ _)
        rw [← hEK] at HEN
        rw [← hEK, ← hD1] at HK1
        rw [← hEK, ← hD2] at HK2
        clear hKA hCT hEK hD1 hD2
        clear h0 h1 h2 hB0 hB1 hB2 e0 e1 e2
        have Bw0 := Below.refl w.heap.size w
        have HGS : Hid (∀ wq : World, Below w.heap.size w wq → w.heap.size ≤ wq.heap.size) := Lib.hid fun wq h => h.size
        go_enter Tryd.func3, Tryd.ntmps3
        go_wp2_with (first
          | (have hgo := Bw0; clear hgo
             go_at_call 5
             refine (HK1.out _ _ _ (HT.out.below Bw0 HT.out.size) f_s0 f_s1).mono ?_
             rintro e w17 ⟨v_s36a, v_s36b, rfl, f_s36a, f_s36b, kk⟩
             replace f_s0 := zfb f_s0 kk
             replace f_s1 := zfb f_s1 kk
             replace f_s2 := zfb f_s2 kk
             have Bw1 := zbt HGS Bw0 kk
             clear Bw0 kk)
          | (have hgo := Bw1; clear hgo
             go_at_call 5
             refine (HK2.out _ _ _ (HT.out.below Bw1 HT.out.size) f_s0 f_s2).mono ?_
             rintro e w27 ⟨v_s43a, v_s43b, rfl, f_s43a, f_s43b, kk⟩
             replace f_s0 := zfb f_s0 kk
             replace f_s1 := zfb f_s1 kk
             replace f_s2 := zfb f_s2 kk
             replace f_s36a := zfb f_s36a kk
             replace f_s36b := zfb f_s36b kk
             have Bw2 := zbt HGS Bw1 kk
             clear Bw1 kk)
          | (have hgo := Bw2; clear hgo
             go_at_call 6
             refine (HEN.out _ _ _ (HT.out.below Bw2 HT.out.size) f_s36a f_s2).mono ?_
             rintro e w37 ⟨v_s50a, v_s50b, rfl, f_s50a, f_s50b, kk⟩
             replace f_s0 := zfb f_s0 kk
             replace f_s1 := zfb f_s1 kk
             replace f_s2 := zfb f_s2 kk
             replace f_s36a := zfb f_s36a kk
             replace f_s36b := zfb f_s36b kk
             replace f_s43a := zfb f_s43a kk
             replace f_s43b := zfb f_s43b kk
             have Bw3 := zbt HGS Bw2 kk
             clear Bw2 kk)
          | (have hgo := Bw3; clear hgo
             go_at_call 6
             refine (HEN.out _ _ _ (HT.out.below Bw3 HT.out.size) f_s43a f_s2).mono ?_
             rintro e w47 ⟨v_s57a, v_s57b, rfl, f_s57a, f_s57b, kk⟩
             replace f_s0 := zfb f_s0 kk
             replace f_s1 := zfb f_s1 kk
             replace f_s2 := zfb f_s2 kk
             replace f_s36a := zfb f_s36a kk
             replace f_s36b := zfb f_s36b kk
             replace f_s43a := zfb f_s43a kk
             replace f_s43b := zfb f_s43b kk
             replace f_s50a := zfb f_s50a kk
             replace f_s50b := zfb f_s50b kk
             have Bw4 := zbt HGS Bw3 kk
             clear Bw3 kk)
          | (have hgo := Bw4; clear hgo
             refine wpList_value_given rfl (.int .i64 ((2400 : Nat) : Int)) (by rw [exec_mkOp]; exact exec_blenN _ _ rfl f_s36b HL1.out) ?_
             have Bw5 := Bw4
             clear Bw4)
          | (have hgo := Bw5; clear hgo
             refine wpList_value_given rfl (.int .i64 ((2400 : Nat) : Int)) (by rw [exec_mkOp]; exact exec_blenN _ _ rfl f_s43b HL2.out) ?_
             have Bw6 := Bw5
             clear Bw5))
        have Bw7 := Bw6.drew
        replace f_s0 := Bs.drew f_s0
        replace f_s1 := Bs.drew f_s1
        replace f_s2 := Bs.drew f_s2
        replace f_s36a := Bs.drew f_s36a
        replace f_s36b := Bs.drew f_s36b
        replace f_s43a := Bs.drew f_s43a
        replace f_s43b := Bs.drew f_s43b
        replace f_s50a := Bs.drew f_s50a
        replace f_s50b := Bs.drew f_s50b
        replace f_s57a := Bs.drew f_s57a
        replace f_s57b := Bs.drew f_s57b
        clear Bw6
        refine wp_region_lint (.rd 0 (.rd 1 (.rd 2 (.rd 3 (.rd 4 (.rd 5 (.rd 6 (.rd 7 (.rd 8 (.rd 9 (.rd 10 (.rd 11 (.rd 12 (.rd 13 (.rd 14 (.rd 15 (.rd 16 (.rd 17 (.rd 18 (.rd 19 (.rd 20 (.rd 21 (.rd 22 (.rd 23 (.rd 24 (.rd 25 (.rd 26 (.rd 27 (.rd 28 (.rd 29 (.rd 30 (.rd 31 (.rd 32 (.rd 33 (.rd 34 (.rd 35 (.rd 36 (.rd 37 (.rd 38 (.rd 39 (.rd 40 (.rd 41 (.rd 42 (.rd 43 (.rd 44 (.rd 45 (.rd 46 (.rd 47 (.rd 48 (.rd 49 (.wr 50 (.rd 51 (.rd 52 .done))))))))))))))))))))))))))))))))))))))))))))))))))))) (by as_aux_lemma => kernel_rfl) (by as_aux_lemma => kernel_rfl) (by decide) (by as_aux_lemma => kernel_rfl) (fun d _ _ _ _ h => by cases d <;> exact h) ?_
        refine lint_pure 85 (Op.move (Operand.tmp 7)) 22 (v_s36a) rfl rfl rfl rfl rfl (fun w0 hb0 => by unfold mkOp; go_simp; all_goals (with_reducible rfl)) ?_
        simp only [Act.put, zA, zB, zC]
        refine lint_conv 86 (.tmp 85) _ _ rfl rfl rfl rfl rfl f_s36a ?_
        simp only [Act.put, zA, zB, zC]
        refine lint_pure 87 (Op.move (Operand.tmp 10)) 22 (v_s43a) rfl rfl rfl rfl rfl (fun w0 hb0 => by unfold mkOp; go_simp; all_goals (with_reducible rfl)) ?_
        simp only [Act.put, zA, zB, zC]
        refine lint_conv 88 (.tmp 87) _ _ rfl rfl rfl rfl rfl f_s43a ?_
        simp only [Act.put, zA, zB, zC]
        refine lint_pure 89 (Op.binOp BinOp.eql 9 (Operand.tmp 86) (Operand.tmp 88) 9) 4 (.bool true) rfl rfl rfl rfl rfl (fun w0 hb0 => by exact exec_str_yes _ _ _ _ (rfl) rfl rfl) ?_
        simp only [Act.put, zA, zB, zC]
        refine lint_pure 90 (Op.move (Operand.tmp 89)) 4 (.bool true) rfl rfl rfl rfl rfl (fun w0 hb0 => by unfold mkOp; go_simp; all_goals (with_reducible rfl)) ?_
        simp only [Act.put, zA, zB, zC]
        refine lint_pure 91 (Op.move (Operand.tmp 8)) 22 (v_s36b) rfl rfl rfl rfl rfl (fun w0 hb0 => by unfold mkOp; go_simp; all_goals (with_reducible rfl)) ?_
        simp only [Act.put, zA, zB, zC]
        obtain ⟨v_s92, f_s92, hr92⟩ := takeB f_s36b 2368 (by rw [HL1.out]; decide)
        refine lint_pure 92 (Op.slice 22 (Operand.tmp 91) none (some (Operand.const (Value.int IntKind.i64 2368))) none) 22 v_s92 rfl rfl rfl rfl rfl (fun w0 hb0 => by exact hr92 _ _ _ _ w0 rfl rfl) ?_
        clear hr92
        simp only [Act.put, zA, zB, zC]
        refine lint_conv 93 (.tmp 92) _ _ rfl rfl rfl rfl rfl f_s92 ?_
        simp only [Act.put, zA, zB, zC]
        refine lint_pure 94 (Op.move (Operand.tmp 11)) 22 (v_s43b) rfl rfl rfl rfl rfl (fun w0 hb0 => by unfold mkOp; go_simp; all_goals (with_reducible rfl)) ?_
        simp only [Act.put, zA, zB, zC]
        obtain ⟨v_s95, f_s95, hr95⟩ := takeB f_s43b 2368 (by rw [HL2.out]; decide)
        refine lint_pure 95 (Op.slice 22 (Operand.tmp 94) none (some (Operand.const (Value.int IntKind.i64 2368))) none) 22 v_s95 rfl rfl rfl rfl rfl (fun w0 hb0 => by exact hr95 _ _ _ _ w0 rfl rfl) ?_
        clear hr95
        simp only [Act.put, zA, zB, zC]
        refine lint_conv 96 (.tmp 95) _ _ rfl rfl rfl rfl rfl f_s95 ?_
        simp only [Act.put, zA, zB, zC]
        refine lint_pure 97 (Op.binOp BinOp.eql 9 (Operand.tmp 93) (Operand.tmp 96) 9) 4 (.bool true) rfl rfl rfl rfl rfl (fun w0 hb0 => by exact exec_str_yes _ _ _ _ (HTK.out) rfl rfl) ?_
        simp only [Act.put, zA, zB, zC]
        refine lint_pure 98 (Op.pick (Operand.tmp 90) (Operand.tmp 97) (Operand.const (Value.bool false))) 4 (.bool true) rfl rfl rfl rfl rfl (fun w0 hb0 => by unfold mkOp; go_simp; all_goals (with_reducible rfl)) ?_
        simp only [Act.put, zA, zB, zC]
        refine lint_pure 99 (Op.move (Operand.tmp 98)) 4 (.bool true) rfl rfl rfl rfl rfl (fun w0 hb0 => by unfold mkOp; go_simp; all_goals (with_reducible rfl)) ?_
        simp only [Act.put, zA, zB, zC]
        refine lint_pure 100 (Op.move (Operand.tmp 8)) 22 (v_s36b) rfl rfl rfl rfl rfl (fun w0 hb0 => by unfold mkOp; go_simp; all_goals (with_reducible rfl)) ?_
        simp only [Act.put, zA, zB, zC]
        obtain ⟨v_s101, f_s101, hr101⟩ := dropB f_s36b 2368 (by rw [HL1.out]; decide)
        refine lint_pure 101 (Op.slice 22 (Operand.tmp 100) (some (Operand.const (Value.int IntKind.i64 2368))) none none) 22 v_s101 rfl rfl rfl rfl rfl (fun w0 hb0 => by exact hr101 _ _ _ _ w0 rfl rfl) ?_
        clear hr101
        simp only [Act.put, zA, zB, zC]
        refine lint_conv 102 (.tmp 101) _ _ rfl rfl rfl rfl rfl f_s101 ?_
        simp only [Act.put, zA, zB, zC]
        refine lint_pure 103 (Op.move (Operand.tmp 1)) 22 (.slice ad1 32 c1) rfl rfl rfl rfl rfl (fun w0 hb0 => by unfold mkOp; go_simp; all_goals (with_reducible rfl)) ?_
        simp only [Act.put, zA, zB, zC]
        refine lint_conv 104 (.tmp 103) _ _ rfl rfl rfl rfl rfl f_s1 ?_
        simp only [Act.put, zA, zB, zC]
        refine lint_pure 105 (Op.binOp BinOp.eql 9 (Operand.tmp 102) (Operand.tmp 104) 9) 4 (.bool true) rfl rfl rfl rfl rfl (fun w0 hb0 => by exact exec_str_yes _ _ _ _ (HD1.out) rfl rfl) ?_
        simp only [Act.put, zA, zB, zC]
        refine lint_pure 106 (Op.pick (Operand.tmp 99) (Operand.tmp 105) (Operand.const (Value.bool false))) 4 (.bool true) rfl rfl rfl rfl rfl (fun w0 hb0 => by unfold mkOp; go_simp; all_goals (with_reducible rfl)) ?_
        simp only [Act.put, zA, zB, zC]
        refine lint_pure 107 (Op.move (Operand.tmp 106)) 4 (.bool true) rfl rfl rfl rfl rfl (fun w0 hb0 => by unfold mkOp; go_simp; all_goals (with_reducible rfl)) ?_
        simp only [Act.put, zA, zB, zC]
        refine lint_pure 108 (Op.move (Operand.tmp 11)) 22 (v_s43b) rfl rfl rfl rfl rfl (fun w0 hb0 => by unfold mkOp; go_simp; all_goals (with_reducible rfl)) ?_
        simp only [Act.put, zA, zB, zC]
        obtain ⟨v_s109, f_s109, hr109⟩ := dropB f_s43b 2368 (by rw [HL2.out]; decide)
        refine lint_pure 109 (Op.slice 22 (Operand.tmp 108) (some (Operand.const (Value.int IntKind.i64 2368))) none none) 22 v_s109 rfl rfl rfl rfl rfl (fun w0 hb0 => by exact hr109 _ _ _ _ w0 rfl rfl) ?_
        clear hr109
        simp only [Act.put, zA, zB, zC]
        refine lint_conv 110 (.tmp 109) _ _ rfl rfl rfl rfl rfl f_s109 ?_
        simp only [Act.put, zA, zB, zC]
        refine lint_pure 111 (Op.move (Operand.tmp 2)) 22 (.slice ad2 32 c2) rfl rfl rfl rfl rfl (fun w0 hb0 => by unfold mkOp; go_simp; all_goals (with_reducible rfl)) ?_
        simp only [Act.put, zA, zB, zC]
        refine lint_conv 112 (.tmp 111) _ _ rfl rfl rfl rfl rfl f_s2 ?_
        simp only [Act.put, zA, zB, zC]
        refine lint_pure 113 (Op.binOp BinOp.eql 9 (Operand.tmp 110) (Operand.tmp 112) 9) 4 (.bool true) rfl rfl rfl rfl rfl (fun w0 hb0 => by exact exec_str_yes _ _ _ _ (HD2.out) rfl rfl) ?_
        simp only [Act.put, zA, zB, zC]
        refine lint_pure 114 (Op.pick (Operand.tmp 107) (Operand.tmp 113) (Operand.const (Value.bool false))) 4 (.bool true) rfl rfl rfl rfl rfl (fun w0 hb0 => by unfold mkOp; go_simp; all_goals (with_reducible rfl)) ?_
        simp only [Act.put, zA, zB, zC]
        refine lint_pure 115 (Op.move (Operand.tmp 114)) 4 (.bool true) rfl rfl rfl rfl rfl (fun w0 hb0 => by unfold mkOp; go_simp; all_goals (with_reducible rfl)) ?_
        simp only [Act.put, zA, zB, zC]
        refine lint_pure 116 (Op.move (Operand.tmp 13)) 22 (v_s50a) rfl rfl rfl rfl rfl (fun w0 hb0 => by unfold mkOp; go_simp; all_goals (with_reducible rfl)) ?_
        simp only [Act.put, zA, zB, zC]
        refine lint_conv 117 (.tmp 116) _ _ rfl rfl rfl rfl rfl f_s50a ?_
        simp only [Act.put, zA, zB, zC]
        refine lint_pure 118 (Op.move (Operand.tmp 16)) 22 (v_s57a) rfl rfl rfl rfl rfl (fun w0 hb0 => by unfold mkOp; go_simp; all_goals (with_reducible rfl)) ?_
        simp only [Act.put, zA, zB, zC]
        refine lint_conv 119 (.tmp 118) _ _ rfl rfl rfl rfl rfl f_s57a ?_
        simp only [Act.put, zA, zB, zC]
        refine lint_pure 120 (Op.binOp BinOp.eql 9 (Operand.tmp 117) (Operand.tmp 119) 9) 4 (.bool true) rfl rfl rfl rfl rfl (fun w0 hb0 => by exact exec_str_yes _ _ _ _ (rfl) rfl rfl) ?_
        simp only [Act.put, zA, zB, zC]
        refine lint_pure 121 (Op.pick (Operand.tmp 115) (Operand.tmp 120) (Operand.const (Value.bool false))) 4 (.bool true) rfl rfl rfl rfl rfl (fun w0 hb0 => by unfold mkOp; go_simp; all_goals (with_reducible rfl)) ?_
        simp only [Act.put, zA, zB, zC]
        refine lint_pure 122 (Op.move (Operand.tmp 121)) 4 (.bool true) rfl rfl rfl rfl rfl (fun w0 hb0 => by unfold mkOp; go_simp; all_goals (with_reducible rfl)) ?_
        simp only [Act.put, zA, zB, zC]
        refine lint_pure 123 (Op.move (Operand.tmp 14)) 22 (v_s50b) rfl rfl rfl rfl rfl (fun w0 hb0 => by unfold mkOp; go_simp; all_goals (with_reducible rfl)) ?_
        simp only [Act.put, zA, zB, zC]
        refine lint_conv 124 (.tmp 123) _ _ rfl rfl rfl rfl rfl f_s50b ?_
        simp only [Act.put, zA, zB, zC]
        refine lint_pure 125 (Op.move (Operand.tmp 17)) 22 (v_s57b) rfl rfl rfl rfl rfl (fun w0 hb0 => by unfold mkOp; go_simp; all_goals (with_reducible rfl)) ?_
        simp only [Act.put, zA, zB, zC]
        refine lint_conv 126 (.tmp 125) _ _ rfl rfl rfl rfl rfl f_s57b ?_
        simp only [Act.put, zA, zB, zC]
        refine lint_pure 127 (Op.binOp BinOp.eql 9 (Operand.tmp 124) (Operand.tmp 126) 9) 4 (.bool true) rfl rfl rfl rfl rfl (fun w0 hb0 => by exact exec_str_yes _ _ _ _ (rfl) rfl rfl) ?_
        simp only [Act.put, zA, zB, zC]
        refine lint_pure 128 (Op.pick (Operand.tmp 122) (Operand.tmp 127) (Operand.const (Value.bool false))) 4 (.bool true) rfl rfl rfl rfl rfl (fun w0 hb0 => by unfold mkOp; go_simp; all_goals (with_reducible rfl)) ?_
        simp only [Act.put, zA, zB, zC]
        refine lint_pure 129 (Op.move (Operand.tmp 128)) 4 (.bool true) rfl rfl rfl rfl rfl (fun w0 hb0 => by unfold mkOp; go_simp; all_goals (with_reducible rfl)) ?_
        simp only [Act.put, zA, zB, zC]
        refine lint_pure 130 (Op.move (Operand.tmp 14)) 22 (v_s50b) rfl rfl rfl rfl rfl (fun w0 hb0 => by unfold mkOp; go_simp; all_goals (with_reducible rfl)) ?_
        simp only [Act.put, zA, zB, zC]
        refine lint_pure 131 (Op.call { callee := Callee.builtin Builtin.len, args := #[Operand.tmp 130], argTypes := #[22] }) 3 (.int .i64 ((1088 : Nat) : Int)) rfl rfl rfl rfl rfl (fun w0 hb0 => by exact exec_blenN _ _ rfl (Bs.below f_s50b hb0 (Nat.le_refl _)) HCL.out) ?_
        simp only [Act.put, zA, zB, zC]
        refine lint_pure 132 (Op.binOp BinOp.eql 3 (Operand.tmp 131) (Operand.const (Value.int IntKind.i64 1088)) 3) 4 (.bool true) rfl rfl rfl rfl rfl (fun w0 hb0 => by unfold mkOp; go_simp; all_goals (with_reducible rfl)) ?_
        simp only [Act.put, zA, zB, zC]
        refine lint_pure 133 (Op.pick (Operand.tmp 129) (Operand.tmp 132) (Operand.const (Value.bool false))) 4 (.bool true) rfl rfl rfl rfl rfl (fun w0 hb0 => by unfold mkOp; go_simp; all_goals (with_reducible rfl)) ?_
        simp only [Act.put, zA, zB, zC]
        refine lint_pure 134 (Op.move (Operand.tmp 133)) 4 (.bool true) rfl rfl rfl rfl rfl (fun w0 hb0 => by unfold mkOp; go_simp; all_goals (with_reducible rfl)) ?_
        simp only [Act.put, zA, zB, zC]
        refine stp_fn 135 4 #[] #[] _ (awake11_any _ (HT.out.below Bw7 HT.out.size)) rfl rfl rfl rfl Tryd.func4 (by kernel_rfl) (by kernel_rfl) (by go_simp) ?_
        rintro e w79 ⟨rfl, kk⟩
        refine ⟨_, rfl, kk, ?_⟩
        replace f_s0 := zfb f_s0 kk
        replace f_s1 := zfb f_s1 kk
        replace f_s2 := zfb f_s2 kk
        replace f_s36a := zfb f_s36a kk
        replace f_s36b := zfb f_s36b kk
        replace f_s43a := zfb f_s43a kk
        replace f_s43b := zfb f_s43b kk
        replace f_s50a := zfb f_s50a kk
        replace f_s50b := zfb f_s50b kk
        replace f_s57a := zfb f_s57a kk
        replace f_s57b := zfb f_s57b kk
        replace f_s92 := zfb f_s92 kk
        replace f_s95 := zfb f_s95 kk
        replace f_s101 := zfb f_s101 kk
        replace f_s109 := zfb f_s109 kk
        have Bw8 := zbt HGS Bw7 kk
        clear Bw7 kk
        simp only [Act.put, zA, zB, zC]
        refine lint_pure 136 (Op.pick (Operand.tmp 134) (Operand.tmp 135) (Operand.const (Value.bool false))) 4 (.bool true) rfl rfl rfl rfl rfl (fun w0 hb0 => by unfold mkOp; go_simp; all_goals (with_reducible rfl)) ?_
        simp only [Act.put, zA, zB, zC]
        refine lint_pure 6 (Op.assign (Operand.tmp 136)) 4 (.bool true) rfl rfl rfl rfl rfl (fun w0 hb0 => by unfold mkOp; go_simp; all_goals (with_reducible rfl)) ?_
        simp only [Act.put, zA, zB, zC]
        refine lint_end ?_
        go_wp2
        go_ret
        exact ⟨rfl, Bw8⟩
      · have q2 : ¬ (n2 : Int) = 32 := by omega
        have q0 : (n0 : Int) = 32 := by omega
        have q1 : (n1 : Int) = 32 := by omega
        clear h0 h1 h2 hB0 hB1 hB2 e0 e1 e2 d0 d1 d2
        go_enter Tryd.func3, Tryd.ntmps3
        go_wp2_with (go_at_call 4; refine (awake11_any _ HT.out).mono ?_; rintro e w9 ⟨rfl, hb9⟩)
        go_ret
        exact ⟨rfl, hb9⟩
    · have q1 : ¬ (n1 : Int) = 32 := by omega
      have q0 : (n0 : Int) = 32 := by omega
      clear h0 h1 h2 hB0 hB1 hB2 e0 e1 e2 d0 d1
      go_enter Tryd.func3, Tryd.ntmps3
      go_wp2_with (go_at_call 4; refine (awake11_any _ HT.out).mono ?_; rintro e w9 ⟨rfl, hb9⟩)
      go_ret
      exact ⟨rfl, hb9⟩
  · have q0 : ¬ (n0 : Int) = 32 := by omega
    clear h0 h1 h2 hB0 hB1 hB2 e0 e1 e2 d0
    go_enter Tryd.func3, Tryd.ntmps3
    go_wp2_with (go_at_call 4; refine (awake11_any _ HT.out).mono ?_; rintro e w9 ⟨rfl, hb9⟩)
    go_ret
    exact ⟨rfl, hb9⟩
end Go.Proofs.YtflblaccfiigfabDoor
