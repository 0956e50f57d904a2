/- missivelaw3.Sha3Cuts: the walk. -/
import Derived.Test.YtmfogngfdgpahaaDoorCutF
namespace Go.Proofs.YtmfogngfdgpahaaDoor
open Go.RowKit Go.Deep

set_option maxHeartbeats 16000000 in
set_option maxRecDepth 100000 in
theorem law_sha3Cuts (w : World) (hL : Laid3 w) (vb : Value) (lb : List UInt8) (hvb : Bs w vb lb) (at_ : Int) (hat : (Lit.int .i64 at_).wf = true) (n : Int) (hn : (Lit.int .i64 n).wf = true) :
    Calls Tryd.prog 6 #[vb, .int .i64 at_, .int .i64 n] w fun e w' => e = .returned (.bool true) ∧ Below w.heap.size w w' := by
  obtain ⟨hn0, hn1⟩ := bd_i64 hn
  obtain ⟨ha0, ha1⟩ := bd_i64 hat
  obtain ⟨ab, nb, cb, rfl, hnb, f1, f2, hb0⟩ := hvb.shape
  have HVB := Lib.hid hb0
  have HNB := Lib.hid hnb
  have HTh := Lib.hid hL
  clear hvb hb0 hnb hL hn hat
  by_cases c1 : 500 < nb
  · have d1 : (500 : Int) < (nb : Int) := by omega
    go_enter Tryd.func6, Tryd.ntmps6
    go_wp2_with (go_at_call 9; refine (awake3_any _ HTh.out).mono ?_; rintro e w2 ⟨rfl, hb2⟩)
    go_ret
    exact ⟨rfl, hb2⟩
  have d1 : ¬ (500 : Int) < (nb : Int) := by omega
  by_cases c2 : n < 1
  · go_enter Tryd.func6, Tryd.ntmps6
    go_wp2_with (go_at_call 9; refine (awake3_any _ HTh.out).mono ?_; rintro e w2 ⟨rfl, hb2⟩)
    go_ret
    exact ⟨rfl, hb2⟩
  by_cases c3 : n > 300
  · go_enter Tryd.func6, Tryd.ntmps6
    go_wp2_with (go_at_call 9; refine (awake3_any _ HTh.out).mono ?_; rintro e w2 ⟨rfl, hb2⟩)
    go_ret
    exact ⟨rfl, hb2⟩
  obtain ⟨k, hk⟩ := Int.eq_ofNat_of_zero_le (show 0 ≤ at_ % ((nb : Int) + 1) from Int.emod_nonneg _ (by omega))
  have hkn : k ≤ nb := by
    have := Int.emod_lt_of_pos at_ (show (0 : Int) < (nb : Int) + 1 by omega)
    omega
  have HK := Lib.hid hk
  clear hk
  obtain ⟨ad2, hcr, hB2w⟩ := cut_any HVB.out k hkn
  have HCR := Lib.hid hcr
  have HB1w := Lib.hid (HVB.out.take hkn)
  have HB2w := Lib.hid hB2w
  clear hcr hB2w
  have hR1 : Hid (Bss (w.alloc (.cells #[.slice ab nb cb] 25)) (.slice (some ⟨w.heap.size, 0, none⟩) 1 1) [lb]) := Bss.one HVB.out rfl
  have hT1 := Lib.hid (HTh.out.alloc (.cells #[.slice ab nb cb] 25))
  have hb1 : Below w.heap.size w (w.alloc (.cells #[.slice ab nb cb] 25)) := (Below.refl _ _).alloc (Nat.le_refl _) _
  go_enter Tryd.func6, Tryd.ntmps6
  go_wp2_with (first
    | (go_at_call 17; refine (round_any at_ _ _ ha0 ha1 (by omega) (by omega)).mono ?_; rintro e w3 ⟨rfl, hw3⟩; replace hw3 := hw3.symm; subst hw3; rw [HK.out])
    | (go_at_call 11; refine (sum3_256_eq _ _ lb _ hT1.out hR1.out (by simp)).mono ?_; rintro e w2 ⟨v2, rfl, hB2, hb2⟩
       obtain ⟨ax, nx, cx, rfl, ex, q1, q2, hB2'⟩ := hB2.shape
       rw [spongeL_length] at ex
       subst ex
       have HX2 := Lib.hid hB2'
       have hT2 := Lib.hid (hT1.out.below hb2 hT1.out.size)
       have hb := hb1.trans (hb2.mono hb1.size)
       clear hT1 hR1 hb1 hB2 hB2' hb2))
  have hd : Below w2.heap.size w2 w2.drew := Below.drew (Below.refl _ _)
  have HT : Laid3 w2.drew := hT2.out.below hd hT2.out.size
  have HB : Bs w2.drew (.slice ab nb cb) lb := (HVB.out.below hb (Nat.le_refl _)).below hd (Nat.le_refl _)
  have HB1 : Bs w2.drew (.slice ab k cb) (lb.take k) := (HB1w.out.below hb (Nat.le_refl _)).below hd (Nat.le_refl _)
  have HB2 : Bs w2.drew (.slice ad2 (nb - k) (cb - k)) (lb.drop k) := (HB2w.out.below hb (Nat.le_refl _)).below hd (Nat.le_refl _)
  have HX : Bs w2.drew (.slice ax 32 cx) (spongeL 136 6 lb 32) := HX2.out.below hd (Nat.le_refl _)
  have B : Below w.heap.size w w2.drew := hb.drew
  clear hT2 HX2 hb hd
  refine wp_region_lint (.rd 0 (.rd 1 (.rd 2 (.rd 3 (.rd 4 (.rd 5 (.wr 6 (.wr 7 (.rd 8 .done))))))))) (by kernel_rfl) (by kernel_rfl) (by decide) (by kernel_rfl) (fun d _ _ _ _ h => by cases d <;> exact h) ?_
  refine lint_pure 30 (Op.move (Operand.tmp 0)) 25 _ rfl rfl rfl rfl rfl (fun w0 hb0 => by unfold mkOp; go_simp; all_goals (with_reducible rfl)) ?_
  simp only [Act.put, List.setIfInBounds_toArray, List.set_cons_zero, List.set_cons_succ]
  refine lint_pure 31 (Op.move (Operand.tmp 7)) 3 _ rfl rfl rfl rfl rfl (fun w0 hb0 => by unfold mkOp; go_simp; all_goals (with_reducible rfl)) ?_
  simp only [Act.put, List.setIfInBounds_toArray, List.set_cons_zero, List.set_cons_succ]
  refine lint_pure 32 (Op.slice 25 (Operand.tmp 30) none (some (Operand.tmp 31)) none) 25 (.slice ab k cb) rfl rfl rfl rfl rfl (fun w0 hb0 => by exact exec_sliceTo _ _ _ _ rfl rfl rfl (by omega)) ?_
  simp only [Act.put, List.setIfInBounds_toArray, List.set_cons_zero, List.set_cons_succ]
  refine lint_pure 33 (Op.move (Operand.tmp 0)) 25 _ rfl rfl rfl rfl rfl (fun w0 hb0 => by unfold mkOp; go_simp; all_goals (with_reducible rfl)) ?_
  simp only [Act.put, List.setIfInBounds_toArray, List.set_cons_zero, List.set_cons_succ]
  refine lint_pure 34 (Op.move (Operand.tmp 7)) 3 _ rfl rfl rfl rfl rfl (fun w0 hb0 => by unfold mkOp; go_simp; all_goals (with_reducible rfl)) ?_
  simp only [Act.put, List.setIfInBounds_toArray, List.set_cons_zero, List.set_cons_succ]
  refine lint_pure 35 (Op.slice 25 (Operand.tmp 33) (some (Operand.tmp 34)) none none) 25 (.slice ad2 (nb - k) (cb - k)) rfl rfl rfl rfl rfl (fun w0 hb0 => by exact exec_sliceFromR _ _ _ _ rfl rfl HCR.out) ?_
  simp only [Act.put, List.setIfInBounds_toArray, List.set_cons_zero, List.set_cons_succ]
  refine stp_rows3 36 (.tmp 32) (.const (.slice none 0 0)) (.tmp 35) 22 rfl rfl rfl rfl rfl HB1 (Bs.nil _) HB2 rfl rfl rfl ?_
  intro w36 v36 HR1 b36
  replace HT := Laid3.below HT b36 HT.size
  replace HB := Bs.below HB b36 (Nat.le_refl _)
  replace HB1 := Bs.below HB1 b36 (Nat.le_refl _)
  replace HB2 := Bs.below HB2 b36 (Nat.le_refl _)
  replace HX := Bs.below HX b36 (Nat.le_refl _)
  replace B := B.trans (Below.mono b36 B.size)
  simp only [Act.put, List.setIfInBounds_toArray, List.set_cons_zero, List.set_cons_succ]
  refine stp_fn 37 20 #[Operand.tmp 36] #[22] _ (newReader_eq _ _ lb _ HT HR1 (by simp)) rfl rfl rfl rfl Tryd.func20 (by kernel_rfl) (by kernel_rfl) (by go_simp) ?_
  rintro e w37 ⟨y, rfl, hyw, HRd, b37⟩
  have hyB : w.heap.size ≤ y := Nat.le_trans B.size hyw
  have hy3 : 3 ≤ y := Nat.le_trans HT.size hyw
  replace HT := Laid3.below HT b37 HT.size
  replace HB := Bs.below HB b37 (Nat.le_refl _)
  replace HB1 := Bs.below HB1 b37 (Nat.le_refl _)
  replace HB2 := Bs.below HB2 b37 (Nat.le_refl _)
  replace HX := Bs.below HX b37 (Nat.le_refl _)
  replace B := B.trans (Below.mono b37 B.size)
  refine ⟨_, rfl, b37, ?_⟩
  simp only [Act.put, List.setIfInBounds_toArray, List.set_cons_zero, List.set_cons_succ]
  refine lint_pure 9 (Op.assign (Operand.tmp 37)) 39 _ rfl rfl rfl rfl rfl (fun w0 hb0 => by unfold mkOp; go_simp; all_goals (with_reducible rfl)) ?_
  simp only [Act.put, List.setIfInBounds_toArray, List.set_cons_zero, List.set_cons_succ]
  refine lint_end ?_
  have F0 : CutF w y ab nb cb k ad2 ax cx lb 0 w37 := ⟨HT, hy3, hyB, HB, HB1, HB2, HX, HRd, B⟩
  have HF := Lib.hid F0
  clear HT HB HB1 HB2 HX HRd B F0 HR1 b36 b37 hyw
  go_wp2
  have F : CutF w y ab nb cb k ad2 ax cx lb 0 w37.drew := HF.out.go (Below.drew (Below.refl _ _))
  clear HF
  refine wp_region_plan (fun w1 w2 => World.grownBy w1 w2 (some y)) (fun w1 => grownBy_refl w1 _) (fun _ _ _ h1 h2 => grownBy_trans h1 h2) 80 [((.rd 0 (.rd 1 (.rd 2 (.rd 3 (.rd 4 (.rd 5 (.rd 6 (.rd 7 (.rd 8 (.rd 9 (.rd 13 (.rd 14 (.wr 10 (.wr 11 (.rd 12 (.rd 15 (.rd 16 .done))))))))))))))))), 16), ((.rd 17 (.rd 18 (.rd 19 (.rd 20 (.rd 21 (.rd 22 (.rd 23 (.rd 27 (.br 24 (.br 25 (.rd 26 (.wr 28 (.wr 29 (.rd 30 (.rd 31 (.rd 32 .done)))))) 28 (.wr 25 (.rd 26 (.wr 29 (.rd 30 (.rd 31 (.rd 32 .done))))))) 28 (.wr 24 (.wr 25 (.rd 26 (.wr 29 (.rd 30 (.rd 31 (.rd 32 .done)))))))))))))))), 32), ((.rd 33 (.rd 34 (.rd 35 (.rd 36 (.rd 37 (.rd 38 (.rd 39 (.rd 40 (.rd 44 (.rd 45 (.br 41 (.br 42 (.rd 43 (.wr 46 (.wr 47 (.rd 48 (.rd 49 (.rd 50 .done)))))) 46 (.wr 42 (.rd 43 (.wr 47 (.rd 48 (.rd 49 (.rd 50 .done))))))) 46 (.wr 41 (.wr 42 (.rd 43 (.wr 47 (.rd 48 (.rd 49 (.rd 50 .done)))))))))))))))))), 50), ((.rd 51 (.rd 52 (.rd 53 (.rd 57 (.rd 58 (.br 54 (.br 55 (.rd 56 (.wr 59 (.wr 60 (.rd 61 (.rd 62 (.rd 63 .done)))))) 59 (.wr 55 (.rd 56 (.wr 60 (.rd 61 (.rd 62 (.rd 63 .done))))))) 59 (.wr 54 (.wr 55 (.rd 56 (.wr 60 (.rd 61 (.rd 62 (.rd 63 .done))))))))))))), 63), ((.rd 64 (.rd 65 (.rd 66 (.rd 69 (.rd 70 (.br 67 (.rd 68 (.wr 71 (.wr 72 (.rd 73 (.rd 74 (.rd 75 .done)))))) 71 (.wr 67 (.rd 68 (.wr 72 (.rd 73 (.rd 74 (.rd 75 .done)))))))))))), 75), ((.rd 76 (.wr 77 (.rd 78 (.rd 79 .done)))), 79)] (by kernel_rfl) (by kernel_rfl) (by decide) (planOk_cons (by as_aux_lemma => kernel_rfl) (planOk_cons (by as_aux_lemma => kernel_rfl) (planOk_cons (by as_aux_lemma => kernel_rfl) (planOk_cons (by as_aux_lemma => kernel_rfl) (planOk_cons (by as_aux_lemma => kernel_rfl) (planOk_cons (by as_aux_lemma => kernel_rfl) (by as_aux_lemma => kernel_rfl))))))) (fun d _ _ _ _ h => by cases d <;> exact h) ?_
  refine linp_seg (fun a' w' => CutF w y ab nb cb k ad2 ax cx lb 0 w' ∧ ∃ u : Nat → Value, a' = ⟨(List.toArray ((.slice ab nb cb) :: (u 1) :: (.int .i64 (n : Int)) :: (u 3) :: (u 4) :: (u 5) :: (u 6) :: (.int .i64 (k : Int)) :: (.slice ax 32 cx) :: (.pointer (some ⟨y, 0, none⟩)) :: (u 10) :: (u 11) :: (u 12) :: (u 13) :: (u 14) :: (u 15) :: (u 16) :: (u 17) :: (u 18) :: (u 19) :: (u 20) :: (u 21) :: (u 22) :: (u 23) :: (u 24) :: (u 25) :: (u 26) :: (u 27) :: (u 28) :: (u 29) :: (u 30) :: (u 31) :: (u 32) :: (u 33) :: (u 34) :: (u 35) :: (u 36) :: (u 37) :: (u 38) :: (u 39) :: (u 40) :: (u 41) :: (u 42) :: (u 43) :: (u 44) :: (u 45) :: (u 46) :: (u 47) :: (u 48) :: (u 49) :: (u 50) :: (u 51) :: (u 52) :: (u 53) :: (u 54) :: (u 55) :: (.bool true) :: (u 57) :: (u 58) :: (u 59) :: (u 60) :: (u 61) :: (u 62) :: (u 63) :: (u 64) :: (u 65) :: (u 66) :: (u 67) :: (u 68) :: (u 69) :: (u 70) :: (u 71) :: (u 72) :: (u 73) :: (u 74) :: (u 75) :: (u 76) :: (u 77) :: (u 78) :: (u 79) :: (u 80) :: (u 81) :: (u 82) :: (u 83) :: (u 84) :: (u 85) :: (u 86) :: (u 87) :: (u 88) :: (u 89) :: (u 90) :: (u 91) :: (u 92) :: (u 93) :: (u 94) :: (u 95) :: (u 96) :: (u 97) :: (u 98) :: (u 99) :: (u 100) :: (u 101) :: (u 102) :: (u 103) :: (u 104) :: (u 105) :: (u 106) :: (u 107) :: (u 108) :: (u 109) :: (u 110) :: (u 111) :: (u 112) :: (u 113) :: (u 114) :: (u 115) :: (u 116) :: (u 117) :: (u 118) :: [])), []⟩) ?_ ?_
  · refine lintz_pure 40 (Op.move (Operand.tmp 8)) 25 _ rfl rfl rfl rfl rfl (fun w0 hb0 => by unfold mkOp; go_simp; all_goals (with_reducible rfl)) ?_
    simp only [Act.put, List.setIfInBounds_toArray, List.set_cons_zero, List.set_cons_succ]
    refine lintz_pure 41 (Op.call { callee := Callee.builtin Builtin.len, args := #[Operand.tmp 40], argTypes := #[25] }) 3 _ rfl rfl rfl rfl rfl (fun w0 hb0 => by unfold mkOp; go_simp; all_goals (with_reducible rfl)) ?_
    simp only [Act.put, List.setIfInBounds_toArray, List.set_cons_zero, List.set_cons_succ]
    refine lintz_pure 42 (Op.binOp BinOp.eql 3 (Operand.tmp 41) (Operand.const (Value.int IntKind.i64 32)) 3) 4 _ rfl rfl rfl rfl rfl (fun w0 hb0 => by unfold mkOp; go_simp; all_goals (with_reducible rfl)) ?_
    simp only [Act.put, List.setIfInBounds_toArray, List.set_cons_zero, List.set_cons_succ]
    refine lintz_pure 43 (Op.move (Operand.tmp 42)) 4 _ rfl rfl rfl rfl rfl (fun w0 hb0 => by unfold mkOp; go_simp; all_goals (with_reducible rfl)) ?_
    simp only [Act.put, List.setIfInBounds_toArray, List.set_cons_zero, List.set_cons_succ]
    refine lintz_pure 44 (Op.move (Operand.tmp 0)) 25 _ rfl rfl rfl rfl rfl (fun w0 hb0 => by unfold mkOp; go_simp; all_goals (with_reducible rfl)) ?_
    simp only [Act.put, List.setIfInBounds_toArray, List.set_cons_zero, List.set_cons_succ]
    refine lintz_pure 45 (Op.move (Operand.tmp 7)) 3 _ rfl rfl rfl rfl rfl (fun w0 hb0 => by unfold mkOp; go_simp; all_goals (with_reducible rfl)) ?_
    simp only [Act.put, List.setIfInBounds_toArray, List.set_cons_zero, List.set_cons_succ]
    refine lintz_pure 46 (Op.slice 25 (Operand.tmp 44) none (some (Operand.tmp 45)) none) 25 (.slice ab k cb) rfl rfl rfl rfl rfl (fun w0 hb0 => by exact exec_sliceTo _ _ _ _ rfl rfl rfl (by omega)) ?_
    simp only [Act.put, List.setIfInBounds_toArray, List.set_cons_zero, List.set_cons_succ]
    refine lintz_pure 47 (Op.move (Operand.tmp 0)) 25 _ rfl rfl rfl rfl rfl (fun w0 hb0 => by unfold mkOp; go_simp; all_goals (with_reducible rfl)) ?_
    simp only [Act.put, List.setIfInBounds_toArray, List.set_cons_zero, List.set_cons_succ]
    refine lintz_pure 48 (Op.move (Operand.tmp 7)) 3 _ rfl rfl rfl rfl rfl (fun w0 hb0 => by unfold mkOp; go_simp; all_goals (with_reducible rfl)) ?_
    simp only [Act.put, List.setIfInBounds_toArray, List.set_cons_zero, List.set_cons_succ]
    refine lintz_pure 49 (Op.slice 25 (Operand.tmp 47) (some (Operand.tmp 48)) none none) 25 (.slice ad2 (nb - k) (cb - k)) rfl rfl rfl rfl rfl (fun w0 hb0 => by exact exec_sliceFromR _ _ _ _ rfl rfl HCR.out) ?_
    simp only [Act.put, List.setIfInBounds_toArray, List.set_cons_zero, List.set_cons_succ]
    refine lintz_pure 53 (Op.move (Operand.tmp 8)) 25 _ rfl rfl rfl rfl rfl (fun w0 hb0 => by unfold mkOp; go_simp; all_goals (with_reducible rfl)) ?_
    simp only [Act.put, List.setIfInBounds_toArray, List.set_cons_zero, List.set_cons_succ]
    refine lintz_conv 54 (Operand.tmp 53) _ _ rfl rfl rfl rfl rfl (fun w' h => gb_bs F.x h (awayR F.x F.rd)) ?_
    simp only [Act.put, List.setIfInBounds_toArray, List.set_cons_zero, List.set_cons_succ]
    refine stpz_rows2 (E := (fun w1 w2 => World.grownBy w1 w2 (some y))) (fun _ _ hb => gb_new (grownBy_refl _ _) hb) 50 (.tmp 46) (.tmp 49) 22 rfl rfl rfl rfl rfl F.b1 F.b2 rfl rfl ?_
    intro w50 v50 HR1 b50
    replace F := F.go b50
    (try replace HR2 := Bss.below HR2 b50 (Nat.le_refl _))
    simp only [Act.put, List.setIfInBounds_toArray, List.set_cons_zero, List.set_cons_succ]
    refine stpz_fn (E := (fun w1 w2 => World.grownBy w1 w2 (some y))) 51 11 #[Operand.tmp 50] #[22] _ (sum3_256_eq _ _ lb _ F.laid HR1 (by simp)) rfl rfl rfl rfl Tryd.func11 (by kernel_rfl) (by kernel_rfl) (by go_simp) ?_
    rintro e w51 ⟨v51, rfl, HS1, b51⟩
    replace F := F.go b51
    (try replace HR1 := Bss.below HR1 b51 (Nat.le_refl _))
    (try replace HR2 := Bss.below HR2 b51 (Nat.le_refl _))
    refine ⟨_, rfl, (gb_new (grownBy_refl _ _) b51), ?_⟩
    simp only [Act.put, List.setIfInBounds_toArray, List.set_cons_zero, List.set_cons_succ]
    refine lintz_conv 52 (Operand.tmp 51) _ _ rfl rfl rfl rfl rfl (fun w' h => gb_bs HS1 h (awayR HS1 F.rd)) ?_
    simp only [Act.put, List.setIfInBounds_toArray, List.set_cons_zero, List.set_cons_succ]
    refine lintz_pure 55 (Op.binOp BinOp.eql 9 (Operand.tmp 52) (Operand.tmp 54) 9) 4 _ rfl rfl rfl rfl rfl (fun w0 hb0 => by unfold mkOp; go_simp; all_goals (with_reducible rfl)) ?_
    simp only [Act.put, List.setIfInBounds_toArray, List.set_cons_zero, List.set_cons_succ]
    refine lintz_pure 56 (Op.pick (Operand.tmp 43) (Operand.tmp 55) (Operand.const (Value.bool false))) 4 _ rfl rfl rfl rfl rfl (fun w0 hb0 => by unfold mkOp; go_simp; all_goals (with_reducible rfl)) ?_
    simp only [Act.put, List.setIfInBounds_toArray, List.set_cons_zero, List.set_cons_succ]
    refine lintz_leaf ?_
    exact ⟨F, lintz_slots rfl⟩
  clear F
  rintro a' w' ⟨F, u, rfl⟩
  refine linp_seg (fun a' w' => CutF w y ab nb cb k ad2 ax cx lb 0 w' ∧ ∃ u : Nat → Value, a' = ⟨(List.toArray ((.slice ab nb cb) :: (u 1) :: (.int .i64 (n : Int)) :: (u 3) :: (u 4) :: (u 5) :: (u 6) :: (.int .i64 (k : Int)) :: (.slice ax 32 cx) :: (.pointer (some ⟨y, 0, none⟩)) :: (u 10) :: (u 11) :: (u 12) :: (u 13) :: (u 14) :: (u 15) :: (u 16) :: (u 17) :: (u 18) :: (u 19) :: (u 20) :: (u 21) :: (u 22) :: (u 23) :: (u 24) :: (u 25) :: (u 26) :: (u 27) :: (u 28) :: (u 29) :: (u 30) :: (u 31) :: (u 32) :: (u 33) :: (u 34) :: (u 35) :: (u 36) :: (u 37) :: (u 38) :: (u 39) :: (u 40) :: (u 41) :: (u 42) :: (u 43) :: (u 44) :: (u 45) :: (u 46) :: (u 47) :: (u 48) :: (u 49) :: (u 50) :: (u 51) :: (u 52) :: (u 53) :: (u 54) :: (u 55) :: (u 56) :: (u 57) :: (u 58) :: (u 59) :: (u 60) :: (u 61) :: (u 62) :: (u 63) :: (u 64) :: (u 65) :: (u 66) :: (u 67) :: (u 68) :: (u 69) :: (u 70) :: (u 71) :: (.bool true) :: (u 73) :: (u 74) :: (u 75) :: (u 76) :: (u 77) :: (u 78) :: (u 79) :: (u 80) :: (u 81) :: (u 82) :: (u 83) :: (u 84) :: (u 85) :: (u 86) :: (u 87) :: (u 88) :: (u 89) :: (u 90) :: (u 91) :: (u 92) :: (u 93) :: (u 94) :: (u 95) :: (u 96) :: (u 97) :: (u 98) :: (u 99) :: (u 100) :: (u 101) :: (u 102) :: (u 103) :: (u 104) :: (u 105) :: (u 106) :: (u 107) :: (u 108) :: (u 109) :: (u 110) :: (u 111) :: (u 112) :: (u 113) :: (u 114) :: (u 115) :: (u 116) :: (u 117) :: (u 118) :: [])), []⟩) ?_ ?_
  · refine lintz_pure 57 (Op.move (Operand.tmp 56)) 4 _ rfl rfl rfl rfl rfl (fun w0 hb0 => by unfold mkOp; go_simp; all_goals (with_reducible rfl)) ?_
    simp only [Act.put, List.setIfInBounds_toArray, List.set_cons_zero, List.set_cons_succ]
    refine lintz_pure 58 (Op.move (Operand.tmp 0)) 25 _ rfl rfl rfl rfl rfl (fun w0 hb0 => by unfold mkOp; go_simp; all_goals (with_reducible rfl)) ?_
    simp only [Act.put, List.setIfInBounds_toArray, List.set_cons_zero, List.set_cons_succ]
    refine lintz_pure 59 (Op.move (Operand.tmp 7)) 3 _ rfl rfl rfl rfl rfl (fun w0 hb0 => by unfold mkOp; go_simp; all_goals (with_reducible rfl)) ?_
    simp only [Act.put, List.setIfInBounds_toArray, List.set_cons_zero, List.set_cons_succ]
    refine lintz_pure 60 (Op.slice 25 (Operand.tmp 58) none (some (Operand.tmp 59)) none) 25 (.slice ab k cb) rfl rfl rfl rfl rfl (fun w0 hb0 => by exact exec_sliceTo _ _ _ _ rfl rfl rfl (by omega)) ?_
    simp only [Act.put, List.setIfInBounds_toArray, List.set_cons_zero, List.set_cons_succ]
    refine lintz_pure 61 (Op.move (Operand.tmp 0)) 25 _ rfl rfl rfl rfl rfl (fun w0 hb0 => by unfold mkOp; go_simp; all_goals (with_reducible rfl)) ?_
    simp only [Act.put, List.setIfInBounds_toArray, List.set_cons_zero, List.set_cons_succ]
    refine lintz_pure 62 (Op.move (Operand.tmp 7)) 3 _ rfl rfl rfl rfl rfl (fun w0 hb0 => by unfold mkOp; go_simp; all_goals (with_reducible rfl)) ?_
    simp only [Act.put, List.setIfInBounds_toArray, List.set_cons_zero, List.set_cons_succ]
    refine lintz_pure 63 (Op.slice 25 (Operand.tmp 61) (some (Operand.tmp 62)) none none) 25 (.slice ad2 (nb - k) (cb - k)) rfl rfl rfl rfl rfl (fun w0 hb0 => by exact exec_sliceFromR _ _ _ _ rfl rfl HCR.out) ?_
    simp only [Act.put, List.setIfInBounds_toArray, List.set_cons_zero, List.set_cons_succ]
    refine lintz_pure 67 (Op.move (Operand.tmp 0)) 25 _ rfl rfl rfl rfl rfl (fun w0 hb0 => by unfold mkOp; go_simp; all_goals (with_reducible rfl)) ?_
    simp only [Act.put, List.setIfInBounds_toArray, List.set_cons_zero, List.set_cons_succ]
    refine ⟨?_, ?_⟩
    · refine stpz_rows2 (E := (fun w1 w2 => World.grownBy w1 w2 (some y))) (fun _ _ hb => gb_new (grownBy_refl _ _) hb) 64 (.tmp 60) (.tmp 63) 22 rfl rfl rfl rfl rfl F.b1 F.b2 rfl rfl ?_
      intro w64 v64 HR1 b64
      replace F := F.go b64
      (try replace HR2 := Bss.below HR2 b64 (Nat.le_refl _))
      simp only [Act.put, List.setIfInBounds_toArray, List.set_cons_zero, List.set_cons_succ]
      refine ⟨?_, ?_⟩
      · refine stpz_fn (E := (fun w1 w2 => World.grownBy w1 w2 (some y))) 65 13 #[Operand.tmp 64] #[22] _ (sum3_512_eq _ _ lb _ F.laid HR1 (by simp)) rfl rfl rfl rfl Tryd.func13 (by kernel_rfl) (by kernel_rfl) (by go_simp) ?_
        rintro e w65 ⟨v65, rfl, HS2, b65⟩
        replace F := F.go b65
        (try replace HR1 := Bss.below HR1 b65 (Nat.le_refl _))
        (try replace HR2 := Bss.below HR2 b65 (Nat.le_refl _))
        refine ⟨_, rfl, (gb_new (grownBy_refl _ _) b65), ?_⟩
        simp only [Act.put, List.setIfInBounds_toArray, List.set_cons_zero, List.set_cons_succ]
        refine lintz_conv 66 (Operand.tmp 65) _ _ rfl rfl rfl rfl rfl (fun w' h => gb_bs HS2 h (awayR HS2 F.rd)) ?_
        simp only [Act.put, List.setIfInBounds_toArray, List.set_cons_zero, List.set_cons_succ]
        refine stpz_rows1 (E := (fun w1 w2 => World.grownBy w1 w2 (some y))) (fun _ _ hb => gb_new (grownBy_refl _ _) hb) 68 (.tmp 67) 22 rfl rfl rfl rfl rfl F.b rfl ?_
        intro w68 v68 HR2 b68
        replace F := F.go b68
        (try replace HR1 := Bss.below HR1 b68 (Nat.le_refl _))
        simp only [Act.put, List.setIfInBounds_toArray, List.set_cons_zero, List.set_cons_succ]
        refine stpz_fn (E := (fun w1 w2 => World.grownBy w1 w2 (some y))) 69 13 #[Operand.tmp 68] #[22] _ (sum3_512_eq _ _ lb _ F.laid HR2 (by simp)) rfl rfl rfl rfl Tryd.func13 (by kernel_rfl) (by kernel_rfl) (by go_simp) ?_
        rintro e w69 ⟨v69, rfl, HS3, b69⟩
        replace F := F.go b69
        (try replace HR1 := Bss.below HR1 b69 (Nat.le_refl _))
        (try replace HR2 := Bss.below HR2 b69 (Nat.le_refl _))
        refine ⟨_, rfl, (gb_new (grownBy_refl _ _) b69), ?_⟩
        simp only [Act.put, List.setIfInBounds_toArray, List.set_cons_zero, List.set_cons_succ]
        refine lintz_conv 70 (Operand.tmp 69) _ _ rfl rfl rfl rfl rfl (fun w' h => gb_bs HS3 h (awayR HS3 F.rd)) ?_
        simp only [Act.put, List.setIfInBounds_toArray, List.set_cons_zero, List.set_cons_succ]
        refine lintz_pure 71 (Op.binOp BinOp.eql 9 (Operand.tmp 66) (Operand.tmp 70) 9) 4 _ rfl rfl rfl rfl rfl (fun w0 hb0 => by unfold mkOp; go_simp; all_goals (with_reducible rfl)) ?_
        simp only [Act.put, List.setIfInBounds_toArray, List.set_cons_zero, List.set_cons_succ]
        refine lintz_pure 72 (Op.pick (Operand.tmp 57) (Operand.tmp 71) (Operand.const (Value.bool false))) 4 _ rfl rfl rfl rfl rfl (fun w0 hb0 => by unfold mkOp; go_simp; all_goals (with_reducible rfl)) ?_
        simp only [Act.put, List.setIfInBounds_toArray, List.set_cons_zero, List.set_cons_succ]
        refine lintz_leaf ?_
        exact ⟨F, lintz_slots rfl⟩
      · refine stpz_rows1 (E := (fun w1 w2 => World.grownBy w1 w2 (some y))) (fun _ _ hb => gb_new (grownBy_refl _ _) hb) 68 (.tmp 67) 22 rfl rfl rfl rfl rfl F.b rfl ?_
        intro w68 v68 HR2 b68
        replace F := F.go b68
        (try replace HR1 := Bss.below HR1 b68 (Nat.le_refl _))
        simp only [Act.put, List.setIfInBounds_toArray, List.set_cons_zero, List.set_cons_succ]
        refine stpz_fn (E := (fun w1 w2 => World.grownBy w1 w2 (some y))) 65 13 #[Operand.tmp 64] #[22] _ (sum3_512_eq _ _ lb _ F.laid HR1 (by simp)) rfl rfl rfl rfl Tryd.func13 (by kernel_rfl) (by kernel_rfl) (by go_simp) ?_
        rintro e w65 ⟨v65, rfl, HS2, b65⟩
        replace F := F.go b65
        (try replace HR1 := Bss.below HR1 b65 (Nat.le_refl _))
        (try replace HR2 := Bss.below HR2 b65 (Nat.le_refl _))
        refine ⟨_, rfl, (gb_new (grownBy_refl _ _) b65), ?_⟩
        simp only [Act.put, List.setIfInBounds_toArray, List.set_cons_zero, List.set_cons_succ]
        refine lintz_conv 66 (Operand.tmp 65) _ _ rfl rfl rfl rfl rfl (fun w' h => gb_bs HS2 h (awayR HS2 F.rd)) ?_
        simp only [Act.put, List.setIfInBounds_toArray, List.set_cons_zero, List.set_cons_succ]
        refine stpz_fn (E := (fun w1 w2 => World.grownBy w1 w2 (some y))) 69 13 #[Operand.tmp 68] #[22] _ (sum3_512_eq _ _ lb _ F.laid HR2 (by simp)) rfl rfl rfl rfl Tryd.func13 (by kernel_rfl) (by kernel_rfl) (by go_simp) ?_
        rintro e w69 ⟨v69, rfl, HS3, b69⟩
        replace F := F.go b69
        (try replace HR1 := Bss.below HR1 b69 (Nat.le_refl _))
        (try replace HR2 := Bss.below HR2 b69 (Nat.le_refl _))
        refine ⟨_, rfl, (gb_new (grownBy_refl _ _) b69), ?_⟩
        simp only [Act.put, List.setIfInBounds_toArray, List.set_cons_zero, List.set_cons_succ]
        refine lintz_conv 70 (Operand.tmp 69) _ _ rfl rfl rfl rfl rfl (fun w' h => gb_bs HS3 h (awayR HS3 F.rd)) ?_
        simp only [Act.put, List.setIfInBounds_toArray, List.set_cons_zero, List.set_cons_succ]
        refine lintz_pure 71 (Op.binOp BinOp.eql 9 (Operand.tmp 66) (Operand.tmp 70) 9) 4 _ rfl rfl rfl rfl rfl (fun w0 hb0 => by unfold mkOp; go_simp; all_goals (with_reducible rfl)) ?_
        simp only [Act.put, List.setIfInBounds_toArray, List.set_cons_zero, List.set_cons_succ]
        refine lintz_pure 72 (Op.pick (Operand.tmp 57) (Operand.tmp 71) (Operand.const (Value.bool false))) 4 _ rfl rfl rfl rfl rfl (fun w0 hb0 => by unfold mkOp; go_simp; all_goals (with_reducible rfl)) ?_
        simp only [Act.put, List.setIfInBounds_toArray, List.set_cons_zero, List.set_cons_succ]
        refine lintz_leaf ?_
        exact ⟨F, lintz_slots rfl⟩
    · refine stpz_rows1 (E := (fun w1 w2 => World.grownBy w1 w2 (some y))) (fun _ _ hb => gb_new (grownBy_refl _ _) hb) 68 (.tmp 67) 22 rfl rfl rfl rfl rfl F.b rfl ?_
      intro w68 v68 HR2 b68
      replace F := F.go b68
      (try replace HR1 := Bss.below HR1 b68 (Nat.le_refl _))
      simp only [Act.put, List.setIfInBounds_toArray, List.set_cons_zero, List.set_cons_succ]
      refine stpz_rows2 (E := (fun w1 w2 => World.grownBy w1 w2 (some y))) (fun _ _ hb => gb_new (grownBy_refl _ _) hb) 64 (.tmp 60) (.tmp 63) 22 rfl rfl rfl rfl rfl F.b1 F.b2 rfl rfl ?_
      intro w64 v64 HR1 b64
      replace F := F.go b64
      (try replace HR2 := Bss.below HR2 b64 (Nat.le_refl _))
      simp only [Act.put, List.setIfInBounds_toArray, List.set_cons_zero, List.set_cons_succ]
      refine stpz_fn (E := (fun w1 w2 => World.grownBy w1 w2 (some y))) 65 13 #[Operand.tmp 64] #[22] _ (sum3_512_eq _ _ lb _ F.laid HR1 (by simp)) rfl rfl rfl rfl Tryd.func13 (by kernel_rfl) (by kernel_rfl) (by go_simp) ?_
      rintro e w65 ⟨v65, rfl, HS2, b65⟩
      replace F := F.go b65
      (try replace HR1 := Bss.below HR1 b65 (Nat.le_refl _))
      (try replace HR2 := Bss.below HR2 b65 (Nat.le_refl _))
      refine ⟨_, rfl, (gb_new (grownBy_refl _ _) b65), ?_⟩
      simp only [Act.put, List.setIfInBounds_toArray, List.set_cons_zero, List.set_cons_succ]
      refine lintz_conv 66 (Operand.tmp 65) _ _ rfl rfl rfl rfl rfl (fun w' h => gb_bs HS2 h (awayR HS2 F.rd)) ?_
      simp only [Act.put, List.setIfInBounds_toArray, List.set_cons_zero, List.set_cons_succ]
      refine stpz_fn (E := (fun w1 w2 => World.grownBy w1 w2 (some y))) 69 13 #[Operand.tmp 68] #[22] _ (sum3_512_eq _ _ lb _ F.laid HR2 (by simp)) rfl rfl rfl rfl Tryd.func13 (by kernel_rfl) (by kernel_rfl) (by go_simp) ?_
      rintro e w69 ⟨v69, rfl, HS3, b69⟩
      replace F := F.go b69
      (try replace HR1 := Bss.below HR1 b69 (Nat.le_refl _))
      (try replace HR2 := Bss.below HR2 b69 (Nat.le_refl _))
      refine ⟨_, rfl, (gb_new (grownBy_refl _ _) b69), ?_⟩
      simp only [Act.put, List.setIfInBounds_toArray, List.set_cons_zero, List.set_cons_succ]
      refine lintz_conv 70 (Operand.tmp 69) _ _ rfl rfl rfl rfl rfl (fun w' h => gb_bs HS3 h (awayR HS3 F.rd)) ?_
      simp only [Act.put, List.setIfInBounds_toArray, List.set_cons_zero, List.set_cons_succ]
      refine lintz_pure 71 (Op.binOp BinOp.eql 9 (Operand.tmp 66) (Operand.tmp 70) 9) 4 _ rfl rfl rfl rfl rfl (fun w0 hb0 => by unfold mkOp; go_simp; all_goals (with_reducible rfl)) ?_
      simp only [Act.put, List.setIfInBounds_toArray, List.set_cons_zero, List.set_cons_succ]
      refine lintz_pure 72 (Op.pick (Operand.tmp 57) (Operand.tmp 71) (Operand.const (Value.bool false))) 4 _ rfl rfl rfl rfl rfl (fun w0 hb0 => by unfold mkOp; go_simp; all_goals (with_reducible rfl)) ?_
      simp only [Act.put, List.setIfInBounds_toArray, List.set_cons_zero, List.set_cons_succ]
      refine lintz_leaf ?_
      exact ⟨F, lintz_slots rfl⟩
  clear F
  rintro a' w' ⟨F, u, rfl⟩
  refine linp_seg (fun a' w' => CutF w y ab nb cb k ad2 ax cx lb 0 w' ∧ ∃ u : Nat → Value, a' = ⟨(List.toArray ((.slice ab nb cb) :: (u 1) :: (.int .i64 (n : Int)) :: (u 3) :: (u 4) :: (u 5) :: (u 6) :: (.int .i64 (k : Int)) :: (.slice ax 32 cx) :: (.pointer (some ⟨y, 0, none⟩)) :: (u 10) :: (u 11) :: (u 12) :: (u 13) :: (u 14) :: (u 15) :: (u 16) :: (u 17) :: (u 18) :: (u 19) :: (u 20) :: (u 21) :: (u 22) :: (u 23) :: (u 24) :: (u 25) :: (u 26) :: (u 27) :: (u 28) :: (u 29) :: (u 30) :: (u 31) :: (u 32) :: (u 33) :: (u 34) :: (u 35) :: (u 36) :: (u 37) :: (u 38) :: (u 39) :: (u 40) :: (u 41) :: (u 42) :: (u 43) :: (u 44) :: (u 45) :: (u 46) :: (u 47) :: (u 48) :: (u 49) :: (u 50) :: (u 51) :: (u 52) :: (u 53) :: (u 54) :: (u 55) :: (u 56) :: (u 57) :: (u 58) :: (u 59) :: (u 60) :: (u 61) :: (u 62) :: (u 63) :: (u 64) :: (u 65) :: (u 66) :: (u 67) :: (u 68) :: (u 69) :: (u 70) :: (u 71) :: (u 72) :: (u 73) :: (u 74) :: (u 75) :: (u 76) :: (u 77) :: (u 78) :: (u 79) :: (u 80) :: (u 81) :: (u 82) :: (u 83) :: (u 84) :: (u 85) :: (u 86) :: (u 87) :: (u 88) :: (u 89) :: (.bool true) :: (u 91) :: (u 92) :: (u 93) :: (u 94) :: (u 95) :: (u 96) :: (u 97) :: (u 98) :: (u 99) :: (u 100) :: (u 101) :: (u 102) :: (u 103) :: (u 104) :: (u 105) :: (u 106) :: (u 107) :: (u 108) :: (u 109) :: (u 110) :: (u 111) :: (u 112) :: (u 113) :: (u 114) :: (u 115) :: (u 116) :: (u 117) :: (u 118) :: [])), []⟩) ?_ ?_
  · refine lintz_pure 73 (Op.move (Operand.tmp 72)) 4 _ rfl rfl rfl rfl rfl (fun w0 hb0 => by unfold mkOp; go_simp; all_goals (with_reducible rfl)) ?_
    simp only [Act.put, List.setIfInBounds_toArray, List.set_cons_zero, List.set_cons_succ]
    refine lintz_pure 74 (Op.move (Operand.tmp 2)) 3 _ rfl rfl rfl rfl rfl (fun w0 hb0 => by unfold mkOp; go_simp; all_goals (with_reducible rfl)) ?_
    simp only [Act.put, List.setIfInBounds_toArray, List.set_cons_zero, List.set_cons_succ]
    refine lintz_pure 75 (Op.move (Operand.tmp 0)) 25 _ rfl rfl rfl rfl rfl (fun w0 hb0 => by unfold mkOp; go_simp; all_goals (with_reducible rfl)) ?_
    simp only [Act.put, List.setIfInBounds_toArray, List.set_cons_zero, List.set_cons_succ]
    refine lintz_pure 76 (Op.move (Operand.tmp 7)) 3 _ rfl rfl rfl rfl rfl (fun w0 hb0 => by unfold mkOp; go_simp; all_goals (with_reducible rfl)) ?_
    simp only [Act.put, List.setIfInBounds_toArray, List.set_cons_zero, List.set_cons_succ]
    refine lintz_pure 77 (Op.slice 25 (Operand.tmp 75) none (some (Operand.tmp 76)) none) 25 (.slice ab k cb) rfl rfl rfl rfl rfl (fun w0 hb0 => by exact exec_sliceTo _ _ _ _ rfl rfl rfl (by omega)) ?_
    simp only [Act.put, List.setIfInBounds_toArray, List.set_cons_zero, List.set_cons_succ]
    refine lintz_pure 78 (Op.move (Operand.tmp 0)) 25 _ rfl rfl rfl rfl rfl (fun w0 hb0 => by unfold mkOp; go_simp; all_goals (with_reducible rfl)) ?_
    simp only [Act.put, List.setIfInBounds_toArray, List.set_cons_zero, List.set_cons_succ]
    refine lintz_pure 79 (Op.move (Operand.tmp 7)) 3 _ rfl rfl rfl rfl rfl (fun w0 hb0 => by unfold mkOp; go_simp; all_goals (with_reducible rfl)) ?_
    simp only [Act.put, List.setIfInBounds_toArray, List.set_cons_zero, List.set_cons_succ]
    refine lintz_pure 80 (Op.slice 25 (Operand.tmp 78) (some (Operand.tmp 79)) none none) 25 (.slice ad2 (nb - k) (cb - k)) rfl rfl rfl rfl rfl (fun w0 hb0 => by exact exec_sliceFromR _ _ _ _ rfl rfl HCR.out) ?_
    simp only [Act.put, List.setIfInBounds_toArray, List.set_cons_zero, List.set_cons_succ]
    refine lintz_pure 84 (Op.move (Operand.tmp 2)) 3 _ rfl rfl rfl rfl rfl (fun w0 hb0 => by unfold mkOp; go_simp; all_goals (with_reducible rfl)) ?_
    simp only [Act.put, List.setIfInBounds_toArray, List.set_cons_zero, List.set_cons_succ]
    refine lintz_pure 85 (Op.move (Operand.tmp 0)) 25 _ rfl rfl rfl rfl rfl (fun w0 hb0 => by unfold mkOp; go_simp; all_goals (with_reducible rfl)) ?_
    simp only [Act.put, List.setIfInBounds_toArray, List.set_cons_zero, List.set_cons_succ]
    refine ⟨?_, ?_⟩
    · refine stpz_rows2 (E := (fun w1 w2 => World.grownBy w1 w2 (some y))) (fun _ _ hb => gb_new (grownBy_refl _ _) hb) 81 (.tmp 77) (.tmp 80) 22 rfl rfl rfl rfl rfl F.b1 F.b2 rfl rfl ?_
      intro w81 v81 HR1 b81
      replace F := F.go b81
      (try replace HR2 := Bss.below HR2 b81 (Nat.le_refl _))
      simp only [Act.put, List.setIfInBounds_toArray, List.set_cons_zero, List.set_cons_succ]
      refine ⟨?_, ?_⟩
      · refine stpz_fn (E := (fun w1 w2 => World.grownBy w1 w2 (some y))) 82 14 #[Operand.tmp 74, Operand.tmp 81] #[3, 22] _ (shake128_eq n _ _ lb _ F.laid HR1 (by simp) (by omega)) rfl rfl rfl rfl Tryd.func14 (by kernel_rfl) (by kernel_rfl) (by go_simp) ?_
        rintro e w82 ⟨v82, rfl, HS4, b82⟩
        replace F := F.go b82
        (try replace HR1 := Bss.below HR1 b82 (Nat.le_refl _))
        (try replace HR2 := Bss.below HR2 b82 (Nat.le_refl _))
        refine ⟨_, rfl, (gb_new (grownBy_refl _ _) b82), ?_⟩
        simp only [Act.put, List.setIfInBounds_toArray, List.set_cons_zero, List.set_cons_succ]
        refine lintz_conv 83 (Operand.tmp 82) _ _ rfl rfl rfl rfl rfl (fun w' h => gb_bs HS4 h (awayR HS4 F.rd)) ?_
        simp only [Act.put, List.setIfInBounds_toArray, List.set_cons_zero, List.set_cons_succ]
        refine stpz_rows1 (E := (fun w1 w2 => World.grownBy w1 w2 (some y))) (fun _ _ hb => gb_new (grownBy_refl _ _) hb) 86 (.tmp 85) 22 rfl rfl rfl rfl rfl F.b rfl ?_
        intro w86 v86 HR2 b86
        replace F := F.go b86
        (try replace HR1 := Bss.below HR1 b86 (Nat.le_refl _))
        simp only [Act.put, List.setIfInBounds_toArray, List.set_cons_zero, List.set_cons_succ]
        refine stpz_fn (E := (fun w1 w2 => World.grownBy w1 w2 (some y))) 87 14 #[Operand.tmp 84, Operand.tmp 86] #[3, 22] _ (shake128_eq n _ _ lb _ F.laid HR2 (by simp) (by omega)) rfl rfl rfl rfl Tryd.func14 (by kernel_rfl) (by kernel_rfl) (by go_simp) ?_
        rintro e w87 ⟨v87, rfl, HS5, b87⟩
        replace F := F.go b87
        (try replace HR1 := Bss.below HR1 b87 (Nat.le_refl _))
        (try replace HR2 := Bss.below HR2 b87 (Nat.le_refl _))
        refine ⟨_, rfl, (gb_new (grownBy_refl _ _) b87), ?_⟩
        simp only [Act.put, List.setIfInBounds_toArray, List.set_cons_zero, List.set_cons_succ]
        refine lintz_conv 88 (Operand.tmp 87) _ _ rfl rfl rfl rfl rfl (fun w' h => gb_bs HS5 h (awayR HS5 F.rd)) ?_
        simp only [Act.put, List.setIfInBounds_toArray, List.set_cons_zero, List.set_cons_succ]
        refine lintz_pure 89 (Op.binOp BinOp.eql 9 (Operand.tmp 83) (Operand.tmp 88) 9) 4 _ rfl rfl rfl rfl rfl (fun w0 hb0 => by unfold mkOp; go_simp; all_goals (with_reducible rfl)) ?_
        simp only [Act.put, List.setIfInBounds_toArray, List.set_cons_zero, List.set_cons_succ]
        refine lintz_pure 90 (Op.pick (Operand.tmp 73) (Operand.tmp 89) (Operand.const (Value.bool false))) 4 _ rfl rfl rfl rfl rfl (fun w0 hb0 => by unfold mkOp; go_simp; all_goals (with_reducible rfl)) ?_
        simp only [Act.put, List.setIfInBounds_toArray, List.set_cons_zero, List.set_cons_succ]
        refine lintz_leaf ?_
        exact ⟨F, lintz_slots rfl⟩
      · refine stpz_rows1 (E := (fun w1 w2 => World.grownBy w1 w2 (some y))) (fun _ _ hb => gb_new (grownBy_refl _ _) hb) 86 (.tmp 85) 22 rfl rfl rfl rfl rfl F.b rfl ?_
        intro w86 v86 HR2 b86
        replace F := F.go b86
        (try replace HR1 := Bss.below HR1 b86 (Nat.le_refl _))
        simp only [Act.put, List.setIfInBounds_toArray, List.set_cons_zero, List.set_cons_succ]
        refine stpz_fn (E := (fun w1 w2 => World.grownBy w1 w2 (some y))) 82 14 #[Operand.tmp 74, Operand.tmp 81] #[3, 22] _ (shake128_eq n _ _ lb _ F.laid HR1 (by simp) (by omega)) rfl rfl rfl rfl Tryd.func14 (by kernel_rfl) (by kernel_rfl) (by go_simp) ?_
        rintro e w82 ⟨v82, rfl, HS4, b82⟩
        replace F := F.go b82
        (try replace HR1 := Bss.below HR1 b82 (Nat.le_refl _))
        (try replace HR2 := Bss.below HR2 b82 (Nat.le_refl _))
        refine ⟨_, rfl, (gb_new (grownBy_refl _ _) b82), ?_⟩
        simp only [Act.put, List.setIfInBounds_toArray, List.set_cons_zero, List.set_cons_succ]
        refine lintz_conv 83 (Operand.tmp 82) _ _ rfl rfl rfl rfl rfl (fun w' h => gb_bs HS4 h (awayR HS4 F.rd)) ?_
        simp only [Act.put, List.setIfInBounds_toArray, List.set_cons_zero, List.set_cons_succ]
        refine stpz_fn (E := (fun w1 w2 => World.grownBy w1 w2 (some y))) 87 14 #[Operand.tmp 84, Operand.tmp 86] #[3, 22] _ (shake128_eq n _ _ lb _ F.laid HR2 (by simp) (by omega)) rfl rfl rfl rfl Tryd.func14 (by kernel_rfl) (by kernel_rfl) (by go_simp) ?_
        rintro e w87 ⟨v87, rfl, HS5, b87⟩
        replace F := F.go b87
        (try replace HR1 := Bss.below HR1 b87 (Nat.le_refl _))
        (try replace HR2 := Bss.below HR2 b87 (Nat.le_refl _))
        refine ⟨_, rfl, (gb_new (grownBy_refl _ _) b87), ?_⟩
        simp only [Act.put, List.setIfInBounds_toArray, List.set_cons_zero, List.set_cons_succ]
        refine lintz_conv 88 (Operand.tmp 87) _ _ rfl rfl rfl rfl rfl (fun w' h => gb_bs HS5 h (awayR HS5 F.rd)) ?_
        simp only [Act.put, List.setIfInBounds_toArray, List.set_cons_zero, List.set_cons_succ]
        refine lintz_pure 89 (Op.binOp BinOp.eql 9 (Operand.tmp 83) (Operand.tmp 88) 9) 4 _ rfl rfl rfl rfl rfl (fun w0 hb0 => by unfold mkOp; go_simp; all_goals (with_reducible rfl)) ?_
        simp only [Act.put, List.setIfInBounds_toArray, List.set_cons_zero, List.set_cons_succ]
        refine lintz_pure 90 (Op.pick (Operand.tmp 73) (Operand.tmp 89) (Operand.const (Value.bool false))) 4 _ rfl rfl rfl rfl rfl (fun w0 hb0 => by unfold mkOp; go_simp; all_goals (with_reducible rfl)) ?_
        simp only [Act.put, List.setIfInBounds_toArray, List.set_cons_zero, List.set_cons_succ]
        refine lintz_leaf ?_
        exact ⟨F, lintz_slots rfl⟩
    · refine stpz_rows1 (E := (fun w1 w2 => World.grownBy w1 w2 (some y))) (fun _ _ hb => gb_new (grownBy_refl _ _) hb) 86 (.tmp 85) 22 rfl rfl rfl rfl rfl F.b rfl ?_
      intro w86 v86 HR2 b86
      replace F := F.go b86
      (try replace HR1 := Bss.below HR1 b86 (Nat.le_refl _))
      simp only [Act.put, List.setIfInBounds_toArray, List.set_cons_zero, List.set_cons_succ]
      refine stpz_rows2 (E := (fun w1 w2 => World.grownBy w1 w2 (some y))) (fun _ _ hb => gb_new (grownBy_refl _ _) hb) 81 (.tmp 77) (.tmp 80) 22 rfl rfl rfl rfl rfl F.b1 F.b2 rfl rfl ?_
      intro w81 v81 HR1 b81
      replace F := F.go b81
      (try replace HR2 := Bss.below HR2 b81 (Nat.le_refl _))
      simp only [Act.put, List.setIfInBounds_toArray, List.set_cons_zero, List.set_cons_succ]
      refine stpz_fn (E := (fun w1 w2 => World.grownBy w1 w2 (some y))) 82 14 #[Operand.tmp 74, Operand.tmp 81] #[3, 22] _ (shake128_eq n _ _ lb _ F.laid HR1 (by simp) (by omega)) rfl rfl rfl rfl Tryd.func14 (by kernel_rfl) (by kernel_rfl) (by go_simp) ?_
      rintro e w82 ⟨v82, rfl, HS4, b82⟩
      replace F := F.go b82
      (try replace HR1 := Bss.below HR1 b82 (Nat.le_refl _))
      (try replace HR2 := Bss.below HR2 b82 (Nat.le_refl _))
      refine ⟨_, rfl, (gb_new (grownBy_refl _ _) b82), ?_⟩
      simp only [Act.put, List.setIfInBounds_toArray, List.set_cons_zero, List.set_cons_succ]
      refine lintz_conv 83 (Operand.tmp 82) _ _ rfl rfl rfl rfl rfl (fun w' h => gb_bs HS4 h (awayR HS4 F.rd)) ?_
      simp only [Act.put, List.setIfInBounds_toArray, List.set_cons_zero, List.set_cons_succ]
      refine stpz_fn (E := (fun w1 w2 => World.grownBy w1 w2 (some y))) 87 14 #[Operand.tmp 84, Operand.tmp 86] #[3, 22] _ (shake128_eq n _ _ lb _ F.laid HR2 (by simp) (by omega)) rfl rfl rfl rfl Tryd.func14 (by kernel_rfl) (by kernel_rfl) (by go_simp) ?_
      rintro e w87 ⟨v87, rfl, HS5, b87⟩
      replace F := F.go b87
      (try replace HR1 := Bss.below HR1 b87 (Nat.le_refl _))
      (try replace HR2 := Bss.below HR2 b87 (Nat.le_refl _))
      refine ⟨_, rfl, (gb_new (grownBy_refl _ _) b87), ?_⟩
      simp only [Act.put, List.setIfInBounds_toArray, List.set_cons_zero, List.set_cons_succ]
      refine lintz_conv 88 (Operand.tmp 87) _ _ rfl rfl rfl rfl rfl (fun w' h => gb_bs HS5 h (awayR HS5 F.rd)) ?_
      simp only [Act.put, List.setIfInBounds_toArray, List.set_cons_zero, List.set_cons_succ]
      refine lintz_pure 89 (Op.binOp BinOp.eql 9 (Operand.tmp 83) (Operand.tmp 88) 9) 4 _ rfl rfl rfl rfl rfl (fun w0 hb0 => by unfold mkOp; go_simp; all_goals (with_reducible rfl)) ?_
      simp only [Act.put, List.setIfInBounds_toArray, List.set_cons_zero, List.set_cons_succ]
      refine lintz_pure 90 (Op.pick (Operand.tmp 73) (Operand.tmp 89) (Operand.const (Value.bool false))) 4 _ rfl rfl rfl rfl rfl (fun w0 hb0 => by unfold mkOp; go_simp; all_goals (with_reducible rfl)) ?_
      simp only [Act.put, List.setIfInBounds_toArray, List.set_cons_zero, List.set_cons_succ]
      refine lintz_leaf ?_
      exact ⟨F, lintz_slots rfl⟩
  clear F
  rintro a' w' ⟨F, u, rfl⟩
  refine linp_seg (fun a' w' => CutF w y ab nb cb k ad2 ax cx lb 0 w' ∧ ∃ u : Nat → Value, a' = ⟨(List.toArray ((.slice ab nb cb) :: (u 1) :: (.int .i64 (n : Int)) :: (u 3) :: (u 4) :: (u 5) :: (u 6) :: (.int .i64 (k : Int)) :: (.slice ax 32 cx) :: (.pointer (some ⟨y, 0, none⟩)) :: (u 10) :: (u 11) :: (u 12) :: (u 13) :: (u 14) :: (u 15) :: (u 16) :: (u 17) :: (u 18) :: (u 19) :: (u 20) :: (u 21) :: (u 22) :: (u 23) :: (u 24) :: (u 25) :: (u 26) :: (u 27) :: (u 28) :: (u 29) :: (u 30) :: (u 31) :: (u 32) :: (u 33) :: (u 34) :: (u 35) :: (u 36) :: (u 37) :: (u 38) :: (u 39) :: (u 40) :: (u 41) :: (u 42) :: (u 43) :: (u 44) :: (u 45) :: (u 46) :: (u 47) :: (u 48) :: (u 49) :: (u 50) :: (u 51) :: (u 52) :: (u 53) :: (u 54) :: (u 55) :: (u 56) :: (u 57) :: (u 58) :: (u 59) :: (u 60) :: (u 61) :: (u 62) :: (u 63) :: (u 64) :: (u 65) :: (u 66) :: (u 67) :: (u 68) :: (u 69) :: (u 70) :: (u 71) :: (u 72) :: (u 73) :: (u 74) :: (u 75) :: (u 76) :: (u 77) :: (u 78) :: (u 79) :: (u 80) :: (u 81) :: (u 82) :: (u 83) :: (u 84) :: (u 85) :: (u 86) :: (u 87) :: (u 88) :: (u 89) :: (u 90) :: (u 91) :: (u 92) :: (u 93) :: (u 94) :: (u 95) :: (u 96) :: (u 97) :: (u 98) :: (u 99) :: (u 100) :: (u 101) :: (u 102) :: (.bool true) :: (u 104) :: (u 105) :: (u 106) :: (u 107) :: (u 108) :: (u 109) :: (u 110) :: (u 111) :: (u 112) :: (u 113) :: (u 114) :: (u 115) :: (u 116) :: (u 117) :: (u 118) :: [])), []⟩) ?_ ?_
  · refine lintz_pure 91 (Op.move (Operand.tmp 90)) 4 _ rfl rfl rfl rfl rfl (fun w0 hb0 => by unfold mkOp; go_simp; all_goals (with_reducible rfl)) ?_
    simp only [Act.put, List.setIfInBounds_toArray, List.set_cons_zero, List.set_cons_succ]
    refine lintz_pure 92 (Op.move (Operand.tmp 2)) 3 _ rfl rfl rfl rfl rfl (fun w0 hb0 => by unfold mkOp; go_simp; all_goals (with_reducible rfl)) ?_
    simp only [Act.put, List.setIfInBounds_toArray, List.set_cons_zero, List.set_cons_succ]
    refine lintz_pure 93 (Op.move (Operand.tmp 0)) 25 _ rfl rfl rfl rfl rfl (fun w0 hb0 => by unfold mkOp; go_simp; all_goals (with_reducible rfl)) ?_
    simp only [Act.put, List.setIfInBounds_toArray, List.set_cons_zero, List.set_cons_succ]
    refine lintz_pure 97 (Op.move (Operand.tmp 2)) 3 _ rfl rfl rfl rfl rfl (fun w0 hb0 => by unfold mkOp; go_simp; all_goals (with_reducible rfl)) ?_
    simp only [Act.put, List.setIfInBounds_toArray, List.set_cons_zero, List.set_cons_succ]
    refine lintz_pure 98 (Op.move (Operand.tmp 0)) 25 _ rfl rfl rfl rfl rfl (fun w0 hb0 => by unfold mkOp; go_simp; all_goals (with_reducible rfl)) ?_
    simp only [Act.put, List.setIfInBounds_toArray, List.set_cons_zero, List.set_cons_succ]
    refine ⟨?_, ?_⟩
    · refine stpz_rows2 (E := (fun w1 w2 => World.grownBy w1 w2 (some y))) (fun _ _ hb => gb_new (grownBy_refl _ _) hb) 94 (.const (.slice none 0 0)) (.tmp 93) 22 rfl rfl rfl rfl rfl (Bs.nil _) F.b rfl rfl ?_
      intro w94 v94 HR1 b94
      replace F := F.go b94
      (try replace HR2 := Bss.below HR2 b94 (Nat.le_refl _))
      simp only [Act.put, List.setIfInBounds_toArray, List.set_cons_zero, List.set_cons_succ]
      refine ⟨?_, ?_⟩
      · refine stpz_fn (E := (fun w1 w2 => World.grownBy w1 w2 (some y))) 95 16 #[Operand.tmp 92, Operand.tmp 94] #[3, 22] _ (shake256_eq n _ _ lb _ F.laid HR1 (by simp) (by omega)) rfl rfl rfl rfl Tryd.func16 (by kernel_rfl) (by kernel_rfl) (by go_simp) ?_
        rintro e w95 ⟨v95, rfl, HS6, b95⟩
        replace F := F.go b95
        (try replace HR1 := Bss.below HR1 b95 (Nat.le_refl _))
        (try replace HR2 := Bss.below HR2 b95 (Nat.le_refl _))
        refine ⟨_, rfl, (gb_new (grownBy_refl _ _) b95), ?_⟩
        simp only [Act.put, List.setIfInBounds_toArray, List.set_cons_zero, List.set_cons_succ]
        refine lintz_conv 96 (Operand.tmp 95) _ _ rfl rfl rfl rfl rfl (fun w' h => gb_bs HS6 h (awayR HS6 F.rd)) ?_
        simp only [Act.put, List.setIfInBounds_toArray, List.set_cons_zero, List.set_cons_succ]
        refine stpz_rows1 (E := (fun w1 w2 => World.grownBy w1 w2 (some y))) (fun _ _ hb => gb_new (grownBy_refl _ _) hb) 99 (.tmp 98) 22 rfl rfl rfl rfl rfl F.b rfl ?_
        intro w99 v99 HR2 b99
        replace F := F.go b99
        (try replace HR1 := Bss.below HR1 b99 (Nat.le_refl _))
        simp only [Act.put, List.setIfInBounds_toArray, List.set_cons_zero, List.set_cons_succ]
        refine stpz_fn (E := (fun w1 w2 => World.grownBy w1 w2 (some y))) 100 16 #[Operand.tmp 97, Operand.tmp 99] #[3, 22] _ (shake256_eq n _ _ lb _ F.laid HR2 (by simp) (by omega)) rfl rfl rfl rfl Tryd.func16 (by kernel_rfl) (by kernel_rfl) (by go_simp) ?_
        rintro e w100 ⟨v100, rfl, HS7, b100⟩
        replace F := F.go b100
        (try replace HR1 := Bss.below HR1 b100 (Nat.le_refl _))
        (try replace HR2 := Bss.below HR2 b100 (Nat.le_refl _))
        refine ⟨_, rfl, (gb_new (grownBy_refl _ _) b100), ?_⟩
        simp only [Act.put, List.setIfInBounds_toArray, List.set_cons_zero, List.set_cons_succ]
        refine lintz_conv 101 (Operand.tmp 100) _ _ rfl rfl rfl rfl rfl (fun w' h => gb_bs HS7 h (awayR HS7 F.rd)) ?_
        simp only [Act.put, List.setIfInBounds_toArray, List.set_cons_zero, List.set_cons_succ]
        refine lintz_pure 102 (Op.binOp BinOp.eql 9 (Operand.tmp 96) (Operand.tmp 101) 9) 4 _ rfl rfl rfl rfl rfl (fun w0 hb0 => by unfold mkOp; go_simp; all_goals (with_reducible rfl)) ?_
        simp only [Act.put, List.setIfInBounds_toArray, List.set_cons_zero, List.set_cons_succ]
        refine lintz_pure 103 (Op.pick (Operand.tmp 91) (Operand.tmp 102) (Operand.const (Value.bool false))) 4 _ rfl rfl rfl rfl rfl (fun w0 hb0 => by unfold mkOp; go_simp; all_goals (with_reducible rfl)) ?_
        simp only [Act.put, List.setIfInBounds_toArray, List.set_cons_zero, List.set_cons_succ]
        refine lintz_leaf ?_
        exact ⟨F, lintz_slots rfl⟩
      · refine stpz_rows1 (E := (fun w1 w2 => World.grownBy w1 w2 (some y))) (fun _ _ hb => gb_new (grownBy_refl _ _) hb) 99 (.tmp 98) 22 rfl rfl rfl rfl rfl F.b rfl ?_
        intro w99 v99 HR2 b99
        replace F := F.go b99
        (try replace HR1 := Bss.below HR1 b99 (Nat.le_refl _))
        simp only [Act.put, List.setIfInBounds_toArray, List.set_cons_zero, List.set_cons_succ]
        refine stpz_fn (E := (fun w1 w2 => World.grownBy w1 w2 (some y))) 95 16 #[Operand.tmp 92, Operand.tmp 94] #[3, 22] _ (shake256_eq n _ _ lb _ F.laid HR1 (by simp) (by omega)) rfl rfl rfl rfl Tryd.func16 (by kernel_rfl) (by kernel_rfl) (by go_simp) ?_
        rintro e w95 ⟨v95, rfl, HS6, b95⟩
        replace F := F.go b95
        (try replace HR1 := Bss.below HR1 b95 (Nat.le_refl _))
        (try replace HR2 := Bss.below HR2 b95 (Nat.le_refl _))
        refine ⟨_, rfl, (gb_new (grownBy_refl _ _) b95), ?_⟩
        simp only [Act.put, List.setIfInBounds_toArray, List.set_cons_zero, List.set_cons_succ]
        refine lintz_conv 96 (Operand.tmp 95) _ _ rfl rfl rfl rfl rfl (fun w' h => gb_bs HS6 h (awayR HS6 F.rd)) ?_
        simp only [Act.put, List.setIfInBounds_toArray, List.set_cons_zero, List.set_cons_succ]
        refine stpz_fn (E := (fun w1 w2 => World.grownBy w1 w2 (some y))) 100 16 #[Operand.tmp 97, Operand.tmp 99] #[3, 22] _ (shake256_eq n _ _ lb _ F.laid HR2 (by simp) (by omega)) rfl rfl rfl rfl Tryd.func16 (by kernel_rfl) (by kernel_rfl) (by go_simp) ?_
        rintro e w100 ⟨v100, rfl, HS7, b100⟩
        replace F := F.go b100
        (try replace HR1 := Bss.below HR1 b100 (Nat.le_refl _))
        (try replace HR2 := Bss.below HR2 b100 (Nat.le_refl _))
        refine ⟨_, rfl, (gb_new (grownBy_refl _ _) b100), ?_⟩
        simp only [Act.put, List.setIfInBounds_toArray, List.set_cons_zero, List.set_cons_succ]
        refine lintz_conv 101 (Operand.tmp 100) _ _ rfl rfl rfl rfl rfl (fun w' h => gb_bs HS7 h (awayR HS7 F.rd)) ?_
        simp only [Act.put, List.setIfInBounds_toArray, List.set_cons_zero, List.set_cons_succ]
        refine lintz_pure 102 (Op.binOp BinOp.eql 9 (Operand.tmp 96) (Operand.tmp 101) 9) 4 _ rfl rfl rfl rfl rfl (fun w0 hb0 => by unfold mkOp; go_simp; all_goals (with_reducible rfl)) ?_
        simp only [Act.put, List.setIfInBounds_toArray, List.set_cons_zero, List.set_cons_succ]
        refine lintz_pure 103 (Op.pick (Operand.tmp 91) (Operand.tmp 102) (Operand.const (Value.bool false))) 4 _ rfl rfl rfl rfl rfl (fun w0 hb0 => by unfold mkOp; go_simp; all_goals (with_reducible rfl)) ?_
        simp only [Act.put, List.setIfInBounds_toArray, List.set_cons_zero, List.set_cons_succ]
        refine lintz_leaf ?_
        exact ⟨F, lintz_slots rfl⟩
    · refine stpz_rows1 (E := (fun w1 w2 => World.grownBy w1 w2 (some y))) (fun _ _ hb => gb_new (grownBy_refl _ _) hb) 99 (.tmp 98) 22 rfl rfl rfl rfl rfl F.b rfl ?_
      intro w99 v99 HR2 b99
      replace F := F.go b99
      (try replace HR1 := Bss.below HR1 b99 (Nat.le_refl _))
      simp only [Act.put, List.setIfInBounds_toArray, List.set_cons_zero, List.set_cons_succ]
      refine stpz_rows2 (E := (fun w1 w2 => World.grownBy w1 w2 (some y))) (fun _ _ hb => gb_new (grownBy_refl _ _) hb) 94 (.const (.slice none 0 0)) (.tmp 93) 22 rfl rfl rfl rfl rfl (Bs.nil _) F.b rfl rfl ?_
      intro w94 v94 HR1 b94
      replace F := F.go b94
      (try replace HR2 := Bss.below HR2 b94 (Nat.le_refl _))
      simp only [Act.put, List.setIfInBounds_toArray, List.set_cons_zero, List.set_cons_succ]
      refine stpz_fn (E := (fun w1 w2 => World.grownBy w1 w2 (some y))) 95 16 #[Operand.tmp 92, Operand.tmp 94] #[3, 22] _ (shake256_eq n _ _ lb _ F.laid HR1 (by simp) (by omega)) rfl rfl rfl rfl Tryd.func16 (by kernel_rfl) (by kernel_rfl) (by go_simp) ?_
      rintro e w95 ⟨v95, rfl, HS6, b95⟩
      replace F := F.go b95
      (try replace HR1 := Bss.below HR1 b95 (Nat.le_refl _))
      (try replace HR2 := Bss.below HR2 b95 (Nat.le_refl _))
      refine ⟨_, rfl, (gb_new (grownBy_refl _ _) b95), ?_⟩
      simp only [Act.put, List.setIfInBounds_toArray, List.set_cons_zero, List.set_cons_succ]
      refine lintz_conv 96 (Operand.tmp 95) _ _ rfl rfl rfl rfl rfl (fun w' h => gb_bs HS6 h (awayR HS6 F.rd)) ?_
      simp only [Act.put, List.setIfInBounds_toArray, List.set_cons_zero, List.set_cons_succ]
      refine stpz_fn (E := (fun w1 w2 => World.grownBy w1 w2 (some y))) 100 16 #[Operand.tmp 97, Operand.tmp 99] #[3, 22] _ (shake256_eq n _ _ lb _ F.laid HR2 (by simp) (by omega)) rfl rfl rfl rfl Tryd.func16 (by kernel_rfl) (by kernel_rfl) (by go_simp) ?_
      rintro e w100 ⟨v100, rfl, HS7, b100⟩
      replace F := F.go b100
      (try replace HR1 := Bss.below HR1 b100 (Nat.le_refl _))
      (try replace HR2 := Bss.below HR2 b100 (Nat.le_refl _))
      refine ⟨_, rfl, (gb_new (grownBy_refl _ _) b100), ?_⟩
      simp only [Act.put, List.setIfInBounds_toArray, List.set_cons_zero, List.set_cons_succ]
      refine lintz_conv 101 (Operand.tmp 100) _ _ rfl rfl rfl rfl rfl (fun w' h => gb_bs HS7 h (awayR HS7 F.rd)) ?_
      simp only [Act.put, List.setIfInBounds_toArray, List.set_cons_zero, List.set_cons_succ]
      refine lintz_pure 102 (Op.binOp BinOp.eql 9 (Operand.tmp 96) (Operand.tmp 101) 9) 4 _ rfl rfl rfl rfl rfl (fun w0 hb0 => by unfold mkOp; go_simp; all_goals (with_reducible rfl)) ?_
      simp only [Act.put, List.setIfInBounds_toArray, List.set_cons_zero, List.set_cons_succ]
      refine lintz_pure 103 (Op.pick (Operand.tmp 91) (Operand.tmp 102) (Operand.const (Value.bool false))) 4 _ rfl rfl rfl rfl rfl (fun w0 hb0 => by unfold mkOp; go_simp; all_goals (with_reducible rfl)) ?_
      simp only [Act.put, List.setIfInBounds_toArray, List.set_cons_zero, List.set_cons_succ]
      refine lintz_leaf ?_
      exact ⟨F, lintz_slots rfl⟩
  clear F
  rintro a' w' ⟨F, u, rfl⟩
  refine linp_seg (fun a' w' => CutF w y ab nb cb k ad2 ax cx lb n.toNat w' ∧ ∃ u : Nat → Value, a' = ⟨(List.toArray ((.slice ab nb cb) :: (u 1) :: (.int .i64 (n : Int)) :: (u 3) :: (u 4) :: (u 5) :: (u 6) :: (.int .i64 (k : Int)) :: (.slice ax 32 cx) :: (.pointer (some ⟨y, 0, none⟩)) :: (u 10) :: (u 11) :: (u 12) :: (u 13) :: (u 14) :: (u 15) :: (u 16) :: (u 17) :: (u 18) :: (u 19) :: (u 20) :: (u 21) :: (u 22) :: (u 23) :: (u 24) :: (u 25) :: (u 26) :: (u 27) :: (u 28) :: (u 29) :: (u 30) :: (u 31) :: (u 32) :: (u 33) :: (u 34) :: (u 35) :: (u 36) :: (u 37) :: (u 38) :: (u 39) :: (u 40) :: (u 41) :: (u 42) :: (u 43) :: (u 44) :: (u 45) :: (u 46) :: (u 47) :: (u 48) :: (u 49) :: (u 50) :: (u 51) :: (u 52) :: (u 53) :: (u 54) :: (u 55) :: (u 56) :: (u 57) :: (u 58) :: (u 59) :: (u 60) :: (u 61) :: (u 62) :: (u 63) :: (u 64) :: (u 65) :: (u 66) :: (u 67) :: (u 68) :: (u 69) :: (u 70) :: (u 71) :: (u 72) :: (u 73) :: (u 74) :: (u 75) :: (u 76) :: (u 77) :: (u 78) :: (u 79) :: (u 80) :: (u 81) :: (u 82) :: (u 83) :: (u 84) :: (u 85) :: (u 86) :: (u 87) :: (u 88) :: (u 89) :: (u 90) :: (u 91) :: (u 92) :: (u 93) :: (u 94) :: (u 95) :: (u 96) :: (u 97) :: (u 98) :: (u 99) :: (u 100) :: (u 101) :: (u 102) :: (u 103) :: (u 104) :: (u 105) :: (u 106) :: (u 107) :: (u 108) :: (u 109) :: (u 110) :: (u 111) :: (u 112) :: (u 113) :: (u 114) :: (.bool true) :: (u 116) :: (u 117) :: (u 118) :: [])), []⟩) ?_ ?_
  · refine lintz_pure 104 (Op.move (Operand.tmp 103)) 4 _ rfl rfl rfl rfl rfl (fun w0 hb0 => by unfold mkOp; go_simp; all_goals (with_reducible rfl)) ?_
    simp only [Act.put, List.setIfInBounds_toArray, List.set_cons_zero, List.set_cons_succ]
    refine lintz_pure 105 (Op.move (Operand.tmp 9)) 39 _ rfl rfl rfl rfl rfl (fun w0 hb0 => by unfold mkOp; go_simp; all_goals (with_reducible rfl)) ?_
    simp only [Act.put, List.setIfInBounds_toArray, List.set_cons_zero, List.set_cons_succ]
    refine lintz_pure 106 (Op.move (Operand.tmp 2)) 3 _ rfl rfl rfl rfl rfl (fun w0 hb0 => by unfold mkOp; go_simp; all_goals (with_reducible rfl)) ?_
    simp only [Act.put, List.setIfInBounds_toArray, List.set_cons_zero, List.set_cons_succ]
    refine lintz_pure 109 (Op.move (Operand.tmp 2)) 3 _ rfl rfl rfl rfl rfl (fun w0 hb0 => by unfold mkOp; go_simp; all_goals (with_reducible rfl)) ?_
    simp only [Act.put, List.setIfInBounds_toArray, List.set_cons_zero, List.set_cons_succ]
    refine lintz_pure 110 (Op.move (Operand.tmp 0)) 25 _ rfl rfl rfl rfl rfl (fun w0 hb0 => by unfold mkOp; go_simp; all_goals (with_reducible rfl)) ?_
    simp only [Act.put, List.setIfInBounds_toArray, List.set_cons_zero, List.set_cons_succ]
    refine ⟨?_, ?_⟩
    · refine stpz_fn (E := (fun w1 w2 => World.grownBy w1 w2 (some y))) 107 21 #[Operand.tmp 105, Operand.tmp 106] #[39, 3] _ (rread_eq y lb n _ F.laid F.rd F.y3 (by omega) (by omega)) rfl rfl rfl rfl Tryd.func21 (by kernel_rfl) (by kernel_rfl) (by go_simp) ?_
      rintro e w107 ⟨v107, rfl, HS8, HRd, hg⟩
      (try replace HR2 := HR2.gbR F.rd hg)
      replace F := F.read HRd hg
      refine ⟨_, rfl, hg, ?_⟩
      simp only [Act.put, List.setIfInBounds_toArray, List.set_cons_zero, List.set_cons_succ]
      refine lintz_conv 108 (Operand.tmp 107) _ _ rfl rfl rfl rfl rfl (fun w' h => gb_bs HS8 h (awayR HS8 F.rd)) ?_
      simp only [Act.put, List.setIfInBounds_toArray, List.set_cons_zero, List.set_cons_succ]
      refine stpz_rows1 (E := (fun w1 w2 => World.grownBy w1 w2 (some y))) (fun _ _ hb => gb_new (grownBy_refl _ _) hb) 111 (.tmp 110) 22 rfl rfl rfl rfl rfl F.b rfl ?_
      intro w111 v111 HR2 b111
      replace F := F.go b111
      (try replace HR1 := Bss.below HR1 b111 (Nat.le_refl _))
      simp only [Act.put, List.setIfInBounds_toArray, List.set_cons_zero, List.set_cons_succ]
      refine stpz_fn (E := (fun w1 w2 => World.grownBy w1 w2 (some y))) 112 14 #[Operand.tmp 109, Operand.tmp 111] #[3, 22] _ (shake128_eq n _ _ lb _ F.laid HR2 (by simp) (by omega)) rfl rfl rfl rfl Tryd.func14 (by kernel_rfl) (by kernel_rfl) (by go_simp) ?_
      rintro e w112 ⟨v112, rfl, HS9, b112⟩
      replace F := F.go b112
      (try replace HR1 := Bss.below HR1 b112 (Nat.le_refl _))
      (try replace HR2 := Bss.below HR2 b112 (Nat.le_refl _))
      refine ⟨_, rfl, (gb_new (grownBy_refl _ _) b112), ?_⟩
      simp only [Act.put, List.setIfInBounds_toArray, List.set_cons_zero, List.set_cons_succ]
      refine lintz_conv 113 (Operand.tmp 112) _ _ rfl rfl rfl rfl rfl (fun w' h => gb_bs HS9 h (awayR HS9 F.rd)) ?_
      simp only [Act.put, List.setIfInBounds_toArray, List.set_cons_zero, List.set_cons_succ]
      refine lintz_pure 114 (Op.binOp BinOp.eql 9 (Operand.tmp 108) (Operand.tmp 113) 9) 4 _ rfl rfl rfl rfl rfl (fun w0 hb0 => by unfold mkOp; go_simp; all_goals (with_reducible rfl)) ?_
      simp only [Act.put, List.setIfInBounds_toArray, List.set_cons_zero, List.set_cons_succ]
      refine lintz_pure 115 (Op.pick (Operand.tmp 104) (Operand.tmp 114) (Operand.const (Value.bool false))) 4 _ rfl rfl rfl rfl rfl (fun w0 hb0 => by unfold mkOp; go_simp; all_goals (with_reducible rfl)) ?_
      simp only [Act.put, List.setIfInBounds_toArray, List.set_cons_zero, List.set_cons_succ]
      refine lintz_leaf ?_
      exact ⟨F, lintz_slots rfl⟩
    · refine stpz_rows1 (E := (fun w1 w2 => World.grownBy w1 w2 (some y))) (fun _ _ hb => gb_new (grownBy_refl _ _) hb) 111 (.tmp 110) 22 rfl rfl rfl rfl rfl F.b rfl ?_
      intro w111 v111 HR2 b111
      replace F := F.go b111
      (try replace HR1 := Bss.below HR1 b111 (Nat.le_refl _))
      simp only [Act.put, List.setIfInBounds_toArray, List.set_cons_zero, List.set_cons_succ]
      refine stpz_fn (E := (fun w1 w2 => World.grownBy w1 w2 (some y))) 107 21 #[Operand.tmp 105, Operand.tmp 106] #[39, 3] _ (rread_eq y lb n _ F.laid F.rd F.y3 (by omega) (by omega)) rfl rfl rfl rfl Tryd.func21 (by kernel_rfl) (by kernel_rfl) (by go_simp) ?_
      rintro e w107 ⟨v107, rfl, HS8, HRd, hg⟩
      (try replace HR2 := HR2.gbR F.rd hg)
      replace F := F.read HRd hg
      refine ⟨_, rfl, hg, ?_⟩
      simp only [Act.put, List.setIfInBounds_toArray, List.set_cons_zero, List.set_cons_succ]
      refine lintz_conv 108 (Operand.tmp 107) _ _ rfl rfl rfl rfl rfl (fun w' h => gb_bs HS8 h (awayR HS8 F.rd)) ?_
      simp only [Act.put, List.setIfInBounds_toArray, List.set_cons_zero, List.set_cons_succ]
      refine stpz_fn (E := (fun w1 w2 => World.grownBy w1 w2 (some y))) 112 14 #[Operand.tmp 109, Operand.tmp 111] #[3, 22] _ (shake128_eq n _ _ lb _ F.laid HR2 (by simp) (by omega)) rfl rfl rfl rfl Tryd.func14 (by kernel_rfl) (by kernel_rfl) (by go_simp) ?_
      rintro e w112 ⟨v112, rfl, HS9, b112⟩
      replace F := F.go b112
      (try replace HR1 := Bss.below HR1 b112 (Nat.le_refl _))
      (try replace HR2 := Bss.below HR2 b112 (Nat.le_refl _))
      refine ⟨_, rfl, (gb_new (grownBy_refl _ _) b112), ?_⟩
      simp only [Act.put, List.setIfInBounds_toArray, List.set_cons_zero, List.set_cons_succ]
      refine lintz_conv 113 (Operand.tmp 112) _ _ rfl rfl rfl rfl rfl (fun w' h => gb_bs HS9 h (awayR HS9 F.rd)) ?_
      simp only [Act.put, List.setIfInBounds_toArray, List.set_cons_zero, List.set_cons_succ]
      refine lintz_pure 114 (Op.binOp BinOp.eql 9 (Operand.tmp 108) (Operand.tmp 113) 9) 4 _ rfl rfl rfl rfl rfl (fun w0 hb0 => by unfold mkOp; go_simp; all_goals (with_reducible rfl)) ?_
      simp only [Act.put, List.setIfInBounds_toArray, List.set_cons_zero, List.set_cons_succ]
      refine lintz_pure 115 (Op.pick (Operand.tmp 104) (Operand.tmp 114) (Operand.const (Value.bool false))) 4 _ rfl rfl rfl rfl rfl (fun w0 hb0 => by unfold mkOp; go_simp; all_goals (with_reducible rfl)) ?_
      simp only [Act.put, List.setIfInBounds_toArray, List.set_cons_zero, List.set_cons_succ]
      refine lintz_leaf ?_
      exact ⟨F, lintz_slots rfl⟩
  clear F
  rintro a' w' ⟨F, u, rfl⟩
  refine linp_seg (fun a' w' => CutF w y ab nb cb k ad2 ax cx lb n.toNat w' ∧ ∃ u : Nat → Value, a' = ⟨(List.toArray ((.slice ab nb cb) :: (u 1) :: (.int .i64 (n : Int)) :: (u 3) :: (u 4) :: (u 5) :: (.bool true) :: (.int .i64 (k : Int)) :: (.slice ax 32 cx) :: (.pointer (some ⟨y, 0, none⟩)) :: (u 10) :: (u 11) :: (u 12) :: (u 13) :: (u 14) :: (u 15) :: (u 16) :: (u 17) :: (u 18) :: (u 19) :: (u 20) :: (u 21) :: (u 22) :: (u 23) :: (u 24) :: (u 25) :: (u 26) :: (u 27) :: (u 28) :: (u 29) :: (u 30) :: (u 31) :: (u 32) :: (u 33) :: (u 34) :: (u 35) :: (u 36) :: (u 37) :: (u 38) :: (u 39) :: (u 40) :: (u 41) :: (u 42) :: (u 43) :: (u 44) :: (u 45) :: (u 46) :: (u 47) :: (u 48) :: (u 49) :: (u 50) :: (u 51) :: (u 52) :: (u 53) :: (u 54) :: (u 55) :: (u 56) :: (u 57) :: (u 58) :: (u 59) :: (u 60) :: (u 61) :: (u 62) :: (u 63) :: (u 64) :: (u 65) :: (u 66) :: (u 67) :: (u 68) :: (u 69) :: (u 70) :: (u 71) :: (u 72) :: (u 73) :: (u 74) :: (u 75) :: (u 76) :: (u 77) :: (u 78) :: (u 79) :: (u 80) :: (u 81) :: (u 82) :: (u 83) :: (u 84) :: (u 85) :: (u 86) :: (u 87) :: (u 88) :: (u 89) :: (u 90) :: (u 91) :: (u 92) :: (u 93) :: (u 94) :: (u 95) :: (u 96) :: (u 97) :: (u 98) :: (u 99) :: (u 100) :: (u 101) :: (u 102) :: (u 103) :: (u 104) :: (u 105) :: (u 106) :: (u 107) :: (u 108) :: (u 109) :: (u 110) :: (u 111) :: (u 112) :: (u 113) :: (u 114) :: (u 115) :: (u 116) :: (u 117) :: (u 118) :: [])), []⟩) ?_ ?_
  · refine lintz_pure 116 (Op.move (Operand.tmp 115)) 4 _ rfl rfl rfl rfl rfl (fun w0 hb0 => by unfold mkOp; go_simp; all_goals (with_reducible rfl)) ?_
    simp only [Act.put, List.setIfInBounds_toArray, List.set_cons_zero, List.set_cons_succ]
    refine stpz_fn (E := (fun w1 w2 => World.grownBy w1 w2 (some y))) 117 9 #[] #[] _ (awake3_any _ F.laid) rfl rfl rfl rfl Tryd.func9 (by kernel_rfl) (by kernel_rfl) (by go_simp) ?_
    rintro e w117 ⟨rfl, b117⟩
    replace F := F.go b117
    refine ⟨_, rfl, (gb_new (grownBy_refl _ _) b117), ?_⟩
    simp only [Act.put, List.setIfInBounds_toArray, List.set_cons_zero, List.set_cons_succ]
    refine lintz_pure 118 (Op.pick (Operand.tmp 116) (Operand.tmp 117) (Operand.const (Value.bool false))) 4 _ rfl rfl rfl rfl rfl (fun w0 hb0 => by unfold mkOp; go_simp; all_goals (with_reducible rfl)) ?_
    simp only [Act.put, List.setIfInBounds_toArray, List.set_cons_zero, List.set_cons_succ]
    refine lintz_pure 6 (Op.assign (Operand.tmp 118)) 4 _ rfl rfl rfl rfl rfl (fun w0 hb0 => by unfold mkOp; go_simp; all_goals (with_reducible rfl)) ?_
    simp only [Act.put, List.setIfInBounds_toArray, List.set_cons_zero, List.set_cons_succ]
    refine lintz_leaf ?_
    exact ⟨F, lintz_slots rfl⟩
  clear F
  rintro a' w' ⟨F, u, rfl⟩
  refine linp_end ?_
  go_wp2
  go_ret
  exact ⟨rfl, F.below⟩
end Go.Proofs.YtmfogngfdgpahaaDoor
