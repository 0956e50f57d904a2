/- FieldForms, walked. -/
import Derived.Test.YthapdohblphlgaaEwN
import Derived.Test.YthapdohblphlgaaFlip
namespace Go.Proofs.Ythapdohblphlgaa
open Go.RowKit Go.Deep
set_option linter.unusedSimpArgs false
set_option linter.unusedVariables false

set_option maxHeartbeats 16000000 in
set_option maxRecDepth 100000 in
theorem law_fieldForms (w : World) (v0 : Value) (l0 : List UInt8) (h0 : Bs w v0 l0) (x1 : Int) (w1 : (Lit.int .i64 x1).wf = true) : Calls Try.prog 7 #[v0, .int .i64 x1] w fun e w' => e = .returned (.bool true) ∧ Below w.heap.size w w' := by
  obtain ⟨a0, n0, c0, rfl, e0, f0, g0, hB0⟩ := h0.shape
  have H0 := Lib.hid hB0
  have HOF0 := Lib.hid fun v w (h : Bs w v l0) => of_any v l0 w h
  obtain ⟨A, hA⟩ := nat_var (ofL l0)
  have HA : Hid (A < p25) := Lib.hid (by rw [hA]; exact ofL_lt l0)
  rw [← hA] at HOF0
  clear hA
  have B0 := Below.refl w.heap.size w
  have HGS : Hid (∀ wq : World, Below w.heap.size w wq → w.heap.size ≤ wq.heap.size) := Lib.hid fun wq h => h.size
  clear h0 hB0 e0
  obtain ⟨hk0, hk1⟩ := bd_i64 w1
  clear w1
  obtain ⟨r, hr⟩ := Int.eq_ofNat_of_zero_le (show 0 ≤ x1 % 19 from Int.emod_nonneg _ (by omega))
  have Kr : Hid (r < 19) := Lib.hid (by have := Int.emod_lt_of_pos x1 (show (0 : Int) < 19 by omega); omega)
  have Lr : Hid (r < 18446744073709551616) := Lib.hid (by have := Kr.out; omega)
  have Hr : Hid (r < p25) := Lib.hid (Nat.lt_trans Kr.out (by decide +kernel))
  have HRW : Hid (∀ w, Calls Try.prog 36 #[.int .i64 x1, .int .i64 19] w fun e w' => e = .returned (.int .i64 (r : Int)) ∧ w' = w) := Lib.hid fun w => by
    have h := round_any x1 19 w hk0 hk1 (by omega) (by omega)
    rwa [hr] at h
  have HRB : Hid (∀ w, Calls Try.prog 36 #[.int .i64 x1, .int .i64 19] w fun e w' => e = .returned (.int .i64 (r : Int)) ∧ Below w.heap.size w w') := Lib.hid fun w => (HRW.out w).mono fun e w' h => ⟨h.1, by rw [h.2]; exact Below.refl _ _⟩
  clear hr hk0 hk1
  obtain ⟨q, hq⟩ := nat_var (A / 256 ^ 31)
  obtain ⟨q2, hq2⟩ := nat_var (q + 128)
  have HX31 : Hid ((UInt8.ofNat (A / 256 ^ 31)).toNat = q) := Lib.hid (by rw [high_old A HA.out, hq])
  have HY31 : Hid ((UInt8.ofNat ((A + top) / 256 ^ 31)).toNat = q2) := Lib.hid (by rw [high_new A HA.out, hq2, hq])
  have hor : bits .or .u8 (q : Int) 128 = (q2 : Int) := by
    rw [hq2]
    exact or_128 q (by rw [hq]; exact high_lt A HA.out)
  clear hq hq2
  obtain ⟨CT, hCT⟩ := nat_var (A + top)
  have HCS : Hid ((litB A 32).set 31 (UInt8.ofNat ((A + top) / 256 ^ 31)) = litB CT 32) := Lib.hid (by rw [hCT]; exact high_set A)
  have HCO : Hid (ofL (litB CT 32) = A) := Lib.hid (by rw [hCT]; exact ofL_high A HA.out)
  have HCN : Hid (strictL (litB CT 32) = none) := Lib.hid (by
    rw [hCT]
    have h1 := HA.out
    have h2 := p25_lt_top
    exact strictL_over _ (by generalize top = T at *; generalize p25 = P at *; omega) (by generalize top = T at *; generalize p25 = P at *; omega))
  clear hCT
  obtain ⟨PM, hPM⟩ := nat_var (p25 - 1)
  obtain ⟨PR, hPR⟩ := nat_var (p25 + r)
  have HSU : Hid (∀ w, Calls Try.prog 22 #[.agg (arrOf 4 (ewF 0)), .agg (arrOf 4 (ewF 1))] w fun e w' => e = .returned (.agg (arrOf 4 (ewF PM))) ∧ Below w.heap.size w w') := Lib.hid fun w => by
    have h := sub_any 0 1 w (by decide +kernel) (by decide +kernel)
    rwa [sub_one, ← hPM] at h
  have HP0 : Hid (∀ i (h : i < (litB PM 32).length), i = 0 → ((litB PM 32)[i]).toNat = 236) := Lib.hid fun i h h0 => by
    subst h0
    rw [litB_at, hPM]
    exact under_byte
  have HPS : Hid ((litB PM 32).set 0 (UInt8.ofNat (237 + r)) = litB PR 32) := Lib.hid (by
    have h := over_set r Kr.out
    have h2 := over_byte r Kr.out
    rw [show UInt8.ofNat ((p25 + r) / 256 ^ 0) = UInt8.ofNat (237 + r) from UInt8.toNat_inj.1 (by rw [h2, UInt8.toNat_ofNat']; have := Kr.out; omega)] at h
    rw [hPM, hPR]
    exact h)
  have HPO : Hid (ofL (litB PR 32) = r) := Lib.hid (by rw [hPR]; exact ofL_over r Kr.out)
  have HPN : Hid (strictL (litB PR 32) = none) := Lib.hid (by
    rw [hPR]
    have h1 := Kr.out
    have h2 := p25_top
    exact strictL_over _ (Nat.le_add_right _ _) (by have h3 := p25_lt_top; generalize top = T at *; generalize p25 = P at *; omega))
  clear hPM hPR
  obtain ⟨s, hs⟩ := nat_var (237 + r)
  have hws : IntKind.u8.wrap (237 + (r : Int)) = (s : Int) := by
    rw [IntWalk.u8_in _ ⟨by omega, by have := Kr.out; omega⟩]
    omega
  have hwr : IntKind.u8.wrap (r : Int) = (r : Int) := IntWalk.u8_in _ ⟨by omega, by have := Kr.out; omega⟩
  have hwq : IntKind.u64.wrap (r : Int) = (r : Int) := wrap_nat _ Lr.out
  have HS : Hid ((UInt8.ofNat (237 + r)).toNat = s) := Lib.hid (by rw [UInt8.toNat_ofNat']; have := Kr.out; omega)
  clear hs
  go_enter Try.func7, Try.ntmps7
  by_cases d0 : (100 : Int) < (n0 : Int)
  · go_wp2_with (go_at_call 12; refine (awake5_any _).mono ?_; rintro e w9 ⟨rfl, hb9⟩)
    go_ret
    exact ⟨rfl, hb9⟩
  go_wp2_with (first
    | (go_at_call 13; have hgo := B0; clear hgo; refine (HOF0.out _ _ (H0.out.below B0 (Nat.le_refl _))).mono ?_; rintro e w1 ⟨rfl, hb1⟩
       have B1 := B0.trans (hb1.mono (HGS.out _ B0))
       clear B0 hb1
       have g2 := HGS.out _ B1
       try simp only [World.size_alloc] at g2
       have B2 := B1.alloc (HGS.out _ B1) (.cells (arrOf 4 (u64f fun _ => 0)) 28)
       have r2_t5 := rowIs_arr w1 4 (u64f fun _ => 0) 28
       try simp only [World.size_alloc] at r2_t5
       clear B1)
    | (refine wpList_alloc_arr rfl 28 rfl (arrOf 4 (u64f fun _ => 0)) zeroE ?_; try simp only [World.size_alloc])
    | (refine wpList_store_arr rfl 28 (.tmp 5) (.tmp 20) rfl 4 arrE r2_t5 rfl rfl (by omega) (fun _ _ => rfl) ?_; intro x3 hr3 hg3 hs3
       have r3_t5 : x3.rowIs (w1.heap.size) 28 4 (ewF A) := hr3.congr fun i hi => by unfold putN; rw [if_pos (by omega), Nat.sub_zero]
       have B3 := B2.grown hg3 (HGS.out _ B2) (by intro k hk; cases hk; exact g2)
       clear r2_t5 B2 hr3 hg3 hs3)
    | (refine wpList_load_arr rfl 28 (.tmp 5) rfl 4 arrE r3_t5 rfl (by omega) ?_; simp only [Nat.zero_add])
    | (go_at_call 35; have hgo := B3; clear hgo; refine (bytes_any A _).mono ?_; rintro e w4 ⟨vb, rfl, hO4, hb4⟩
       have r4_t5 := World.rowIs.of_block r3_t5 (hb4.block _ (World.rowIs.lt r3_t5))
       have B4 := B3.trans (hb4.mono (HGS.out _ B3))
       obtain ⟨ab, nb, cb, rfl, eb, yb, zb, fb⟩ := (Owns.bs hO4).shape
       rw [litB_length] at eb
       subst eb
       clear hO4
       clear r3_t5 B3 hb4)
    | (go_at_call 15
       first
         | (have hgo := B4; clear hgo; refine (strict5_own _ A _ fb HA.out).mono ?_; rintro e w5 ⟨rfl, hb5⟩
            have r5_t5 := World.rowIs.of_block r4_t5 (hb5.block _ (World.rowIs.lt r4_t5))
            have f5_b := Bs.below fb hb5 (Nat.le_refl _)
            have B5 := B4.trans (hb5.mono (HGS.out _ B4))
            clear r4_t5 fb B4 hb5
            have lt6_t5 := World.rowIs.lt r5_t5
            try simp only [World.size_alloc] at lt6_t5
            have g6 := HGS.out _ B5
            try simp only [World.size_alloc] at g6
            have kb6 := (Below.refl w5.heap.size w5).alloc (Nat.le_refl _) (.cells (arrOf 4 (u64f fun _ => 0)) 28)
            have r6_t5 := World.rowIs.alloc r5_t5 (.cells (arrOf 4 (u64f fun _ => 0)) 28)
            have B6 := B5.alloc (HGS.out _ B5) (.cells (arrOf 4 (u64f fun _ => 0)) 28)
            have r6_t7 := rowIs_arr w5 4 (u64f fun _ => 0) 28
            try simp only [World.size_alloc] at r6_t7
            clear B5)
         | (have hgo := B9; clear hgo; refine (strict5_none _ CT _ fc HCN.out).mono ?_; rintro e w10 ⟨rfl, hb10⟩
            have r10_t5 := World.rowIs.of_block r9_t5 (hb10.block _ (World.rowIs.lt r9_t5))
            have r10_t7 := World.rowIs.of_block r9_t7 (hb10.block _ (World.rowIs.lt r9_t7))
            have f10_c := Bs.below fc hb10 (Nat.le_refl _)
            have B10 := B9.trans (hb10.mono (HGS.out _ B9))
            clear r9_t5 r9_t7 fc B9 hb10
            have lt11_t5 := World.rowIs.lt r10_t5
            try simp only [World.size_alloc] at lt11_t5
            have lt11_t7 := World.rowIs.lt r10_t7
            try simp only [World.size_alloc] at lt11_t7
            have g11 := HGS.out _ B10
            try simp only [World.size_alloc] at g11
            have kb11 := (Below.refl w10.heap.size w10).alloc (Nat.le_refl _) (.cells (arrOf 4 (u64f fun _ => 0)) 28)
            have r11_t5 := World.rowIs.alloc r10_t5 (.cells (arrOf 4 (u64f fun _ => 0)) 28)
            have r11_t7 := World.rowIs.alloc r10_t7 (.cells (arrOf 4 (u64f fun _ => 0)) 28)
            have B11 := B10.alloc (HGS.out _ B10) (.cells (arrOf 4 (u64f fun _ => 0)) 28)
            have r11_t10 := rowIs_arr w10 4 (u64f fun _ => 0) 28
            try simp only [World.size_alloc] at r11_t10
            clear B10))
    | (refine wpList_store_arr rfl 28 (.tmp 7) (.tmp 26) rfl 4 arrE r6_t7 rfl rfl (by omega) (fun _ _ => rfl) ?_; intro x7 hr7 hg7 hs7
       have r7_t7 : x7.rowIs (w5.heap.size) 28 4 (ewF A) := hr7.congr fun i hi => by unfold putN; rw [if_pos (by omega), Nat.sub_zero]
       have r7_t5 := gb_rowIs r6_t5 hg7 (Nat.ne_of_lt lt6_t5)
       have kc7 := kb6.grown hg7 (by simp) (by intro k hk; cases hk; exact Nat.le_refl _)
       have f7_b := Bs.below f5_b kc7 (Nat.le_refl _)
       have B7 := B6.grown hg7 (HGS.out _ B6) (by intro k hk; cases hk; exact g6)
       clear r6_t7 r6_t5 f5_b kc7 kb6 B6 hr7 hg7 hs7)
    | (refine wpList_load_given rfl 28 (.tmp 7) rfl 4 arrE r7_t7 rfl (by omega) ?_; simp only [Nat.zero_add])
    | (refine wpList_load_given rfl 28 (.tmp 5) rfl 4 arrE r7_t5 rfl (by omega) ?_; simp only [Nat.zero_add])
    | (go_at_call 28; have hgo := B7; clear hgo; refine (same5_yes A A _ HA.out HA.out (rfl)).mono ?_; rintro e w8 ⟨rfl, hb8⟩
       have r8_t5 := World.rowIs.of_block r7_t5 (hb8.block _ (World.rowIs.lt r7_t5))
       have r8_t7 := World.rowIs.of_block r7_t7 (hb8.block _ (World.rowIs.lt r7_t7))
       have f8_b := Bs.below f7_b hb8 (Nat.le_refl _)
       have B8 := B7.trans (hb8.mono (HGS.out _ B7))
       clear r7_t5 r7_t7 f7_b B7 hb8
       have O8 := Owns.empty w8
       have k8 := (Below.refl w8.heap.size w8).alloc (Nat.le_refl _) (.cells #[] 5)
       have F8 := Bs.below f8_b k8 (Nat.le_refl _))
    | (refine wpList_app rfl (.tmp 41) (.tmp 42) rfl w8.heap.size _ _ [] (litB A 32) O8 F8 rfl rfl (by simp [litB_length]) (by simp) ?_; intro vc wc hownc hgrowc
       obtain ⟨gc, capc, hvc, hgc, hgsc, hc8, hf8⟩ := (show Owns wc w8.heap.size vc (litB A 32) from hownc).open_cons (by rw [litB_length]; decide)
       rw [litB_length] at hvc
       subst hvc
       have hc := hc8 31 (by rw [litB_length]; decide)
       have hf := hf8 31
       rw [litB_at, HX31.out] at hc
       have hb9 := (k8.grown hgrowc (by simp) (fun k hk => by simp [Value.ownBlock] at hk; omega)).setCell (p := ⟨gc, 31, none⟩) hgc (.int .u8 (q2 : Int))
       have hs8 := Owns.set (j := 31) (show Owns wc w8.heap.size _ (litB A 32) from hownc) (by rw [litB_length]) (UInt8.ofNat ((A + top) / 256 ^ 31))
       rw [HCS.out, HY31.out] at hs8
       have fc := hs8.bs
       have r9_t5 := World.rowIs.of_block r8_t5 (hb9.block _ (World.rowIs.lt r8_t5))
       have r9_t7 := World.rowIs.of_block r8_t7 (hb9.block _ (World.rowIs.lt r8_t7))
       have B9 := B8.trans (hb9.mono (HGS.out _ B8))
       clear r8_t5 r8_t7 B8 hb9 O8 F8 k8 hownc hgrowc hgsc hc8 hf8 hs8 f8_b hgc)
    | (refine wpList_store_arr rfl 28 (.tmp 10) (.tmp 53) rfl 4 arrE r11_t10 rfl rfl (by omega) (fun _ _ => rfl) ?_; intro x12 hr12 hg12 hs12
       have r12_t10 : x12.rowIs (w10.heap.size) 28 4 (ewF 0) := hr12.congr fun i hi => by unfold putN; rw [if_pos (by omega), Nat.sub_zero]
       have r12_t5 := gb_rowIs r11_t5 hg12 (Nat.ne_of_lt lt11_t5)
       have r12_t7 := gb_rowIs r11_t7 hg12 (Nat.ne_of_lt lt11_t7)
       have kc12 := kb11.grown hg12 (by simp) (by intro k hk; cases hk; exact Nat.le_refl _)
       have f12_c := Bs.below f10_c kc12 (Nat.le_refl _)
       have B12 := B11.grown hg12 (HGS.out _ B11) (by intro k hk; cases hk; exact g11)
       clear r11_t10 r11_t5 r11_t7 f10_c kc12 kb11 B11 hr12 hg12 hs12))
  have B := B12.drew
  have rt5 := World.rowIs.drew r12_t5
  have rt7 := World.rowIs.drew r12_t7
  have rt10 := World.rowIs.drew r12_t10
  have fc := Bs.drew f12_c
  clear B12 r12_t5 r12_t7 r12_t10 f12_c
  refine wp_region_lint (.rd 0 (.rd 1 (.rd 2 (.rd 3 (.rd 5 (.wr 4 (.wr 6 (.rd 7 (.rd 8 .done))))))))) (by kernel_rfl) (by kernel_rfl) (by decide) (by kernel_rfl) (fun d _ _ _ _ h => by cases d <;> exact h) ?_
  refine lint_pure 55 (Op.move (Operand.tmp 11)) 33 _ rfl rfl rfl rfl rfl (fun w0 hb0 => by unfold mkOp; go_simp; all_goals (with_reducible rfl)) ?_
  simp only [Act.put, List.setIfInBounds_toArray, List.set_cons_zero, List.set_cons_succ, Nat.zero_add]
  refine lint_pure 56 (Op.binOp BinOp.neq 33 (Operand.tmp 55) (Operand.const (Value.int IntKind.i64 2)) 33) 4 _ rfl rfl rfl rfl rfl (fun w0 hb0 => by unfold mkOp; go_simp; all_goals (with_reducible rfl)) ?_
  simp only [Act.put, List.setIfInBounds_toArray, List.set_cons_zero, List.set_cons_succ, Nat.zero_add]
  refine lint_pure 57 (Op.move (Operand.tmp 56)) 4 _ rfl rfl rfl rfl rfl (fun w0 hb0 => by unfold mkOp; go_simp; all_goals (with_reducible rfl)) ?_
  simp only [Act.put, List.setIfInBounds_toArray, List.set_cons_zero, List.set_cons_succ, Nat.zero_add]
  refine lint_pure 58 (Op.move (Operand.tmp 9)) 22 _ rfl rfl rfl rfl rfl (fun w0 hb0 => by unfold mkOp; go_simp; all_goals (with_reducible rfl)) ?_
  simp only [Act.put, List.setIfInBounds_toArray, List.set_cons_zero, List.set_cons_succ, Nat.zero_add]
  refine lint_pure 60 (Op.load 28 (Operand.tmp 5)) 28 (.agg (arrOf 4 fun i => ewF A (0 + i))) rfl rfl rfl rfl rfl (fun w0 hb0 => by exact exec_load_arr _ _ _ _ rfl arrE (World.rowIs.of_block rt5 (hb0.block _ (World.rowIs.lt rt5))) (by omega)) ?_
  simp only [Act.put, List.setIfInBounds_toArray, List.set_cons_zero, List.set_cons_succ, Nat.zero_add]
  refine stp_fn 59 13 #[Operand.tmp 58] #[22] _ (of5_is _ CT A _ fc HCO.out) rfl rfl rfl rfl Try.func13 (by kernel_rfl) (by kernel_rfl) (by go_simp) ?_
  rintro e w59 ⟨rfl, b59⟩
  replace B := B.trans (Below.mono b59 (HGS.out _ B))
  replace rt5 := World.rowIs.of_block rt5 (b59.block _ (World.rowIs.lt rt5))
  replace rt7 := World.rowIs.of_block rt7 (b59.block _ (World.rowIs.lt rt7))
  replace rt10 := World.rowIs.of_block rt10 (b59.block _ (World.rowIs.lt rt10))
  replace fc := Bs.below fc b59 (Nat.le_refl _)
  refine ⟨_, rfl, b59, ?_⟩
  simp only [Act.put, List.setIfInBounds_toArray, List.set_cons_zero, List.set_cons_succ, Nat.zero_add]
  refine stp_fn 61 28 #[Operand.tmp 59, Operand.tmp 60] #[28, 28] _ (same5_yes A A _ HA.out HA.out (rfl)) rfl rfl rfl rfl Try.func28 (by kernel_rfl) (by kernel_rfl) (by go_simp) ?_
  rintro e w61 ⟨rfl, b61⟩
  replace B := B.trans (Below.mono b61 (HGS.out _ B))
  replace rt5 := World.rowIs.of_block rt5 (b61.block _ (World.rowIs.lt rt5))
  replace rt7 := World.rowIs.of_block rt7 (b61.block _ (World.rowIs.lt rt7))
  replace rt10 := World.rowIs.of_block rt10 (b61.block _ (World.rowIs.lt rt10))
  replace fc := Bs.below fc b61 (Nat.le_refl _)
  refine ⟨_, rfl, b61, ?_⟩
  simp only [Act.put, List.setIfInBounds_toArray, List.set_cons_zero, List.set_cons_succ, Nat.zero_add]
  refine lint_pure 62 (Op.unOp UnOp.not 4 (Operand.tmp 61)) 4 _ rfl rfl rfl rfl rfl (fun w0 hb0 => by unfold mkOp; go_simp; all_goals (with_reducible rfl)) ?_
  simp only [Act.put, List.setIfInBounds_toArray, List.set_cons_zero, List.set_cons_succ, Nat.zero_add]
  refine lint_pure 63 (Op.pick (Operand.tmp 57) (Operand.const (Value.bool true)) (Operand.tmp 62)) 4 _ rfl rfl rfl rfl rfl (fun w0 hb0 => by unfold mkOp; go_simp; all_goals (with_reducible rfl)) ?_
  simp only [Act.put, List.setIfInBounds_toArray, List.set_cons_zero, List.set_cons_succ, Nat.zero_add]
  refine lint_end ?_
  clear fc
  go_wp2_with (first
    | (go_at_call 18
       first
         | (have hgo := B; clear hgo; refine (small_any 0 _ (by decide)).mono ?_; rintro e w13 ⟨rfl, hb13⟩
            have r13_t5 := World.rowIs.of_block rt5 (hb13.block _ (World.rowIs.lt rt5))
            have r13_t7 := World.rowIs.of_block rt7 (hb13.block _ (World.rowIs.lt rt7))
            have r13_t10 := World.rowIs.of_block rt10 (hb13.block _ (World.rowIs.lt rt10))
            have B13 := B.trans (hb13.mono (HGS.out _ B))
            clear rt5 rt7 rt10 B hb13)
         | (have hgo := B13; clear hgo; refine (small_any 1 _ (by decide)).mono ?_; rintro e w14 ⟨rfl, hb14⟩
            have r14_t5 := World.rowIs.of_block r13_t5 (hb14.block _ (World.rowIs.lt r13_t5))
            have r14_t7 := World.rowIs.of_block r13_t7 (hb14.block _ (World.rowIs.lt r13_t7))
            have r14_t10 := World.rowIs.of_block r13_t10 (hb14.block _ (World.rowIs.lt r13_t10))
            have B14 := B13.trans (hb14.mono (HGS.out _ B13))
            clear r13_t5 r13_t7 r13_t10 B13 hb14))
    | (go_at_call 22; have hgo := B14; clear hgo; refine (HSU.out _).mono ?_; rintro e w15 ⟨rfl, hb15⟩
       have r15_t5 := World.rowIs.of_block r14_t5 (hb15.block _ (World.rowIs.lt r14_t5))
       have r15_t7 := World.rowIs.of_block r14_t7 (hb15.block _ (World.rowIs.lt r14_t7))
       have r15_t10 := World.rowIs.of_block r14_t10 (hb15.block _ (World.rowIs.lt r14_t10))
       have B15 := B14.trans (hb15.mono (HGS.out _ B14))
       clear r14_t5 r14_t7 r14_t10 B14 hb15)
    | (go_at_call 35; have hgo := B15; clear hgo; refine (bytes_any PM _).mono ?_; rintro e w16 ⟨vp, rfl, hO16, hb16⟩
       have r16_t5 := World.rowIs.of_block r15_t5 (hb16.block _ (World.rowIs.lt r15_t5))
       have r16_t7 := World.rowIs.of_block r15_t7 (hb16.block _ (World.rowIs.lt r15_t7))
       have r16_t10 := World.rowIs.of_block r15_t10 (hb16.block _ (World.rowIs.lt r15_t10))
       have B16 := B15.trans (hb16.mono (HGS.out _ B15))
       obtain ⟨gp, cp, hvp, hgp, hgsp, hcp, hfp⟩ := hO16.open_cons (by rw [litB_length]; decide)
       rw [litB_length] at hvp
       subst hvp
       have hc0 := hcp 0 (by rw [litB_length]; decide)
       rw [HP0.out 0 _ rfl] at hc0
       have hf0 := hfp 0
       have hob := hO16
       have hg0 := Nat.le_trans (HGS.out _ B15) hgp
       clear hcp hfp hO16 hgp hgsp
       clear r15_t5 r15_t7 r15_t10 B15 hb16))
  have B := B16.drew
  have rt5 := World.rowIs.drew r16_t5
  have rt7 := World.rowIs.drew r16_t7
  have rt10 := World.rowIs.drew r16_t10
  clear B16 r16_t5 r16_t7 r16_t10
  have hwa : IntKind.u8.wrap 237 = 237 := by decide
  refine wp_region_lins [(0, some [10]), (1, some [10]), (2, some [10]), (3, some [10]), (4, some [10]), (5, some [6, 10]), (6, none), (7, some [10]), (8, some [10]), (9, some [10]), (10, none)] (fun c w' => c = 10 → w'.cell? ⟨gp, 0, none⟩ = some (.int .u8 236)) (by kernel_rfl) (by kernel_rfl) (by decide) (by kernel_rfl) (fun d _ _ _ _ h => by cases d <;> exact h) (fun c hc _ => hc0) ?_
  refine lins_read 71 (Op.move (Operand.tmp 12)) 22 _ rfl rfl rfl rfl rfl (fun w0 hw0 => by unfold mkOp; go_simp; all_goals (with_reducible rfl)) ?_
  simp only [Act.put, List.setIfInBounds_toArray, List.set_cons_zero, List.set_cons_succ]
  refine lins_read 72 (Op.move (Operand.tmp 12)) 22 _ rfl rfl rfl rfl rfl (fun w0 hw0 => by unfold mkOp; go_simp; all_goals (with_reducible rfl)) ?_
  simp only [Act.put, List.setIfInBounds_toArray, List.set_cons_zero, List.set_cons_succ]
  refine lins_read 73 (Op.indexAddr 22 (Operand.tmp 72) (Operand.const (Value.int IntKind.i64 0))) 0 _ rfl rfl rfl rfl rfl (fun w0 hw0 => by unfold mkOp; go_simp; all_goals (with_reducible rfl)) ?_
  simp only [Act.put, List.setIfInBounds_toArray, List.set_cons_zero, List.set_cons_succ]
  refine lins_read 74 (Op.load 5 (Operand.tmp 73)) 5 (.int .u8 236) rfl rfl rfl rfl rfl (fun w0 hw0 => by exact exec_load_cell _ _ _ _ rfl (by kernel_rfl) (hw0 10 (by simp) rfl)) ?_
  simp only [Act.put, List.setIfInBounds_toArray, List.set_cons_zero, List.set_cons_succ]
  refine lins_read 75 (Op.binOp BinOp.add 5 (Operand.tmp 74) (Operand.const (Value.int IntKind.u8 1)) 5) 5 (.int .u8 237) rfl rfl rfl rfl rfl (fun w0 hw0 => by unfold mkOp; go_simp; all_goals (with_reducible rfl)) ?_
  simp only [Act.put, List.setIfInBounds_toArray, List.set_cons_zero, List.set_cons_succ]
  refine lins_read 76 (Op.move (Operand.tmp 1)) 3 _ rfl rfl rfl rfl rfl (fun w0 hw0 => by unfold mkOp; go_simp; all_goals (with_reducible rfl)) ?_
  simp only [Act.put, List.setIfInBounds_toArray, List.set_cons_zero, List.set_cons_succ]
  refine lins_fn (some 77) 36 #[Operand.tmp 76, Operand.const (Value.int IntKind.i64 19)] #[3, 3] _ (HRW.out _) rfl rfl rfl rfl Try.func36 (by kernel_rfl) (by kernel_rfl) (by go_simp) ?_
  rintro e wr ⟨rfl, rfl⟩
  refine ⟨_, rfl, fun c w' => c = 10 → w'.cell? ⟨gp, 0, none⟩ = some (.int .u8 236), fun c hc => ⟨fun _ => hc0, fun w7 h => h⟩, ?_⟩
  simp only [Act.put, List.setIfInBounds_toArray, List.set_cons_zero, List.set_cons_succ]
  refine lins_read 78 (Op.convert 3 5 (Operand.tmp 77)) 5 (.int .u8 (r : Int)) rfl rfl rfl rfl rfl (fun w0 hw0 => by unfold mkOp; go_simp; all_goals (with_reducible rfl)) ?_
  simp only [Act.put, List.setIfInBounds_toArray, List.set_cons_zero, List.set_cons_succ]
  refine lins_read 79 (Op.binOp BinOp.add 5 (Operand.tmp 75) (Operand.tmp 78) 5) 5 (.int .u8 (s : Int)) rfl rfl rfl rfl rfl (fun w0 hw0 => by unfold mkOp; go_simp; all_goals (with_reducible rfl)) ?_
  simp only [Act.put, List.setIfInBounds_toArray, List.set_cons_zero, List.set_cons_succ]
  refine lins_read 80 (Op.indexAddr 22 (Operand.tmp 71) (Operand.const (Value.int IntKind.i64 0))) 0 _ rfl rfl rfl rfl rfl (fun w0 hw0 => by unfold mkOp; go_simp; all_goals (with_reducible rfl)) ?_
  simp only [Act.put, List.setIfInBounds_toArray, List.set_cons_zero, List.set_cons_succ]
  refine lins_store (Op.store 5 (Operand.tmp 80) (Operand.tmp 79)) 0 (_) rfl rfl rfl rfl rfl (by unfold mkOp; go_simp; all_goals (with_reducible rfl)) (fun _ _ => True) (fun c hc => by cases hc) ?_
  try simp only [Act.put, List.setIfInBounds_toArray, List.set_cons_zero, List.set_cons_succ]
  refine lins_end ?_
  have hs0 := Owns.set (j := 0) (Owns.drew hob) (by rw [litB_length]) (UInt8.ofNat (237 + r))
  rw [HPS.out, HS.out] at hs0
  have fp := hs0.bs
  replace B := B.setCell (p := ⟨gp, 0, none⟩) hg0 (.int .u8 (s : Int))
  clear hs0 hob hc0 hf0 rt5 rt7 rt10
  go_wp2_with (first
    | (go_at_call 15; have hgo := B; clear hgo; refine (strict5_none _ PR _ fp HPN.out).mono ?_; rintro e w17 ⟨rfl, hb17⟩
       have f17_p := Bs.below fp hb17 (Nat.le_refl _)
       have B17 := B.trans (hb17.mono (HGS.out _ B))
       clear fp B hb17
       have g18 := HGS.out _ B17
       try simp only [World.size_alloc] at g18
       have kb18 := (Below.refl w17.heap.size w17).alloc (Nat.le_refl _) (.cells (arrOf 4 (u64f fun _ => 0)) 28)
       have B18 := B17.alloc (HGS.out _ B17) (.cells (arrOf 4 (u64f fun _ => 0)) 28)
       have r18_t13 := rowIs_arr w17 4 (u64f fun _ => 0) 28
       try simp only [World.size_alloc] at r18_t13
       clear B17)
    | (refine wpList_alloc_arr rfl 28 rfl (arrOf 4 (u64f fun _ => 0)) zeroE ?_; try simp only [World.size_alloc])
    | (refine wpList_store_arr rfl 28 (.tmp 13) (.tmp 84) rfl 4 arrE r18_t13 rfl rfl (by omega) (fun _ _ => rfl) ?_; intro x19 hr19 hg19 hs19
       have r19_t13 : x19.rowIs (w17.heap.size) 28 4 (ewF 0) := hr19.congr fun i hi => by unfold putN; rw [if_pos (by omega), Nat.sub_zero]
       have kc19 := kb18.grown hg19 (by simp) (by intro k hk; cases hk; exact Nat.le_refl _)
       have f19_p := Bs.below f17_p kc19 (Nat.le_refl _)
       have B19 := B18.grown hg19 (HGS.out _ B18) (by intro k hk; cases hk; exact g18)
       clear r18_t13 f17_p kc19 kb18 B18 hr19 hg19 hs19))
  have B := B19.drew
  have rt13 := World.rowIs.drew r19_t13
  have fp := Bs.drew f19_p
  clear B19 r19_t13 f19_p
  refine wp_region_lint (.rd 0 (.rd 1 (.rd 2 (.rd 3 (.wr 4 (.wr 5 (.rd 6 (.rd 7 (.rd 8 (.rd 10 (.wr 9 (.wr 11 (.rd 12 (.wr 13 (.wr 14 (.rd 15 (.rd 16 (.wr 17 (.rd 18 (.rd 19 .done)))))))))))))))))))) (by kernel_rfl) (by kernel_rfl) (by decide) (by kernel_rfl) (fun d _ _ _ _ h => by cases d <;> exact h) ?_
  refine lint_pure 86 (Op.move (Operand.tmp 14)) 33 _ rfl rfl rfl rfl rfl (fun w0 hb0 => by unfold mkOp; go_simp; all_goals (with_reducible rfl)) ?_
  simp only [Act.put, List.setIfInBounds_toArray, List.set_cons_zero, List.set_cons_succ, Nat.zero_add]
  refine lint_pure 87 (Op.binOp BinOp.eql 33 (Operand.tmp 86) (Operand.const (Value.int IntKind.i64 2)) 33) 4 _ rfl rfl rfl rfl rfl (fun w0 hb0 => by unfold mkOp; go_simp; all_goals (with_reducible rfl)) ?_
  simp only [Act.put, List.setIfInBounds_toArray, List.set_cons_zero, List.set_cons_succ, Nat.zero_add]
  refine lint_pure 88 (Op.move (Operand.tmp 87)) 4 _ rfl rfl rfl rfl rfl (fun w0 hb0 => by unfold mkOp; go_simp; all_goals (with_reducible rfl)) ?_
  simp only [Act.put, List.setIfInBounds_toArray, List.set_cons_zero, List.set_cons_succ, Nat.zero_add]
  refine lint_pure 89 (Op.load 28 (Operand.tmp 13)) 28 (.agg (arrOf 4 fun i => ewF 0 (0 + i))) rfl rfl rfl rfl rfl (fun w0 hb0 => by exact exec_load_arr _ _ _ _ rfl arrE (World.rowIs.of_block rt13 (hb0.block _ (World.rowIs.lt rt13))) (by omega)) ?_
  simp only [Act.put, List.setIfInBounds_toArray, List.set_cons_zero, List.set_cons_succ, Nat.zero_add]
  refine stp_fn 90 18 #[Operand.const (Value.int IntKind.u64 0)] #[23] _ (small_any 0 _ (by decide)) rfl rfl rfl rfl Try.func18 (by kernel_rfl) (by kernel_rfl) (by go_simp) ?_
  rintro e w90 ⟨rfl, b90⟩
  replace B := B.trans (Below.mono b90 (HGS.out _ B))
  replace rt13 := World.rowIs.of_block rt13 (b90.block _ (World.rowIs.lt rt13))
  replace fp := Bs.below fp b90 (Nat.le_refl _)
  refine ⟨_, rfl, b90, ?_⟩
  simp only [Act.put, List.setIfInBounds_toArray, List.set_cons_zero, List.set_cons_succ, Nat.zero_add]
  refine stp_fn 91 28 #[Operand.tmp 89, Operand.tmp 90] #[28, 28] _ (same5_yes 0 0 _ (by decide +kernel) (by decide +kernel) (rfl)) rfl rfl rfl rfl Try.func28 (by kernel_rfl) (by kernel_rfl) (by go_simp) ?_
  rintro e w91 ⟨rfl, b91⟩
  replace B := B.trans (Below.mono b91 (HGS.out _ B))
  replace rt13 := World.rowIs.of_block rt13 (b91.block _ (World.rowIs.lt rt13))
  replace fp := Bs.below fp b91 (Nat.le_refl _)
  refine ⟨_, rfl, b91, ?_⟩
  simp only [Act.put, List.setIfInBounds_toArray, List.set_cons_zero, List.set_cons_succ, Nat.zero_add]
  refine lint_pure 92 (Op.pick (Operand.tmp 88) (Operand.tmp 91) (Operand.const (Value.bool false))) 4 _ rfl rfl rfl rfl rfl (fun w0 hb0 => by unfold mkOp; go_simp; all_goals (with_reducible rfl)) ?_
  simp only [Act.put, List.setIfInBounds_toArray, List.set_cons_zero, List.set_cons_succ, Nat.zero_add]
  refine lint_pure 93 (Op.move (Operand.tmp 92)) 4 _ rfl rfl rfl rfl rfl (fun w0 hb0 => by unfold mkOp; go_simp; all_goals (with_reducible rfl)) ?_
  simp only [Act.put, List.setIfInBounds_toArray, List.set_cons_zero, List.set_cons_succ, Nat.zero_add]
  refine lint_pure 94 (Op.move (Operand.tmp 12)) 22 _ rfl rfl rfl rfl rfl (fun w0 hb0 => by unfold mkOp; go_simp; all_goals (with_reducible rfl)) ?_
  simp only [Act.put, List.setIfInBounds_toArray, List.set_cons_zero, List.set_cons_succ, Nat.zero_add]
  refine lint_pure 96 (Op.move (Operand.tmp 1)) 3 _ rfl rfl rfl rfl rfl (fun w0 hb0 => by unfold mkOp; go_simp; all_goals (with_reducible rfl)) ?_
  simp only [Act.put, List.setIfInBounds_toArray, List.set_cons_zero, List.set_cons_succ, Nat.zero_add]
  refine stp_fn 95 13 #[Operand.tmp 94] #[22] _ (of5_is _ PR r _ fp HPO.out) rfl rfl rfl rfl Try.func13 (by kernel_rfl) (by kernel_rfl) (by go_simp) ?_
  rintro e w95 ⟨rfl, b95⟩
  replace B := B.trans (Below.mono b95 (HGS.out _ B))
  replace rt13 := World.rowIs.of_block rt13 (b95.block _ (World.rowIs.lt rt13))
  replace fp := Bs.below fp b95 (Nat.le_refl _)
  refine ⟨_, rfl, b95, ?_⟩
  simp only [Act.put, List.setIfInBounds_toArray, List.set_cons_zero, List.set_cons_succ, Nat.zero_add]
  refine stp_fn 97 36 #[Operand.tmp 96, Operand.const (Value.int IntKind.i64 19)] #[3, 3] _ (HRB.out _) rfl rfl rfl rfl Try.func36 (by kernel_rfl) (by kernel_rfl) (by go_simp) ?_
  rintro e w97 ⟨rfl, b97⟩
  replace B := B.trans (Below.mono b97 (HGS.out _ B))
  replace rt13 := World.rowIs.of_block rt13 (b97.block _ (World.rowIs.lt rt13))
  replace fp := Bs.below fp b97 (Nat.le_refl _)
  refine ⟨_, rfl, b97, ?_⟩
  simp only [Act.put, List.setIfInBounds_toArray, List.set_cons_zero, List.set_cons_succ, Nat.zero_add]
  refine lint_pure 98 (Op.convert 3 23 (Operand.tmp 97)) 23 (.int .u64 (r : Int)) rfl rfl rfl rfl rfl (fun w0 hb0 => by unfold mkOp; go_simp; all_goals (with_reducible rfl)) ?_
  simp only [Act.put, List.setIfInBounds_toArray, List.set_cons_zero, List.set_cons_succ, Nat.zero_add]
  refine stp_fn 99 18 #[Operand.tmp 98] #[23] _ (small_any r _ Lr.out) rfl rfl rfl rfl Try.func18 (by kernel_rfl) (by kernel_rfl) (by go_simp) ?_
  rintro e w99 ⟨rfl, b99⟩
  replace B := B.trans (Below.mono b99 (HGS.out _ B))
  replace rt13 := World.rowIs.of_block rt13 (b99.block _ (World.rowIs.lt rt13))
  replace fp := Bs.below fp b99 (Nat.le_refl _)
  refine ⟨_, rfl, b99, ?_⟩
  simp only [Act.put, List.setIfInBounds_toArray, List.set_cons_zero, List.set_cons_succ, Nat.zero_add]
  refine stp_fn 100 28 #[Operand.tmp 95, Operand.tmp 99] #[28, 28] _ (same5_yes r r _ Hr.out Hr.out (rfl)) rfl rfl rfl rfl Try.func28 (by kernel_rfl) (by kernel_rfl) (by go_simp) ?_
  rintro e w100 ⟨rfl, b100⟩
  replace B := B.trans (Below.mono b100 (HGS.out _ B))
  replace rt13 := World.rowIs.of_block rt13 (b100.block _ (World.rowIs.lt rt13))
  replace fp := Bs.below fp b100 (Nat.le_refl _)
  refine ⟨_, rfl, b100, ?_⟩
  simp only [Act.put, List.setIfInBounds_toArray, List.set_cons_zero, List.set_cons_succ, Nat.zero_add]
  refine lint_pure 101 (Op.pick (Operand.tmp 93) (Operand.tmp 100) (Operand.const (Value.bool false))) 4 _ rfl rfl rfl rfl rfl (fun w0 hb0 => by unfold mkOp; go_simp; all_goals (with_reducible rfl)) ?_
  simp only [Act.put, List.setIfInBounds_toArray, List.set_cons_zero, List.set_cons_succ, Nat.zero_add]
  refine lint_pure 102 (Op.move (Operand.tmp 101)) 4 _ rfl rfl rfl rfl rfl (fun w0 hb0 => by unfold mkOp; go_simp; all_goals (with_reducible rfl)) ?_
  simp only [Act.put, List.setIfInBounds_toArray, List.set_cons_zero, List.set_cons_succ, Nat.zero_add]
  refine stp_fn 103 12 #[] #[] _ (awake5_any _) rfl rfl rfl rfl Try.func12 (by kernel_rfl) (by kernel_rfl) (by go_simp) ?_
  rintro e w103 ⟨rfl, b103⟩
  replace B := B.trans (Below.mono b103 (HGS.out _ B))
  replace rt13 := World.rowIs.of_block rt13 (b103.block _ (World.rowIs.lt rt13))
  replace fp := Bs.below fp b103 (Nat.le_refl _)
  refine ⟨_, rfl, b103, ?_⟩
  simp only [Act.put, List.setIfInBounds_toArray, List.set_cons_zero, List.set_cons_succ, Nat.zero_add]
  refine lint_pure 104 (Op.pick (Operand.tmp 102) (Operand.tmp 103) (Operand.const (Value.bool false))) 4 _ rfl rfl rfl rfl rfl (fun w0 hb0 => by unfold mkOp; go_simp; all_goals (with_reducible rfl)) ?_
  simp only [Act.put, List.setIfInBounds_toArray, List.set_cons_zero, List.set_cons_succ, Nat.zero_add]
  refine lint_pure 4 (Op.assign (Operand.tmp 104)) 4 _ rfl rfl rfl rfl rfl (fun w0 hb0 => by unfold mkOp; go_simp; all_goals (with_reducible rfl)) ?_
  simp only [Act.put, List.setIfInBounds_toArray, List.set_cons_zero, List.set_cons_succ, Nat.zero_add]
  refine lint_end ?_
  go_wp2
  go_ret
  exact ⟨rfl, B⟩
end Go.Proofs.Ythapdohblphlgaa
