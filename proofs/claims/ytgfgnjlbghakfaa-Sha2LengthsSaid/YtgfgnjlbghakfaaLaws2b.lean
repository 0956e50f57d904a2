/- missivelaw2.Sha2Sums and Sha2Lengths: the walks. -/
import Derived.Test.YtgfgnjlbghakfaaLaws2
import Derived.Test.YtgfgnjlbghakfaaRefA
import Derived.Test.YtgfgnjlbghakfaaRefB
namespace Go.Proofs.Ytgfgnjlbghakfaa
open Go.RowKit Go.Deep

set_option maxHeartbeats 16000000 in
set_option maxRecDepth 100000 in
theorem law_sha2Sums (w : World) (v : Value) (L : List (List UInt8)) (hv : Bss w v L) :
    Calls Try.prog 3 #[v] w fun e w' => e = .returned (.bool true) ∧ Below w.heap.size w w' := by
  have HV := Lib.hid hv
  obtain ⟨a, cap, rfl, h1, h2, h3, h4⟩ := hv
  clear h3 h4
  unfold maxLen at h2
  go_enter Try.func3, Try.ntmps3
  go_wp2_with fail
  refine (all_any _ L 400 _ HV.out (by omega)).mono ?_
  rintro e w1 ⟨s, rfl, hs, hL, hb1⟩
  by_cases c1 : 400 < s
  · have d1 : (400 : Int) < (s : Int) := by omega
    go_wp2_with (go_at_call 8; refine (awake2_any _).mono ?_; rintro e w2 ⟨rfl, hb2⟩)
    go_ret
    exact ⟨rfl, hb1.trans (hb2.mono hb1.size)⟩
  have d1 : ¬ (400 : Int) < (s : Int) := by omega
  have hlen : L.flatten.length + L.length ≤ 400 := hL (by omega)
  clear hL
  go_wp2_with (go_at_call 9; refine (alikeCat_any _ L _ (HV.out.below hb1 (Nat.le_refl _)) (by omega)).mono ?_; rintro e w2 ⟨vc, rfl, hO, hb2⟩)
  have HW : Bss w2.drew _ L := (HV.out.below hb1 (Nat.le_refl _)).below (Below.drew hb2) (Nat.le_refl _)
  have HB : Bs w2.drew vc L.flatten := (Owns.drew hO).bs
  have B : Below w.heap.size w w2.drew := (hb1.trans (hb2.mono hb1.size)).drew
  clear hO hb1 hb2
  refine wp_region_lint (.rd 0 (.rd 3 (.wr 1 (.rd 2 (.wr 4 (.rd 5 (.rd 6 (.rd 7 (.rd 8 (.rd 11 (.wr 9 (.rd 10 (.wr 12 (.rd 13 (.rd 14 (.rd 15 (.rd 16 (.wr 17 (.rd 18 (.rd 19 .done)))))))))))))))))))) (by kernel_rfl) (by kernel_rfl) (by decide) (by kernel_rfl) (fun d _ _ _ _ h => by cases d <;> exact h) ?_
  refine lint_pure 10 (Op.move (Operand.tmp 0)) 22 _ rfl rfl rfl rfl rfl (fun w0 hb0 => by unfold mkOp; go_simp; all_goals (with_reducible rfl)) ?_
  simp only [Act.put, List.setIfInBounds_toArray, List.set_cons_zero, List.set_cons_succ]
  refine lint_pure 13 (Op.move (Operand.tmp 3)) 25 _ rfl rfl rfl rfl rfl (fun w0 hb0 => by unfold mkOp; go_simp; all_goals (with_reducible rfl)) ?_
  simp only [Act.put, List.setIfInBounds_toArray, List.set_cons_zero, List.set_cons_succ]
  refine stp_fn 11 10 #[Operand.tmp 10] #[22] _ (sum256_any _ L _ HW (by omega)) rfl rfl rfl rfl Try.func10 (by kernel_rfl) (by kernel_rfl) (by go_simp) ?_
  rintro e w11 ⟨v11, rfl, HS1, b11⟩
  replace HW := Bss.below HW b11 (Nat.le_refl _)
  replace HB := Bs.below HB b11 (Nat.le_refl _)
  replace B := B.trans (Below.mono b11 B.size)
  (try replace HS1 := Bs.below HS1 b11 (Nat.le_refl _))
  (try replace HS2 := Bs.below HS2 b11 (Nat.le_refl _))
  (try replace HS3 := Bs.below HS3 b11 (Nat.le_refl _))
  (try replace HS4 := Bs.below HS4 b11 (Nat.le_refl _))
  refine ⟨_, rfl, b11, ?_⟩
  simp only [Act.put, List.setIfInBounds_toArray, List.set_cons_zero, List.set_cons_succ]
  refine lint_conv 12 (Operand.tmp 11) _ _ rfl rfl rfl rfl rfl HS1 ?_
  simp only [Act.put, List.setIfInBounds_toArray, List.set_cons_zero, List.set_cons_succ]
  refine stp_fn 14 11 #[Operand.tmp 13] #[25] _ (ref256_any _ _ _ HB (by omega)) rfl rfl rfl rfl Try.func11 (by kernel_rfl) (by kernel_rfl) (by go_simp) ?_
  rintro e w14 ⟨v14, rfl, HS2, b14⟩
  replace HW := Bss.below HW b14 (Nat.le_refl _)
  replace HB := Bs.below HB b14 (Nat.le_refl _)
  replace B := B.trans (Below.mono b14 B.size)
  (try replace HS1 := Bs.below HS1 b14 (Nat.le_refl _))
  (try replace HS2 := Bs.below HS2 b14 (Nat.le_refl _))
  (try replace HS3 := Bs.below HS3 b14 (Nat.le_refl _))
  (try replace HS4 := Bs.below HS4 b14 (Nat.le_refl _))
  refine ⟨_, rfl, b14, ?_⟩
  simp only [Act.put, List.setIfInBounds_toArray, List.set_cons_zero, List.set_cons_succ]
  refine lint_conv 15 (Operand.tmp 14) _ _ rfl rfl rfl rfl rfl HS2 ?_
  simp only [Act.put, List.setIfInBounds_toArray, List.set_cons_zero, List.set_cons_succ]
  refine lint_pure 16 (Op.binOp BinOp.eql 9 (Operand.tmp 12) (Operand.tmp 15) 9) 4 _ rfl rfl rfl rfl rfl (fun w0 hb0 => by unfold mkOp; go_simp; all_goals (with_reducible rfl)) ?_
  simp only [Act.put, List.setIfInBounds_toArray, List.set_cons_zero, List.set_cons_succ]
  refine lint_pure 17 (Op.move (Operand.tmp 16)) 4 _ rfl rfl rfl rfl rfl (fun w0 hb0 => by unfold mkOp; go_simp; all_goals (with_reducible rfl)) ?_
  simp only [Act.put, List.setIfInBounds_toArray, List.set_cons_zero, List.set_cons_succ]
  refine lint_pure 18 (Op.move (Operand.tmp 0)) 22 _ rfl rfl rfl rfl rfl (fun w0 hb0 => by unfold mkOp; go_simp; all_goals (with_reducible rfl)) ?_
  simp only [Act.put, List.setIfInBounds_toArray, List.set_cons_zero, List.set_cons_succ]
  refine lint_pure 21 (Op.move (Operand.tmp 3)) 25 _ rfl rfl rfl rfl rfl (fun w0 hb0 => by unfold mkOp; go_simp; all_goals (with_reducible rfl)) ?_
  simp only [Act.put, List.setIfInBounds_toArray, List.set_cons_zero, List.set_cons_succ]
  refine stp_fn 19 12 #[Operand.tmp 18] #[22] _ (sum512_any _ L _ HW (by omega)) rfl rfl rfl rfl Try.func12 (by kernel_rfl) (by kernel_rfl) (by go_simp) ?_
  rintro e w19 ⟨v19, rfl, HS3, b19⟩
  replace HW := Bss.below HW b19 (Nat.le_refl _)
  replace HB := Bs.below HB b19 (Nat.le_refl _)
  replace B := B.trans (Below.mono b19 B.size)
  (try replace HS1 := Bs.below HS1 b19 (Nat.le_refl _))
  (try replace HS2 := Bs.below HS2 b19 (Nat.le_refl _))
  (try replace HS3 := Bs.below HS3 b19 (Nat.le_refl _))
  (try replace HS4 := Bs.below HS4 b19 (Nat.le_refl _))
  refine ⟨_, rfl, b19, ?_⟩
  simp only [Act.put, List.setIfInBounds_toArray, List.set_cons_zero, List.set_cons_succ]
  refine lint_conv 20 (Operand.tmp 19) _ _ rfl rfl rfl rfl rfl HS3 ?_
  simp only [Act.put, List.setIfInBounds_toArray, List.set_cons_zero, List.set_cons_succ]
  refine stp_fn 22 13 #[Operand.tmp 21] #[25] _ (ref512_any _ _ _ HB (by omega)) rfl rfl rfl rfl Try.func13 (by kernel_rfl) (by kernel_rfl) (by go_simp) ?_
  rintro e w22 ⟨v22, rfl, HS4, b22⟩
  replace HW := Bss.below HW b22 (Nat.le_refl _)
  replace HB := Bs.below HB b22 (Nat.le_refl _)
  replace B := B.trans (Below.mono b22 B.size)
  (try replace HS1 := Bs.below HS1 b22 (Nat.le_refl _))
  (try replace HS2 := Bs.below HS2 b22 (Nat.le_refl _))
  (try replace HS3 := Bs.below HS3 b22 (Nat.le_refl _))
  (try replace HS4 := Bs.below HS4 b22 (Nat.le_refl _))
  refine ⟨_, rfl, b22, ?_⟩
  simp only [Act.put, List.setIfInBounds_toArray, List.set_cons_zero, List.set_cons_succ]
  refine lint_conv 23 (Operand.tmp 22) _ _ rfl rfl rfl rfl rfl HS4 ?_
  simp only [Act.put, List.setIfInBounds_toArray, List.set_cons_zero, List.set_cons_succ]
  refine lint_pure 24 (Op.binOp BinOp.eql 9 (Operand.tmp 20) (Operand.tmp 23) 9) 4 _ rfl rfl rfl rfl rfl (fun w0 hb0 => by unfold mkOp; go_simp; all_goals (with_reducible rfl)) ?_
  simp only [Act.put, List.setIfInBounds_toArray, List.set_cons_zero, List.set_cons_succ]
  refine lint_pure 25 (Op.pick (Operand.tmp 17) (Operand.tmp 24) (Operand.const (Value.bool false))) 4 _ rfl rfl rfl rfl rfl (fun w0 hb0 => by unfold mkOp; go_simp; all_goals (with_reducible rfl)) ?_
  simp only [Act.put, List.setIfInBounds_toArray, List.set_cons_zero, List.set_cons_succ]
  refine lint_pure 26 (Op.move (Operand.tmp 25)) 4 _ rfl rfl rfl rfl rfl (fun w0 hb0 => by unfold mkOp; go_simp; all_goals (with_reducible rfl)) ?_
  simp only [Act.put, List.setIfInBounds_toArray, List.set_cons_zero, List.set_cons_succ]
  refine stp_fn 27 8 #[] #[] _ (awake2_any _) rfl rfl rfl rfl Try.func8 (by kernel_rfl) (by kernel_rfl) (by go_simp) ?_
  rintro e w27 ⟨rfl, b27⟩
  replace B := B.trans (Below.mono b27 B.size)
  refine ⟨_, rfl, b27, ?_⟩
  simp only [Act.put, List.setIfInBounds_toArray, List.set_cons_zero, List.set_cons_succ]
  refine lint_pure 28 (Op.pick (Operand.tmp 26) (Operand.tmp 27) (Operand.const (Value.bool false))) 4 _ rfl rfl rfl rfl rfl (fun w0 hb0 => by unfold mkOp; go_simp; all_goals (with_reducible rfl)) ?_
  simp only [Act.put, List.setIfInBounds_toArray, List.set_cons_zero, List.set_cons_succ]
  refine lint_pure 2 (Op.assign (Operand.tmp 28)) 4 _ rfl rfl rfl rfl rfl (fun w0 hb0 => by unfold mkOp; go_simp; all_goals (with_reducible rfl)) ?_
  simp only [Act.put, List.setIfInBounds_toArray, List.set_cons_zero, List.set_cons_succ]
  refine lint_end ?_
  all_goals go_wp2
  all_goals go_ret
  all_goals exact ⟨rfl, B⟩

theorem Bs.zeros (w : World) (n : Nat) (hn : n ≤ 9223372036854775807) : Bs (w.alloc (.cells (madeCells #[.int .u8 0] n) 5)) (.slice (some ⟨w.heap.size, 0, none⟩) n n) (List.replicate n 0) := by
  have h := Bs.of_rowIs (World.rowIs_made w (.int .u8 0) n 5) (List.replicate n 0) (by simp) (by unfold maxLen; omega) (by intro i hi; simp)
  simpa using h

set_option maxHeartbeats 16000000 in
set_option maxRecDepth 100000 in
theorem law_sha2Lengths (w : World) (x : Int) (hx : (Lit.int .i64 x).wf = true) :
    Calls Try.prog 5 #[.int .i64 x] w fun e w' => e = .returned (.bool true) ∧ Below w.heap.size w w' := by
  obtain ⟨hx0, hx1⟩ := bd_i64 hx
  clear hx
  by_cases c1 : x < 0
  · go_enter Try.func5, Try.ntmps5
    go_wp2_with (go_at_call 8; refine (awake2_any _).mono ?_; rintro e w2 ⟨rfl, hb2⟩)
    go_ret
    exact ⟨rfl, hb2⟩
  by_cases c2 : 300 < x
  · go_enter Try.func5, Try.ntmps5
    go_wp2_with (go_at_call 8; refine (awake2_any _).mono ?_; rintro e w2 ⟨rfl, hb2⟩)
    go_ret
    exact ⟨rfl, hb2⟩
  obtain ⟨n, rfl⟩ := Int.eq_ofNat_of_zero_le (show 0 ≤ x by omega)
  have hn : n ≤ 300 := by omega
  have hmk := fun (w : World) => run_make_row' (P := Try.prog) 25 5 (.int .u8 0) 1 Try.underlying25 Try.info5 rfl .i64 .i64 n (by omega) (by omega) w
  have hz := Bs.zeros w n (by omega)
  have hb : Below w.heap.size w (w.alloc (.cells (madeCells #[.int .u8 0] n) 5)) := (Below.refl _ _).alloc (Nat.le_refl _) _
  go_enter Try.func5, Try.ntmps5
  go_wp2
  clear hmk
  generalize (w.alloc (.cells (madeCells #[.int .u8 0] n) 5)) = w2 at *
  have HB : Bs w2.drew _ (List.replicate n 0) := hz
  have B : Below w.heap.size w w2.drew := hb.drew
  clear hz hb
  refine wp_region_lint (.rd 0 (.rd 4 (.wr 1 (.wr 2 (.rd 3 (.wr 5 (.rd 6 (.rd 7 (.rd 8 (.rd 9 (.rd 13 (.wr 10 (.wr 11 (.rd 12 (.wr 14 (.rd 15 (.rd 16 (.rd 17 (.rd 18 (.wr 19 (.rd 20 (.rd 21 .done)))))))))))))))))))))) (by kernel_rfl) (by kernel_rfl) (by decide) (by kernel_rfl) (fun d _ _ _ _ h => by cases d <;> exact h) ?_
  refine lint_pure 13 (Op.move (Operand.tmp 3)) 25 _ rfl rfl rfl rfl rfl (fun w0 hb0 => by unfold mkOp; go_simp; all_goals (with_reducible rfl)) ?_
  simp only [Act.put, List.setIfInBounds_toArray, List.set_cons_zero, List.set_cons_succ]
  refine lint_pure 17 (Op.move (Operand.tmp 3)) 25 _ rfl rfl rfl rfl rfl (fun w0 hb0 => by unfold mkOp; go_simp; all_goals (with_reducible rfl)) ?_
  simp only [Act.put, List.setIfInBounds_toArray, List.set_cons_zero, List.set_cons_succ]
  refine stp_rows1 14 (.tmp 13) _ rfl rfl rfl rfl rfl HB rfl ?_
  intro w14 v14 HR1 b14
  replace HB := Bs.below HB b14 (Nat.le_refl _)
  replace B := B.trans (Below.mono b14 B.size)
  (try replace HR2 := Bss.below HR2 b14 (Nat.le_refl _))
  (try replace HS1 := Bs.below HS1 b14 (Nat.le_refl _))
  (try replace HS2 := Bs.below HS2 b14 (Nat.le_refl _))
  (try replace HS3 := Bs.below HS3 b14 (Nat.le_refl _))
  (try replace HS4 := Bs.below HS4 b14 (Nat.le_refl _))
  simp only [Act.put, List.setIfInBounds_toArray, List.set_cons_zero, List.set_cons_succ]
  refine stp_fn 15 10 #[Operand.tmp 14] #[22] _ (sum256_any _ [List.replicate n 0] _ HR1 (by simp; omega)) rfl rfl rfl rfl Try.func10 (by kernel_rfl) (by kernel_rfl) (by go_simp) ?_
  rintro e w15 ⟨v15, rfl, HS1, b15⟩
  rw [show [List.replicate n (0 : UInt8)].flatten = List.replicate n 0 from by simp] at HS1
  replace HB := Bs.below HB b15 (Nat.le_refl _)
  replace B := B.trans (Below.mono b15 B.size)
  (try replace HR1 := Bss.below HR1 b15 (Nat.le_refl _))
  (try replace HR2 := Bss.below HR2 b15 (Nat.le_refl _))
  (try replace HS1 := Bs.below HS1 b15 (Nat.le_refl _))
  (try replace HS2 := Bs.below HS2 b15 (Nat.le_refl _))
  (try replace HS3 := Bs.below HS3 b15 (Nat.le_refl _))
  (try replace HS4 := Bs.below HS4 b15 (Nat.le_refl _))
  refine ⟨_, rfl, b15, ?_⟩
  simp only [Act.put, List.setIfInBounds_toArray, List.set_cons_zero, List.set_cons_succ]
  refine lint_conv 16 (Operand.tmp 15) _ _ rfl rfl rfl rfl rfl HS1 ?_
  simp only [Act.put, List.setIfInBounds_toArray, List.set_cons_zero, List.set_cons_succ]
  refine stp_fn 18 11 #[Operand.tmp 17] #[25] _ (ref256_any _ _ _ HB (by simp; omega)) rfl rfl rfl rfl Try.func11 (by kernel_rfl) (by kernel_rfl) (by go_simp) ?_
  rintro e w18 ⟨v18, rfl, HS2, b18⟩
  replace HB := Bs.below HB b18 (Nat.le_refl _)
  replace B := B.trans (Below.mono b18 B.size)
  (try replace HR1 := Bss.below HR1 b18 (Nat.le_refl _))
  (try replace HR2 := Bss.below HR2 b18 (Nat.le_refl _))
  (try replace HS1 := Bs.below HS1 b18 (Nat.le_refl _))
  (try replace HS2 := Bs.below HS2 b18 (Nat.le_refl _))
  (try replace HS3 := Bs.below HS3 b18 (Nat.le_refl _))
  (try replace HS4 := Bs.below HS4 b18 (Nat.le_refl _))
  refine ⟨_, rfl, b18, ?_⟩
  simp only [Act.put, List.setIfInBounds_toArray, List.set_cons_zero, List.set_cons_succ]
  refine lint_conv 19 (Operand.tmp 18) _ _ rfl rfl rfl rfl rfl HS2 ?_
  simp only [Act.put, List.setIfInBounds_toArray, List.set_cons_zero, List.set_cons_succ]
  refine lint_pure 20 (Op.binOp BinOp.eql 9 (Operand.tmp 16) (Operand.tmp 19) 9) 4 _ rfl rfl rfl rfl rfl (fun w0 hb0 => by unfold mkOp; go_simp; all_goals (with_reducible rfl)) ?_
  simp only [Act.put, List.setIfInBounds_toArray, List.set_cons_zero, List.set_cons_succ]
  refine lint_pure 21 (Op.move (Operand.tmp 20)) 4 _ rfl rfl rfl rfl rfl (fun w0 hb0 => by unfold mkOp; go_simp; all_goals (with_reducible rfl)) ?_
  simp only [Act.put, List.setIfInBounds_toArray, List.set_cons_zero, List.set_cons_succ]
  refine lint_pure 22 (Op.move (Operand.tmp 3)) 25 _ rfl rfl rfl rfl rfl (fun w0 hb0 => by unfold mkOp; go_simp; all_goals (with_reducible rfl)) ?_
  simp only [Act.put, List.setIfInBounds_toArray, List.set_cons_zero, List.set_cons_succ]
  refine lint_pure 26 (Op.move (Operand.tmp 3)) 25 _ rfl rfl rfl rfl rfl (fun w0 hb0 => by unfold mkOp; go_simp; all_goals (with_reducible rfl)) ?_
  simp only [Act.put, List.setIfInBounds_toArray, List.set_cons_zero, List.set_cons_succ]
  refine stp_rows1 23 (.tmp 22) _ rfl rfl rfl rfl rfl HB rfl ?_
  intro w23 v23 HR2 b23
  replace HB := Bs.below HB b23 (Nat.le_refl _)
  replace B := B.trans (Below.mono b23 B.size)
  (try replace HR1 := Bss.below HR1 b23 (Nat.le_refl _))
  (try replace HS1 := Bs.below HS1 b23 (Nat.le_refl _))
  (try replace HS2 := Bs.below HS2 b23 (Nat.le_refl _))
  (try replace HS3 := Bs.below HS3 b23 (Nat.le_refl _))
  (try replace HS4 := Bs.below HS4 b23 (Nat.le_refl _))
  simp only [Act.put, List.setIfInBounds_toArray, List.set_cons_zero, List.set_cons_succ]
  refine stp_fn 24 12 #[Operand.tmp 23] #[22] _ (sum512_any _ [List.replicate n 0] _ HR2 (by simp; omega)) rfl rfl rfl rfl Try.func12 (by kernel_rfl) (by kernel_rfl) (by go_simp) ?_
  rintro e w24 ⟨v24, rfl, HS3, b24⟩
  rw [show [List.replicate n (0 : UInt8)].flatten = List.replicate n 0 from by simp] at HS3
  replace HB := Bs.below HB b24 (Nat.le_refl _)
  replace B := B.trans (Below.mono b24 B.size)
  (try replace HR1 := Bss.below HR1 b24 (Nat.le_refl _))
  (try replace HR2 := Bss.below HR2 b24 (Nat.le_refl _))
  (try replace HS1 := Bs.below HS1 b24 (Nat.le_refl _))
  (try replace HS2 := Bs.below HS2 b24 (Nat.le_refl _))
  (try replace HS3 := Bs.below HS3 b24 (Nat.le_refl _))
  (try replace HS4 := Bs.below HS4 b24 (Nat.le_refl _))
  refine ⟨_, rfl, b24, ?_⟩
  simp only [Act.put, List.setIfInBounds_toArray, List.set_cons_zero, List.set_cons_succ]
  refine lint_conv 25 (Operand.tmp 24) _ _ rfl rfl rfl rfl rfl HS3 ?_
  simp only [Act.put, List.setIfInBounds_toArray, List.set_cons_zero, List.set_cons_succ]
  refine stp_fn 27 13 #[Operand.tmp 26] #[25] _ (ref512_any _ _ _ HB (by simp; omega)) rfl rfl rfl rfl Try.func13 (by kernel_rfl) (by kernel_rfl) (by go_simp) ?_
  rintro e w27 ⟨v27, rfl, HS4, b27⟩
  replace HB := Bs.below HB b27 (Nat.le_refl _)
  replace B := B.trans (Below.mono b27 B.size)
  (try replace HR1 := Bss.below HR1 b27 (Nat.le_refl _))
  (try replace HR2 := Bss.below HR2 b27 (Nat.le_refl _))
  (try replace HS1 := Bs.below HS1 b27 (Nat.le_refl _))
  (try replace HS2 := Bs.below HS2 b27 (Nat.le_refl _))
  (try replace HS3 := Bs.below HS3 b27 (Nat.le_refl _))
  (try replace HS4 := Bs.below HS4 b27 (Nat.le_refl _))
  refine ⟨_, rfl, b27, ?_⟩
  simp only [Act.put, List.setIfInBounds_toArray, List.set_cons_zero, List.set_cons_succ]
  refine lint_conv 28 (Operand.tmp 27) _ _ rfl rfl rfl rfl rfl HS4 ?_
  simp only [Act.put, List.setIfInBounds_toArray, List.set_cons_zero, List.set_cons_succ]
  refine lint_pure 29 (Op.binOp BinOp.eql 9 (Operand.tmp 25) (Operand.tmp 28) 9) 4 _ rfl rfl rfl rfl rfl (fun w0 hb0 => by unfold mkOp; go_simp; all_goals (with_reducible rfl)) ?_
  simp only [Act.put, List.setIfInBounds_toArray, List.set_cons_zero, List.set_cons_succ]
  refine lint_pure 30 (Op.pick (Operand.tmp 21) (Operand.tmp 29) (Operand.const (Value.bool false))) 4 _ rfl rfl rfl rfl rfl (fun w0 hb0 => by unfold mkOp; go_simp; all_goals (with_reducible rfl)) ?_
  simp only [Act.put, List.setIfInBounds_toArray, List.set_cons_zero, List.set_cons_succ]
  refine lint_pure 31 (Op.move (Operand.tmp 30)) 4 _ rfl rfl rfl rfl rfl (fun w0 hb0 => by unfold mkOp; go_simp; all_goals (with_reducible rfl)) ?_
  simp only [Act.put, List.setIfInBounds_toArray, List.set_cons_zero, List.set_cons_succ]
  refine stp_fn 32 8 #[] #[] _ (awake2_any _) rfl rfl rfl rfl Try.func8 (by kernel_rfl) (by kernel_rfl) (by go_simp) ?_
  rintro e w32 ⟨rfl, b32⟩
  replace B := B.trans (Below.mono b32 B.size)
  refine ⟨_, rfl, b32, ?_⟩
  simp only [Act.put, List.setIfInBounds_toArray, List.set_cons_zero, List.set_cons_succ]
  refine lint_pure 33 (Op.pick (Operand.tmp 31) (Operand.tmp 32) (Operand.const (Value.bool false))) 4 _ rfl rfl rfl rfl rfl (fun w0 hb0 => by unfold mkOp; go_simp; all_goals (with_reducible rfl)) ?_
  simp only [Act.put, List.setIfInBounds_toArray, List.set_cons_zero, List.set_cons_succ]
  refine lint_pure 2 (Op.assign (Operand.tmp 33)) 4 _ rfl rfl rfl rfl rfl (fun w0 hb0 => by unfold mkOp; go_simp; all_goals (with_reducible rfl)) ?_
  simp only [Act.put, List.setIfInBounds_toArray, List.set_cons_zero, List.set_cons_succ]
  refine lint_end ?_
  all_goals go_wp2
  all_goals go_ret
  all_goals exact ⟨rfl, B⟩
end Go.Proofs.Ytgfgnjlbghakfaa
