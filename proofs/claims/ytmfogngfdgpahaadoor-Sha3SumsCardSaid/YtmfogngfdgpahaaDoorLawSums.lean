/- missivelaw3.Sha3Sums: the walk. -/
import Derived.Test.YtmfogngfdgpahaaDoorKecG
import Derived.Test.YtmfogngfdgpahaaDoorLint
namespace Go.Proofs.YtmfogngfdgpahaaDoor
open Go.RowKit Go.Deep

theorem refSha3_32 (v : Value) (l : List UInt8) (w : World) (hv : Bs w v l) (hlen : l.length < 2 ^ 30) :
    Calls Tryd.prog 12 #[.int .i64 32, v] w fun e w' => ∃ v', e = .returned v' ∧ Bs w' v' (spongeL 136 6 l 32) ∧ Below w.heap.size w w' := refSha3_any 32 v l w hv hlen (by omega) (by omega)
theorem refSha3_64 (v : Value) (l : List UInt8) (w : World) (hv : Bs w v l) (hlen : l.length < 2 ^ 30) :
    Calls Tryd.prog 12 #[.int .i64 64, v] w fun e w' => ∃ v', e = .returned v' ∧ Bs w' v' (spongeL 72 6 l 64) ∧ Below w.heap.size w w' := refSha3_any 64 v l w hv hlen (by omega) (by omega)
theorem refShake_16 (n : Int) (v : Value) (l : List UInt8) (w : World) (hv : Bs w v l) (hlen : l.length < 2 ^ 30) (hn2 : n ≤ 9223372036854775807) :
    Calls Tryd.prog 15 #[.int .i64 16, .int .i64 n, v] w fun e w' => ∃ v', e = .returned v' ∧ Bs w' v' (spongeL 168 31 l (min n 65536).toNat) ∧ Below w.heap.size w w' := refShake_any 16 n v l w hv hlen (by omega) (by omega) hn2
theorem refShake_32 (n : Int) (v : Value) (l : List UInt8) (w : World) (hv : Bs w v l) (hlen : l.length < 2 ^ 30) (hn2 : n ≤ 9223372036854775807) :
    Calls Tryd.prog 15 #[.int .i64 32, .int .i64 n, v] w fun e w' => ∃ v', e = .returned v' ∧ Bs w' v' (spongeL 136 31 l (min n 65536).toNat) ∧ Below w.heap.size w w' := refShake_any 32 n v l w hv hlen (by omega) (by omega) hn2

set_option maxHeartbeats 16000000 in
set_option maxRecDepth 100000 in
theorem law_sha3Sums (w : World) (hL : Laid3 w) (v : Value) (L : List (List UInt8)) (hv : Bss w v L) (n : Int) (hn : (Lit.int .i64 n).wf = true) :
    Calls Tryd.prog 3 #[v, .int .i64 n] w fun e w' => e = .returned (.bool true) ∧ Below w.heap.size w w' := by
  obtain ⟨hn0, hn1⟩ := bd_i64 hn
  have HV := Lib.hid hv
  have HTh := Lib.hid hL
  obtain ⟨a, cap, rfl, h1, h2, h3, h4⟩ := hv
  clear h3 h4 hn hL
  unfold maxLen at h2
  go_enter Tryd.func3, Tryd.ntmps3
  go_wp2_with fail
  refine (all_any _ L 500 _ HV.out (by omega)).mono ?_
  rintro e w1 ⟨s, rfl, hs, hLn, hb1⟩
  have hT1 := Lib.hid (HTh.out.below hb1 HTh.out.size)
  by_cases c1 : 500 < s
  · have d1 : (500 : Int) < (s : Int) := by omega
    go_wp2_with (go_at_call 9; refine (awake3_any _ hT1.out).mono ?_; rintro e w2 ⟨rfl, hb2⟩)
    go_ret
    exact ⟨rfl, hb1.trans (hb2.mono hb1.size)⟩
  have d1 : ¬ (500 : Int) < (s : Int) := by omega
  by_cases c2 : n > 1000
  · go_wp2_with (go_at_call 9; refine (awake3_any _ hT1.out).mono ?_; rintro e w2 ⟨rfl, hb2⟩)
    go_ret
    exact ⟨rfl, hb1.trans (hb2.mono hb1.size)⟩
  have hlen : L.flatten.length + L.length ≤ 500 := hLn (by omega)
  clear hLn
  go_wp2_with (go_at_call 10; refine (alikeCat_any _ L _ (HV.out.below hb1 (Nat.le_refl _)) (by omega)).mono ?_; rintro e w2 ⟨vc, rfl, hO, hb2⟩)
  have HW : Bss w2.drew _ L := (HV.out.below hb1 (Nat.le_refl _)).below (Below.drew hb2) (Nat.le_refl _)
  have HB : Bs w2.drew vc L.flatten := (Owns.drew hO).bs
  have HT : Laid3 w2.drew := hT1.out.below (Below.drew hb2) hT1.out.size
  have B : Below w.heap.size w w2.drew := (hb1.trans (hb2.mono hb1.size)).drew
  clear hO hb1 hb2
  refine wp_region_lint (.rd 0 (.rd 3 (.wr 1 (.rd 2 (.wr 4 (.rd 5 (.rd 6 (.rd 7 (.rd 8 (.rd 11 (.wr 9 (.rd 10 (.wr 12 (.rd 13 (.rd 14 (.rd 15 (.rd 16 (.rd 17 (.rd 18 (.rd 21 (.rd 22 (.wr 19 (.rd 20 (.wr 23 (.rd 24 (.rd 25 (.rd 26 (.rd 27 (.rd 28 (.rd 29 (.rd 32 (.rd 33 (.wr 30 (.rd 31 (.wr 34 (.rd 35 (.rd 36 (.rd 37 (.rd 38 (.wr 39 (.rd 40 (.rd 41 .done)))))))))))))))))))))))))))))))))))))))))) (by kernel_rfl) (by kernel_rfl) (by decide) (by kernel_rfl) (fun d _ _ _ _ h => by cases d <;> exact h) ?_
  refine lint_pure 16 (Op.move (Operand.tmp 0)) 22 _ rfl rfl rfl rfl rfl (fun w0 hb0 => by unfold mkOp; go_simp; all_goals (with_reducible rfl)) ?_
  simp only [Act.put, List.setIfInBounds_toArray, List.set_cons_zero, List.set_cons_succ]
  refine lint_pure 19 (Op.move (Operand.tmp 5)) 25 _ rfl rfl rfl rfl rfl (fun w0 hb0 => by unfold mkOp; go_simp; all_goals (with_reducible rfl)) ?_
  simp only [Act.put, List.setIfInBounds_toArray, List.set_cons_zero, List.set_cons_succ]
  refine stp_fn 17 11 #[Operand.tmp 16] #[22] _ (sum3_256_any _ L _ HT HW) rfl rfl rfl rfl Tryd.func11 (by kernel_rfl) (by kernel_rfl) (by go_simp) ?_
  rintro e w17 ⟨v17, rfl, HS1, b17⟩
  replace HT := Laid3.below HT b17 HT.size
  replace HW := Bss.below HW b17 (Nat.le_refl _)
  replace HB := Bs.below HB b17 (Nat.le_refl _)
  replace B := B.trans (Below.mono b17 B.size)
  (try replace HS1 := Bs.below HS1 b17 (Nat.le_refl _))
  (try replace HS2 := Bs.below HS2 b17 (Nat.le_refl _))
  (try replace HS3 := Bs.below HS3 b17 (Nat.le_refl _))
  (try replace HS4 := Bs.below HS4 b17 (Nat.le_refl _))
  (try replace HS5 := Bs.below HS5 b17 (Nat.le_refl _))
  (try replace HS6 := Bs.below HS6 b17 (Nat.le_refl _))
  (try replace HS7 := Bs.below HS7 b17 (Nat.le_refl _))
  (try replace HS8 := Bs.below HS8 b17 (Nat.le_refl _))
  refine ⟨_, rfl, b17, ?_⟩
  simp only [Act.put, List.setIfInBounds_toArray, List.set_cons_zero, List.set_cons_succ]
  refine lint_conv 18 (Operand.tmp 17) _ _ rfl rfl rfl rfl rfl HS1 ?_
  simp only [Act.put, List.setIfInBounds_toArray, List.set_cons_zero, List.set_cons_succ]
  refine stp_fn 20 12 #[Operand.const (Value.int IntKind.i64 32), Operand.tmp 19] #[3, 25] _ (refSha3_32 _ _ _ HB (by omega)) rfl rfl rfl rfl Tryd.func12 (by kernel_rfl) (by kernel_rfl) (by go_simp) ?_
  rintro e w20 ⟨v20, rfl, HS2, b20⟩
  replace HT := Laid3.below HT b20 HT.size
  replace HW := Bss.below HW b20 (Nat.le_refl _)
  replace HB := Bs.below HB b20 (Nat.le_refl _)
  replace B := B.trans (Below.mono b20 B.size)
  (try replace HS1 := Bs.below HS1 b20 (Nat.le_refl _))
  (try replace HS2 := Bs.below HS2 b20 (Nat.le_refl _))
  (try replace HS3 := Bs.below HS3 b20 (Nat.le_refl _))
  (try replace HS4 := Bs.below HS4 b20 (Nat.le_refl _))
  (try replace HS5 := Bs.below HS5 b20 (Nat.le_refl _))
  (try replace HS6 := Bs.below HS6 b20 (Nat.le_refl _))
  (try replace HS7 := Bs.below HS7 b20 (Nat.le_refl _))
  (try replace HS8 := Bs.below HS8 b20 (Nat.le_refl _))
  refine ⟨_, rfl, b20, ?_⟩
  simp only [Act.put, List.setIfInBounds_toArray, List.set_cons_zero, List.set_cons_succ]
  refine lint_conv 21 (Operand.tmp 20) _ _ rfl rfl rfl rfl rfl HS2 ?_
  simp only [Act.put, List.setIfInBounds_toArray, List.set_cons_zero, List.set_cons_succ]
  refine lint_pure 22 (Op.binOp BinOp.eql 9 (Operand.tmp 18) (Operand.tmp 21) 9) 4 _ rfl rfl rfl rfl rfl (fun w0 hb0 => by unfold mkOp; go_simp; all_goals (with_reducible rfl)) ?_
  simp only [Act.put, List.setIfInBounds_toArray, List.set_cons_zero, List.set_cons_succ]
  refine lint_pure 23 (Op.move (Operand.tmp 22)) 4 _ rfl rfl rfl rfl rfl (fun w0 hb0 => by unfold mkOp; go_simp; all_goals (with_reducible rfl)) ?_
  simp only [Act.put, List.setIfInBounds_toArray, List.set_cons_zero, List.set_cons_succ]
  refine lint_pure 24 (Op.move (Operand.tmp 0)) 22 _ rfl rfl rfl rfl rfl (fun w0 hb0 => by unfold mkOp; go_simp; all_goals (with_reducible rfl)) ?_
  simp only [Act.put, List.setIfInBounds_toArray, List.set_cons_zero, List.set_cons_succ]
  refine lint_pure 27 (Op.move (Operand.tmp 5)) 25 _ rfl rfl rfl rfl rfl (fun w0 hb0 => by unfold mkOp; go_simp; all_goals (with_reducible rfl)) ?_
  simp only [Act.put, List.setIfInBounds_toArray, List.set_cons_zero, List.set_cons_succ]
  refine stp_fn 25 13 #[Operand.tmp 24] #[22] _ (sum3_512_any _ L _ HT HW) rfl rfl rfl rfl Tryd.func13 (by kernel_rfl) (by kernel_rfl) (by go_simp) ?_
  rintro e w25 ⟨v25, rfl, HS3, b25⟩
  replace HT := Laid3.below HT b25 HT.size
  replace HW := Bss.below HW b25 (Nat.le_refl _)
  replace HB := Bs.below HB b25 (Nat.le_refl _)
  replace B := B.trans (Below.mono b25 B.size)
  (try replace HS1 := Bs.below HS1 b25 (Nat.le_refl _))
  (try replace HS2 := Bs.below HS2 b25 (Nat.le_refl _))
  (try replace HS3 := Bs.below HS3 b25 (Nat.le_refl _))
  (try replace HS4 := Bs.below HS4 b25 (Nat.le_refl _))
  (try replace HS5 := Bs.below HS5 b25 (Nat.le_refl _))
  (try replace HS6 := Bs.below HS6 b25 (Nat.le_refl _))
  (try replace HS7 := Bs.below HS7 b25 (Nat.le_refl _))
  (try replace HS8 := Bs.below HS8 b25 (Nat.le_refl _))
  refine ⟨_, rfl, b25, ?_⟩
  simp only [Act.put, List.setIfInBounds_toArray, List.set_cons_zero, List.set_cons_succ]
  refine lint_conv 26 (Operand.tmp 25) _ _ rfl rfl rfl rfl rfl HS3 ?_
  simp only [Act.put, List.setIfInBounds_toArray, List.set_cons_zero, List.set_cons_succ]
  refine stp_fn 28 12 #[Operand.const (Value.int IntKind.i64 64), Operand.tmp 27] #[3, 25] _ (refSha3_64 _ _ _ HB (by omega)) rfl rfl rfl rfl Tryd.func12 (by kernel_rfl) (by kernel_rfl) (by go_simp) ?_
  rintro e w28 ⟨v28, rfl, HS4, b28⟩
  replace HT := Laid3.below HT b28 HT.size
  replace HW := Bss.below HW b28 (Nat.le_refl _)
  replace HB := Bs.below HB b28 (Nat.le_refl _)
  replace B := B.trans (Below.mono b28 B.size)
  (try replace HS1 := Bs.below HS1 b28 (Nat.le_refl _))
  (try replace HS2 := Bs.below HS2 b28 (Nat.le_refl _))
  (try replace HS3 := Bs.below HS3 b28 (Nat.le_refl _))
  (try replace HS4 := Bs.below HS4 b28 (Nat.le_refl _))
  (try replace HS5 := Bs.below HS5 b28 (Nat.le_refl _))
  (try replace HS6 := Bs.below HS6 b28 (Nat.le_refl _))
  (try replace HS7 := Bs.below HS7 b28 (Nat.le_refl _))
  (try replace HS8 := Bs.below HS8 b28 (Nat.le_refl _))
  refine ⟨_, rfl, b28, ?_⟩
  simp only [Act.put, List.setIfInBounds_toArray, List.set_cons_zero, List.set_cons_succ]
  refine lint_conv 29 (Operand.tmp 28) _ _ rfl rfl rfl rfl rfl HS4 ?_
  simp only [Act.put, List.setIfInBounds_toArray, List.set_cons_zero, List.set_cons_succ]
  refine lint_pure 30 (Op.binOp BinOp.eql 9 (Operand.tmp 26) (Operand.tmp 29) 9) 4 _ rfl rfl rfl rfl rfl (fun w0 hb0 => by unfold mkOp; go_simp; all_goals (with_reducible rfl)) ?_
  simp only [Act.put, List.setIfInBounds_toArray, List.set_cons_zero, List.set_cons_succ]
  refine lint_pure 31 (Op.pick (Operand.tmp 23) (Operand.tmp 30) (Operand.const (Value.bool false))) 4 _ rfl rfl rfl rfl rfl (fun w0 hb0 => by unfold mkOp; go_simp; all_goals (with_reducible rfl)) ?_
  simp only [Act.put, List.setIfInBounds_toArray, List.set_cons_zero, List.set_cons_succ]
  refine lint_pure 32 (Op.move (Operand.tmp 31)) 4 _ rfl rfl rfl rfl rfl (fun w0 hb0 => by unfold mkOp; go_simp; all_goals (with_reducible rfl)) ?_
  simp only [Act.put, List.setIfInBounds_toArray, List.set_cons_zero, List.set_cons_succ]
  refine lint_pure 33 (Op.move (Operand.tmp 1)) 3 _ rfl rfl rfl rfl rfl (fun w0 hb0 => by unfold mkOp; go_simp; all_goals (with_reducible rfl)) ?_
  simp only [Act.put, List.setIfInBounds_toArray, List.set_cons_zero, List.set_cons_succ]
  refine lint_pure 34 (Op.move (Operand.tmp 0)) 22 _ rfl rfl rfl rfl rfl (fun w0 hb0 => by unfold mkOp; go_simp; all_goals (with_reducible rfl)) ?_
  simp only [Act.put, List.setIfInBounds_toArray, List.set_cons_zero, List.set_cons_succ]
  refine lint_pure 37 (Op.move (Operand.tmp 1)) 3 _ rfl rfl rfl rfl rfl (fun w0 hb0 => by unfold mkOp; go_simp; all_goals (with_reducible rfl)) ?_
  simp only [Act.put, List.setIfInBounds_toArray, List.set_cons_zero, List.set_cons_succ]
  refine lint_pure 38 (Op.move (Operand.tmp 5)) 25 _ rfl rfl rfl rfl rfl (fun w0 hb0 => by unfold mkOp; go_simp; all_goals (with_reducible rfl)) ?_
  simp only [Act.put, List.setIfInBounds_toArray, List.set_cons_zero, List.set_cons_succ]
  refine stp_fn 35 14 #[Operand.tmp 33, Operand.tmp 34] #[3, 22] _ (shake128_any n _ L _ HT HW hn1) rfl rfl rfl rfl Tryd.func14 (by kernel_rfl) (by kernel_rfl) (by go_simp) ?_
  rintro e w35 ⟨v35, rfl, HS5, b35⟩
  replace HT := Laid3.below HT b35 HT.size
  replace HW := Bss.below HW b35 (Nat.le_refl _)
  replace HB := Bs.below HB b35 (Nat.le_refl _)
  replace B := B.trans (Below.mono b35 B.size)
  (try replace HS1 := Bs.below HS1 b35 (Nat.le_refl _))
  (try replace HS2 := Bs.below HS2 b35 (Nat.le_refl _))
  (try replace HS3 := Bs.below HS3 b35 (Nat.le_refl _))
  (try replace HS4 := Bs.below HS4 b35 (Nat.le_refl _))
  (try replace HS5 := Bs.below HS5 b35 (Nat.le_refl _))
  (try replace HS6 := Bs.below HS6 b35 (Nat.le_refl _))
  (try replace HS7 := Bs.below HS7 b35 (Nat.le_refl _))
  (try replace HS8 := Bs.below HS8 b35 (Nat.le_refl _))
  refine ⟨_, rfl, b35, ?_⟩
  simp only [Act.put, List.setIfInBounds_toArray, List.set_cons_zero, List.set_cons_succ]
  refine lint_conv 36 (Operand.tmp 35) _ _ rfl rfl rfl rfl rfl HS5 ?_
  simp only [Act.put, List.setIfInBounds_toArray, List.set_cons_zero, List.set_cons_succ]
  refine stp_fn 39 15 #[Operand.const (Value.int IntKind.i64 16), Operand.tmp 37, Operand.tmp 38] #[3, 3, 25] _ (refShake_16 n _ _ _ HB (by omega) hn1) rfl rfl rfl rfl Tryd.func15 (by kernel_rfl) (by kernel_rfl) (by go_simp) ?_
  rintro e w39 ⟨v39, rfl, HS6, b39⟩
  replace HT := Laid3.below HT b39 HT.size
  replace HW := Bss.below HW b39 (Nat.le_refl _)
  replace HB := Bs.below HB b39 (Nat.le_refl _)
  replace B := B.trans (Below.mono b39 B.size)
  (try replace HS1 := Bs.below HS1 b39 (Nat.le_refl _))
  (try replace HS2 := Bs.below HS2 b39 (Nat.le_refl _))
  (try replace HS3 := Bs.below HS3 b39 (Nat.le_refl _))
  (try replace HS4 := Bs.below HS4 b39 (Nat.le_refl _))
  (try replace HS5 := Bs.below HS5 b39 (Nat.le_refl _))
  (try replace HS6 := Bs.below HS6 b39 (Nat.le_refl _))
  (try replace HS7 := Bs.below HS7 b39 (Nat.le_refl _))
  (try replace HS8 := Bs.below HS8 b39 (Nat.le_refl _))
  refine ⟨_, rfl, b39, ?_⟩
  simp only [Act.put, List.setIfInBounds_toArray, List.set_cons_zero, List.set_cons_succ]
  refine lint_conv 40 (Operand.tmp 39) _ _ rfl rfl rfl rfl rfl HS6 ?_
  simp only [Act.put, List.setIfInBounds_toArray, List.set_cons_zero, List.set_cons_succ]
  refine lint_pure 41 (Op.binOp BinOp.eql 9 (Operand.tmp 36) (Operand.tmp 40) 9) 4 _ rfl rfl rfl rfl rfl (fun w0 hb0 => by unfold mkOp; go_simp; all_goals (with_reducible rfl)) ?_
  simp only [Act.put, List.setIfInBounds_toArray, List.set_cons_zero, List.set_cons_succ]
  refine lint_pure 42 (Op.pick (Operand.tmp 32) (Operand.tmp 41) (Operand.const (Value.bool false))) 4 _ rfl rfl rfl rfl rfl (fun w0 hb0 => by unfold mkOp; go_simp; all_goals (with_reducible rfl)) ?_
  simp only [Act.put, List.setIfInBounds_toArray, List.set_cons_zero, List.set_cons_succ]
  refine lint_pure 43 (Op.move (Operand.tmp 42)) 4 _ rfl rfl rfl rfl rfl (fun w0 hb0 => by unfold mkOp; go_simp; all_goals (with_reducible rfl)) ?_
  simp only [Act.put, List.setIfInBounds_toArray, List.set_cons_zero, List.set_cons_succ]
  refine lint_pure 44 (Op.move (Operand.tmp 1)) 3 _ rfl rfl rfl rfl rfl (fun w0 hb0 => by unfold mkOp; go_simp; all_goals (with_reducible rfl)) ?_
  simp only [Act.put, List.setIfInBounds_toArray, List.set_cons_zero, List.set_cons_succ]
  refine lint_pure 45 (Op.move (Operand.tmp 0)) 22 _ rfl rfl rfl rfl rfl (fun w0 hb0 => by unfold mkOp; go_simp; all_goals (with_reducible rfl)) ?_
  simp only [Act.put, List.setIfInBounds_toArray, List.set_cons_zero, List.set_cons_succ]
  refine lint_pure 48 (Op.move (Operand.tmp 1)) 3 _ rfl rfl rfl rfl rfl (fun w0 hb0 => by unfold mkOp; go_simp; all_goals (with_reducible rfl)) ?_
  simp only [Act.put, List.setIfInBounds_toArray, List.set_cons_zero, List.set_cons_succ]
  refine lint_pure 49 (Op.move (Operand.tmp 5)) 25 _ rfl rfl rfl rfl rfl (fun w0 hb0 => by unfold mkOp; go_simp; all_goals (with_reducible rfl)) ?_
  simp only [Act.put, List.setIfInBounds_toArray, List.set_cons_zero, List.set_cons_succ]
  refine stp_fn 46 16 #[Operand.tmp 44, Operand.tmp 45] #[3, 22] _ (shake256_any n _ L _ HT HW hn1) rfl rfl rfl rfl Tryd.func16 (by kernel_rfl) (by kernel_rfl) (by go_simp) ?_
  rintro e w46 ⟨v46, rfl, HS7, b46⟩
  replace HT := Laid3.below HT b46 HT.size
  replace HW := Bss.below HW b46 (Nat.le_refl _)
  replace HB := Bs.below HB b46 (Nat.le_refl _)
  replace B := B.trans (Below.mono b46 B.size)
  (try replace HS1 := Bs.below HS1 b46 (Nat.le_refl _))
  (try replace HS2 := Bs.below HS2 b46 (Nat.le_refl _))
  (try replace HS3 := Bs.below HS3 b46 (Nat.le_refl _))
  (try replace HS4 := Bs.below HS4 b46 (Nat.le_refl _))
  (try replace HS5 := Bs.below HS5 b46 (Nat.le_refl _))
  (try replace HS6 := Bs.below HS6 b46 (Nat.le_refl _))
  (try replace HS7 := Bs.below HS7 b46 (Nat.le_refl _))
  (try replace HS8 := Bs.below HS8 b46 (Nat.le_refl _))
  refine ⟨_, rfl, b46, ?_⟩
  simp only [Act.put, List.setIfInBounds_toArray, List.set_cons_zero, List.set_cons_succ]
  refine lint_conv 47 (Operand.tmp 46) _ _ rfl rfl rfl rfl rfl HS7 ?_
  simp only [Act.put, List.setIfInBounds_toArray, List.set_cons_zero, List.set_cons_succ]
  refine stp_fn 50 15 #[Operand.const (Value.int IntKind.i64 32), Operand.tmp 48, Operand.tmp 49] #[3, 3, 25] _ (refShake_32 n _ _ _ HB (by omega) hn1) rfl rfl rfl rfl Tryd.func15 (by kernel_rfl) (by kernel_rfl) (by go_simp) ?_
  rintro e w50 ⟨v50, rfl, HS8, b50⟩
  replace HT := Laid3.below HT b50 HT.size
  replace HW := Bss.below HW b50 (Nat.le_refl _)
  replace HB := Bs.below HB b50 (Nat.le_refl _)
  replace B := B.trans (Below.mono b50 B.size)
  (try replace HS1 := Bs.below HS1 b50 (Nat.le_refl _))
  (try replace HS2 := Bs.below HS2 b50 (Nat.le_refl _))
  (try replace HS3 := Bs.below HS3 b50 (Nat.le_refl _))
  (try replace HS4 := Bs.below HS4 b50 (Nat.le_refl _))
  (try replace HS5 := Bs.below HS5 b50 (Nat.le_refl _))
  (try replace HS6 := Bs.below HS6 b50 (Nat.le_refl _))
  (try replace HS7 := Bs.below HS7 b50 (Nat.le_refl _))
  (try replace HS8 := Bs.below HS8 b50 (Nat.le_refl _))
  refine ⟨_, rfl, b50, ?_⟩
  simp only [Act.put, List.setIfInBounds_toArray, List.set_cons_zero, List.set_cons_succ]
  refine lint_conv 51 (Operand.tmp 50) _ _ rfl rfl rfl rfl rfl HS8 ?_
  simp only [Act.put, List.setIfInBounds_toArray, List.set_cons_zero, List.set_cons_succ]
  refine lint_pure 52 (Op.binOp BinOp.eql 9 (Operand.tmp 47) (Operand.tmp 51) 9) 4 _ rfl rfl rfl rfl rfl (fun w0 hb0 => by unfold mkOp; go_simp; all_goals (with_reducible rfl)) ?_
  simp only [Act.put, List.setIfInBounds_toArray, List.set_cons_zero, List.set_cons_succ]
  refine lint_pure 53 (Op.pick (Operand.tmp 43) (Operand.tmp 52) (Operand.const (Value.bool false))) 4 _ rfl rfl rfl rfl rfl (fun w0 hb0 => by unfold mkOp; go_simp; all_goals (with_reducible rfl)) ?_
  simp only [Act.put, List.setIfInBounds_toArray, List.set_cons_zero, List.set_cons_succ]
  refine lint_pure 54 (Op.move (Operand.tmp 53)) 4 _ rfl rfl rfl rfl rfl (fun w0 hb0 => by unfold mkOp; go_simp; all_goals (with_reducible rfl)) ?_
  simp only [Act.put, List.setIfInBounds_toArray, List.set_cons_zero, List.set_cons_succ]
  refine stp_fn 55 9 #[] #[] _ (awake3_any _ HT) rfl rfl rfl rfl Tryd.func9 (by kernel_rfl) (by kernel_rfl) (by go_simp) ?_
  rintro e w55 ⟨rfl, b55⟩
  replace B := B.trans (Below.mono b55 B.size)
  refine ⟨_, rfl, b55, ?_⟩
  simp only [Act.put, List.setIfInBounds_toArray, List.set_cons_zero, List.set_cons_succ]
  refine lint_pure 56 (Op.pick (Operand.tmp 54) (Operand.tmp 55) (Operand.const (Value.bool false))) 4 _ rfl rfl rfl rfl rfl (fun w0 hb0 => by unfold mkOp; go_simp; all_goals (with_reducible rfl)) ?_
  simp only [Act.put, List.setIfInBounds_toArray, List.set_cons_zero, List.set_cons_succ]
  refine lint_pure 4 (Op.assign (Operand.tmp 56)) 4 _ rfl rfl rfl rfl rfl (fun w0 hb0 => by unfold mkOp; go_simp; all_goals (with_reducible rfl)) ?_
  simp only [Act.put, List.setIfInBounds_toArray, List.set_cons_zero, List.set_cons_succ]
  refine lint_end ?_
  go_wp2
  go_ret
  exact ⟨rfl, B⟩
end Go.Proofs.YtmfogngfdgpahaaDoor
