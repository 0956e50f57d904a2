/- MacDerives, walked. -/
import Derived.Test.YtladojcbbhphfaaMacW
import Derived.Test.YtladojcbbhphfaaMacR
import Derived.Test.YtladojcbbhphfaaLint
namespace Go.Proofs.Ytladojcbbhphfaa
open Go.RowKit Go.Deep

set_option maxHeartbeats 16000000 in
set_option maxRecDepth 100000 in
theorem law_macDerives (w : World) (v0 : Value) (salt : List UInt8) (h0 : Bs w v0 salt) (v1 : Value) (ikm : List UInt8) (h1 : Bs w v1 ikm) (v2 : Value) (info : List UInt8) (h2 : Bs w v2 info) (n : Int) (hn : (Lit.int .i64 n).wf = true) :
    Calls Try.prog 4 #[v0, v1, v2, .int .i64 n] w fun e w' => e = .returned (.bool true) ∧ Below w.heap.size w w' := by
  obtain ⟨a0, n0, c0, rfl, e0, f0, g0, hB0⟩ := h0.shape
  obtain ⟨a1, n1, c1, rfl, e1, f1, g1, hB1⟩ := h1.shape
  obtain ⟨a2, n2, c2, rfl, e2, f2, g2, hB2⟩ := h2.shape
  have H0 := Lib.hid hB0
  have H1 := Lib.hid hB1
  have H2 := Lib.hid hB2
  have E0 := Lib.hid e0
  have E1 := Lib.hid e1
  have E2 := Lib.hid e2
  have HNW := Lib.hid hn
  clear h0 h1 h2 hB0 hB1 hB2 e0 e1 e2 hn
  go_enter Try.func4, Try.ntmps4
  by_cases d0 : (300 : Int) < (n0 : Int)
  · go_wp2_with (go_at_call 7; refine (awake4_any _).mono ?_; rintro e w9 ⟨rfl, hb9⟩)
    go_ret
    exact ⟨rfl, hb9⟩
  by_cases d1 : (300 : Int) < (n1 : Int)
  · go_wp2_with (go_at_call 7; refine (awake4_any _).mono ?_; rintro e w9 ⟨rfl, hb9⟩)
    go_ret
    exact ⟨rfl, hb9⟩
  by_cases d2 : (300 : Int) < (n2 : Int)
  · go_wp2_with (go_at_call 7; refine (awake4_any _).mono ?_; rintro e w9 ⟨rfl, hb9⟩)
    go_ret
    exact ⟨rfl, hb9⟩
  by_cases d3 : (300 : Int) < n
  · by_cases d4 : n < 8100
    · go_wp2_with (go_at_call 7; refine (awake4_any _).mono ?_; rintro e w9 ⟨rfl, hb9⟩)
      go_ret
      exact ⟨rfl, hb9⟩
    · by_cases d5 : n ≤ 8160
      · have hlD : (deriveL salt ikm info n).length = n.toNat := expandL_length _ _ _ (by omega)
        have HLD := Lib.hid hlD
        obtain ⟨m, rfl⟩ : ∃ m : Nat, n = (m : Int) := ⟨n.toNat, by omega⟩
        clear hlD
        go_wp2_with (first
          | (go_at_call 13; refine (derive_any _ _ _ salt ikm info _ _ H0.out (by have := E0.out; omega) H1.out (by have := E1.out; omega) H2.out (by have := E2.out; omega) HNW.out).mono ?_; rintro e w3 ⟨v3, rfl, hB3, hb3⟩
             obtain ⟨a3, n3, c3, rfl, e3, f3, g3, hB3⟩ := hB3.shape
             obtain rfl : n3 = m := by rw [← e3, HLD.out]; omega
             clear hB3 e3)
          | (go_at_call 7; refine (awake4_any _).mono ?_; rintro e w9 ⟨rfl, hb9⟩))
        go_ret
        exact ⟨rfl, hb3.trans (hb9.mono hb3.size)⟩
      · go_wp2_with fail
        have HA : Bs w.drew _ salt := H0.out.below (Below.drew (Below.refl w.heap.size w)) (Nat.le_refl _)
        have HB : Bs w.drew _ ikm := H1.out.below (Below.drew (Below.refl w.heap.size w)) (Nat.le_refl _)
        have HC : Bs w.drew _ info := H2.out.below (Below.drew (Below.refl w.heap.size w)) (Nat.le_refl _)
        have B : Below w.heap.size w w.drew := Below.drew (Below.refl w.heap.size w)
        have hl0 : salt.length ≤ 300 := by have := E0.out; omega
        have hl1 : ikm.length ≤ 300 := by have := E1.out; omega
        have hl2 : info.length ≤ 300 := by have := E2.out; omega
        have hn := HNW.out
        refine wp_region_lint (.rd 0 (.rd 1 (.rd 4 (.rd 5 (.wr 2 (.rd 3 (.wr 6 (.rd 7 (.rd 8 (.rd 9 (.rd 10 (.rd 11 (.rd 12 (.rd 13 (.rd 16 (.rd 17 (.rd 18 (.rd 19 (.wr 14 (.rd 15 (.wr 20 (.rd 21 (.rd 22 (.rd 23 (.rd 24 (.rd 25 (.rd 26 (.rd 27 (.rd 30 (.rd 31 (.rd 32 (.wr 28 (.rd 29 (.wr 33 (.rd 34 (.rd 35 (.rd 36 (.rd 37 (.wr 38 (.rd 39 (.rd 40 .done))))))))))))))))))))))))))))))))))))))))) (by kernel_rfl) (by kernel_rfl) (by decide) (by kernel_rfl) (fun d _ _ _ _ h => by cases d <;> exact h) ?_
        refine lint_pure 48 (Op.move (Operand.tmp 0)) 22 _ rfl rfl rfl rfl rfl (fun w0 hb0 => by unfold mkOp; go_simp; all_goals (with_reducible rfl)) ?_
        simp only [Act.put, List.setIfInBounds_toArray, List.set_cons_zero, List.set_cons_succ]
        refine lint_pure 49 (Op.move (Operand.tmp 1)) 22 _ rfl rfl rfl rfl rfl (fun w0 hb0 => by unfold mkOp; go_simp; all_goals (with_reducible rfl)) ?_
        simp only [Act.put, List.setIfInBounds_toArray, List.set_cons_zero, List.set_cons_succ]
        refine lint_pure 52 (Op.move (Operand.tmp 0)) 22 _ rfl rfl rfl rfl rfl (fun w0 hb0 => by unfold mkOp; go_simp; all_goals (with_reducible rfl)) ?_
        simp only [Act.put, List.setIfInBounds_toArray, List.set_cons_zero, List.set_cons_succ]
        refine lint_pure 53 (Op.move (Operand.tmp 1)) 22 _ rfl rfl rfl rfl rfl (fun w0 hb0 => by unfold mkOp; go_simp; all_goals (with_reducible rfl)) ?_
        simp only [Act.put, List.setIfInBounds_toArray, List.set_cons_zero, List.set_cons_succ]
        refine stp_fn 50 14 #[Operand.tmp 48, Operand.tmp 49] #[22, 22] _ (extract_any _ _ salt ikm _ HA (by omega) HB (by omega)) rfl rfl rfl rfl Try.func14 (by kernel_rfl) (by kernel_rfl) (by go_simp) ?_
        rintro e w50 ⟨v50, rfl, HS1, b50⟩
        replace HA := Bs.below HA b50 (Nat.le_refl _)
        replace HB := Bs.below HB b50 (Nat.le_refl _)
        replace HC := Bs.below HC b50 (Nat.le_refl _)
        replace B := B.trans (Below.mono b50 B.size)
        (try replace HS1 := Bs.below HS1 b50 (Nat.le_refl _))
        (try replace HS2 := Bs.below HS2 b50 (Nat.le_refl _))
        (try replace HS3 := Bs.below HS3 b50 (Nat.le_refl _))
        (try replace HS4 := Bs.below HS4 b50 (Nat.le_refl _))
        (try replace HS5 := Bs.below HS5 b50 (Nat.le_refl _))
        (try replace HS6 := Bs.below HS6 b50 (Nat.le_refl _))
        refine ⟨_, rfl, b50, ?_⟩
        simp only [Act.put, List.setIfInBounds_toArray, List.set_cons_zero, List.set_cons_succ]
        refine lint_conv 51 (Operand.tmp 50) _ _ rfl rfl rfl rfl rfl HS1 ?_
        simp only [Act.put, List.setIfInBounds_toArray, List.set_cons_zero, List.set_cons_succ]
        refine stp_fn 54 8 #[Operand.tmp 52, Operand.tmp 53] #[22, 22] _ (refMac_any _ _ salt ikm _ HA (by omega) HB (by omega)) rfl rfl rfl rfl Try.func8 (by kernel_rfl) (by kernel_rfl) (by go_simp) ?_
        rintro e w54 ⟨v54, rfl, HO2, b54⟩
        have HS2 := HO2.bs
        replace HA := Bs.below HA b54 (Nat.le_refl _)
        replace HB := Bs.below HB b54 (Nat.le_refl _)
        replace HC := Bs.below HC b54 (Nat.le_refl _)
        replace B := B.trans (Below.mono b54 B.size)
        (try replace HS1 := Bs.below HS1 b54 (Nat.le_refl _))
        (try replace HS2 := Bs.below HS2 b54 (Nat.le_refl _))
        (try replace HS3 := Bs.below HS3 b54 (Nat.le_refl _))
        (try replace HS4 := Bs.below HS4 b54 (Nat.le_refl _))
        (try replace HS5 := Bs.below HS5 b54 (Nat.le_refl _))
        (try replace HS6 := Bs.below HS6 b54 (Nat.le_refl _))
        refine ⟨_, rfl, b54, ?_⟩
        simp only [Act.put, List.setIfInBounds_toArray, List.set_cons_zero, List.set_cons_succ]
        refine lint_conv 55 (Operand.tmp 54) _ _ rfl rfl rfl rfl rfl HS2 ?_
        simp only [Act.put, List.setIfInBounds_toArray, List.set_cons_zero, List.set_cons_succ]
        refine lint_pure 56 (Op.binOp BinOp.eql 9 (Operand.tmp 51) (Operand.tmp 55) 9) 4 _ rfl rfl rfl rfl rfl (fun w0 hb0 => by unfold mkOp; go_simp; all_goals (with_reducible rfl)) ?_
        simp only [Act.put, List.setIfInBounds_toArray, List.set_cons_zero, List.set_cons_succ]
        refine lint_pure 57 (Op.move (Operand.tmp 56)) 4 _ rfl rfl rfl rfl rfl (fun w0 hb0 => by unfold mkOp; go_simp; all_goals (with_reducible rfl)) ?_
        simp only [Act.put, List.setIfInBounds_toArray, List.set_cons_zero, List.set_cons_succ]
        refine lint_pure 58 (Op.move (Operand.tmp 0)) 22 _ rfl rfl rfl rfl rfl (fun w0 hb0 => by unfold mkOp; go_simp; all_goals (with_reducible rfl)) ?_
        simp only [Act.put, List.setIfInBounds_toArray, List.set_cons_zero, List.set_cons_succ]
        refine lint_pure 59 (Op.move (Operand.tmp 1)) 22 _ rfl rfl rfl rfl rfl (fun w0 hb0 => by unfold mkOp; go_simp; all_goals (with_reducible rfl)) ?_
        simp only [Act.put, List.setIfInBounds_toArray, List.set_cons_zero, List.set_cons_succ]
        refine lint_pure 60 (Op.move (Operand.tmp 2)) 22 _ rfl rfl rfl rfl rfl (fun w0 hb0 => by unfold mkOp; go_simp; all_goals (with_reducible rfl)) ?_
        simp only [Act.put, List.setIfInBounds_toArray, List.set_cons_zero, List.set_cons_succ]
        refine lint_pure 61 (Op.move (Operand.tmp 3)) 3 _ rfl rfl rfl rfl rfl (fun w0 hb0 => by unfold mkOp; go_simp; all_goals (with_reducible rfl)) ?_
        simp only [Act.put, List.setIfInBounds_toArray, List.set_cons_zero, List.set_cons_succ]
        refine lint_pure 64 (Op.move (Operand.tmp 0)) 22 _ rfl rfl rfl rfl rfl (fun w0 hb0 => by unfold mkOp; go_simp; all_goals (with_reducible rfl)) ?_
        simp only [Act.put, List.setIfInBounds_toArray, List.set_cons_zero, List.set_cons_succ]
        refine lint_pure 65 (Op.move (Operand.tmp 1)) 22 _ rfl rfl rfl rfl rfl (fun w0 hb0 => by unfold mkOp; go_simp; all_goals (with_reducible rfl)) ?_
        simp only [Act.put, List.setIfInBounds_toArray, List.set_cons_zero, List.set_cons_succ]
        refine lint_pure 66 (Op.move (Operand.tmp 2)) 22 _ rfl rfl rfl rfl rfl (fun w0 hb0 => by unfold mkOp; go_simp; all_goals (with_reducible rfl)) ?_
        simp only [Act.put, List.setIfInBounds_toArray, List.set_cons_zero, List.set_cons_succ]
        refine lint_pure 67 (Op.move (Operand.tmp 3)) 3 _ rfl rfl rfl rfl rfl (fun w0 hb0 => by unfold mkOp; go_simp; all_goals (with_reducible rfl)) ?_
        simp only [Act.put, List.setIfInBounds_toArray, List.set_cons_zero, List.set_cons_succ]
        refine stp_fn 62 13 #[Operand.tmp 58, Operand.tmp 59, Operand.tmp 60, Operand.tmp 61] #[22, 22, 22, 3] _ (derive_any _ _ _ salt ikm info n _ HA (by omega) HB (by omega) HC (by omega) hn) rfl rfl rfl rfl Try.func13 (by kernel_rfl) (by kernel_rfl) (by go_simp) ?_
        rintro e w62 ⟨v62, rfl, HS3, b62⟩
        replace HA := Bs.below HA b62 (Nat.le_refl _)
        replace HB := Bs.below HB b62 (Nat.le_refl _)
        replace HC := Bs.below HC b62 (Nat.le_refl _)
        replace B := B.trans (Below.mono b62 B.size)
        (try replace HS1 := Bs.below HS1 b62 (Nat.le_refl _))
        (try replace HS2 := Bs.below HS2 b62 (Nat.le_refl _))
        (try replace HS3 := Bs.below HS3 b62 (Nat.le_refl _))
        (try replace HS4 := Bs.below HS4 b62 (Nat.le_refl _))
        (try replace HS5 := Bs.below HS5 b62 (Nat.le_refl _))
        (try replace HS6 := Bs.below HS6 b62 (Nat.le_refl _))
        refine ⟨_, rfl, b62, ?_⟩
        simp only [Act.put, List.setIfInBounds_toArray, List.set_cons_zero, List.set_cons_succ]
        refine lint_conv 63 (Operand.tmp 62) _ _ rfl rfl rfl rfl rfl HS3 ?_
        simp only [Act.put, List.setIfInBounds_toArray, List.set_cons_zero, List.set_cons_succ]
        refine stp_fn 68 15 #[Operand.tmp 64, Operand.tmp 65, Operand.tmp 66, Operand.tmp 67] #[22, 22, 22, 3] _ (refDerive_any _ _ _ salt ikm info n _ HA (by omega) HB (by omega) HC (by omega) hn) rfl rfl rfl rfl Try.func15 (by kernel_rfl) (by kernel_rfl) (by go_simp) ?_
        rintro e w68 ⟨v68, rfl, HS4, b68⟩
        replace HA := Bs.below HA b68 (Nat.le_refl _)
        replace HB := Bs.below HB b68 (Nat.le_refl _)
        replace HC := Bs.below HC b68 (Nat.le_refl _)
        replace B := B.trans (Below.mono b68 B.size)
        (try replace HS1 := Bs.below HS1 b68 (Nat.le_refl _))
        (try replace HS2 := Bs.below HS2 b68 (Nat.le_refl _))
        (try replace HS3 := Bs.below HS3 b68 (Nat.le_refl _))
        (try replace HS4 := Bs.below HS4 b68 (Nat.le_refl _))
        (try replace HS5 := Bs.below HS5 b68 (Nat.le_refl _))
        (try replace HS6 := Bs.below HS6 b68 (Nat.le_refl _))
        refine ⟨_, rfl, b68, ?_⟩
        simp only [Act.put, List.setIfInBounds_toArray, List.set_cons_zero, List.set_cons_succ]
        refine lint_conv 69 (Operand.tmp 68) _ _ rfl rfl rfl rfl rfl HS4 ?_
        simp only [Act.put, List.setIfInBounds_toArray, List.set_cons_zero, List.set_cons_succ]
        refine lint_pure 70 (Op.binOp BinOp.eql 9 (Operand.tmp 63) (Operand.tmp 69) 9) 4 _ rfl rfl rfl rfl rfl (fun w0 hb0 => by unfold mkOp; go_simp; all_goals (with_reducible rfl)) ?_
        simp only [Act.put, List.setIfInBounds_toArray, List.set_cons_zero, List.set_cons_succ]
        refine lint_pure 71 (Op.pick (Operand.tmp 57) (Operand.tmp 70) (Operand.const (Value.bool false))) 4 _ rfl rfl rfl rfl rfl (fun w0 hb0 => by unfold mkOp; go_simp; all_goals (with_reducible rfl)) ?_
        simp only [Act.put, List.setIfInBounds_toArray, List.set_cons_zero, List.set_cons_succ]
        refine lint_pure 72 (Op.move (Operand.tmp 71)) 4 _ rfl rfl rfl rfl rfl (fun w0 hb0 => by unfold mkOp; go_simp; all_goals (with_reducible rfl)) ?_
        simp only [Act.put, List.setIfInBounds_toArray, List.set_cons_zero, List.set_cons_succ]
        refine lint_pure 73 (Op.move (Operand.tmp 1)) 22 _ rfl rfl rfl rfl rfl (fun w0 hb0 => by unfold mkOp; go_simp; all_goals (with_reducible rfl)) ?_
        simp only [Act.put, List.setIfInBounds_toArray, List.set_cons_zero, List.set_cons_succ]
        refine lint_pure 74 (Op.move (Operand.tmp 2)) 22 _ rfl rfl rfl rfl rfl (fun w0 hb0 => by unfold mkOp; go_simp; all_goals (with_reducible rfl)) ?_
        simp only [Act.put, List.setIfInBounds_toArray, List.set_cons_zero, List.set_cons_succ]
        refine lint_pure 75 (Op.move (Operand.tmp 3)) 3 _ rfl rfl rfl rfl rfl (fun w0 hb0 => by unfold mkOp; go_simp; all_goals (with_reducible rfl)) ?_
        simp only [Act.put, List.setIfInBounds_toArray, List.set_cons_zero, List.set_cons_succ]
        refine lint_pure 78 (Op.move (Operand.tmp 1)) 22 _ rfl rfl rfl rfl rfl (fun w0 hb0 => by unfold mkOp; go_simp; all_goals (with_reducible rfl)) ?_
        simp only [Act.put, List.setIfInBounds_toArray, List.set_cons_zero, List.set_cons_succ]
        refine lint_pure 79 (Op.move (Operand.tmp 2)) 22 _ rfl rfl rfl rfl rfl (fun w0 hb0 => by unfold mkOp; go_simp; all_goals (with_reducible rfl)) ?_
        simp only [Act.put, List.setIfInBounds_toArray, List.set_cons_zero, List.set_cons_succ]
        refine lint_pure 80 (Op.move (Operand.tmp 3)) 3 _ rfl rfl rfl rfl rfl (fun w0 hb0 => by unfold mkOp; go_simp; all_goals (with_reducible rfl)) ?_
        simp only [Act.put, List.setIfInBounds_toArray, List.set_cons_zero, List.set_cons_succ]
        refine stp_fn 76 16 #[Operand.tmp 73, Operand.tmp 74, Operand.tmp 75] #[22, 22, 3] _ (expand_any _ _ ikm info n _ HB (by omega) HC (by omega) hn) rfl rfl rfl rfl Try.func16 (by kernel_rfl) (by kernel_rfl) (by go_simp) ?_
        rintro e w76 ⟨v76, rfl, HS5, b76⟩
        replace HA := Bs.below HA b76 (Nat.le_refl _)
        replace HB := Bs.below HB b76 (Nat.le_refl _)
        replace HC := Bs.below HC b76 (Nat.le_refl _)
        replace B := B.trans (Below.mono b76 B.size)
        (try replace HS1 := Bs.below HS1 b76 (Nat.le_refl _))
        (try replace HS2 := Bs.below HS2 b76 (Nat.le_refl _))
        (try replace HS3 := Bs.below HS3 b76 (Nat.le_refl _))
        (try replace HS4 := Bs.below HS4 b76 (Nat.le_refl _))
        (try replace HS5 := Bs.below HS5 b76 (Nat.le_refl _))
        (try replace HS6 := Bs.below HS6 b76 (Nat.le_refl _))
        refine ⟨_, rfl, b76, ?_⟩
        simp only [Act.put, List.setIfInBounds_toArray, List.set_cons_zero, List.set_cons_succ]
        refine lint_conv 77 (Operand.tmp 76) _ _ rfl rfl rfl rfl rfl HS5 ?_
        simp only [Act.put, List.setIfInBounds_toArray, List.set_cons_zero, List.set_cons_succ]
        refine stp_fn 81 17 #[Operand.tmp 78, Operand.tmp 79, Operand.tmp 80] #[22, 22, 3] _ (refExpand_any _ _ ikm info n _ HB (by omega) HC (by omega) hn) rfl rfl rfl rfl Try.func17 (by kernel_rfl) (by kernel_rfl) (by go_simp) ?_
        rintro e w81 ⟨v81, rfl, HS6, b81⟩
        replace HA := Bs.below HA b81 (Nat.le_refl _)
        replace HB := Bs.below HB b81 (Nat.le_refl _)
        replace HC := Bs.below HC b81 (Nat.le_refl _)
        replace B := B.trans (Below.mono b81 B.size)
        (try replace HS1 := Bs.below HS1 b81 (Nat.le_refl _))
        (try replace HS2 := Bs.below HS2 b81 (Nat.le_refl _))
        (try replace HS3 := Bs.below HS3 b81 (Nat.le_refl _))
        (try replace HS4 := Bs.below HS4 b81 (Nat.le_refl _))
        (try replace HS5 := Bs.below HS5 b81 (Nat.le_refl _))
        (try replace HS6 := Bs.below HS6 b81 (Nat.le_refl _))
        refine ⟨_, rfl, b81, ?_⟩
        simp only [Act.put, List.setIfInBounds_toArray, List.set_cons_zero, List.set_cons_succ]
        refine lint_conv 82 (Operand.tmp 81) _ _ rfl rfl rfl rfl rfl HS6 ?_
        simp only [Act.put, List.setIfInBounds_toArray, List.set_cons_zero, List.set_cons_succ]
        refine lint_pure 83 (Op.binOp BinOp.eql 9 (Operand.tmp 77) (Operand.tmp 82) 9) 4 _ rfl rfl rfl rfl rfl (fun w0 hb0 => by unfold mkOp; go_simp; all_goals (with_reducible rfl)) ?_
        simp only [Act.put, List.setIfInBounds_toArray, List.set_cons_zero, List.set_cons_succ]
        refine lint_pure 84 (Op.pick (Operand.tmp 72) (Operand.tmp 83) (Operand.const (Value.bool false))) 4 _ rfl rfl rfl rfl rfl (fun w0 hb0 => by unfold mkOp; go_simp; all_goals (with_reducible rfl)) ?_
        simp only [Act.put, List.setIfInBounds_toArray, List.set_cons_zero, List.set_cons_succ]
        refine lint_pure 85 (Op.move (Operand.tmp 84)) 4 _ rfl rfl rfl rfl rfl (fun w0 hb0 => by unfold mkOp; go_simp; all_goals (with_reducible rfl)) ?_
        simp only [Act.put, List.setIfInBounds_toArray, List.set_cons_zero, List.set_cons_succ]
        refine stp_fn 86 7 #[] #[] _ (awake4_any _) rfl rfl rfl rfl Try.func7 (by kernel_rfl) (by kernel_rfl) (by go_simp) ?_
        rintro e w86 ⟨rfl, b86⟩
        replace B := B.trans (Below.mono b86 B.size)
        refine ⟨_, rfl, b86, ?_⟩
        simp only [Act.put, List.setIfInBounds_toArray, List.set_cons_zero, List.set_cons_succ]
        refine lint_pure 87 (Op.pick (Operand.tmp 85) (Operand.tmp 86) (Operand.const (Value.bool false))) 4 _ rfl rfl rfl rfl rfl (fun w0 hb0 => by unfold mkOp; go_simp; all_goals (with_reducible rfl)) ?_
        simp only [Act.put, List.setIfInBounds_toArray, List.set_cons_zero, List.set_cons_succ]
        refine lint_pure 8 (Op.assign (Operand.tmp 87)) 4 _ rfl rfl rfl rfl rfl (fun w0 hb0 => by unfold mkOp; go_simp; all_goals (with_reducible rfl)) ?_
        simp only [Act.put, List.setIfInBounds_toArray, List.set_cons_zero, List.set_cons_succ]
        refine lint_end ?_
        go_wp2
        go_ret
        exact ⟨rfl, B⟩
  · go_wp2_with fail
    have HA : Bs w.drew _ salt := H0.out.below (Below.drew (Below.refl w.heap.size w)) (Nat.le_refl _)
    have HB : Bs w.drew _ ikm := H1.out.below (Below.drew (Below.refl w.heap.size w)) (Nat.le_refl _)
    have HC : Bs w.drew _ info := H2.out.below (Below.drew (Below.refl w.heap.size w)) (Nat.le_refl _)
    have B : Below w.heap.size w w.drew := Below.drew (Below.refl w.heap.size w)
    have hl0 : salt.length ≤ 300 := by have := E0.out; omega
    have hl1 : ikm.length ≤ 300 := by have := E1.out; omega
    have hl2 : info.length ≤ 300 := by have := E2.out; omega
    have hn := HNW.out
    refine wp_region_lint (.rd 0 (.rd 1 (.rd 4 (.rd 5 (.wr 2 (.rd 3 (.wr 6 (.rd 7 (.rd 8 (.rd 9 (.rd 10 (.rd 11 (.rd 12 (.rd 13 (.rd 16 (.rd 17 (.rd 18 (.rd 19 (.wr 14 (.rd 15 (.wr 20 (.rd 21 (.rd 22 (.rd 23 (.rd 24 (.rd 25 (.rd 26 (.rd 27 (.rd 30 (.rd 31 (.rd 32 (.wr 28 (.rd 29 (.wr 33 (.rd 34 (.rd 35 (.rd 36 (.rd 37 (.wr 38 (.rd 39 (.rd 40 .done))))))))))))))))))))))))))))))))))))))))) (by kernel_rfl) (by kernel_rfl) (by decide) (by kernel_rfl) (fun d _ _ _ _ h => by cases d <;> exact h) ?_
    refine lint_pure 48 (Op.move (Operand.tmp 0)) 22 _ rfl rfl rfl rfl rfl (fun w0 hb0 => by unfold mkOp; go_simp; all_goals (with_reducible rfl)) ?_
    simp only [Act.put, List.setIfInBounds_toArray, List.set_cons_zero, List.set_cons_succ]
    refine lint_pure 49 (Op.move (Operand.tmp 1)) 22 _ rfl rfl rfl rfl rfl (fun w0 hb0 => by unfold mkOp; go_simp; all_goals (with_reducible rfl)) ?_
    simp only [Act.put, List.setIfInBounds_toArray, List.set_cons_zero, List.set_cons_succ]
    refine lint_pure 52 (Op.move (Operand.tmp 0)) 22 _ rfl rfl rfl rfl rfl (fun w0 hb0 => by unfold mkOp; go_simp; all_goals (with_reducible rfl)) ?_
    simp only [Act.put, List.setIfInBounds_toArray, List.set_cons_zero, List.set_cons_succ]
    refine lint_pure 53 (Op.move (Operand.tmp 1)) 22 _ rfl rfl rfl rfl rfl (fun w0 hb0 => by unfold mkOp; go_simp; all_goals (with_reducible rfl)) ?_
    simp only [Act.put, List.setIfInBounds_toArray, List.set_cons_zero, List.set_cons_succ]
    refine stp_fn 50 14 #[Operand.tmp 48, Operand.tmp 49] #[22, 22] _ (extract_any _ _ salt ikm _ HA (by omega) HB (by omega)) rfl rfl rfl rfl Try.func14 (by kernel_rfl) (by kernel_rfl) (by go_simp) ?_
    rintro e w50 ⟨v50, rfl, HS1, b50⟩
    replace HA := Bs.below HA b50 (Nat.le_refl _)
    replace HB := Bs.below HB b50 (Nat.le_refl _)
    replace HC := Bs.below HC b50 (Nat.le_refl _)
    replace B := B.trans (Below.mono b50 B.size)
    (try replace HS1 := Bs.below HS1 b50 (Nat.le_refl _))
    (try replace HS2 := Bs.below HS2 b50 (Nat.le_refl _))
    (try replace HS3 := Bs.below HS3 b50 (Nat.le_refl _))
    (try replace HS4 := Bs.below HS4 b50 (Nat.le_refl _))
    (try replace HS5 := Bs.below HS5 b50 (Nat.le_refl _))
    (try replace HS6 := Bs.below HS6 b50 (Nat.le_refl _))
    refine ⟨_, rfl, b50, ?_⟩
    simp only [Act.put, List.setIfInBounds_toArray, List.set_cons_zero, List.set_cons_succ]
    refine lint_conv 51 (Operand.tmp 50) _ _ rfl rfl rfl rfl rfl HS1 ?_
    simp only [Act.put, List.setIfInBounds_toArray, List.set_cons_zero, List.set_cons_succ]
    refine stp_fn 54 8 #[Operand.tmp 52, Operand.tmp 53] #[22, 22] _ (refMac_any _ _ salt ikm _ HA (by omega) HB (by omega)) rfl rfl rfl rfl Try.func8 (by kernel_rfl) (by kernel_rfl) (by go_simp) ?_
    rintro e w54 ⟨v54, rfl, HO2, b54⟩
    have HS2 := HO2.bs
    replace HA := Bs.below HA b54 (Nat.le_refl _)
    replace HB := Bs.below HB b54 (Nat.le_refl _)
    replace HC := Bs.below HC b54 (Nat.le_refl _)
    replace B := B.trans (Below.mono b54 B.size)
    (try replace HS1 := Bs.below HS1 b54 (Nat.le_refl _))
    (try replace HS2 := Bs.below HS2 b54 (Nat.le_refl _))
    (try replace HS3 := Bs.below HS3 b54 (Nat.le_refl _))
    (try replace HS4 := Bs.below HS4 b54 (Nat.le_refl _))
    (try replace HS5 := Bs.below HS5 b54 (Nat.le_refl _))
    (try replace HS6 := Bs.below HS6 b54 (Nat.le_refl _))
    refine ⟨_, rfl, b54, ?_⟩
    simp only [Act.put, List.setIfInBounds_toArray, List.set_cons_zero, List.set_cons_succ]
    refine lint_conv 55 (Operand.tmp 54) _ _ rfl rfl rfl rfl rfl HS2 ?_
    simp only [Act.put, List.setIfInBounds_toArray, List.set_cons_zero, List.set_cons_succ]
    refine lint_pure 56 (Op.binOp BinOp.eql 9 (Operand.tmp 51) (Operand.tmp 55) 9) 4 _ rfl rfl rfl rfl rfl (fun w0 hb0 => by unfold mkOp; go_simp; all_goals (with_reducible rfl)) ?_
    simp only [Act.put, List.setIfInBounds_toArray, List.set_cons_zero, List.set_cons_succ]
    refine lint_pure 57 (Op.move (Operand.tmp 56)) 4 _ rfl rfl rfl rfl rfl (fun w0 hb0 => by unfold mkOp; go_simp; all_goals (with_reducible rfl)) ?_
    simp only [Act.put, List.setIfInBounds_toArray, List.set_cons_zero, List.set_cons_succ]
    refine lint_pure 58 (Op.move (Operand.tmp 0)) 22 _ rfl rfl rfl rfl rfl (fun w0 hb0 => by unfold mkOp; go_simp; all_goals (with_reducible rfl)) ?_
    simp only [Act.put, List.setIfInBounds_toArray, List.set_cons_zero, List.set_cons_succ]
    refine lint_pure 59 (Op.move (Operand.tmp 1)) 22 _ rfl rfl rfl rfl rfl (fun w0 hb0 => by unfold mkOp; go_simp; all_goals (with_reducible rfl)) ?_
    simp only [Act.put, List.setIfInBounds_toArray, List.set_cons_zero, List.set_cons_succ]
    refine lint_pure 60 (Op.move (Operand.tmp 2)) 22 _ rfl rfl rfl rfl rfl (fun w0 hb0 => by unfold mkOp; go_simp; all_goals (with_reducible rfl)) ?_
    simp only [Act.put, List.setIfInBounds_toArray, List.set_cons_zero, List.set_cons_succ]
    refine lint_pure 61 (Op.move (Operand.tmp 3)) 3 _ rfl rfl rfl rfl rfl (fun w0 hb0 => by unfold mkOp; go_simp; all_goals (with_reducible rfl)) ?_
    simp only [Act.put, List.setIfInBounds_toArray, List.set_cons_zero, List.set_cons_succ]
    refine lint_pure 64 (Op.move (Operand.tmp 0)) 22 _ rfl rfl rfl rfl rfl (fun w0 hb0 => by unfold mkOp; go_simp; all_goals (with_reducible rfl)) ?_
    simp only [Act.put, List.setIfInBounds_toArray, List.set_cons_zero, List.set_cons_succ]
    refine lint_pure 65 (Op.move (Operand.tmp 1)) 22 _ rfl rfl rfl rfl rfl (fun w0 hb0 => by unfold mkOp; go_simp; all_goals (with_reducible rfl)) ?_
    simp only [Act.put, List.setIfInBounds_toArray, List.set_cons_zero, List.set_cons_succ]
    refine lint_pure 66 (Op.move (Operand.tmp 2)) 22 _ rfl rfl rfl rfl rfl (fun w0 hb0 => by unfold mkOp; go_simp; all_goals (with_reducible rfl)) ?_
    simp only [Act.put, List.setIfInBounds_toArray, List.set_cons_zero, List.set_cons_succ]
    refine lint_pure 67 (Op.move (Operand.tmp 3)) 3 _ rfl rfl rfl rfl rfl (fun w0 hb0 => by unfold mkOp; go_simp; all_goals (with_reducible rfl)) ?_
    simp only [Act.put, List.setIfInBounds_toArray, List.set_cons_zero, List.set_cons_succ]
    refine stp_fn 62 13 #[Operand.tmp 58, Operand.tmp 59, Operand.tmp 60, Operand.tmp 61] #[22, 22, 22, 3] _ (derive_any _ _ _ salt ikm info n _ HA (by omega) HB (by omega) HC (by omega) hn) rfl rfl rfl rfl Try.func13 (by kernel_rfl) (by kernel_rfl) (by go_simp) ?_
    rintro e w62 ⟨v62, rfl, HS3, b62⟩
    replace HA := Bs.below HA b62 (Nat.le_refl _)
    replace HB := Bs.below HB b62 (Nat.le_refl _)
    replace HC := Bs.below HC b62 (Nat.le_refl _)
    replace B := B.trans (Below.mono b62 B.size)
    (try replace HS1 := Bs.below HS1 b62 (Nat.le_refl _))
    (try replace HS2 := Bs.below HS2 b62 (Nat.le_refl _))
    (try replace HS3 := Bs.below HS3 b62 (Nat.le_refl _))
    (try replace HS4 := Bs.below HS4 b62 (Nat.le_refl _))
    (try replace HS5 := Bs.below HS5 b62 (Nat.le_refl _))
    (try replace HS6 := Bs.below HS6 b62 (Nat.le_refl _))
    refine ⟨_, rfl, b62, ?_⟩
    simp only [Act.put, List.setIfInBounds_toArray, List.set_cons_zero, List.set_cons_succ]
    refine lint_conv 63 (Operand.tmp 62) _ _ rfl rfl rfl rfl rfl HS3 ?_
    simp only [Act.put, List.setIfInBounds_toArray, List.set_cons_zero, List.set_cons_succ]
    refine stp_fn 68 15 #[Operand.tmp 64, Operand.tmp 65, Operand.tmp 66, Operand.tmp 67] #[22, 22, 22, 3] _ (refDerive_any _ _ _ salt ikm info n _ HA (by omega) HB (by omega) HC (by omega) hn) rfl rfl rfl rfl Try.func15 (by kernel_rfl) (by kernel_rfl) (by go_simp) ?_
    rintro e w68 ⟨v68, rfl, HS4, b68⟩
    replace HA := Bs.below HA b68 (Nat.le_refl _)
    replace HB := Bs.below HB b68 (Nat.le_refl _)
    replace HC := Bs.below HC b68 (Nat.le_refl _)
    replace B := B.trans (Below.mono b68 B.size)
    (try replace HS1 := Bs.below HS1 b68 (Nat.le_refl _))
    (try replace HS2 := Bs.below HS2 b68 (Nat.le_refl _))
    (try replace HS3 := Bs.below HS3 b68 (Nat.le_refl _))
    (try replace HS4 := Bs.below HS4 b68 (Nat.le_refl _))
    (try replace HS5 := Bs.below HS5 b68 (Nat.le_refl _))
    (try replace HS6 := Bs.below HS6 b68 (Nat.le_refl _))
    refine ⟨_, rfl, b68, ?_⟩
    simp only [Act.put, List.setIfInBounds_toArray, List.set_cons_zero, List.set_cons_succ]
    refine lint_conv 69 (Operand.tmp 68) _ _ rfl rfl rfl rfl rfl HS4 ?_
    simp only [Act.put, List.setIfInBounds_toArray, List.set_cons_zero, List.set_cons_succ]
    refine lint_pure 70 (Op.binOp BinOp.eql 9 (Operand.tmp 63) (Operand.tmp 69) 9) 4 _ rfl rfl rfl rfl rfl (fun w0 hb0 => by unfold mkOp; go_simp; all_goals (with_reducible rfl)) ?_
    simp only [Act.put, List.setIfInBounds_toArray, List.set_cons_zero, List.set_cons_succ]
    refine lint_pure 71 (Op.pick (Operand.tmp 57) (Operand.tmp 70) (Operand.const (Value.bool false))) 4 _ rfl rfl rfl rfl rfl (fun w0 hb0 => by unfold mkOp; go_simp; all_goals (with_reducible rfl)) ?_
    simp only [Act.put, List.setIfInBounds_toArray, List.set_cons_zero, List.set_cons_succ]
    refine lint_pure 72 (Op.move (Operand.tmp 71)) 4 _ rfl rfl rfl rfl rfl (fun w0 hb0 => by unfold mkOp; go_simp; all_goals (with_reducible rfl)) ?_
    simp only [Act.put, List.setIfInBounds_toArray, List.set_cons_zero, List.set_cons_succ]
    refine lint_pure 73 (Op.move (Operand.tmp 1)) 22 _ rfl rfl rfl rfl rfl (fun w0 hb0 => by unfold mkOp; go_simp; all_goals (with_reducible rfl)) ?_
    simp only [Act.put, List.setIfInBounds_toArray, List.set_cons_zero, List.set_cons_succ]
    refine lint_pure 74 (Op.move (Operand.tmp 2)) 22 _ rfl rfl rfl rfl rfl (fun w0 hb0 => by unfold mkOp; go_simp; all_goals (with_reducible rfl)) ?_
    simp only [Act.put, List.setIfInBounds_toArray, List.set_cons_zero, List.set_cons_succ]
    refine lint_pure 75 (Op.move (Operand.tmp 3)) 3 _ rfl rfl rfl rfl rfl (fun w0 hb0 => by unfold mkOp; go_simp; all_goals (with_reducible rfl)) ?_
    simp only [Act.put, List.setIfInBounds_toArray, List.set_cons_zero, List.set_cons_succ]
    refine lint_pure 78 (Op.move (Operand.tmp 1)) 22 _ rfl rfl rfl rfl rfl (fun w0 hb0 => by unfold mkOp; go_simp; all_goals (with_reducible rfl)) ?_
    simp only [Act.put, List.setIfInBounds_toArray, List.set_cons_zero, List.set_cons_succ]
    refine lint_pure 79 (Op.move (Operand.tmp 2)) 22 _ rfl rfl rfl rfl rfl (fun w0 hb0 => by unfold mkOp; go_simp; all_goals (with_reducible rfl)) ?_
    simp only [Act.put, List.setIfInBounds_toArray, List.set_cons_zero, List.set_cons_succ]
    refine lint_pure 80 (Op.move (Operand.tmp 3)) 3 _ rfl rfl rfl rfl rfl (fun w0 hb0 => by unfold mkOp; go_simp; all_goals (with_reducible rfl)) ?_
    simp only [Act.put, List.setIfInBounds_toArray, List.set_cons_zero, List.set_cons_succ]
    refine stp_fn 76 16 #[Operand.tmp 73, Operand.tmp 74, Operand.tmp 75] #[22, 22, 3] _ (expand_any _ _ ikm info n _ HB (by omega) HC (by omega) hn) rfl rfl rfl rfl Try.func16 (by kernel_rfl) (by kernel_rfl) (by go_simp) ?_
    rintro e w76 ⟨v76, rfl, HS5, b76⟩
    replace HA := Bs.below HA b76 (Nat.le_refl _)
    replace HB := Bs.below HB b76 (Nat.le_refl _)
    replace HC := Bs.below HC b76 (Nat.le_refl _)
    replace B := B.trans (Below.mono b76 B.size)
    (try replace HS1 := Bs.below HS1 b76 (Nat.le_refl _))
    (try replace HS2 := Bs.below HS2 b76 (Nat.le_refl _))
    (try replace HS3 := Bs.below HS3 b76 (Nat.le_refl _))
    (try replace HS4 := Bs.below HS4 b76 (Nat.le_refl _))
    (try replace HS5 := Bs.below HS5 b76 (Nat.le_refl _))
    (try replace HS6 := Bs.below HS6 b76 (Nat.le_refl _))
    refine ⟨_, rfl, b76, ?_⟩
    simp only [Act.put, List.setIfInBounds_toArray, List.set_cons_zero, List.set_cons_succ]
    refine lint_conv 77 (Operand.tmp 76) _ _ rfl rfl rfl rfl rfl HS5 ?_
    simp only [Act.put, List.setIfInBounds_toArray, List.set_cons_zero, List.set_cons_succ]
    refine stp_fn 81 17 #[Operand.tmp 78, Operand.tmp 79, Operand.tmp 80] #[22, 22, 3] _ (refExpand_any _ _ ikm info n _ HB (by omega) HC (by omega) hn) rfl rfl rfl rfl Try.func17 (by kernel_rfl) (by kernel_rfl) (by go_simp) ?_
    rintro e w81 ⟨v81, rfl, HS6, b81⟩
    replace HA := Bs.below HA b81 (Nat.le_refl _)
    replace HB := Bs.below HB b81 (Nat.le_refl _)
    replace HC := Bs.below HC b81 (Nat.le_refl _)
    replace B := B.trans (Below.mono b81 B.size)
    (try replace HS1 := Bs.below HS1 b81 (Nat.le_refl _))
    (try replace HS2 := Bs.below HS2 b81 (Nat.le_refl _))
    (try replace HS3 := Bs.below HS3 b81 (Nat.le_refl _))
    (try replace HS4 := Bs.below HS4 b81 (Nat.le_refl _))
    (try replace HS5 := Bs.below HS5 b81 (Nat.le_refl _))
    (try replace HS6 := Bs.below HS6 b81 (Nat.le_refl _))
    refine ⟨_, rfl, b81, ?_⟩
    simp only [Act.put, List.setIfInBounds_toArray, List.set_cons_zero, List.set_cons_succ]
    refine lint_conv 82 (Operand.tmp 81) _ _ rfl rfl rfl rfl rfl HS6 ?_
    simp only [Act.put, List.setIfInBounds_toArray, List.set_cons_zero, List.set_cons_succ]
    refine lint_pure 83 (Op.binOp BinOp.eql 9 (Operand.tmp 77) (Operand.tmp 82) 9) 4 _ rfl rfl rfl rfl rfl (fun w0 hb0 => by unfold mkOp; go_simp; all_goals (with_reducible rfl)) ?_
    simp only [Act.put, List.setIfInBounds_toArray, List.set_cons_zero, List.set_cons_succ]
    refine lint_pure 84 (Op.pick (Operand.tmp 72) (Operand.tmp 83) (Operand.const (Value.bool false))) 4 _ rfl rfl rfl rfl rfl (fun w0 hb0 => by unfold mkOp; go_simp; all_goals (with_reducible rfl)) ?_
    simp only [Act.put, List.setIfInBounds_toArray, List.set_cons_zero, List.set_cons_succ]
    refine lint_pure 85 (Op.move (Operand.tmp 84)) 4 _ rfl rfl rfl rfl rfl (fun w0 hb0 => by unfold mkOp; go_simp; all_goals (with_reducible rfl)) ?_
    simp only [Act.put, List.setIfInBounds_toArray, List.set_cons_zero, List.set_cons_succ]
    refine stp_fn 86 7 #[] #[] _ (awake4_any _) rfl rfl rfl rfl Try.func7 (by kernel_rfl) (by kernel_rfl) (by go_simp) ?_
    rintro e w86 ⟨rfl, b86⟩
    replace B := B.trans (Below.mono b86 B.size)
    refine ⟨_, rfl, b86, ?_⟩
    simp only [Act.put, List.setIfInBounds_toArray, List.set_cons_zero, List.set_cons_succ]
    refine lint_pure 87 (Op.pick (Operand.tmp 85) (Operand.tmp 86) (Operand.const (Value.bool false))) 4 _ rfl rfl rfl rfl rfl (fun w0 hb0 => by unfold mkOp; go_simp; all_goals (with_reducible rfl)) ?_
    simp only [Act.put, List.setIfInBounds_toArray, List.set_cons_zero, List.set_cons_succ]
    refine lint_pure 8 (Op.assign (Operand.tmp 87)) 4 _ rfl rfl rfl rfl rfl (fun w0 hb0 => by unfold mkOp; go_simp; all_goals (with_reducible rfl)) ?_
    simp only [Act.put, List.setIfInBounds_toArray, List.set_cons_zero, List.set_cons_succ]
    refine lint_end ?_
    go_wp2
    go_ret
    exact ⟨rfl, B⟩
end Go.Proofs.Ytladojcbbhphfaa
