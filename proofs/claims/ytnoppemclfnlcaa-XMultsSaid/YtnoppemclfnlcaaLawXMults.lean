/- XMults, walked. -/
import Derived.Test.YtnoppemclfnlcaaEdW
namespace Go.Proofs.Ytnoppemclfnlcaa
open Go.RowKit Go.Deep
set_option linter.unusedSimpArgs false
set_option linter.unusedVariables false

set_option maxHeartbeats 8000000 in
set_option maxRecDepth 100000 in
theorem law_xMults (w : World) (v0 : Value) (l0 : List UInt8) (h0 : Bs w v0 l0) (v1 : Value) (l1 : List UInt8) (h1 : Bs w v1 l1) : Calls Try.prog 3 #[v0, v1] w fun e w' => e = .returned (.bool true) ∧ Below w.heap.size w w' := by
  obtain ⟨ad0, n0, c0, rfl, e0, y0, z0, hB0⟩ := h0.shape
  obtain ⟨ad1, n1, c1, rfl, e1, y1, z1, hB1⟩ := h1.shape
  by_cases d0 : n0 ≤ 100
  · by_cases d1 : n1 ≤ 100
    · have f_s0 := hB0
      have f_s1 := hB1
      have B0 := Below.refl w.heap.size w
      have HGS : Hid (∀ wq : World, Below w.heap.size w wq → w.heap.size ≤ wq.heap.size) := Lib.hid fun wq h => h.size
      have q0 : ¬ (100 : Int) < (n0 : Int) := by omega
      have q1 : ¬ (100 : Int) < (n1 : Int) := by omega
      clear h0 h1 hB0 hB1 d0 d1 e0 e1
      go_enter Try.func3, Try.ntmps3
      go_wp2
      have B1 := B0.drew
      replace f_s0 := Bs.drew f_s0
      replace f_s1 := Bs.drew f_s1
      clear B0
      refine wp_region_po (Keep []) (Keep.refl _) (fun _ _ _ h1 h2 => h1.trans h2) (.rd 0 (.rd 3 .done)) #[true, false, false, true, false, false, false, false, false, false, false, false, false, false, false, false, false, false, false, false, false, false, false, false, false, false, false, false, false, false, false] [1, 2, 4, 5, 6, 7, 8, 9, 10, 11, 12, 13, 14, 15, 16, 17, 18, 19, 20, 21, 22, 23, 24, 25, 26, 27, 28, 29, 30] [some 15, some 16, some 18, some 19, some 20, some 21, some 22, some 23, some 24, some 25, some 26, some 27, some 28, some 29, some 30, some 31, some 32, some 33, some 34, some 35, some 36, some 37, some 38, some 39, some 40, some 41, some 42, some 43, some 4] [[], [0], [0], [2], [1, 3], [2, 4], [5], [5], [5, 6, 7], [5, 8], [5], [5], [5, 8, 10, 11], [5, 12], [5, 9, 13], [5, 14], [12, 15], [16], [16, 17], [16, 18], [16], [16, 18, 20], [16, 21], [16, 19, 22], [16, 23], [21, 24], [25], [25, 26], [0, 1, 2, 3, 4, 5, 6, 7, 8, 9, 10, 11, 12, 13, 14, 15, 16, 17, 18, 19, 20, 21, 22, 23, 24, 25, 26, 27]] [(0, []), (1, [0]), (2, [1]), (3, []), (4, [3, 1]), (5, [4]), (6, [2, 5]), (7, [6, 4]), (8, [7]), (9, [7]), (10, [8, 9, 7, 7]), (11, [10, 7]), (12, [7]), (13, [7]), (14, [12, 13, 10, 7]), (15, [14, 7]), (16, [11, 15, 7]), (17, [7, 16]), (18, [17, 14]), (19, [18]), (20, [19, 18, 18]), (21, [20, 18]), (22, [18]), (23, [22, 20, 18]), (24, [23, 18]), (25, [21, 24, 18]), (26, [18, 25]), (27, [26, 23]), (28, [27, 27]), (29, [27, 28]), (30, [29, 28, 0, 1, 2, 3, 4, 5, 6, 7, 8, 9, 10, 11, 12, 13, 14, 15, 16, 17, 18, 19, 20, 21, 22, 23, 24, 25, 26, 27, 28, 29])] 9 (by kernel_rfl) (by kernel_rfl) (by decide) (by kernel_rfl) (by kernel_rfl) (by kernel_rfl) rfl (fun d _ _ _ _ h => by cases d <;> exact h) ?_
      refine lintz_pure 14 (Op.move (Operand.tmp 0)) 22 (.slice ad0 n0 c0) rfl rfl rfl rfl rfl (fun w0 hb => by unfold mkOp; go_simp; all_goals (with_reducible rfl)) ?_
      simp only [Act.put, List.setIfInBounds_toArray, List.set_cons_zero, List.set_cons_succ]
      refine lintz_pure 17 (Op.move (Operand.tmp 0)) 22 (.slice ad0 n0 c0) rfl rfl rfl rfl rfl (fun w0 hb => by unfold mkOp; go_simp; all_goals (with_reducible rfl)) ?_
      simp only [Act.put, List.setIfInBounds_toArray, List.set_cons_zero, List.set_cons_succ]
      refine lintz_leaf ?_
      have HWF : poWf [.own (litB (clampN (l0)) 32) 29, .val (.string ⟨(litB (clampN (l0)) 32).toArray⟩), .own (litB (clampN (l0)) 32) 29, .val (.string ⟨(litB (clampN (l0)) 32).toArray⟩), .val (.bool true), .val (.bool true), .val (.slice ad0 n0 c0), .val (.slice ad1 n1 c1), .own (litB (ladder (ofL (l1)) (clampN (l0))) 32) 29, .val (.string ⟨(litB (ladder (ofL (l1)) (clampN (l0))) 32).toArray⟩), .val (.slice ad0 n0 c0), .val (.slice ad1 n1 c1), .own (litB (ladder (ofL (l1)) (clampN (l0))) 32) 29, .val (.string ⟨(litB (ladder (ofL (l1)) (clampN (l0))) 32).toArray⟩), .val (.bool true), .val (.bool true), .val (.bool true), .val (.slice ad0 n0 c0), .own (litB (ladder 9 (clampN (l0))) 32) 29, .val (.string ⟨(litB (ladder 9 (clampN (l0))) 32).toArray⟩), .val (.slice ad0 n0 c0), .own (litB (ladder 9 (clampN (l0))) 32) 29, .val (.string ⟨(litB (ladder 9 (clampN (l0))) 32).toArray⟩), .val (.bool true), .val (.bool true), .val (.bool true), .val (.bool true), .val (.bool true), .val (.bool true)] [] = true := by kernel_rfl
      refine ⟨JG [.own (litB (clampN (l0)) 32) 29, .val (.string ⟨(litB (clampN (l0)) 32).toArray⟩), .own (litB (clampN (l0)) 32) 29, .val (.string ⟨(litB (clampN (l0)) 32).toArray⟩), .val (.bool true), .val (.bool true), .val (.slice ad0 n0 c0), .val (.slice ad1 n1 c1), .own (litB (ladder (ofL (l1)) (clampN (l0))) 32) 29, .val (.string ⟨(litB (ladder (ofL (l1)) (clampN (l0))) 32).toArray⟩), .val (.slice ad0 n0 c0), .val (.slice ad1 n1 c1), .own (litB (ladder (ofL (l1)) (clampN (l0))) 32) 29, .val (.string ⟨(litB (ladder (ofL (l1)) (clampN (l0))) 32).toArray⟩), .val (.bool true), .val (.bool true), .val (.bool true), .val (.slice ad0 n0 c0), .own (litB (ladder 9 (clampN (l0))) 32) 29, .val (.string ⟨(litB (ladder 9 (clampN (l0))) 32).toArray⟩), .val (.slice ad0 n0 c0), .own (litB (ladder 9 (clampN (l0))) 32) 29, .val (.string ⟨(litB (ladder 9 (clampN (l0))) 32).toArray⟩), .val (.bool true), .val (.bool true), .val (.bool true), .val (.bool true), .val (.bool true), .val (.bool true)] [] _, JG.start (Nat.le_refl _) (fun i hi => absurd hi (Nat.not_lt_zero _)), fun m gz wa p az hp hm hmp hcl hdn hE hJ hS hO => ?_, fun gz wa hE hJ => ?_⟩
      · rcases (show p = 0 ∨ p = 1 ∨ p = 2 ∨ p = 3 ∨ p = 4 ∨ p = 5 ∨ p = 6 ∨ p = 7 ∨ p = 8 ∨ p = 9 ∨ p = 10 ∨ p = 11 ∨ p = 12 ∨ p = 13 ∨ p = 14 ∨ p = 15 ∨ p = 16 ∨ p = 17 ∨ p = 18 ∨ p = 19 ∨ p = 20 ∨ p = 21 ∨ p = 22 ∨ p = 23 ∨ p = 24 ∨ p = 25 ∨ p = 26 ∨ p = 27 ∨ p = 28 by have h9 : p < 29 := hp; omega) with rfl | rfl | rfl | rfl | rfl | rfl | rfl | rfl | rfl | rfl | rfl | rfl | rfl | rfl | rfl | rfl | rfl | rfl | rfl | rfl | rfl | rfl | rfl | rfl | rfl | rfl | rfl | rfl | rfl
        · have e14 : az.eval (.tmp 14) = .slice ad0 n0 c0 := hO 14 rfl
          exact po_owns 15 10 #[Operand.tmp 14] #[22] _ HWF hJ rfl hE (clampO_any _ _ _ (Bs.below f_s0 (Keep.nil hE) (Nat.le_refl _))) rfl rfl rfl rfl rfl Try.func10 (by kernel_rfl) (by kernel_rfl) (by simp only [List.map_toArray, List.map_cons, List.map_nil, eval_const, eval_func, e14] <;> rfl)
        · have e15 := hS 0 15 rfl (hdn 0 (by decide)) (Nat.le_of_ble_eq_true rfl)
          exact po_run 16 (Op.convert 22 9 (Operand.tmp 15)) 9 HWF hJ rfl hE rfl rfl rfl rfl rfl rfl (exec_str _ _ _ e15 (hJ.own (hdn 0 (by decide)) rfl (po_never hm (Nat.le_refl _))).bs)
        · have e17 : az.eval (.tmp 17) = .slice ad0 n0 c0 := hO 17 rfl
          exact po_owns 18 11 #[Operand.tmp 17] #[22] _ HWF hJ rfl hE (refClampO_any _ _ _ (Bs.below f_s0 (Keep.nil hE) (Nat.le_refl _))) rfl rfl rfl rfl rfl Try.func11 (by kernel_rfl) (by kernel_rfl) (by simp only [List.map_toArray, List.map_cons, List.map_nil, eval_const, eval_func, e17] <;> rfl)
        · have e18 := hS 2 18 rfl (hdn 2 (by decide)) (Nat.le_of_ble_eq_true rfl)
          exact po_run 19 (Op.convert 22 9 (Operand.tmp 18)) 9 HWF hJ rfl hE rfl rfl rfl rfl rfl rfl (exec_str _ _ _ e18 (hJ.own (hdn 2 (by decide)) rfl (po_never hm (Nat.le_refl _))).bs)
        · have e16 := (hS 1 16 rfl (hdn 1 (by decide)) (Nat.le_of_ble_eq_true rfl)).trans (hJ.says (hdn 1 (by decide)) rfl)
          have e19 := (hS 3 19 rfl (hdn 3 (by decide)) (Nat.le_of_ble_eq_true rfl)).trans (hJ.says (hdn 3 (by decide)) rfl)
          exact po_run 20 (Op.binOp BinOp.eql 9 (Operand.tmp 16) (Operand.tmp 19) 9) _ HWF hJ rfl hE rfl rfl rfl rfl rfl rfl (exec_str_yes _ _ _ _ (rfl) e16 e19)
        · have e20 := (hS 4 20 rfl (hdn 4 (by decide)) (Nat.le_of_ble_eq_true rfl)).trans (hJ.says (hdn 4 (by decide)) rfl)
          exact po_run 21 (Op.move (Operand.tmp 20)) _ HWF hJ rfl hE rfl rfl rfl rfl rfl rfl (by first | (simp only [execOp, mkOp, eval_const, e20]; done) | (simp only [execOp, mkOp, eval_const, e20]; go_simp))
        · have e21 := (hS 5 21 rfl (hdn 5 (by decide)) (Nat.le_of_ble_eq_true rfl)).trans (hJ.says (hdn 5 (by decide)) rfl)
          have e0 : az.eval (.tmp 0) = .slice ad0 n0 c0 := hO 0 rfl
          exact po_run 22 (Op.move (Operand.tmp 0)) _ HWF hJ rfl hE rfl rfl rfl rfl rfl (wanted_of rfl rfl e21) (by first | (simp only [execOp, mkOp, eval_const, e0]; done) | (simp only [execOp, mkOp, eval_const, e0]; go_simp))
        · have e21 := (hS 5 21 rfl (hdn 5 (by decide)) (Nat.le_of_ble_eq_true rfl)).trans (hJ.says (hdn 5 (by decide)) rfl)
          have e1 : az.eval (.tmp 1) = .slice ad1 n1 c1 := hO 1 rfl
          exact po_run 23 (Op.move (Operand.tmp 1)) _ HWF hJ rfl hE rfl rfl rfl rfl rfl (wanted_of rfl rfl e21) (by first | (simp only [execOp, mkOp, eval_const, e1]; done) | (simp only [execOp, mkOp, eval_const, e1]; go_simp))
        · have e21 := (hS 5 21 rfl (hdn 5 (by decide)) (Nat.le_of_ble_eq_true rfl)).trans (hJ.says (hdn 5 (by decide)) rfl)
          have e22 := (hS 6 22 rfl (hdn 6 (by decide)) (Nat.le_of_ble_eq_true rfl)).trans (hJ.says (hdn 6 (by decide)) rfl)
          have e23 := (hS 7 23 rfl (hdn 7 (by decide)) (Nat.le_of_ble_eq_true rfl)).trans (hJ.says (hdn 7 (by decide)) rfl)
          exact po_owns 24 12 #[Operand.tmp 22, Operand.tmp 23] #[22, 22] _ HWF hJ rfl hE (mult_any _ _ _ _ _ (Bs.below f_s0 (Keep.nil hE) (Nat.le_refl _)) (Bs.below f_s1 (Keep.nil hE) (Nat.le_refl _))) rfl rfl rfl rfl (wanted_of rfl rfl e21) Try.func12 (by kernel_rfl) (by kernel_rfl) (by simp only [List.map_toArray, List.map_cons, List.map_nil, eval_const, eval_func, e22, e23] <;> rfl)
        · have e21 := (hS 5 21 rfl (hdn 5 (by decide)) (Nat.le_of_ble_eq_true rfl)).trans (hJ.says (hdn 5 (by decide)) rfl)
          have e24 := hS 8 24 rfl (hdn 8 (by decide)) (Nat.le_of_ble_eq_true rfl)
          exact po_run 25 (Op.convert 22 9 (Operand.tmp 24)) 9 HWF hJ rfl hE rfl rfl rfl rfl rfl (wanted_of rfl rfl e21) (exec_str _ _ _ e24 (hJ.own (hdn 8 (by decide)) rfl (po_never hm (Nat.le_refl _))).bs)
        · have e21 := (hS 5 21 rfl (hdn 5 (by decide)) (Nat.le_of_ble_eq_true rfl)).trans (hJ.says (hdn 5 (by decide)) rfl)
          have e0 : az.eval (.tmp 0) = .slice ad0 n0 c0 := hO 0 rfl
          exact po_run 26 (Op.move (Operand.tmp 0)) _ HWF hJ rfl hE rfl rfl rfl rfl rfl (wanted_of rfl rfl e21) (by first | (simp only [execOp, mkOp, eval_const, e0]; done) | (simp only [execOp, mkOp, eval_const, e0]; go_simp))
        · have e21 := (hS 5 21 rfl (hdn 5 (by decide)) (Nat.le_of_ble_eq_true rfl)).trans (hJ.says (hdn 5 (by decide)) rfl)
          have e1 : az.eval (.tmp 1) = .slice ad1 n1 c1 := hO 1 rfl
          exact po_run 27 (Op.move (Operand.tmp 1)) _ HWF hJ rfl hE rfl rfl rfl rfl rfl (wanted_of rfl rfl e21) (by first | (simp only [execOp, mkOp, eval_const, e1]; done) | (simp only [execOp, mkOp, eval_const, e1]; go_simp))
        · have e21 := (hS 5 21 rfl (hdn 5 (by decide)) (Nat.le_of_ble_eq_true rfl)).trans (hJ.says (hdn 5 (by decide)) rfl)
          have e26 := (hS 10 26 rfl (hdn 10 (by decide)) (Nat.le_of_ble_eq_true rfl)).trans (hJ.says (hdn 10 (by decide)) rfl)
          have e27 := (hS 11 27 rfl (hdn 11 (by decide)) (Nat.le_of_ble_eq_true rfl)).trans (hJ.says (hdn 11 (by decide)) rfl)
          exact po_owns 28 13 #[Operand.tmp 26, Operand.tmp 27] #[22, 22] _ HWF hJ rfl hE (refX25519_any _ _ _ _ _ (Bs.below f_s0 (Keep.nil hE) (Nat.le_refl _)) (Bs.below f_s1 (Keep.nil hE) (Nat.le_refl _))) rfl rfl rfl rfl (wanted_of rfl rfl e21) Try.func13 (by kernel_rfl) (by kernel_rfl) (by simp only [List.map_toArray, List.map_cons, List.map_nil, eval_const, eval_func, e26, e27] <;> rfl)
        · have e21 := (hS 5 21 rfl (hdn 5 (by decide)) (Nat.le_of_ble_eq_true rfl)).trans (hJ.says (hdn 5 (by decide)) rfl)
          have e28 := hS 12 28 rfl (hdn 12 (by decide)) (Nat.le_of_ble_eq_true rfl)
          exact po_run 29 (Op.convert 22 9 (Operand.tmp 28)) 9 HWF hJ rfl hE rfl rfl rfl rfl rfl (wanted_of rfl rfl e21) (exec_str _ _ _ e28 (hJ.own (hdn 12 (by decide)) rfl (po_never hm (Nat.le_refl _))).bs)
        · have e21 := (hS 5 21 rfl (hdn 5 (by decide)) (Nat.le_of_ble_eq_true rfl)).trans (hJ.says (hdn 5 (by decide)) rfl)
          have e25 := (hS 9 25 rfl (hdn 9 (by decide)) (Nat.le_of_ble_eq_true rfl)).trans (hJ.says (hdn 9 (by decide)) rfl)
          have e29 := (hS 13 29 rfl (hdn 13 (by decide)) (Nat.le_of_ble_eq_true rfl)).trans (hJ.says (hdn 13 (by decide)) rfl)
          exact po_run 30 (Op.binOp BinOp.eql 9 (Operand.tmp 25) (Operand.tmp 29) 9) _ HWF hJ rfl hE rfl rfl rfl rfl rfl (wanted_of rfl rfl e21) (exec_str_yes _ _ _ _ (rfl) e25 e29)
        · have e21 := (hS 5 21 rfl (hdn 5 (by decide)) (Nat.le_of_ble_eq_true rfl)).trans (hJ.says (hdn 5 (by decide)) rfl)
          have e30 := (hS 14 30 rfl (hdn 14 (by decide)) (Nat.le_of_ble_eq_true rfl)).trans (hJ.says (hdn 14 (by decide)) rfl)
          exact po_run 31 (Op.pick (Operand.tmp 21) (Operand.tmp 30) (Operand.const (Value.bool false))) _ HWF hJ rfl hE rfl rfl rfl rfl rfl rfl (by first | (simp only [execOp, mkOp, eval_const, e21, e30]; done) | (simp only [execOp, mkOp, eval_const, e21, e30]; go_simp))
        · have e31 := (hS 15 31 rfl (hdn 15 (by decide)) (Nat.le_of_ble_eq_true rfl)).trans (hJ.says (hdn 15 (by decide)) rfl)
          exact po_run 32 (Op.move (Operand.tmp 31)) _ HWF hJ rfl hE rfl rfl rfl rfl rfl rfl (by first | (simp only [execOp, mkOp, eval_const, e31]; done) | (simp only [execOp, mkOp, eval_const, e31]; go_simp))
        · have e32 := (hS 16 32 rfl (hdn 16 (by decide)) (Nat.le_of_ble_eq_true rfl)).trans (hJ.says (hdn 16 (by decide)) rfl)
          have e0 : az.eval (.tmp 0) = .slice ad0 n0 c0 := hO 0 rfl
          exact po_run 33 (Op.move (Operand.tmp 0)) _ HWF hJ rfl hE rfl rfl rfl rfl rfl (wanted_of rfl rfl e32) (by first | (simp only [execOp, mkOp, eval_const, e0]; done) | (simp only [execOp, mkOp, eval_const, e0]; go_simp))
        · have e32 := (hS 16 32 rfl (hdn 16 (by decide)) (Nat.le_of_ble_eq_true rfl)).trans (hJ.says (hdn 16 (by decide)) rfl)
          have e33 := (hS 17 33 rfl (hdn 17 (by decide)) (Nat.le_of_ble_eq_true rfl)).trans (hJ.says (hdn 17 (by decide)) rfl)
          exact po_owns 34 14 #[Operand.tmp 33] #[22] _ HWF hJ rfl hE (base_any _ _ _ (Bs.below f_s0 (Keep.nil hE) (Nat.le_refl _))) rfl rfl rfl rfl (wanted_of rfl rfl e32) Try.func14 (by kernel_rfl) (by kernel_rfl) (by simp only [List.map_toArray, List.map_cons, List.map_nil, eval_const, eval_func, e33] <;> rfl)
        · have e32 := (hS 16 32 rfl (hdn 16 (by decide)) (Nat.le_of_ble_eq_true rfl)).trans (hJ.says (hdn 16 (by decide)) rfl)
          have e34 := hS 18 34 rfl (hdn 18 (by decide)) (Nat.le_of_ble_eq_true rfl)
          exact po_run 35 (Op.convert 22 9 (Operand.tmp 34)) 9 HWF hJ rfl hE rfl rfl rfl rfl rfl (wanted_of rfl rfl e32) (exec_str _ _ _ e34 (hJ.own (hdn 18 (by decide)) rfl (po_never hm (Nat.le_refl _))).bs)
        · have e32 := (hS 16 32 rfl (hdn 16 (by decide)) (Nat.le_of_ble_eq_true rfl)).trans (hJ.says (hdn 16 (by decide)) rfl)
          have e0 : az.eval (.tmp 0) = .slice ad0 n0 c0 := hO 0 rfl
          exact po_run 36 (Op.move (Operand.tmp 0)) _ HWF hJ rfl hE rfl rfl rfl rfl rfl (wanted_of rfl rfl e32) (by first | (simp only [execOp, mkOp, eval_const, e0]; done) | (simp only [execOp, mkOp, eval_const, e0]; go_simp))
        · have e32 := (hS 16 32 rfl (hdn 16 (by decide)) (Nat.le_of_ble_eq_true rfl)).trans (hJ.says (hdn 16 (by decide)) rfl)
          have e36 := (hS 20 36 rfl (hdn 20 (by decide)) (Nat.le_of_ble_eq_true rfl)).trans (hJ.says (hdn 20 (by decide)) rfl)
          exact po_owns 37 15 #[Operand.tmp 36] #[22] _ HWF hJ rfl hE (refBase_any _ _ _ (Bs.below f_s0 (Keep.nil hE) (Nat.le_refl _))) rfl rfl rfl rfl (wanted_of rfl rfl e32) Try.func15 (by kernel_rfl) (by kernel_rfl) (by simp only [List.map_toArray, List.map_cons, List.map_nil, eval_const, eval_func, e36] <;> rfl)
        · have e32 := (hS 16 32 rfl (hdn 16 (by decide)) (Nat.le_of_ble_eq_true rfl)).trans (hJ.says (hdn 16 (by decide)) rfl)
          have e37 := hS 21 37 rfl (hdn 21 (by decide)) (Nat.le_of_ble_eq_true rfl)
          exact po_run 38 (Op.convert 22 9 (Operand.tmp 37)) 9 HWF hJ rfl hE rfl rfl rfl rfl rfl (wanted_of rfl rfl e32) (exec_str _ _ _ e37 (hJ.own (hdn 21 (by decide)) rfl (po_never hm (Nat.le_refl _))).bs)
        · have e32 := (hS 16 32 rfl (hdn 16 (by decide)) (Nat.le_of_ble_eq_true rfl)).trans (hJ.says (hdn 16 (by decide)) rfl)
          have e35 := (hS 19 35 rfl (hdn 19 (by decide)) (Nat.le_of_ble_eq_true rfl)).trans (hJ.says (hdn 19 (by decide)) rfl)
          have e38 := (hS 22 38 rfl (hdn 22 (by decide)) (Nat.le_of_ble_eq_true rfl)).trans (hJ.says (hdn 22 (by decide)) rfl)
          exact po_run 39 (Op.binOp BinOp.eql 9 (Operand.tmp 35) (Operand.tmp 38) 9) _ HWF hJ rfl hE rfl rfl rfl rfl rfl (wanted_of rfl rfl e32) (exec_str_yes _ _ _ _ (rfl) e35 e38)
        · have e32 := (hS 16 32 rfl (hdn 16 (by decide)) (Nat.le_of_ble_eq_true rfl)).trans (hJ.says (hdn 16 (by decide)) rfl)
          have e39 := (hS 23 39 rfl (hdn 23 (by decide)) (Nat.le_of_ble_eq_true rfl)).trans (hJ.says (hdn 23 (by decide)) rfl)
          exact po_run 40 (Op.pick (Operand.tmp 32) (Operand.tmp 39) (Operand.const (Value.bool false))) _ HWF hJ rfl hE rfl rfl rfl rfl rfl rfl (by first | (simp only [execOp, mkOp, eval_const, e32, e39]; done) | (simp only [execOp, mkOp, eval_const, e32, e39]; go_simp))
        · have e40 := (hS 24 40 rfl (hdn 24 (by decide)) (Nat.le_of_ble_eq_true rfl)).trans (hJ.says (hdn 24 (by decide)) rfl)
          exact po_run 41 (Op.move (Operand.tmp 40)) _ HWF hJ rfl hE rfl rfl rfl rfl rfl rfl (by first | (simp only [execOp, mkOp, eval_const, e40]; done) | (simp only [execOp, mkOp, eval_const, e40]; go_simp))
        · have e41 := (hS 25 41 rfl (hdn 25 (by decide)) (Nat.le_of_ble_eq_true rfl)).trans (hJ.says (hdn 25 (by decide)) rfl)
          exact po_call 42 9 #[] #[] _ HWF hJ rfl hE (awake6_any _) rfl rfl rfl rfl (wanted_of rfl rfl e41) Try.func9 (by kernel_rfl) (by kernel_rfl) (by simp only [List.map_toArray, List.map_cons, List.map_nil, eval_const, eval_func] <;> rfl)
        · have e41 := (hS 25 41 rfl (hdn 25 (by decide)) (Nat.le_of_ble_eq_true rfl)).trans (hJ.says (hdn 25 (by decide)) rfl)
          have e42 := (hS 26 42 rfl (hdn 26 (by decide)) (Nat.le_of_ble_eq_true rfl)).trans (hJ.says (hdn 26 (by decide)) rfl)
          exact po_run 43 (Op.pick (Operand.tmp 41) (Operand.tmp 42) (Operand.const (Value.bool false))) _ HWF hJ rfl hE rfl rfl rfl rfl rfl rfl (by first | (simp only [execOp, mkOp, eval_const, e41, e42]; done) | (simp only [execOp, mkOp, eval_const, e41, e42]; go_simp))
        · have e43 := (hS 27 43 rfl (hdn 27 (by decide)) (Nat.le_of_ble_eq_true rfl)).trans (hJ.says (hdn 27 (by decide)) rfl)
          exact po_run 4 (Op.assign (Operand.tmp 43)) _ HWF hJ rfl hE rfl rfl rfl rfl rfl rfl (by first | (simp only [execOp, mkOp, eval_const, e43]; done) | (simp only [execOp, mkOp, eval_const, e43]; go_simp))
      · have q1 := hJ.told 1 (by decide) rfl
        have q3 := hJ.told 3 (by decide) rfl
        have q4 := hJ.told 4 (by decide) rfl
        have q5 := hJ.told 5 (by decide) rfl
        have q6 := hJ.told 6 (by decide) rfl
        have q7 := hJ.told 7 (by decide) rfl
        have q9 := hJ.told 9 (by decide) rfl
        have q10 := hJ.told 10 (by decide) rfl
        have q11 := hJ.told 11 (by decide) rfl
        have q13 := hJ.told 13 (by decide) rfl
        have q14 := hJ.told 14 (by decide) rfl
        have q15 := hJ.told 15 (by decide) rfl
        have q16 := hJ.told 16 (by decide) rfl
        have q17 := hJ.told 17 (by decide) rfl
        have q19 := hJ.told 19 (by decide) rfl
        have q20 := hJ.told 20 (by decide) rfl
        have q22 := hJ.told 22 (by decide) rfl
        have q23 := hJ.told 23 (by decide) rfl
        have q24 := hJ.told 24 (by decide) rfl
        have q25 := hJ.told 25 (by decide) rfl
        have q26 := hJ.told 26 (by decide) rfl
        have q27 := hJ.told 27 (by decide) rfl
        have q28 := hJ.told 28 (by decide) rfl
        show PoEnd _ (Act.put (Act.put (Act.put (Act.put (Act.put (Act.put (Act.put (Act.put (Act.put (Act.put (Act.put (Act.put (Act.put (Act.put (Act.put (Act.put (Act.put (Act.put (Act.put (Act.put (Act.put (Act.put (Act.put (Act.put (Act.put (Act.put (Act.put (Act.put (Act.put _ (some 15) (gz 0)) (some 16) (gz 1)) (some 18) (gz 2)) (some 19) (gz 3)) (some 20) (gz 4)) (some 21) (gz 5)) (some 22) (gz 6)) (some 23) (gz 7)) (some 24) (gz 8)) (some 25) (gz 9)) (some 26) (gz 10)) (some 27) (gz 11)) (some 28) (gz 12)) (some 29) (gz 13)) (some 30) (gz 14)) (some 31) (gz 15)) (some 32) (gz 16)) (some 33) (gz 17)) (some 34) (gz 18)) (some 35) (gz 19)) (some 36) (gz 20)) (some 37) (gz 21)) (some 38) (gz 22)) (some 39) (gz 23)) (some 40) (gz 24)) (some 41) (gz 25)) (some 42) (gz 26)) (some 43) (gz 27)) (some 4) (gz 28)) wa
        rw [q1, q3, q4, q5, q6, q7, q9, q10, q11, q13, q14, q15, q16, q17, q19, q20, q22, q23, q24, q25, q26, q27, q28]
        simp only [Act.put, List.setIfInBounds_toArray, List.set_cons_zero, List.set_cons_succ]
        refine po_end ?_
        replace f_s0 := Bs.below f_s0 (Keep.nil hE) (Nat.le_refl _)
        replace f_s1 := Bs.below f_s1 (Keep.nil hE) (Nat.le_refl _)
        have B2 := hE.below B1 (HGS.out _ B1) rfl
        clear B1 hE hJ HWF q1 q3 q4 q5 q6 q7 q9 q10 q11 q13 q14 q15 q16 q17 q19 q20 q22 q23 q24 q25 q26 q27 q28
        go_wp2
        go_ret
        exact ⟨rfl, B2⟩
    · have q0 : ¬ (100 : Int) < (n0 : Int) := by omega
      have q1 : (100 : Int) < (n1 : Int) := by omega
      clear h0 h1 hB0 hB1 d0 d1 e0 e1
      go_enter Try.func3, Try.ntmps3
      go_wp2_with (go_at_call 9; refine (awake6_any _).mono ?_; rintro e w9 ⟨rfl, hb9⟩)
      go_ret
      exact ⟨rfl, hb9⟩
  · have q0 : (100 : Int) < (n0 : Int) := by omega
    clear h0 h1 hB0 hB1 d0 e0 e1
    go_enter Try.func3, Try.ntmps3
    go_wp2_with (go_at_call 9; refine (awake6_any _).mono ?_; rintro e w9 ⟨rfl, hb9⟩)
    go_ret
    exact ⟨rfl, hb9⟩
end Go.Proofs.Ytnoppemclfnlcaa
