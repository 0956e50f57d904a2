/- RingAsks, walked. -/
import Derived.Test.YtnpifjimmeehdaaMM3
namespace Go.Proofs.Ytnpifjimmeehdaa
open Go.RowKit Go.Deep
set_option linter.unusedSimpArgs false
set_option linter.unusedVariables false

set_option maxHeartbeats 8000000 in
set_option maxRecDepth 100000 in
theorem law_ringAsks (w : World) (v0 : Value) (l0 : List Int) (h0 : NumsK .u16 w v0 l0) (v1 : Value) (l1 : List Int) (h1 : NumsK .u16 w v1 l1) : Calls Try.prog 3 #[v0, v1] w fun e w' => e = .returned (.bool true) ∧ Below w.heap.size w w' := by
  obtain ⟨ad0, n0, c0, rfl, e0, y0, z0, hB0⟩ := h0.shape
  obtain ⟨ad1, n1, c1, rfl, e1, y1, z1, hB1⟩ := h1.shape
  by_cases d0 : n0 ≤ 256
  · have q0 : ¬ (256 : Int) < (n0 : Int) := by omega
    by_cases d1 : n1 ≤ 256
    · have q1 : ¬ (256 : Int) < (n1 : Int) := by omega
      have Bw0 := Below.refl w.heap.size w
      have HGS : Hid (∀ wq : World, Below w.heap.size w wq → w.heap.size ≤ wq.heap.size) := Lib.hid fun wq h => h.size
      obtain ⟨f, hf⟩ : ∃ f, f = polN l0 := ⟨_, rfl⟩
      have Hf : Hid (∀ i, f i < 65536) := Lib.hid (by rw [hf]; exact polN_lt (NumsK.wf hB0))
      have HP0 := Lib.hid fun W (hW : Below w.heap.size w W) => poly_any _ l0 W (NumsK.below hB0 hW (Nat.le_refl _)) (by omega)
      rw [← hf] at HP0
      clear hf
      obtain ⟨g, hg⟩ : ∃ f, f = polN l1 := ⟨_, rfl⟩
      have Hg : Hid (∀ i, g i < 65536) := Lib.hid (by rw [hg]; exact polN_lt (NumsK.wf hB1))
      have HP1 := Lib.hid fun W (hW : Below w.heap.size w W) => poly_any _ l1 W (NumsK.below hB1 hW (Nat.le_refl _)) (by omega)
      rw [← hg] at HP1
      clear hg
      have HMf := Lib.hid fun w => rMay_any f w Hf.out
      have HNf := Lib.hid fun w => refMay_any f w Hf.out
      obtain ⟨mb, hmb⟩ : ∃ b, b = mayN f := ⟨_, rfl⟩
      rw [← hmb] at HMf HNf
      clear hmb
      clear h0 hB0 e0 h1 hB1 e1 d0 d1
      go_enter Try.func3, Try.ntmps3
      go_wp2_with (first
        | (have hgo := Bw0; clear hgo
           go_at_call 10
           refine (HP0.out _ Bw0).mono ?_
           rintro e w2 ⟨rfl, kk⟩
           have Bw1 := zbt HGS Bw0 kk
           clear Bw0 kk)
        | (have hgo := Bw1; clear hgo
           refine wpList_alloc_row rfl 26 rfl 256 (pyF fun _ => 0) zeroP ?_
           intro b_t5 w6 lk r_t5 kk
           have l_t5 := zrl HGS Bw1 lk
           have Bw2 := zbt HGS Bw1 kk
           clear Bw1 kk lk)
        | (have hgo := Bw2; clear hgo
           refine wpList_alloc_row rfl 27 rfl 256 (pyF fun _ => 0) zeroPy ?_
           intro b_t6 w7 lk r_t6 kk
           have n_t5_t6 := zrn r_t5 lk
           have l_t6 := zrl HGS Bw2 lk
           replace r_t5 := zrb r_t5 kk
           have Bw3 := zbt HGS Bw2 kk
           clear Bw2 kk lk)
        | (have hgo := Bw3; clear hgo
           refine wpList_store_as rfl 26 (.tmp 5) (.tmp 21) rfl 256 (pyF f) arrP r_t5 rfl rfl (by omega) (fun _ _ => rfl) (fun i hi => putN_whole hi) ?_
           intro w8 q gk
           replace r_t6 := gb_rowIs r_t6 gk (Ne.symm n_t5_t6)
           replace r_t5 := q
           have Bw4 := zbg HGS Bw3 gk l_t5
           clear Bw3 gk q)
        | (have hgo := Bw4; clear hgo
           refine wpList_store_as rfl 27 (.tmp 6) (.tmp 22) rfl 256 (pyF f) arrPy r_t6 rfl rfl (by omega) (fun _ _ => rfl) (fun i hi => putN_whole hi) ?_
           intro w9 q gk
           replace r_t5 := gb_rowIs r_t5 gk n_t5_t6
           replace r_t6 := q
           have Bw5 := zbg HGS Bw4 gk l_t6
           clear Bw4 gk q)
        | (have hgo := Bw5; clear hgo
           go_at_call 10
           refine (HP1.out _ Bw5).mono ?_
           rintro e w11 ⟨rfl, kk⟩
           replace r_t5 := zrb r_t5 kk
           replace r_t6 := zrb r_t6 kk
           have Bw6 := zbt HGS Bw5 kk
           clear Bw5 kk)
        | (have hgo := Bw6; clear hgo
           refine wpList_alloc_row rfl 26 rfl 256 (pyF fun _ => 0) zeroP ?_
           intro b_t7 w15 lk r_t7 kk
           have n_t5_t7 := zrn r_t5 lk
           have n_t6_t7 := zrn r_t6 lk
           have l_t7 := zrl HGS Bw6 lk
           replace r_t5 := zrb r_t5 kk
           replace r_t6 := zrb r_t6 kk
           have Bw7 := zbt HGS Bw6 kk
           clear Bw6 kk lk)
        | (have hgo := Bw7; clear hgo
           refine wpList_alloc_row rfl 27 rfl 256 (pyF fun _ => 0) zeroPy ?_
           intro b_t8 w16 lk r_t8 kk
           have n_t5_t8 := zrn r_t5 lk
           have n_t6_t8 := zrn r_t6 lk
           have n_t7_t8 := zrn r_t7 lk
           have l_t8 := zrl HGS Bw7 lk
           replace r_t5 := zrb r_t5 kk
           replace r_t6 := zrb r_t6 kk
           replace r_t7 := zrb r_t7 kk
           have Bw8 := zbt HGS Bw7 kk
           clear Bw7 kk lk)
        | (have hgo := Bw8; clear hgo
           refine wpList_store_as rfl 26 (.tmp 7) (.tmp 26) rfl 256 (pyF g) arrP r_t7 rfl rfl (by omega) (fun _ _ => rfl) (fun i hi => putN_whole hi) ?_
           intro w17 q gk
           replace r_t5 := gb_rowIs r_t5 gk n_t5_t7
           replace r_t6 := gb_rowIs r_t6 gk n_t6_t7
           replace r_t8 := gb_rowIs r_t8 gk (Ne.symm n_t7_t8)
           replace r_t7 := q
           have Bw9 := zbg HGS Bw8 gk l_t7
           clear Bw8 gk q)
        | (have hgo := Bw9; clear hgo
           refine wpList_store_as rfl 27 (.tmp 8) (.tmp 27) rfl 256 (pyF g) arrPy r_t8 rfl rfl (by omega) (fun _ _ => rfl) (fun i hi => putN_whole hi) ?_
           intro w18 q gk
           replace r_t5 := gb_rowIs r_t5 gk n_t5_t8
           replace r_t6 := gb_rowIs r_t6 gk n_t6_t8
           replace r_t7 := gb_rowIs r_t7 gk n_t7_t8
           replace r_t8 := q
           have Bw10 := zbg HGS Bw9 gk l_t8
           clear Bw9 gk q))
      have Bw11 := Bw10.drew
      replace r_t5 := World.rowIs.drew r_t5
      replace r_t6 := World.rowIs.drew r_t6
      replace r_t7 := World.rowIs.drew r_t7
      replace r_t8 := World.rowIs.drew r_t8
      clear Bw10
      refine zpo [] (.rd 0 (.rd 2 .done)) #[true, false, true, false, false, false, false, false, false, false, false, false, false, false, false, false, false, false, false, false, false, false, false, false, false, false, false, false, false, false, false, false, false, false, false, false, false, false, false, false, false, false, false, false, false, false, false, false, false, false] [1, 3, 4, 5, 6, 7, 8, 9, 10, 11, 12, 13, 14, 15, 16, 17, 18, 19, 20, 21, 22, 23, 24, 25, 26, 27, 28, 29, 30, 31, 32, 33, 34, 35, 36, 37, 38, 39, 40, 41, 42, 43, 44, 45, 46, 47, 48, 49] [some 29, some 31, some 32, some 33, some 34, some 35, some 36, some 37, some 38, some 39, some 40, some 41, some 42, some 43, some 44, some 45, some 46, some 47, some 48, some 49, some 50, some 51, some 52, some 53, some 54, some 55, some 56, some 57, some 58, some 59, some 60, some 61, some 62, some 63, some 64, some 65, some 66, some 67, some 68, some 69, some 70, some 71, some 72, some 73, some 74, some 75, some 76, some 4] [[], [0], [0, 1], [1, 2], [3], [3], [3, 4, 5], [3], [3], [3, 6, 7, 8], [3, 6, 9], [3, 10], [10, 11], [12], [12], [12, 13, 14], [12], [12], [12, 15, 16, 17], [12, 15, 18], [12, 19], [19, 20], [21], [21, 22], [21], [21, 23, 24], [21, 23, 25], [21, 26], [26, 27], [28], [28, 29], [28], [28, 30, 31], [28, 30, 32], [28, 33], [33, 34], [35], [35], [35, 36, 37], [35], [35], [35, 38, 39, 40], [35, 38, 41], [35, 42], [42, 43], [44], [44, 45], [0, 1, 2, 3, 4, 5, 6, 7, 8, 9, 10, 11, 12, 13, 14, 15, 16, 17, 18, 19, 20, 21, 22, 23, 24, 25, 26, 27, 28, 29, 30, 31, 32, 33, 34, 35, 36, 37, 38, 39, 40, 41, 42, 43, 44, 45, 46]] [(0, []), (1, [0]), (2, []), (3, [2, 1]), (4, [1, 3]), (5, [4, 3]), (6, [5]), (7, [5]), (8, [6, 7, 5, 5]), (9, [5]), (10, [5]), (11, [9, 10, 8, 5]), (12, [8, 11, 11, 5]), (13, [5, 12]), (14, [13, 12]), (15, [14]), (16, [14]), (17, [15, 16, 14, 14]), (18, [14]), (19, [14]), (20, [18, 19, 17, 14]), (21, [17, 20, 20, 14]), (22, [14, 21]), (23, [22, 21]), (24, [23]), (25, [24, 23, 23]), (26, [23]), (27, [26, 25, 23]), (28, [25, 27, 27, 23]), (29, [23, 28]), (30, [29, 28]), (31, [30]), (32, [31, 30, 30]), (33, [30]), (34, [33, 32, 30]), (35, [32, 34, 34, 30]), (36, [30, 35]), (37, [36, 35]), (38, [37]), (39, [37]), (40, [38, 39, 37, 37]), (41, [37]), (42, [37]), (43, [41, 42, 40, 37]), (44, [40, 43, 43, 37]), (45, [37, 44]), (46, [45, 44]), (47, [46, 46]), (48, [46, 47]), (49, [48, 47, 0, 1, 2, 3, 4, 5, 6, 7, 8, 9, 10, 11, 12, 13, 14, 15, 16, 17, 18, 19, 20, 21, 22, 23, 24, 25, 26, 27, 28, 29, 30, 31, 32, 33, 34, 35, 36, 37, 38, 39, 40, 41, 42, 43, 44, 45, 46, 47, 48])] 5 ?_
      refine zld (pyF f) arrP r_t5 rfl (fun i hi => by rw [Nat.zero_add]) rfl rfl rfl rfl rfl (by omega) ?_
      refine zld (pyF f) arrPy r_t6 rfl (fun i hi => by rw [Nat.zero_add]) rfl rfl rfl rfl rfl (by omega) ?_
      simp only [Act.put, zA, zB, zC]
      refine lintz_leaf ?_
      refine po_start [.val (.bool mb), .val (.bool mb), .val (.bool true), .val (.bool true), .val (.agg (arrOf 256 (pyF f))), .val (.agg (arrOf 256 (pyF g))), .val (.agg (arrOf 256 (pyF (fun k => (f k + g k) % 3329)))), .val (.agg (arrOf 256 (pyF f))), .val (.agg (arrOf 256 (pyF g))), .val (.agg (arrOf 256 (pyF (fun k => (f k + g k) % 3329)))), .val (.bool true), .val (.bool true), .val (.bool true), .val (.agg (arrOf 256 (pyF f))), .val (.agg (arrOf 256 (pyF g))), .val (.agg (arrOf 256 (pyF (fun k => (f k + (3329 - g k % 3329)) % 3329)))), .val (.agg (arrOf 256 (pyF f))), .val (.agg (arrOf 256 (pyF g))), .val (.agg (arrOf 256 (pyF (fun k => (f k + 66580 - g k) % 3329)))), .val (.bool true), .val (.bool true), .val (.bool true), .val (.agg (arrOf 256 (pyF f))), .val (.agg (arrOf 256 (pyF (nttN f)))), .val (.agg (arrOf 256 (pyF f))), .val (.agg (arrOf 256 (pyF (nttN f)))), .val (.bool true), .val (.bool true), .val (.bool true), .val (.agg (arrOf 256 (pyF f))), .val (.agg (arrOf 256 (pyF (invN f)))), .val (.agg (arrOf 256 (pyF f))), .val (.agg (arrOf 256 (pyF (invN f)))), .val (.bool true), .val (.bool true), .val (.bool true), .val (.agg (arrOf 256 (pyF f))), .val (.agg (arrOf 256 (pyF g))), .val (.agg (arrOf 256 (pyF (mulN f g)))), .val (.agg (arrOf 256 (pyF f))), .val (.agg (arrOf 256 (pyF g))), .val (.agg (arrOf 256 (pyF (mulN f g)))), .val (.bool true), .val (.bool true), .val (.bool true), .val (.bool true), .val (.bool true), .val (.bool true)] [] (fun i hi => absurd hi (Nat.not_lt_zero _)) (fun HWF m gz wa p az hp hm hmp hcl hdn hE hJ hS hO => ?_) (fun gz wa hE hJ => ?_)
      · rcases (show p = 0 ∨ p = 1 ∨ p = 2 ∨ p = 3 ∨ p = 4 ∨ p = 5 ∨ p = 6 ∨ p = 7 ∨ p = 8 ∨ p = 9 ∨ p = 10 ∨ p = 11 ∨ p = 12 ∨ p = 13 ∨ p = 14 ∨ p = 15 ∨ p = 16 ∨ p = 17 ∨ p = 18 ∨ p = 19 ∨ p = 20 ∨ p = 21 ∨ p = 22 ∨ p = 23 ∨ p = 24 ∨ p = 25 ∨ p = 26 ∨ p = 27 ∨ p = 28 ∨ p = 29 ∨ p = 30 ∨ p = 31 ∨ p = 32 ∨ p = 33 ∨ p = 34 ∨ p = 35 ∨ p = 36 ∨ p = 37 ∨ p = 38 ∨ p = 39 ∨ p = 40 ∨ p = 41 ∨ p = 42 ∨ p = 43 ∨ p = 44 ∨ p = 45 ∨ p = 46 ∨ p = 47 by have h9 : p < 48 := hp; omega) with rfl | rfl | rfl | rfl | rfl | rfl | rfl | rfl | rfl | rfl | rfl | rfl | rfl | rfl | rfl | rfl | rfl | rfl | rfl | rfl | rfl | rfl | rfl | rfl | rfl | rfl | rfl | rfl | rfl | rfl | rfl | rfl | rfl | rfl | rfl | rfl | rfl | rfl | rfl | rfl | rfl | rfl | rfl | rfl | rfl | rfl | rfl | rfl
        · have e28 : az.eval (.tmp 28) = .agg (arrOf 256 (pyF f)) := hO 28 rfl
          exact po_k HWF hJ hE (HMf.out _) rfl rfl rfl rfl rfl rfl (ar1 e28)
        · have e30 : az.eval (.tmp 30) = .agg (arrOf 256 (pyF f)) := hO 30 rfl
          exact po_k HWF hJ hE (HNf.out _) rfl rfl rfl rfl rfl rfl (ar1 e30)
        · have e29 := po_e hS hdn hJ 0 29 rfl rfl rfl rfl
          have e31 := po_e hS hdn hJ 1 31 rfl rfl rfl rfl
          exact po_p (Op.binOp BinOp.eql 4 (Operand.tmp 29) (Operand.tmp 31) 4) HWF hJ hE rfl rfl rfl rfl rfl rfl rfl (by simp only [execOp, mkOp, eval_const, e29, e31]; cases mb <;> go_simp)
        · exact po_p _ HWF hJ hE rfl rfl rfl rfl rfl rfl rfl (x_move (po_e hS hdn hJ 2 32 rfl rfl rfl rfl))
        · have e5 : az.eval (.tmp 5) = .pointer (some ⟨b_t5, 0, none⟩) := hO 5 rfl
          exact po_p _ HWF hJ hE rfl rfl rfl rfl rfl rfl (wanted_of rfl rfl (po_e hS hdn hJ 3 33 rfl rfl rfl rfl)) (exec_load_as _ _ _ _ (pyF f) e5 arrP (Keep.row hE r_t5 rfl) (by omega) (fun i hi => by rw [Nat.zero_add]))
        · have e7 : az.eval (.tmp 7) = .pointer (some ⟨b_t7, 0, none⟩) := hO 7 rfl
          exact po_p _ HWF hJ hE rfl rfl rfl rfl rfl rfl (wanted_of rfl rfl (po_e hS hdn hJ 3 33 rfl rfl rfl rfl)) (exec_load_as _ _ _ _ (pyF g) e7 arrP (Keep.row hE r_t7 rfl) (by omega) (fun i hi => by rw [Nat.zero_add]))
        · exact po_k HWF hJ hE (rAdd_any f g _ Hf.out Hg.out) rfl rfl rfl rfl rfl (wanted_of rfl rfl (po_e hS hdn hJ 3 33 rfl rfl rfl rfl)) (ar2 (po_e hS hdn hJ 4 34 rfl rfl rfl rfl) (po_e hS hdn hJ 5 35 rfl rfl rfl rfl))
        · have e6 : az.eval (.tmp 6) = .pointer (some ⟨b_t6, 0, none⟩) := hO 6 rfl
          exact po_p _ HWF hJ hE rfl rfl rfl rfl rfl rfl (wanted_of rfl rfl (po_e hS hdn hJ 3 33 rfl rfl rfl rfl)) (exec_load_as _ _ _ _ (pyF f) e6 arrPy (Keep.row hE r_t6 rfl) (by omega) (fun i hi => by rw [Nat.zero_add]))
        · have e8 : az.eval (.tmp 8) = .pointer (some ⟨b_t8, 0, none⟩) := hO 8 rfl
          exact po_p _ HWF hJ hE rfl rfl rfl rfl rfl rfl (wanted_of rfl rfl (po_e hS hdn hJ 3 33 rfl rfl rfl rfl)) (exec_load_as _ _ _ _ (pyF g) e8 arrPy (Keep.row hE r_t8 rfl) (by omega) (fun i hi => by rw [Nat.zero_add]))
        · exact po_k HWF hJ hE (refPyAdd_any f g _ Hf.out Hg.out) rfl rfl rfl rfl rfl (wanted_of rfl rfl (po_e hS hdn hJ 3 33 rfl rfl rfl rfl)) (ar2 (po_e hS hdn hJ 7 37 rfl rfl rfl rfl) (po_e hS hdn hJ 8 38 rfl rfl rfl rfl))
        · exact po_k HWF hJ hE (is_yes (fun k => (f k + g k) % 3329) (fun k => (f k + g k) % 3329) _ (fun _ _ => rfl)) rfl rfl rfl rfl rfl (wanted_of rfl rfl (po_e hS hdn hJ 3 33 rfl rfl rfl rfl)) (ar2 (po_e hS hdn hJ 6 36 rfl rfl rfl rfl) (po_e hS hdn hJ 9 39 rfl rfl rfl rfl))
        · have e33 := po_e hS hdn hJ 3 33 rfl rfl rfl rfl
          have e40 := po_e hS hdn hJ 10 40 rfl rfl rfl rfl
          exact po_p (Op.pick (Operand.tmp 33) (Operand.tmp 40) (Operand.const (Value.bool false))) HWF hJ hE rfl rfl rfl rfl rfl rfl rfl (by first | (simp only [execOp, mkOp, eval_const, e33, e40]; done) | (simp only [execOp, mkOp, eval_const, e33, e40]; go_simp))
        · exact po_p _ HWF hJ hE rfl rfl rfl rfl rfl rfl rfl (x_move (po_e hS hdn hJ 11 41 rfl rfl rfl rfl))
        · have e5 : az.eval (.tmp 5) = .pointer (some ⟨b_t5, 0, none⟩) := hO 5 rfl
          exact po_p _ HWF hJ hE rfl rfl rfl rfl rfl rfl (wanted_of rfl rfl (po_e hS hdn hJ 12 42 rfl rfl rfl rfl)) (exec_load_as _ _ _ _ (pyF f) e5 arrP (Keep.row hE r_t5 rfl) (by omega) (fun i hi => by rw [Nat.zero_add]))
        · have e7 : az.eval (.tmp 7) = .pointer (some ⟨b_t7, 0, none⟩) := hO 7 rfl
          exact po_p _ HWF hJ hE rfl rfl rfl rfl rfl rfl (wanted_of rfl rfl (po_e hS hdn hJ 12 42 rfl rfl rfl rfl)) (exec_load_as _ _ _ _ (pyF g) e7 arrP (Keep.row hE r_t7 rfl) (by omega) (fun i hi => by rw [Nat.zero_add]))
        · exact po_k HWF hJ hE (rSub_any f g _ Hf.out Hg.out) rfl rfl rfl rfl rfl (wanted_of rfl rfl (po_e hS hdn hJ 12 42 rfl rfl rfl rfl)) (ar2 (po_e hS hdn hJ 13 43 rfl rfl rfl rfl) (po_e hS hdn hJ 14 44 rfl rfl rfl rfl))
        · have e6 : az.eval (.tmp 6) = .pointer (some ⟨b_t6, 0, none⟩) := hO 6 rfl
          exact po_p _ HWF hJ hE rfl rfl rfl rfl rfl rfl (wanted_of rfl rfl (po_e hS hdn hJ 12 42 rfl rfl rfl rfl)) (exec_load_as _ _ _ _ (pyF f) e6 arrPy (Keep.row hE r_t6 rfl) (by omega) (fun i hi => by rw [Nat.zero_add]))
        · have e8 : az.eval (.tmp 8) = .pointer (some ⟨b_t8, 0, none⟩) := hO 8 rfl
          exact po_p _ HWF hJ hE rfl rfl rfl rfl rfl rfl (wanted_of rfl rfl (po_e hS hdn hJ 12 42 rfl rfl rfl rfl)) (exec_load_as _ _ _ _ (pyF g) e8 arrPy (Keep.row hE r_t8 rfl) (by omega) (fun i hi => by rw [Nat.zero_add]))
        · exact po_k HWF hJ hE (refPySub_any f g _ Hf.out Hg.out) rfl rfl rfl rfl rfl (wanted_of rfl rfl (po_e hS hdn hJ 12 42 rfl rfl rfl rfl)) (ar2 (po_e hS hdn hJ 16 46 rfl rfl rfl rfl) (po_e hS hdn hJ 17 47 rfl rfl rfl rfl))
        · exact po_k HWF hJ hE (is_yes (fun k => (f k + (3329 - g k % 3329)) % 3329) (fun k => (f k + 66580 - g k) % 3329) _ (fun i _ => by have h9 := Hg.out i; show _ % _ = _ % _; omega)) rfl rfl rfl rfl rfl (wanted_of rfl rfl (po_e hS hdn hJ 12 42 rfl rfl rfl rfl)) (ar2 (po_e hS hdn hJ 15 45 rfl rfl rfl rfl) (po_e hS hdn hJ 18 48 rfl rfl rfl rfl))
        · have e42 := po_e hS hdn hJ 12 42 rfl rfl rfl rfl
          have e49 := po_e hS hdn hJ 19 49 rfl rfl rfl rfl
          exact po_p (Op.pick (Operand.tmp 42) (Operand.tmp 49) (Operand.const (Value.bool false))) HWF hJ hE rfl rfl rfl rfl rfl rfl rfl (by first | (simp only [execOp, mkOp, eval_const, e42, e49]; done) | (simp only [execOp, mkOp, eval_const, e42, e49]; go_simp))
        · exact po_p _ HWF hJ hE rfl rfl rfl rfl rfl rfl rfl (x_move (po_e hS hdn hJ 20 50 rfl rfl rfl rfl))
        · have e5 : az.eval (.tmp 5) = .pointer (some ⟨b_t5, 0, none⟩) := hO 5 rfl
          exact po_p _ HWF hJ hE rfl rfl rfl rfl rfl rfl (wanted_of rfl rfl (po_e hS hdn hJ 21 51 rfl rfl rfl rfl)) (exec_load_as _ _ _ _ (pyF f) e5 arrP (Keep.row hE r_t5 rfl) (by omega) (fun i hi => by rw [Nat.zero_add]))
        · exact po_k HWF hJ hE (rNTT_any f _ Hf.out) rfl rfl rfl rfl rfl (wanted_of rfl rfl (po_e hS hdn hJ 21 51 rfl rfl rfl rfl)) (ar1 (po_e hS hdn hJ 22 52 rfl rfl rfl rfl))
        · have e6 : az.eval (.tmp 6) = .pointer (some ⟨b_t6, 0, none⟩) := hO 6 rfl
          exact po_p _ HWF hJ hE rfl rfl rfl rfl rfl rfl (wanted_of rfl rfl (po_e hS hdn hJ 21 51 rfl rfl rfl rfl)) (exec_load_as _ _ _ _ (pyF f) e6 arrPy (Keep.row hE r_t6 rfl) (by omega) (fun i hi => by rw [Nat.zero_add]))
        · exact po_k HWF hJ hE (refNTT_any f _ Hf.out) rfl rfl rfl rfl rfl (wanted_of rfl rfl (po_e hS hdn hJ 21 51 rfl rfl rfl rfl)) (ar1 (po_e hS hdn hJ 24 54 rfl rfl rfl rfl))
        · exact po_k HWF hJ hE (is_yes (nttN f) (nttN f) _ (fun _ _ => rfl)) rfl rfl rfl rfl rfl (wanted_of rfl rfl (po_e hS hdn hJ 21 51 rfl rfl rfl rfl)) (ar2 (po_e hS hdn hJ 23 53 rfl rfl rfl rfl) (po_e hS hdn hJ 25 55 rfl rfl rfl rfl))
        · have e51 := po_e hS hdn hJ 21 51 rfl rfl rfl rfl
          have e56 := po_e hS hdn hJ 26 56 rfl rfl rfl rfl
          exact po_p (Op.pick (Operand.tmp 51) (Operand.tmp 56) (Operand.const (Value.bool false))) HWF hJ hE rfl rfl rfl rfl rfl rfl rfl (by first | (simp only [execOp, mkOp, eval_const, e51, e56]; done) | (simp only [execOp, mkOp, eval_const, e51, e56]; go_simp))
        · exact po_p _ HWF hJ hE rfl rfl rfl rfl rfl rfl rfl (x_move (po_e hS hdn hJ 27 57 rfl rfl rfl rfl))
        · have e5 : az.eval (.tmp 5) = .pointer (some ⟨b_t5, 0, none⟩) := hO 5 rfl
          exact po_p _ HWF hJ hE rfl rfl rfl rfl rfl rfl (wanted_of rfl rfl (po_e hS hdn hJ 28 58 rfl rfl rfl rfl)) (exec_load_as _ _ _ _ (pyF f) e5 arrP (Keep.row hE r_t5 rfl) (by omega) (fun i hi => by rw [Nat.zero_add]))
        · exact po_k HWF hJ hE (rInverse_any f _ Hf.out) rfl rfl rfl rfl rfl (wanted_of rfl rfl (po_e hS hdn hJ 28 58 rfl rfl rfl rfl)) (ar1 (po_e hS hdn hJ 29 59 rfl rfl rfl rfl))
        · have e6 : az.eval (.tmp 6) = .pointer (some ⟨b_t6, 0, none⟩) := hO 6 rfl
          exact po_p _ HWF hJ hE rfl rfl rfl rfl rfl rfl (wanted_of rfl rfl (po_e hS hdn hJ 28 58 rfl rfl rfl rfl)) (exec_load_as _ _ _ _ (pyF f) e6 arrPy (Keep.row hE r_t6 rfl) (by omega) (fun i hi => by rw [Nat.zero_add]))
        · exact po_k HWF hJ hE (refInverse_any f _ Hf.out) rfl rfl rfl rfl rfl (wanted_of rfl rfl (po_e hS hdn hJ 28 58 rfl rfl rfl rfl)) (ar1 (po_e hS hdn hJ 31 61 rfl rfl rfl rfl))
        · exact po_k HWF hJ hE (is_yes (invN f) (invN f) _ (fun _ _ => rfl)) rfl rfl rfl rfl rfl (wanted_of rfl rfl (po_e hS hdn hJ 28 58 rfl rfl rfl rfl)) (ar2 (po_e hS hdn hJ 30 60 rfl rfl rfl rfl) (po_e hS hdn hJ 32 62 rfl rfl rfl rfl))
        · have e58 := po_e hS hdn hJ 28 58 rfl rfl rfl rfl
          have e63 := po_e hS hdn hJ 33 63 rfl rfl rfl rfl
          exact po_p (Op.pick (Operand.tmp 58) (Operand.tmp 63) (Operand.const (Value.bool false))) HWF hJ hE rfl rfl rfl rfl rfl rfl rfl (by first | (simp only [execOp, mkOp, eval_const, e58, e63]; done) | (simp only [execOp, mkOp, eval_const, e58, e63]; go_simp))
        · exact po_p _ HWF hJ hE rfl rfl rfl rfl rfl rfl rfl (x_move (po_e hS hdn hJ 34 64 rfl rfl rfl rfl))
        · have e5 : az.eval (.tmp 5) = .pointer (some ⟨b_t5, 0, none⟩) := hO 5 rfl
          exact po_p _ HWF hJ hE rfl rfl rfl rfl rfl rfl (wanted_of rfl rfl (po_e hS hdn hJ 35 65 rfl rfl rfl rfl)) (exec_load_as _ _ _ _ (pyF f) e5 arrP (Keep.row hE r_t5 rfl) (by omega) (fun i hi => by rw [Nat.zero_add]))
        · have e7 : az.eval (.tmp 7) = .pointer (some ⟨b_t7, 0, none⟩) := hO 7 rfl
          exact po_p _ HWF hJ hE rfl rfl rfl rfl rfl rfl (wanted_of rfl rfl (po_e hS hdn hJ 35 65 rfl rfl rfl rfl)) (exec_load_as _ _ _ _ (pyF g) e7 arrP (Keep.row hE r_t7 rfl) (by omega) (fun i hi => by rw [Nat.zero_add]))
        · exact po_k HWF hJ hE (rMul_any f g _ Hf.out Hg.out) rfl rfl rfl rfl rfl (wanted_of rfl rfl (po_e hS hdn hJ 35 65 rfl rfl rfl rfl)) (ar2 (po_e hS hdn hJ 36 66 rfl rfl rfl rfl) (po_e hS hdn hJ 37 67 rfl rfl rfl rfl))
        · have e6 : az.eval (.tmp 6) = .pointer (some ⟨b_t6, 0, none⟩) := hO 6 rfl
          exact po_p _ HWF hJ hE rfl rfl rfl rfl rfl rfl (wanted_of rfl rfl (po_e hS hdn hJ 35 65 rfl rfl rfl rfl)) (exec_load_as _ _ _ _ (pyF f) e6 arrPy (Keep.row hE r_t6 rfl) (by omega) (fun i hi => by rw [Nat.zero_add]))
        · have e8 : az.eval (.tmp 8) = .pointer (some ⟨b_t8, 0, none⟩) := hO 8 rfl
          exact po_p _ HWF hJ hE rfl rfl rfl rfl rfl rfl (wanted_of rfl rfl (po_e hS hdn hJ 35 65 rfl rfl rfl rfl)) (exec_load_as _ _ _ _ (pyF g) e8 arrPy (Keep.row hE r_t8 rfl) (by omega) (fun i hi => by rw [Nat.zero_add]))
        · exact po_k HWF hJ hE (refPyMul_any f g _ Hf.out Hg.out) rfl rfl rfl rfl rfl (wanted_of rfl rfl (po_e hS hdn hJ 35 65 rfl rfl rfl rfl)) (ar2 (po_e hS hdn hJ 39 69 rfl rfl rfl rfl) (po_e hS hdn hJ 40 70 rfl rfl rfl rfl))
        · exact po_k HWF hJ hE (is_yes (mulN f g) (mulN f g) _ (fun _ _ => rfl)) rfl rfl rfl rfl rfl (wanted_of rfl rfl (po_e hS hdn hJ 35 65 rfl rfl rfl rfl)) (ar2 (po_e hS hdn hJ 38 68 rfl rfl rfl rfl) (po_e hS hdn hJ 41 71 rfl rfl rfl rfl))
        · have e65 := po_e hS hdn hJ 35 65 rfl rfl rfl rfl
          have e72 := po_e hS hdn hJ 42 72 rfl rfl rfl rfl
          exact po_p (Op.pick (Operand.tmp 65) (Operand.tmp 72) (Operand.const (Value.bool false))) HWF hJ hE rfl rfl rfl rfl rfl rfl rfl (by first | (simp only [execOp, mkOp, eval_const, e65, e72]; done) | (simp only [execOp, mkOp, eval_const, e65, e72]; go_simp))
        · exact po_p _ HWF hJ hE rfl rfl rfl rfl rfl rfl rfl (x_move (po_e hS hdn hJ 43 73 rfl rfl rfl rfl))
        · exact po_k HWF hJ hE (awake10_any _) rfl rfl rfl rfl rfl (wanted_of rfl rfl (po_e hS hdn hJ 44 74 rfl rfl rfl rfl)) (ar0)
        · have e74 := po_e hS hdn hJ 44 74 rfl rfl rfl rfl
          have e75 := po_e hS hdn hJ 45 75 rfl rfl rfl rfl
          exact po_p (Op.pick (Operand.tmp 74) (Operand.tmp 75) (Operand.const (Value.bool false))) HWF hJ hE rfl rfl rfl rfl rfl rfl rfl (by first | (simp only [execOp, mkOp, eval_const, e74, e75]; done) | (simp only [execOp, mkOp, eval_const, e74, e75]; go_simp))
        · exact po_p _ HWF hJ hE rfl rfl rfl rfl rfl rfl rfl (x_assign (po_e hS hdn hJ 46 76 rfl rfl rfl rfl))
      · rw [putO_true _ _ _ _ _ rfl]
        simp only [putA, Nat.zero_add, Nat.reduceAdd]
        rw [hJ.tt 0 rfl, hJ.tt 1 rfl, hJ.tt 2 rfl, hJ.tt 3 rfl, hJ.tt 4 rfl, hJ.tt 5 rfl, hJ.tt 6 rfl, hJ.tt 7 rfl, hJ.tt 8 rfl, hJ.tt 9 rfl, hJ.tt 10 rfl, hJ.tt 11 rfl, hJ.tt 12 rfl, hJ.tt 13 rfl, hJ.tt 14 rfl, hJ.tt 15 rfl, hJ.tt 16 rfl, hJ.tt 17 rfl, hJ.tt 18 rfl, hJ.tt 19 rfl, hJ.tt 20 rfl, hJ.tt 21 rfl, hJ.tt 22 rfl, hJ.tt 23 rfl, hJ.tt 24 rfl, hJ.tt 25 rfl, hJ.tt 26 rfl, hJ.tt 27 rfl, hJ.tt 28 rfl, hJ.tt 29 rfl, hJ.tt 30 rfl, hJ.tt 31 rfl, hJ.tt 32 rfl, hJ.tt 33 rfl, hJ.tt 34 rfl, hJ.tt 35 rfl, hJ.tt 36 rfl, hJ.tt 37 rfl, hJ.tt 38 rfl, hJ.tt 39 rfl, hJ.tt 40 rfl, hJ.tt 41 rfl, hJ.tt 42 rfl, hJ.tt 43 rfl, hJ.tt 44 rfl, hJ.tt 45 rfl, hJ.tt 46 rfl, hJ.tt 47 rfl]
        simp only [Act.put, zA, zB, zC]
        refine po_end ?_
        replace r_t5 := Keep.row hE r_t5 rfl
        replace r_t6 := Keep.row hE r_t6 rfl
        replace r_t7 := Keep.row hE r_t7 rfl
        replace r_t8 := Keep.row hE r_t8 rfl
        have Bw12 := hE.below Bw11 (HGS.out _ Bw11) rfl
        clear Bw11 hE hJ 
        go_wp2
        go_ret
        exact ⟨rfl, Bw12⟩
    · have q1 : (256 : Int) < (n1 : Int) := by omega
      clear h0 hB0 e0 h1 hB1 e1 d0 d1
      go_enter Try.func3, Try.ntmps3
      go_wp2_with (first | (go_at_call 9; refine (awake10_any _).mono ?_; rintro e w9 ⟨rfl, hb9⟩))
      go_ret
      exact ⟨rfl, hb9⟩
  · have q0 : (256 : Int) < (n0 : Int) := by omega
    clear h0 hB0 e0 h1 hB1 e1 d0
    go_enter Try.func3, Try.ntmps3
    go_wp2_with (first | (go_at_call 9; refine (awake10_any _).mono ?_; rintro e w9 ⟨rfl, hb9⟩))
    go_ret
    exact ⟨rfl, hb9⟩
end Go.Proofs.Ytnpifjimmeehdaa
