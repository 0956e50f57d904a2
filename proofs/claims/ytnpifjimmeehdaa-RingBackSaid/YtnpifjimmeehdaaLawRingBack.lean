/- RingBack, walked. -/
import Derived.Test.YtnpifjimmeehdaaMM3
namespace Go.Proofs.Ytnpifjimmeehdaa
open Go.RowKit Go.Deep
set_option linter.unusedSimpArgs false
set_option linter.unusedVariables false

set_option maxHeartbeats 8000000 in
set_option maxRecDepth 100000 in
theorem law_ringBack (w : World) (v0 : Value) (l0 : List Int) (h0 : NumsK .u16 w v0 l0) (v1 : Value) (l1 : List Int) (h1 : NumsK .u16 w v1 l1) : Calls Try.prog 5 #[v0, v1] w fun e w' => e = .returned (.bool true) ∧ Below w.heap.size w w' := by
  obtain ⟨ad0, n0, c0, rfl, e0, y0, z0, hB0⟩ := h0.shape
  obtain ⟨ad1, n1, c1, rfl, e1, y1, z1, hB1⟩ := h1.shape
  by_cases d0 : n0 ≤ 256
  · have q0 : ¬ (256 : Int) < (n0 : Int) := by omega
    by_cases d1 : n1 ≤ 256
    · have q1 : ¬ (256 : Int) < (n1 : Int) := by omega
      have Bw0 := Below.refl w.heap.size w
      have HGS : Hid (∀ wq : World, Below w.heap.size w wq → w.heap.size ≤ wq.heap.size) := Lib.hid fun wq h => h.size
      obtain ⟨f, hf⟩ : ∃ f, f = polN l0 := ⟨_, rfl⟩
      have Hf : Hid (∀ i, f i < 65536) := Lib.hid (by rw [hf]; exact polN_lt (NumsK.wf hB0))
      have HP0 := Lib.hid fun W (hW : Below w.heap.size w W) => poly_any _ l0 W (NumsK.below hB0 hW (Nat.le_refl _)) (by omega)
      rw [← hf] at HP0
      clear hf
      obtain ⟨g, hg⟩ : ∃ f, f = polN l1 := ⟨_, rfl⟩
      have Hg : Hid (∀ i, g i < 65536) := Lib.hid (by rw [hg]; exact polN_lt (NumsK.wf hB1))
      have HP1 := Lib.hid fun W (hW : Below w.heap.size w W) => poly_any _ l1 W (NumsK.below hB1 hW (Nat.le_refl _)) (by omega)
      rw [← hg] at HP1
      clear hg
      have HMf := Lib.hid fun w => rMay_any f w Hf.out
      have HNf := Lib.hid fun w => refMay_any f w Hf.out
      have HMg := Lib.hid fun w => rMay_any g w Hg.out
      have HNg := Lib.hid fun w => refMay_any g w Hg.out
      clear h0 hB0 e0 h1 hB1 e1 d0 d1
      by_cases hm0 : mayN f = true
      · have hma : mayN f = true := by simpa using hm0
        rw [hma] at HMf HNf
        have HAf := Lib.hid hma
        clear hma hm0
        by_cases hm0 : mayN g = true
        · have hma : mayN g = true := by simpa using hm0
          rw [hma] at HMg HNg
          have HAg := Lib.hid hma
          clear hma hm0
          go_enter Try.func5, Try.ntmps5
          go_wp2_with (first
            | (have hgo := Bw0; clear hgo
               go_at_call 10
               refine (HP0.out _ Bw0).mono ?_
               rintro e w2 ⟨rfl, kk⟩
               have Bw1 := zbt HGS Bw0 kk
               clear Bw0 kk)
            | (have hgo := Bw1; clear hgo
               refine wpList_alloc_row rfl 26 rfl 256 (pyF fun _ => 0) zeroP ?_
               intro b_t5 w6 lk r_t5 kk
               have l_t5 := zrl HGS Bw1 lk
               have Bw2 := zbt HGS Bw1 kk
               clear Bw1 kk lk)
            | (have hgo := Bw2; clear hgo
               refine wpList_alloc_row rfl 27 rfl 256 (pyF fun _ => 0) zeroPy ?_
               intro b_t6 w7 lk r_t6 kk
               have n_t5_t6 := zrn r_t5 lk
               have l_t6 := zrl HGS Bw2 lk
               replace r_t5 := zrb r_t5 kk
               have Bw3 := zbt HGS Bw2 kk
               clear Bw2 kk lk)
            | (have hgo := Bw3; clear hgo
               refine wpList_store_as rfl 26 (.tmp 5) (.tmp 22) rfl 256 (pyF f) arrP r_t5 rfl rfl (by omega) (fun _ _ => rfl) (fun i hi => putN_whole hi) ?_
               intro w8 q gk
               replace r_t6 := gb_rowIs r_t6 gk (Ne.symm n_t5_t6)
               replace r_t5 := q
               have Bw4 := zbg HGS Bw3 gk l_t5
               clear Bw3 gk q)
            | (have hgo := Bw4; clear hgo
               refine wpList_store_as rfl 27 (.tmp 6) (.tmp 23) rfl 256 (pyF f) arrPy r_t6 rfl rfl (by omega) (fun _ _ => rfl) (fun i hi => putN_whole hi) ?_
               intro w9 q gk
               replace r_t5 := gb_rowIs r_t5 gk n_t5_t6
               replace r_t6 := q
               have Bw5 := zbg HGS Bw4 gk l_t6
               clear Bw4 gk q)
            | (have hgo := Bw5; clear hgo
               go_at_call 10
               refine (HP1.out _ Bw5).mono ?_
               rintro e w11 ⟨rfl, kk⟩
               replace r_t5 := zrb r_t5 kk
               replace r_t6 := zrb r_t6 kk
               have Bw6 := zbt HGS Bw5 kk
               clear Bw5 kk)
            | (have hgo := Bw6; clear hgo
               refine wpList_alloc_row rfl 26 rfl 256 (pyF fun _ => 0) zeroP ?_
               intro b_t7 w15 lk r_t7 kk
               have n_t5_t7 := zrn r_t5 lk
               have n_t6_t7 := zrn r_t6 lk
               have l_t7 := zrl HGS Bw6 lk
               replace r_t5 := zrb r_t5 kk
               replace r_t6 := zrb r_t6 kk
               have Bw7 := zbt HGS Bw6 kk
               clear Bw6 kk lk)
            | (have hgo := Bw7; clear hgo
               refine wpList_alloc_row rfl 27 rfl 256 (pyF fun _ => 0) zeroPy ?_
               intro b_t8 w16 lk r_t8 kk
               have n_t5_t8 := zrn r_t5 lk
               have n_t6_t8 := zrn r_t6 lk
               have n_t7_t8 := zrn r_t7 lk
               have l_t8 := zrl HGS Bw7 lk
               replace r_t5 := zrb r_t5 kk
               replace r_t6 := zrb r_t6 kk
               replace r_t7 := zrb r_t7 kk
               have Bw8 := zbt HGS Bw7 kk
               clear Bw7 kk lk)
            | (have hgo := Bw8; clear hgo
               refine wpList_store_as rfl 26 (.tmp 7) (.tmp 27) rfl 256 (pyF g) arrP r_t7 rfl rfl (by omega) (fun _ _ => rfl) (fun i hi => putN_whole hi) ?_
               intro w17 q gk
               replace r_t5 := gb_rowIs r_t5 gk n_t5_t7
               replace r_t6 := gb_rowIs r_t6 gk n_t6_t7
               replace r_t8 := gb_rowIs r_t8 gk (Ne.symm n_t7_t8)
               replace r_t7 := q
               have Bw9 := zbg HGS Bw8 gk l_t7
               clear Bw8 gk q)
            | (have hgo := Bw9; clear hgo
               refine wpList_store_as rfl 27 (.tmp 8) (.tmp 28) rfl 256 (pyF g) arrPy r_t8 rfl rfl (by omega) (fun _ _ => rfl) (fun i hi => putN_whole hi) ?_
               intro w18 q gk
               replace r_t5 := gb_rowIs r_t5 gk n_t5_t8
               replace r_t6 := gb_rowIs r_t6 gk n_t6_t8
               replace r_t7 := gb_rowIs r_t7 gk n_t7_t8
               replace r_t8 := q
               have Bw10 := zbg HGS Bw9 gk l_t8
               clear Bw9 gk q)
            | (have hgo := Bw10; clear hgo
               refine wpList_load_as rfl 27 (.tmp 6) rfl 256 (pyF f) arrPy r_t6 rfl (by omega) (fun i hi => by rw [Nat.zero_add]) ?_
               have Bw11 := Bw10
               clear Bw10)
            | (have hgo := Bw11; clear hgo
               go_at_call 12
               refine (HNf.out _).mono ?_
               rintro e w20 ⟨rfl, kk⟩
               replace r_t5 := zrb r_t5 kk
               replace r_t6 := zrb r_t6 kk
               replace r_t7 := zrb r_t7 kk
               replace r_t8 := zrb r_t8 kk
               have Bw12 := zbt HGS Bw11 kk
               clear Bw11 kk)
            | (have hgo := Bw12; clear hgo
               refine wpList_load_asg rfl 27 (.tmp 8) rfl 256 (pyF g) arrPy r_t8 rfl (by omega) (fun i hi => by rw [Nat.zero_add]) ?_
               have Bw13 := Bw12
               clear Bw12)
            | (have hgo := Bw13; clear hgo
               go_at_call 12
               refine (HNg.out _).mono ?_
               rintro e w24 ⟨rfl, kk⟩
               replace r_t5 := zrb r_t5 kk
               replace r_t6 := zrb r_t6 kk
               replace r_t7 := zrb r_t7 kk
               replace r_t8 := zrb r_t8 kk
               have Bw14 := zbt HGS Bw13 kk
               clear Bw13 kk))
          have Bw15 := Bw14.drew
          replace r_t5 := World.rowIs.drew r_t5
          replace r_t6 := World.rowIs.drew r_t6
          replace r_t7 := World.rowIs.drew r_t7
          replace r_t8 := World.rowIs.drew r_t8
          clear Bw14
          refine zpo [] (.rd 0 (.rd 1 (.rd 4 .done))) #[true, true, false, false, true, false, false, false, false, false, false, false, false, false, false, false, false, false, false, false, false, false, false, false, false, false, false, false, false, false, false, false, false, false, false, false, false, false, false, false] [2, 3, 5, 6, 7, 8, 9, 10, 11, 12, 13, 14, 15, 16, 17, 18, 19, 20, 21, 22, 23, 24, 25, 26, 27, 28, 29, 30, 31, 32, 33, 34, 35, 36, 37, 38, 39] [some 40, some 41, some 43, some 44, some 45, some 46, some 47, some 48, some 49, some 50, some 51, some 52, some 53, some 54, some 55, some 56, some 57, some 58, some 59, some 60, some 61, some 62, some 63, some 64, some 65, some 66, some 67, some 68, some 69, some 70, some 71, some 72, some 73, some 74, some 75, some 76, some 4] [[], [0], [1], [2], [3], [3], [3, 4, 5], [3], [3], [3, 6, 7, 8], [3, 6, 9], [3, 10], [3], [3], [3, 11, 12, 13], [3, 11, 14], [3, 15], [15, 16], [17], [17], [17, 18, 19], [17], [17], [17, 20, 21, 22], [17, 20, 23], [17], [17], [17], [17, 24, 26, 27], [17, 25, 28], [17, 29], [17, 24, 30], [17, 31], [31, 32], [33], [33, 34], [0, 1, 2, 3, 4, 5, 6, 7, 8, 9, 10, 11, 12, 13, 14, 15, 16, 17, 18, 19, 20, 21, 22, 23, 24, 25, 26, 27, 28, 29, 30, 31, 32, 33, 34, 35]] [(0, []), (1, []), (2, [0, 1]), (3, [2, 2]), (4, []), (5, [3, 4, 3]), (6, [5, 5]), (7, [6]), (8, [6]), (9, [7, 8, 6, 6]), (10, [6]), (11, [6]), (12, [10, 11, 9, 6]), (13, [9, 12, 12, 6]), (14, [13, 13, 6]), (15, [6]), (16, [6]), (17, [15, 16, 14, 6]), (18, [14, 17, 17, 6]), (19, [6, 18]), (20, [19, 18]), (21, [20]), (22, [20]), (23, [21, 22, 20, 20]), (24, [20]), (25, [20]), (26, [24, 25, 23, 20]), (27, [23, 26, 26, 20]), (28, [20]), (29, [20]), (30, [20]), (31, [29, 30, 27, 20]), (32, [28, 31, 31, 20]), (33, [32, 32, 20]), (34, [27, 33, 33, 20]), (35, [20, 34]), (36, [35, 34]), (37, [36, 36]), (38, [36, 37]), (39, [38, 37, 0, 1, 2, 3, 4, 5, 6, 7, 8, 9, 10, 11, 12, 13, 14, 15, 16, 17, 18, 19, 20, 21, 22, 23, 24, 25, 26, 27, 28, 29, 30, 31, 32, 33, 34, 35, 36, 37, 38])] 19 ?_
          refine zmv (.func (.func 18) #[] #[]) rfl rfl rfl rfl rfl ?_
          refine zld (pyF f) arrP r_t5 rfl (fun i hi => by rw [Nat.zero_add]) rfl rfl rfl rfl rfl (by omega) ?_
          refine zld (pyF f) arrPy r_t6 rfl (fun i hi => by rw [Nat.zero_add]) rfl rfl rfl rfl rfl (by omega) ?_
          simp only [Act.put, zA, zB, zC]
          refine lintz_leaf ?_
          refine po_start [.val (.agg (arrOf 256 (pyF (nttN f)))), .val (.agg (arrOf 256 (pyF (invN (nttN f))))), .val (.bool true), .val (.bool true), .val (.func (.func 18) #[] #[]), .val (.agg (arrOf 256 (pyF f))), .val (.agg (arrOf 256 (pyF (nttN f)))), .val (.func (.func 18) #[] #[]), .val (.agg (arrOf 256 (pyF g))), .val (.agg (arrOf 256 (pyF (nttN g)))), .val (.agg (arrOf 256 (pyF (mulN (nttN f) (nttN g))))), .val (.agg (arrOf 256 (pyF (invN (mulN (nttN f) (nttN g)))))), .val (.agg (arrOf 256 (pyF f))), .val (.agg (arrOf 256 (pyF g))), .val (.agg (arrOf 256 (pyF (slowN f g)))), .val (.bool true), .val (.bool true), .val (.bool true), .val (.func (.func 18) #[] #[]), .val (.agg (arrOf 256 (pyF f))), .val (.agg (arrOf 256 (pyF (nttN f)))), .val (.func (.func 18) #[] #[]), .val (.agg (arrOf 256 (pyF g))), .val (.agg (arrOf 256 (pyF (nttN g)))), .val (.agg (arrOf 256 (pyF (fun k => ((nttN f) k + (nttN g) k) % 3329)))), .val (.func (.func 18) #[] #[]), .val (.agg (arrOf 256 (pyF f))), .val (.agg (arrOf 256 (pyF g))), .val (.agg (arrOf 256 (pyF (fun k => (f k + g k) % 3329)))), .val (.agg (arrOf 256 (pyF (nttN (fun k => (f k + g k) % 3329))))), .val (.agg (arrOf 256 (pyF (nttN (fun k => (f k + g k) % 3329))))), .val (.bool true), .val (.bool true), .val (.bool true), .val (.bool true), .val (.bool true), .val (.bool true)] [] (fun i hi => absurd hi (Nat.not_lt_zero _)) (fun HWF m gz wa p az hp hm hmp hcl hdn hE hJ hS hO => ?_) (fun gz wa hE hJ => ?_)
          · rcases (show p = 0 ∨ p = 1 ∨ p = 2 ∨ p = 3 ∨ p = 4 ∨ p = 5 ∨ p = 6 ∨ p = 7 ∨ p = 8 ∨ p = 9 ∨ p = 10 ∨ p = 11 ∨ p = 12 ∨ p = 13 ∨ p = 14 ∨ p = 15 ∨ p = 16 ∨ p = 17 ∨ p = 18 ∨ p = 19 ∨ p = 20 ∨ p = 21 ∨ p = 22 ∨ p = 23 ∨ p = 24 ∨ p = 25 ∨ p = 26 ∨ p = 27 ∨ p = 28 ∨ p = 29 ∨ p = 30 ∨ p = 31 ∨ p = 32 ∨ p = 33 ∨ p = 34 ∨ p = 35 ∨ p = 36 by have h9 : p < 37 := hp; omega) with rfl | rfl | rfl | rfl | rfl | rfl | rfl | rfl | rfl | rfl | rfl | rfl | rfl | rfl | rfl | rfl | rfl | rfl | rfl | rfl | rfl | rfl | rfl | rfl | rfl | rfl | rfl | rfl | rfl | rfl | rfl | rfl | rfl | rfl | rfl | rfl | rfl
            · have e39 : az.eval (.tmp 39) = .agg (arrOf 256 (pyF f)) := hO 39 rfl
              have e38 : az.eval (.tmp 38) = .func (.func 18) #[] #[] := hO 38 rfl
              exact po_kv HWF hJ hE (rNTT_any f _ Hf.out) rfl rfl rfl rfl rfl rfl e38 (ar1 e39)
            · exact po_k HWF hJ hE (rInverse_any (nttN f) _ (small_lt (nttN_lt _))) rfl rfl rfl rfl rfl rfl (ar1 (po_e hS hdn hJ 0 40 rfl rfl rfl rfl))
            · have e42 : az.eval (.tmp 42) = .agg (arrOf 256 (pyF f)) := hO 42 rfl
              exact po_k HWF hJ hE (is_yes (invN (nttN f)) f _ (fun i hi => invN_nttN f (mayN_all HAf.out) i hi)) rfl rfl rfl rfl rfl rfl (ar2 (po_e hS hdn hJ 1 41 rfl rfl rfl rfl) e42)
            · exact po_p _ HWF hJ hE rfl rfl rfl rfl rfl rfl rfl (x_move (po_e hS hdn hJ 2 43 rfl rfl rfl rfl))
            · have e9 : az.eval (.tmp 9) = .func (.func 18) #[] #[] := hO 9 rfl
              exact po_p _ HWF hJ hE rfl rfl rfl rfl rfl rfl (wanted_of rfl rfl (po_e hS hdn hJ 3 44 rfl rfl rfl rfl)) (x_move e9)
            · have e5 : az.eval (.tmp 5) = .pointer (some ⟨b_t5, 0, none⟩) := hO 5 rfl
              exact po_p _ HWF hJ hE rfl rfl rfl rfl rfl rfl (wanted_of rfl rfl (po_e hS hdn hJ 3 44 rfl rfl rfl rfl)) (exec_load_as _ _ _ _ (pyF f) e5 arrP (Keep.row hE r_t5 rfl) (by omega) (fun i hi => by rw [Nat.zero_add]))
            · exact po_kv HWF hJ hE (rNTT_any f _ Hf.out) rfl rfl rfl rfl rfl (wanted_of rfl rfl (po_e hS hdn hJ 3 44 rfl rfl rfl rfl)) (po_e hS hdn hJ 4 45 rfl rfl rfl rfl) (ar1 (po_e hS hdn hJ 5 46 rfl rfl rfl rfl))
            · have e9 : az.eval (.tmp 9) = .func (.func 18) #[] #[] := hO 9 rfl
              exact po_p _ HWF hJ hE rfl rfl rfl rfl rfl rfl (wanted_of rfl rfl (po_e hS hdn hJ 3 44 rfl rfl rfl rfl)) (x_move e9)
            · have e7 : az.eval (.tmp 7) = .pointer (some ⟨b_t7, 0, none⟩) := hO 7 rfl
              exact po_p _ HWF hJ hE rfl rfl rfl rfl rfl rfl (wanted_of rfl rfl (po_e hS hdn hJ 3 44 rfl rfl rfl rfl)) (exec_load_as _ _ _ _ (pyF g) e7 arrP (Keep.row hE r_t7 rfl) (by omega) (fun i hi => by rw [Nat.zero_add]))
            · exact po_kv HWF hJ hE (rNTT_any g _ Hg.out) rfl rfl rfl rfl rfl (wanted_of rfl rfl (po_e hS hdn hJ 3 44 rfl rfl rfl rfl)) (po_e hS hdn hJ 7 48 rfl rfl rfl rfl) (ar1 (po_e hS hdn hJ 8 49 rfl rfl rfl rfl))
            · exact po_k HWF hJ hE (rMul_any (nttN f) (nttN g) _ (small_lt (nttN_lt _)) (small_lt (nttN_lt _))) rfl rfl rfl rfl rfl (wanted_of rfl rfl (po_e hS hdn hJ 3 44 rfl rfl rfl rfl)) (ar2 (po_e hS hdn hJ 6 47 rfl rfl rfl rfl) (po_e hS hdn hJ 9 50 rfl rfl rfl rfl))
            · exact po_k HWF hJ hE (rInverse_any (mulN (nttN f) (nttN g)) _ (small_lt (mulN_lt _ _))) rfl rfl rfl rfl rfl (wanted_of rfl rfl (po_e hS hdn hJ 3 44 rfl rfl rfl rfl)) (ar1 (po_e hS hdn hJ 10 51 rfl rfl rfl rfl))
            · have e6 : az.eval (.tmp 6) = .pointer (some ⟨b_t6, 0, none⟩) := hO 6 rfl
              exact po_p _ HWF hJ hE rfl rfl rfl rfl rfl rfl (wanted_of rfl rfl (po_e hS hdn hJ 3 44 rfl rfl rfl rfl)) (exec_load_as _ _ _ _ (pyF f) e6 arrPy (Keep.row hE r_t6 rfl) (by omega) (fun i hi => by rw [Nat.zero_add]))
            · have e8 : az.eval (.tmp 8) = .pointer (some ⟨b_t8, 0, none⟩) := hO 8 rfl
              exact po_p _ HWF hJ hE rfl rfl rfl rfl rfl rfl (wanted_of rfl rfl (po_e hS hdn hJ 3 44 rfl rfl rfl rfl)) (exec_load_as _ _ _ _ (pyF g) e8 arrPy (Keep.row hE r_t8 rfl) (by omega) (fun i hi => by rw [Nat.zero_add]))
            · exact po_k HWF hJ hE (refSlow_any f g _ Hf.out Hg.out) rfl rfl rfl rfl rfl (wanted_of rfl rfl (po_e hS hdn hJ 3 44 rfl rfl rfl rfl)) (ar2 (po_e hS hdn hJ 12 53 rfl rfl rfl rfl) (po_e hS hdn hJ 13 54 rfl rfl rfl rfl))
            · exact po_k HWF hJ hE (is_yes (invN (mulN (nttN f) (nttN g))) (slowN f g) _ (fun i hi => invN_mul f g i hi)) rfl rfl rfl rfl rfl (wanted_of rfl rfl (po_e hS hdn hJ 3 44 rfl rfl rfl rfl)) (ar2 (po_e hS hdn hJ 11 52 rfl rfl rfl rfl) (po_e hS hdn hJ 14 55 rfl rfl rfl rfl))
            · have e44 := po_e hS hdn hJ 3 44 rfl rfl rfl rfl
              have e56 := po_e hS hdn hJ 15 56 rfl rfl rfl rfl
              exact po_p (Op.pick (Operand.tmp 44) (Operand.tmp 56) (Operand.const (Value.bool false))) HWF hJ hE rfl rfl rfl rfl rfl rfl rfl (by first | (simp only [execOp, mkOp, eval_const, e44, e56]; done) | (simp only [execOp, mkOp, eval_const, e44, e56]; go_simp))
            · exact po_p _ HWF hJ hE rfl rfl rfl rfl rfl rfl rfl (x_move (po_e hS hdn hJ 16 57 rfl rfl rfl rfl))
            · have e9 : az.eval (.tmp 9) = .func (.func 18) #[] #[] := hO 9 rfl
              exact po_p _ HWF hJ hE rfl rfl rfl rfl rfl rfl (wanted_of rfl rfl (po_e hS hdn hJ 17 58 rfl rfl rfl rfl)) (x_move e9)
            · have e5 : az.eval (.tmp 5) = .pointer (some ⟨b_t5, 0, none⟩) := hO 5 rfl
              exact po_p _ HWF hJ hE rfl rfl rfl rfl rfl rfl (wanted_of rfl rfl (po_e hS hdn hJ 17 58 rfl rfl rfl rfl)) (exec_load_as _ _ _ _ (pyF f) e5 arrP (Keep.row hE r_t5 rfl) (by omega) (fun i hi => by rw [Nat.zero_add]))
            · exact po_kv HWF hJ hE (rNTT_any f _ Hf.out) rfl rfl rfl rfl rfl (wanted_of rfl rfl (po_e hS hdn hJ 17 58 rfl rfl rfl rfl)) (po_e hS hdn hJ 18 59 rfl rfl rfl rfl) (ar1 (po_e hS hdn hJ 19 60 rfl rfl rfl rfl))
            · have e9 : az.eval (.tmp 9) = .func (.func 18) #[] #[] := hO 9 rfl
              exact po_p _ HWF hJ hE rfl rfl rfl rfl rfl rfl (wanted_of rfl rfl (po_e hS hdn hJ 17 58 rfl rfl rfl rfl)) (x_move e9)
            · have e7 : az.eval (.tmp 7) = .pointer (some ⟨b_t7, 0, none⟩) := hO 7 rfl
              exact po_p _ HWF hJ hE rfl rfl rfl rfl rfl rfl (wanted_of rfl rfl (po_e hS hdn hJ 17 58 rfl rfl rfl rfl)) (exec_load_as _ _ _ _ (pyF g) e7 arrP (Keep.row hE r_t7 rfl) (by omega) (fun i hi => by rw [Nat.zero_add]))
            · exact po_kv HWF hJ hE (rNTT_any g _ Hg.out) rfl rfl rfl rfl rfl (wanted_of rfl rfl (po_e hS hdn hJ 17 58 rfl rfl rfl rfl)) (po_e hS hdn hJ 21 62 rfl rfl rfl rfl) (ar1 (po_e hS hdn hJ 22 63 rfl rfl rfl rfl))
            · exact po_k HWF hJ hE (rAdd_any (nttN f) (nttN g) _ (small_lt (nttN_lt _)) (small_lt (nttN_lt _))) rfl rfl rfl rfl rfl (wanted_of rfl rfl (po_e hS hdn hJ 17 58 rfl rfl rfl rfl)) (ar2 (po_e hS hdn hJ 20 61 rfl rfl rfl rfl) (po_e hS hdn hJ 23 64 rfl rfl rfl rfl))
            · have e9 : az.eval (.tmp 9) = .func (.func 18) #[] #[] := hO 9 rfl
              exact po_p _ HWF hJ hE rfl rfl rfl rfl rfl rfl (wanted_of rfl rfl (po_e hS hdn hJ 17 58 rfl rfl rfl rfl)) (x_move e9)
            · have e5 : az.eval (.tmp 5) = .pointer (some ⟨b_t5, 0, none⟩) := hO 5 rfl
              exact po_p _ HWF hJ hE rfl rfl rfl rfl rfl rfl (wanted_of rfl rfl (po_e hS hdn hJ 17 58 rfl rfl rfl rfl)) (exec_load_as _ _ _ _ (pyF f) e5 arrP (Keep.row hE r_t5 rfl) (by omega) (fun i hi => by rw [Nat.zero_add]))
            · have e7 : az.eval (.tmp 7) = .pointer (some ⟨b_t7, 0, none⟩) := hO 7 rfl
              exact po_p _ HWF hJ hE rfl rfl rfl rfl rfl rfl (wanted_of rfl rfl (po_e hS hdn hJ 17 58 rfl rfl rfl rfl)) (exec_load_as _ _ _ _ (pyF g) e7 arrP (Keep.row hE r_t7 rfl) (by omega) (fun i hi => by rw [Nat.zero_add]))
            · exact po_k HWF hJ hE (rAdd_any f g _ Hf.out Hg.out) rfl rfl rfl rfl rfl (wanted_of rfl rfl (po_e hS hdn hJ 17 58 rfl rfl rfl rfl)) (ar2 (po_e hS hdn hJ 26 67 rfl rfl rfl rfl) (po_e hS hdn hJ 27 68 rfl rfl rfl rfl))
            · exact po_kv HWF hJ hE (rNTT_any (fun k => (f k + g k) % 3329) _ (small_lt fun _ => Nat.mod_lt _ (by decide))) rfl rfl rfl rfl rfl (wanted_of rfl rfl (po_e hS hdn hJ 17 58 rfl rfl rfl rfl)) (po_e hS hdn hJ 25 66 rfl rfl rfl rfl) (ar1 (po_e hS hdn hJ 28 69 rfl rfl rfl rfl))
            · exact po_k HWF hJ hE (f2_any (nttN (fun k => (f k + g k) % 3329)) _) rfl rfl rfl rfl rfl (wanted_of rfl rfl (po_e hS hdn hJ 17 58 rfl rfl rfl rfl)) (ar1 (po_e hS hdn hJ 29 70 rfl rfl rfl rfl))
            · exact po_k HWF hJ hE (is_yes (fun k => ((nttN f) k + (nttN g) k) % 3329) (nttN (fun k => (f k + g k) % 3329)) _ (fun i _ => (nttN_add f g i).symm)) rfl rfl rfl rfl rfl (wanted_of rfl rfl (po_e hS hdn hJ 17 58 rfl rfl rfl rfl)) (ar2 (po_e hS hdn hJ 24 65 rfl rfl rfl rfl) (po_e hS hdn hJ 30 71 rfl rfl rfl rfl))
            · have e58 := po_e hS hdn hJ 17 58 rfl rfl rfl rfl
              have e72 := po_e hS hdn hJ 31 72 rfl rfl rfl rfl
              exact po_p (Op.pick (Operand.tmp 58) (Operand.tmp 72) (Operand.const (Value.bool false))) HWF hJ hE rfl rfl rfl rfl rfl rfl rfl (by first | (simp only [execOp, mkOp, eval_const, e58, e72]; done) | (simp only [execOp, mkOp, eval_const, e58, e72]; go_simp))
            · exact po_p _ HWF hJ hE rfl rfl rfl rfl rfl rfl rfl (x_move (po_e hS hdn hJ 32 73 rfl rfl rfl rfl))
            · exact po_k HWF hJ hE (awake10_any _) rfl rfl rfl rfl rfl (wanted_of rfl rfl (po_e hS hdn hJ 33 74 rfl rfl rfl rfl)) (ar0)
            · have e74 := po_e hS hdn hJ 33 74 rfl rfl rfl rfl
              have e75 := po_e hS hdn hJ 34 75 rfl rfl rfl rfl
              exact po_p (Op.pick (Operand.tmp 74) (Operand.tmp 75) (Operand.const (Value.bool false))) HWF hJ hE rfl rfl rfl rfl rfl rfl rfl (by first | (simp only [execOp, mkOp, eval_const, e74, e75]; done) | (simp only [execOp, mkOp, eval_const, e74, e75]; go_simp))
            · exact po_p _ HWF hJ hE rfl rfl rfl rfl rfl rfl rfl (x_assign (po_e hS hdn hJ 35 76 rfl rfl rfl rfl))
          · rw [putO_true _ _ _ _ _ rfl]
            simp only [putA, Nat.zero_add, Nat.reduceAdd]
            rw [hJ.tt 0 rfl, hJ.tt 1 rfl, hJ.tt 2 rfl, hJ.tt 3 rfl, hJ.tt 4 rfl, hJ.tt 5 rfl, hJ.tt 6 rfl, hJ.tt 7 rfl, hJ.tt 8 rfl, hJ.tt 9 rfl, hJ.tt 10 rfl, hJ.tt 11 rfl, hJ.tt 12 rfl, hJ.tt 13 rfl, hJ.tt 14 rfl, hJ.tt 15 rfl, hJ.tt 16 rfl, hJ.tt 17 rfl, hJ.tt 18 rfl, hJ.tt 19 rfl, hJ.tt 20 rfl, hJ.tt 21 rfl, hJ.tt 22 rfl, hJ.tt 23 rfl, hJ.tt 24 rfl, hJ.tt 25 rfl, hJ.tt 26 rfl, hJ.tt 27 rfl, hJ.tt 28 rfl, hJ.tt 29 rfl, hJ.tt 30 rfl, hJ.tt 31 rfl, hJ.tt 32 rfl, hJ.tt 33 rfl, hJ.tt 34 rfl, hJ.tt 35 rfl, hJ.tt 36 rfl]
            simp only [Act.put, zA, zB, zC]
            refine po_end ?_
            replace r_t5 := Keep.row hE r_t5 rfl
            replace r_t6 := Keep.row hE r_t6 rfl
            replace r_t7 := Keep.row hE r_t7 rfl
            replace r_t8 := Keep.row hE r_t8 rfl
            have Bw16 := hE.below Bw15 (HGS.out _ Bw15) rfl
            clear Bw15 hE hJ 
            go_wp2
            go_ret
            exact ⟨rfl, Bw16⟩
        · have hma : mayN g = false := by simpa using hm0
          rw [hma] at HMg HNg
          have HAg := Lib.hid hma
          clear hma hm0
          go_enter Try.func5, Try.ntmps5
          go_wp2_with (first
            | (have hgo := Bw0; clear hgo
               go_at_call 10
               refine (HP0.out _ Bw0).mono ?_
               rintro e w2 ⟨rfl, kk⟩
               have Bw1 := zbt HGS Bw0 kk
               clear Bw0 kk)
            | (have hgo := Bw1; clear hgo
               refine wpList_alloc_row rfl 26 rfl 256 (pyF fun _ => 0) zeroP ?_
               intro b_t5 w6 lk r_t5 kk
               have l_t5 := zrl HGS Bw1 lk
               have Bw2 := zbt HGS Bw1 kk
               clear Bw1 kk lk)
            | (have hgo := Bw2; clear hgo
               refine wpList_alloc_row rfl 27 rfl 256 (pyF fun _ => 0) zeroPy ?_
               intro b_t6 w7 lk r_t6 kk
               have n_t5_t6 := zrn r_t5 lk
               have l_t6 := zrl HGS Bw2 lk
               replace r_t5 := zrb r_t5 kk
               have Bw3 := zbt HGS Bw2 kk
               clear Bw2 kk lk)
            | (have hgo := Bw3; clear hgo
               refine wpList_store_as rfl 26 (.tmp 5) (.tmp 22) rfl 256 (pyF f) arrP r_t5 rfl rfl (by omega) (fun _ _ => rfl) (fun i hi => putN_whole hi) ?_
               intro w8 q gk
               replace r_t6 := gb_rowIs r_t6 gk (Ne.symm n_t5_t6)
               replace r_t5 := q
               have Bw4 := zbg HGS Bw3 gk l_t5
               clear Bw3 gk q)
            | (have hgo := Bw4; clear hgo
               refine wpList_store_as rfl 27 (.tmp 6) (.tmp 23) rfl 256 (pyF f) arrPy r_t6 rfl rfl (by omega) (fun _ _ => rfl) (fun i hi => putN_whole hi) ?_
               intro w9 q gk
               replace r_t5 := gb_rowIs r_t5 gk n_t5_t6
               replace r_t6 := q
               have Bw5 := zbg HGS Bw4 gk l_t6
               clear Bw4 gk q)
            | (have hgo := Bw5; clear hgo
               go_at_call 10
               refine (HP1.out _ Bw5).mono ?_
               rintro e w11 ⟨rfl, kk⟩
               replace r_t5 := zrb r_t5 kk
               replace r_t6 := zrb r_t6 kk
               have Bw6 := zbt HGS Bw5 kk
               clear Bw5 kk)
            | (have hgo := Bw6; clear hgo
               refine wpList_alloc_row rfl 26 rfl 256 (pyF fun _ => 0) zeroP ?_
               intro b_t7 w15 lk r_t7 kk
               have n_t5_t7 := zrn r_t5 lk
               have n_t6_t7 := zrn r_t6 lk
               have l_t7 := zrl HGS Bw6 lk
               replace r_t5 := zrb r_t5 kk
               replace r_t6 := zrb r_t6 kk
               have Bw7 := zbt HGS Bw6 kk
               clear Bw6 kk lk)
            | (have hgo := Bw7; clear hgo
               refine wpList_alloc_row rfl 27 rfl 256 (pyF fun _ => 0) zeroPy ?_
               intro b_t8 w16 lk r_t8 kk
               have n_t5_t8 := zrn r_t5 lk
               have n_t6_t8 := zrn r_t6 lk
               have n_t7_t8 := zrn r_t7 lk
               have l_t8 := zrl HGS Bw7 lk
               replace r_t5 := zrb r_t5 kk
               replace r_t6 := zrb r_t6 kk
               replace r_t7 := zrb r_t7 kk
               have Bw8 := zbt HGS Bw7 kk
               clear Bw7 kk lk)
            | (have hgo := Bw8; clear hgo
               refine wpList_store_as rfl 26 (.tmp 7) (.tmp 27) rfl 256 (pyF g) arrP r_t7 rfl rfl (by omega) (fun _ _ => rfl) (fun i hi => putN_whole hi) ?_
               intro w17 q gk
               replace r_t5 := gb_rowIs r_t5 gk n_t5_t7
               replace r_t6 := gb_rowIs r_t6 gk n_t6_t7
               replace r_t8 := gb_rowIs r_t8 gk (Ne.symm n_t7_t8)
               replace r_t7 := q
               have Bw9 := zbg HGS Bw8 gk l_t7
               clear Bw8 gk q)
            | (have hgo := Bw9; clear hgo
               refine wpList_store_as rfl 27 (.tmp 8) (.tmp 28) rfl 256 (pyF g) arrPy r_t8 rfl rfl (by omega) (fun _ _ => rfl) (fun i hi => putN_whole hi) ?_
               intro w18 q gk
               replace r_t5 := gb_rowIs r_t5 gk n_t5_t8
               replace r_t6 := gb_rowIs r_t6 gk n_t6_t8
               replace r_t7 := gb_rowIs r_t7 gk n_t7_t8
               replace r_t8 := q
               have Bw10 := zbg HGS Bw9 gk l_t8
               clear Bw9 gk q)
            | (have hgo := Bw10; clear hgo
               refine wpList_load_as rfl 27 (.tmp 6) rfl 256 (pyF f) arrPy r_t6 rfl (by omega) (fun i hi => by rw [Nat.zero_add]) ?_
               have Bw11 := Bw10
               clear Bw10)
            | (have hgo := Bw11; clear hgo
               go_at_call 12
               refine (HNf.out _).mono ?_
               rintro e w20 ⟨rfl, kk⟩
               replace r_t5 := zrb r_t5 kk
               replace r_t6 := zrb r_t6 kk
               replace r_t7 := zrb r_t7 kk
               replace r_t8 := zrb r_t8 kk
               have Bw12 := zbt HGS Bw11 kk
               clear Bw11 kk)
            | (have hgo := Bw12; clear hgo
               refine wpList_load_asg rfl 27 (.tmp 8) rfl 256 (pyF g) arrPy r_t8 rfl (by omega) (fun i hi => by rw [Nat.zero_add]) ?_
               have Bw13 := Bw12
               clear Bw12)
            | (have hgo := Bw13; clear hgo
               go_at_call 12
               refine (HNg.out _).mono ?_
               rintro e w24 ⟨rfl, kk⟩
               replace r_t5 := zrb r_t5 kk
               replace r_t6 := zrb r_t6 kk
               replace r_t7 := zrb r_t7 kk
               replace r_t8 := zrb r_t8 kk
               have Bw14 := zbt HGS Bw13 kk
               clear Bw13 kk)
            | (have hgo := Bw14; clear hgo
               go_at_call 9
               refine (awake10_any _).mono ?_
               rintro e w27 ⟨rfl, kk⟩
               replace r_t5 := zrb r_t5 kk
               replace r_t6 := zrb r_t6 kk
               replace r_t7 := zrb r_t7 kk
               replace r_t8 := zrb r_t8 kk
               have Bw15 := zbt HGS Bw14 kk
               clear Bw14 kk))
          go_ret
          exact ⟨rfl, Bw15⟩
      · have hma : mayN f = false := by simpa using hm0
        rw [hma] at HMf HNf
        have HAf := Lib.hid hma
        clear hma hm0
        go_enter Try.func5, Try.ntmps5
        go_wp2_with (first
          | (have hgo := Bw0; clear hgo
             go_at_call 10
             refine (HP0.out _ Bw0).mono ?_
             rintro e w2 ⟨rfl, kk⟩
             have Bw1 := zbt HGS Bw0 kk
             clear Bw0 kk)
          | (have hgo := Bw1; clear hgo
             refine wpList_alloc_row rfl 26 rfl 256 (pyF fun _ => 0) zeroP ?_
             intro b_t5 w6 lk r_t5 kk
             have l_t5 := zrl HGS Bw1 lk
             have Bw2 := zbt HGS Bw1 kk
             clear Bw1 kk lk)
          | (have hgo := Bw2; clear hgo
             refine wpList_alloc_row rfl 27 rfl 256 (pyF fun _ => 0) zeroPy ?_
             intro b_t6 w7 lk r_t6 kk
             have n_t5_t6 := zrn r_t5 lk
             have l_t6 := zrl HGS Bw2 lk
             replace r_t5 := zrb r_t5 kk
             have Bw3 := zbt HGS Bw2 kk
             clear Bw2 kk lk)
          | (have hgo := Bw3; clear hgo
             refine wpList_store_as rfl 26 (.tmp 5) (.tmp 22) rfl 256 (pyF f) arrP r_t5 rfl rfl (by omega) (fun _ _ => rfl) (fun i hi => putN_whole hi) ?_
             intro w8 q gk
             replace r_t6 := gb_rowIs r_t6 gk (Ne.symm n_t5_t6)
             replace r_t5 := q
             have Bw4 := zbg HGS Bw3 gk l_t5
             clear Bw3 gk q)
          | (have hgo := Bw4; clear hgo
             refine wpList_store_as rfl 27 (.tmp 6) (.tmp 23) rfl 256 (pyF f) arrPy r_t6 rfl rfl (by omega) (fun _ _ => rfl) (fun i hi => putN_whole hi) ?_
             intro w9 q gk
             replace r_t5 := gb_rowIs r_t5 gk n_t5_t6
             replace r_t6 := q
             have Bw5 := zbg HGS Bw4 gk l_t6
             clear Bw4 gk q)
          | (have hgo := Bw5; clear hgo
             go_at_call 10
             refine (HP1.out _ Bw5).mono ?_
             rintro e w11 ⟨rfl, kk⟩
             replace r_t5 := zrb r_t5 kk
             replace r_t6 := zrb r_t6 kk
             have Bw6 := zbt HGS Bw5 kk
             clear Bw5 kk)
          | (have hgo := Bw6; clear hgo
             refine wpList_alloc_row rfl 26 rfl 256 (pyF fun _ => 0) zeroP ?_
             intro b_t7 w15 lk r_t7 kk
             have n_t5_t7 := zrn r_t5 lk
             have n_t6_t7 := zrn r_t6 lk
             have l_t7 := zrl HGS Bw6 lk
             replace r_t5 := zrb r_t5 kk
             replace r_t6 := zrb r_t6 kk
             have Bw7 := zbt HGS Bw6 kk
             clear Bw6 kk lk)
          | (have hgo := Bw7; clear hgo
             refine wpList_alloc_row rfl 27 rfl 256 (pyF fun _ => 0) zeroPy ?_
             intro b_t8 w16 lk r_t8 kk
             have n_t5_t8 := zrn r_t5 lk
             have n_t6_t8 := zrn r_t6 lk
             have n_t7_t8 := zrn r_t7 lk
             have l_t8 := zrl HGS Bw7 lk
             replace r_t5 := zrb r_t5 kk
             replace r_t6 := zrb r_t6 kk
             replace r_t7 := zrb r_t7 kk
             have Bw8 := zbt HGS Bw7 kk
             clear Bw7 kk lk)
          | (have hgo := Bw8; clear hgo
             refine wpList_store_as rfl 26 (.tmp 7) (.tmp 27) rfl 256 (pyF g) arrP r_t7 rfl rfl (by omega) (fun _ _ => rfl) (fun i hi => putN_whole hi) ?_
             intro w17 q gk
             replace r_t5 := gb_rowIs r_t5 gk n_t5_t7
             replace r_t6 := gb_rowIs r_t6 gk n_t6_t7
             replace r_t8 := gb_rowIs r_t8 gk (Ne.symm n_t7_t8)
             replace r_t7 := q
             have Bw9 := zbg HGS Bw8 gk l_t7
             clear Bw8 gk q)
          | (have hgo := Bw9; clear hgo
             refine wpList_store_as rfl 27 (.tmp 8) (.tmp 28) rfl 256 (pyF g) arrPy r_t8 rfl rfl (by omega) (fun _ _ => rfl) (fun i hi => putN_whole hi) ?_
             intro w18 q gk
             replace r_t5 := gb_rowIs r_t5 gk n_t5_t8
             replace r_t6 := gb_rowIs r_t6 gk n_t6_t8
             replace r_t7 := gb_rowIs r_t7 gk n_t7_t8
             replace r_t8 := q
             have Bw10 := zbg HGS Bw9 gk l_t8
             clear Bw9 gk q)
          | (have hgo := Bw10; clear hgo
             refine wpList_load_as rfl 27 (.tmp 6) rfl 256 (pyF f) arrPy r_t6 rfl (by omega) (fun i hi => by rw [Nat.zero_add]) ?_
             have Bw11 := Bw10
             clear Bw10)
          | (have hgo := Bw11; clear hgo
             go_at_call 12
             refine (HNf.out _).mono ?_
             rintro e w20 ⟨rfl, kk⟩
             replace r_t5 := zrb r_t5 kk
             replace r_t6 := zrb r_t6 kk
             replace r_t7 := zrb r_t7 kk
             replace r_t8 := zrb r_t8 kk
             have Bw12 := zbt HGS Bw11 kk
             clear Bw11 kk)
          | (have hgo := Bw12; clear hgo
             go_at_call 9
             refine (awake10_any _).mono ?_
             rintro e w27 ⟨rfl, kk⟩
             replace r_t5 := zrb r_t5 kk
             replace r_t6 := zrb r_t6 kk
             replace r_t7 := zrb r_t7 kk
             replace r_t8 := zrb r_t8 kk
             have Bw13 := zbt HGS Bw12 kk
             clear Bw12 kk))
        go_ret
        exact ⟨rfl, Bw13⟩
    · have q1 : (256 : Int) < (n1 : Int) := by omega
      clear h0 hB0 e0 h1 hB1 e1 d0 d1
      go_enter Try.func5, Try.ntmps5
      go_wp2_with (first | (go_at_call 9; refine (awake10_any _).mono ?_; rintro e w9 ⟨rfl, hb9⟩))
      go_ret
      exact ⟨rfl, hb9⟩
  · have q0 : (256 : Int) < (n0 : Int) := by omega
    clear h0 hB0 e0 h1 hB1 e1 d0
    go_enter Try.func5, Try.ntmps5
    go_wp2_with (first | (go_at_call 9; refine (awake10_any _).mono ?_; rintro e w9 ⟨rfl, hb9⟩))
    go_ret
    exact ⟨rfl, hb9⟩
end Go.Proofs.Ytnpifjimmeehdaa
