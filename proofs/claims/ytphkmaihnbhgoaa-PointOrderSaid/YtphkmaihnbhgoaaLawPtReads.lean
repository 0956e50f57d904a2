/- PointReads, walked. -/
import Derived.Test.YtphkmaihnbhgoaaMM6
namespace Go.Proofs.Ytphkmaihnbhgoaa
open Go.RowKit Go.Deep
set_option linter.unusedSimpArgs false
set_option linter.unusedVariables false

theorem qDec_to (v : Value) (l : List UInt8) (w : World) (h : Bs w v l) (t : Nat × Nat × Nat) (e : Int) (ht : eT l = t) (he : decE l = e) : Calls Try.prog 10 #[v] w fun e' w' => e' = .returned (.tuple #[.agg (arrOf 12 (qT t)), .int .i64 e]) ∧ Below w.heap.size w w' := by
  rw [← ht, ← he]
  exact qTDecode_any v l w h
theorem tDec_to (v : Value) (l : List UInt8) (w : World) (h : Bs w v l) (t : Nat × Nat × Nat) (e : Int) (ht : dT l = t) (he : decE l = e) : Calls Try.prog 11 #[v] w fun e' w' => e' = .returned (.tuple #[.agg (arrOf 48 (ptT t)), .int .i64 e]) ∧ Below w.heap.size w w' := by
  rw [← ht, ← he]
  exact tDecode_any v l w h
theorem tsmall_to (t : Nat × Nat × Nat) (b : Bool) (w : World) (h : LtT t) (hb : pSmall t = b) : Calls Try.prog 15 #[.agg (arrOf 48 (ptT t))] w fun e w' => e = .returned (.bool b) ∧ Below w.heap.size w w' := by
  rw [← hb]
  exact tSmall_any t w h
theorem decE_none {l : List UInt8} (h : decN l = none) : decE l = 12 := by unfold decE; rw [h]; rfl
theorem decE_some {l : List UInt8} {P : Nat × Nat} (h : decN l = some P) : decE l = 0 := by unfold decE; rw [h]; rfl
theorem decP_some {l : List UInt8} {P : Nat × Nat} (h : decN l = some P) : decP l = P := by unfold decP; rw [h]; rfl
set_option maxHeartbeats 8000000 in
set_option maxRecDepth 100000 in
theorem law_pointReads (w : World) (v0 : Value) (l0 : List UInt8) (h0 : Bs w v0 l0) : Calls Try.prog 3 #[v0] w fun e w' => e = .returned (.bool true) ∧ Below w.heap.size w w' := by
  obtain ⟨ad0, n0, c0, rfl, e0, y0, z0, hB0⟩ := h0.shape
  by_cases d0 : n0 ≤ 100
  · have q0 : ¬ (100 : Int) < (n0 : Int) := by omega
    have f_s0 := hB0
    have HF_s0 := Lib.hid hB0
    have Bw0 := Below.refl w.heap.size w
    have HGS : Hid (∀ wq : World, Below w.heap.size w wq → w.heap.size ≤ wq.heap.size) := Lib.hid fun wq h => h.size
    obtain ⟨t, ht⟩ : ∃ t, t = eT l0 := ⟨_, rfl⟩
    obtain ⟨u, hu⟩ : ∃ u, u = dT l0 := ⟨_, rfl⟩
    have Rt : Hid (RQ (decP l0) t) := Lib.hid (by rw [ht]; exact RQ.dec l0)
    have Ru : Hid (RT (decP l0) u) := Lib.hid (by rw [hu]; exact RT.dec l0)
    have Ht := Lib.hid Rt.out.1
    have Hu := Lib.hid Ru.out.2.1
    have HT1 := Lib.hid ht.symm
    have HU1 := Lib.hid hu.symm
    clear ht hu
    obtain ⟨sb, hsb⟩ : ∃ sb, sb = qSmall t := ⟨_, rfl⟩
    have HS1 := Lib.hid hsb.symm
    have HS2 : Hid (pSmall u = sb) := Lib.hid (by rw [hsb, Rt.out.small, Ru.out.small])
    clear hsb
    cases hd : decN l0 with
    | none =>
      have HE0 : Hid (decE l0 = 12) := Lib.hid (decE_none hd)
      clear hd
      clear h0 hB0 e0 d0
      go_enter Try.func3, Try.ntmps3
      go_wp2_with (first
        | (have hgo := Bw0; clear hgo
           go_at_call 10
           refine (qDec_to _ l0 _ f_s0 t 12 HT1.out HE0.out).mono ?_
           rintro e w5 ⟨rfl, kk⟩
           replace f_s0 := Bs.below f_s0 kk (Nat.le_refl _)
           have Bw1 := Bw0.trans (kk.mono (HGS.out _ Bw0))
           clear Bw0 kk)
        | (have hgo := Bw1; clear hgo
           refine wpList_alloc_row rfl 29 rfl 12 (u64f fun _ => 0) zeroQ ?_
           intro b_t3 w9 lk r_t3 kk
           have l_t3 := Nat.le_trans (HGS.out _ Bw1) lk
           have a_s0_t3 := Bs.away f_s0 lk
           replace f_s0 := Bs.below f_s0 kk (Nat.le_refl _)
           have Bw2 := Bw1.trans (kk.mono (HGS.out _ Bw1))
           clear Bw1 kk lk)
        | (have hgo := Bw2; clear hgo
           refine wpList_store_as rfl 29 (.tmp 3) (.tmp 14) rfl 12 (qT t) arrQ r_t3 rfl rfl (by omega) (fun j _ => qF_one _ _ _ j) (fun i hi => putN_whole hi) ?_
           intro w10 q gk
           replace r_t3 := q
           have Bw3 := Bw2.grown gk (HGS.out _ Bw2) (by intro k hk; cases hk; exact l_t3)
           replace f_s0 := gb_bs f_s0 gk a_s0_t3
           clear Bw2 gk q)
        | (have hgo := Bw3; clear hgo
           go_at_call 11
           refine (tDec_to _ l0 _ f_s0 u 12 HU1.out HE0.out).mono ?_
           rintro e w13 ⟨rfl, kk⟩
           replace r_t3 := World.rowIs.of_block r_t3 (kk.block _ (World.rowIs.lt r_t3))
           replace f_s0 := Bs.below f_s0 kk (Nat.le_refl _)
           have Bw4 := Bw3.trans (kk.mono (HGS.out _ Bw3))
           clear Bw3 kk)
        | (have hgo := Bw4; clear hgo
           refine wpList_alloc_row rfl 36 rfl 48 (u64f fun _ => 0) zeroPt ?_
           intro b_t5 w17 lk r_t5 kk
           have n_t3_t5 : b_t3 ≠ b_t5 := Nat.ne_of_lt (Nat.lt_of_lt_of_le (World.rowIs.lt r_t3) lk)
           have l_t5 := Nat.le_trans (HGS.out _ Bw4) lk
           have a_s0_t5 := Bs.away f_s0 lk
           replace r_t3 := World.rowIs.of_block r_t3 (kk.block _ (World.rowIs.lt r_t3))
           replace f_s0 := Bs.below f_s0 kk (Nat.le_refl _)
           have Bw5 := Bw4.trans (kk.mono (HGS.out _ Bw4))
           clear Bw4 kk lk)
        | (have hgo := Bw5; clear hgo
           refine wpList_store_as rfl 36 (.tmp 5) (.tmp 19) rfl 48 (ptT u) arrP r_t5 rfl rfl (by omega) (fun j _ => ptF_one _ _ _ j) (fun i hi => putN_whole hi) ?_
           intro w18 q gk
           replace r_t3 := gb_rowIs r_t3 gk n_t3_t5
           replace r_t5 := q
           have Bw6 := Bw5.grown gk (HGS.out _ Bw5) (by intro k hk; cases hk; exact l_t5)
           replace f_s0 := gb_bs f_s0 gk a_s0_t5
           clear Bw5 gk q)
        | (have hgo := Bw6; clear hgo
           refine wpList_load_asg rfl 29 (.tmp 3) rfl 12 (qT t) arrQ r_t3 rfl (by omega) (fun i hi => by rw [Nat.zero_add]) ?_
           have Bw7 := Bw6
           clear Bw6)
        | (have hgo := Bw7; clear hgo
           refine wpList_load_asg rfl 36 (.tmp 5) rfl 48 (ptT u) arrP r_t5 rfl (by omega) (fun i hi => by rw [Nat.zero_add]) ?_
           have Bw8 := Bw7
           clear Bw7)
        | (have hgo := Bw8; clear hgo
           go_at_call 12
           refine (is8_any t u _ Ht.out Hu.out (Rt.out.enc.trans Ru.out.enc.symm)).mono ?_
           rintro e w26 ⟨rfl, kk⟩
           replace r_t3 := World.rowIs.of_block r_t3 (kk.block _ (World.rowIs.lt r_t3))
           replace r_t5 := World.rowIs.of_block r_t5 (kk.block _ (World.rowIs.lt r_t5))
           replace f_s0 := Bs.below f_s0 kk (Nat.le_refl _)
           have Bw9 := Bw8.trans (kk.mono (HGS.out _ Bw8))
           clear Bw8 kk))
      have Bw10 := Bw9.drew
      replace r_t3 := World.rowIs.drew r_t3
      replace r_t5 := World.rowIs.drew r_t5
      replace f_s0 := Bs.drew f_s0
      clear Bw9
      refine wp_region_po (Keep []) (Keep.refl _) (fun _ _ _ h1 h2 => h1.trans h2) (.rd 0 (.rd 1 (.rd 2 .done))) #[true, true, true, false, false, false, false, false, false, false, false, false, false, false, false, false, false, false, false, false, false] [3, 4, 5, 6, 7, 8, 9, 10, 11, 12, 13, 14, 15, 16, 17, 18, 19, 20] [some 33, some 34, some 35, some 36, some 37, some 38, some 39, some 40, some 41, some 42, some 43, some 44, some 45, some 46, some 47, some 48, some 49, some 2] [[], [0], [1], [], [3], [2, 4], [5], [1, 6], [7], [7, 8], [7], [7, 9, 10], [7, 9, 11], [7, 12], [11, 13], [14], [14, 15], [0, 1, 2, 3, 4, 5, 6, 7, 8, 9, 10, 11, 12, 13, 14, 15, 16]] [(0, []), (1, [0]), (2, [1]), (3, [2]), (4, [3, 2, 2]), (5, [4, 2]), (6, [2]), (7, [6, 2]), (8, [5, 7, 2]), (9, [2, 8]), (10, [9, 4]), (11, [10]), (12, [11, 10, 10]), (13, [10]), (14, [13, 12, 10]), (15, [12, 14, 10]), (16, [10, 15]), (17, [16, 14]), (18, [17, 17]), (19, [17, 18]), (20, [19, 18, 0, 1, 2, 3, 4, 5, 6, 7, 8, 9, 10, 11, 12, 13, 14, 15, 16, 17, 18, 19])] 7 (by as_aux_lemma => kernel_rfl) (by as_aux_lemma => kernel_rfl) (by decide) (by as_aux_lemma => kernel_rfl) (by as_aux_lemma => kernel_rfl) (by as_aux_lemma => kernel_rfl) rfl (fun d _ _ _ _ h => by cases d <;> exact h) ?_
      refine lintz_pure 30 (Op.move (Operand.tmp 4)) 30 ((.int .i64 12)) rfl rfl rfl rfl rfl (fun w0 hb => by unfold mkOp; go_simp; all_goals (with_reducible rfl)) ?_
      simp only [Act.put, List.setIfInBounds_toArray, List.set_cons_zero, List.set_cons_succ]
      refine lintz_pure 31 (Op.binOp BinOp.neq 30 (Operand.tmp 30) (Operand.const (Value.int IntKind.i64 0)) 30) 4 (.bool true) rfl rfl rfl rfl rfl (fun w0 hb => by unfold mkOp; go_simp) ?_
      simp only [Act.put, List.setIfInBounds_toArray, List.set_cons_zero, List.set_cons_succ]
      refine lintz_pure 32 (Op.move (Operand.tmp 31)) 4 (.bool true) rfl rfl rfl rfl rfl (fun w0 hb => by unfold mkOp; go_simp; all_goals (with_reducible rfl)) ?_
      simp only [Act.put, List.setIfInBounds_toArray, List.set_cons_zero, List.set_cons_succ]
      refine lintz_leaf ?_
      have HWF : poWf [.val (undef), .val (undef), .val (undef), .val (undef), .val (undef), .val (undef), .val (.bool true), .val (.bool true), .val (.agg (arrOf 12 (qT t))), .val (.bool sb), .val (.agg (arrOf 48 (ptT u))), .val (.bool sb), .val (.bool true), .val (.bool true), .val (.bool true), .val (.bool true), .val (.bool true), .val (.bool true)] [] = true := by as_aux_lemma => kernel_rfl
      refine ⟨JG [.val (undef), .val (undef), .val (undef), .val (undef), .val (undef), .val (undef), .val (.bool true), .val (.bool true), .val (.agg (arrOf 12 (qT t))), .val (.bool sb), .val (.agg (arrOf 48 (ptT u))), .val (.bool sb), .val (.bool true), .val (.bool true), .val (.bool true), .val (.bool true), .val (.bool true), .val (.bool true)] [] _, JG.start (Nat.le_refl _) (fun i hi => absurd hi (Nat.not_lt_zero _)), fun m gz wa p az hp hm hmp hcl hdn hE hJ hS hO => ?_, fun gz wa hE hJ => ?_⟩
      · rcases (show p = 0 ∨ p = 1 ∨ p = 2 ∨ p = 3 ∨ p = 4 ∨ p = 5 ∨ p = 6 ∨ p = 7 ∨ p = 8 ∨ p = 9 ∨ p = 10 ∨ p = 11 ∨ p = 12 ∨ p = 13 ∨ p = 14 ∨ p = 15 ∨ p = 16 ∨ p = 17 by have h9 : p < 18 := hp; omega) with rfl | rfl | rfl | rfl | rfl | rfl | rfl | rfl | rfl | rfl | rfl | rfl | rfl | rfl | rfl | rfl | rfl | rfl
        · have e32 : az.eval (.tmp 32) = .bool true := hO 32 rfl
          exact po_skip 33 HWF hJ rfl hE rfl rfl rfl (wanted_not rfl rfl e32)
        · have e32 : az.eval (.tmp 32) = .bool true := hO 32 rfl
          exact po_skip 34 HWF hJ rfl hE rfl rfl rfl (wanted_not rfl rfl e32)
        · have e32 : az.eval (.tmp 32) = .bool true := hO 32 rfl
          exact po_skip 35 HWF hJ rfl hE rfl rfl rfl (wanted_not rfl rfl e32)
        · have e32 : az.eval (.tmp 32) = .bool true := hO 32 rfl
          exact po_skip 36 HWF hJ rfl hE rfl rfl rfl (wanted_not rfl rfl e32)
        · have e32 : az.eval (.tmp 32) = .bool true := hO 32 rfl
          exact po_skip 37 HWF hJ rfl hE rfl rfl rfl (wanted_not rfl rfl e32)
        · have e32 : az.eval (.tmp 32) = .bool true := hO 32 rfl
          exact po_skip 38 HWF hJ rfl hE rfl rfl rfl (wanted_not rfl rfl e32)
        · have e32 : az.eval (.tmp 32) = .bool true := hO 32 rfl
          have e38 := (hS 5 38 rfl (hdn 5 (by decide)) (Nat.le_of_ble_eq_true rfl)).trans (hJ.says (hdn 5 (by decide)) rfl)
          exact po_run 39 (Op.pick (Operand.tmp 32) (Operand.const (Value.bool true)) (Operand.tmp 38)) _ HWF hJ rfl hE rfl rfl rfl rfl rfl rfl (by first | (simp only [execOp, mkOp, eval_const, e32, e38]; done) | (simp only [execOp, mkOp, eval_const, e32, e38]; go_simp))
        · have e39 := (hS 6 39 rfl (hdn 6 (by decide)) (Nat.le_of_ble_eq_true rfl)).trans (hJ.says (hdn 6 (by decide)) rfl)
          exact po_run 40 (Op.move (Operand.tmp 39)) _ HWF hJ rfl hE rfl rfl rfl rfl rfl rfl (by first | (simp only [execOp, mkOp, eval_const, e39]; done) | (simp only [execOp, mkOp, eval_const, e39]; go_simp))
        · have e40 := (hS 7 40 rfl (hdn 7 (by decide)) (Nat.le_of_ble_eq_true rfl)).trans (hJ.says (hdn 7 (by decide)) rfl)
          have e3 : az.eval (.tmp 3) = .pointer (some ⟨b_t3, 0, none⟩) := hO 3 rfl
          exact po_run 41 (Op.load 29 (Operand.tmp 3)) _ HWF hJ rfl hE rfl rfl rfl rfl rfl (wanted_of rfl rfl e40) (exec_load_as _ _ _ _ (qT t) e3 arrQ (Keep.row hE r_t3 rfl) (by omega) (fun i hi => by rw [Nat.zero_add]))
        · have e40 := (hS 7 40 rfl (hdn 7 (by decide)) (Nat.le_of_ble_eq_true rfl)).trans (hJ.says (hdn 7 (by decide)) rfl)
          have e41 := (hS 8 41 rfl (hdn 8 (by decide)) (Nat.le_of_ble_eq_true rfl)).trans (hJ.says (hdn 8 (by decide)) rfl)
          exact po_call 42 14 #[Operand.tmp 41] #[29] _ HWF hJ rfl hE (small_to t sb _ Ht.out HS1.out) rfl rfl rfl rfl (wanted_of rfl rfl e40) Try.func14 (by kernel_rfl) (by kernel_rfl) (by simp only [List.map_toArray, List.map_cons, List.map_nil, eval_const, eval_func, e41] <;> rfl)
        · have e40 := (hS 7 40 rfl (hdn 7 (by decide)) (Nat.le_of_ble_eq_true rfl)).trans (hJ.says (hdn 7 (by decide)) rfl)
          have e5 : az.eval (.tmp 5) = .pointer (some ⟨b_t5, 0, none⟩) := hO 5 rfl
          exact po_run 43 (Op.load 36 (Operand.tmp 5)) _ HWF hJ rfl hE rfl rfl rfl rfl rfl (wanted_of rfl rfl e40) (exec_load_as _ _ _ _ (ptT u) e5 arrP (Keep.row hE r_t5 rfl) (by omega) (fun i hi => by rw [Nat.zero_add]))
        · have e40 := (hS 7 40 rfl (hdn 7 (by decide)) (Nat.le_of_ble_eq_true rfl)).trans (hJ.says (hdn 7 (by decide)) rfl)
          have e43 := (hS 10 43 rfl (hdn 10 (by decide)) (Nat.le_of_ble_eq_true rfl)).trans (hJ.says (hdn 10 (by decide)) rfl)
          exact po_call 44 15 #[Operand.tmp 43] #[36] _ HWF hJ rfl hE (tsmall_to u sb _ Hu.out HS2.out) rfl rfl rfl rfl (wanted_of rfl rfl e40) Try.func15 (by kernel_rfl) (by kernel_rfl) (by simp only [List.map_toArray, List.map_cons, List.map_nil, eval_const, eval_func, e43] <;> rfl)
        · have e40 := (hS 7 40 rfl (hdn 7 (by decide)) (Nat.le_of_ble_eq_true rfl)).trans (hJ.says (hdn 7 (by decide)) rfl)
          have e42 := (hS 9 42 rfl (hdn 9 (by decide)) (Nat.le_of_ble_eq_true rfl)).trans (hJ.says (hdn 9 (by decide)) rfl)
          have e44 := (hS 11 44 rfl (hdn 11 (by decide)) (Nat.le_of_ble_eq_true rfl)).trans (hJ.says (hdn 11 (by decide)) rfl)
          exact po_run 45 (Op.binOp BinOp.eql 4 (Operand.tmp 42) (Operand.tmp 44) 4) _ HWF hJ rfl hE rfl rfl rfl rfl rfl (wanted_of rfl rfl e40) (by simp only [execOp, mkOp, eval_const, e42, e44]; go_simp)
        · have e40 := (hS 7 40 rfl (hdn 7 (by decide)) (Nat.le_of_ble_eq_true rfl)).trans (hJ.says (hdn 7 (by decide)) rfl)
          have e45 := (hS 12 45 rfl (hdn 12 (by decide)) (Nat.le_of_ble_eq_true rfl)).trans (hJ.says (hdn 12 (by decide)) rfl)
          exact po_run 46 (Op.pick (Operand.tmp 40) (Operand.tmp 45) (Operand.const (Value.bool false))) _ HWF hJ rfl hE rfl rfl rfl rfl rfl rfl (by first | (simp only [execOp, mkOp, eval_const, e40, e45]; done) | (simp only [execOp, mkOp, eval_const, e40, e45]; go_simp))
        · have e46 := (hS 13 46 rfl (hdn 13 (by decide)) (Nat.le_of_ble_eq_true rfl)).trans (hJ.says (hdn 13 (by decide)) rfl)
          exact po_run 47 (Op.move (Operand.tmp 46)) _ HWF hJ rfl hE rfl rfl rfl rfl rfl rfl (by first | (simp only [execOp, mkOp, eval_const, e46]; done) | (simp only [execOp, mkOp, eval_const, e46]; go_simp))
        · have e47 := (hS 14 47 rfl (hdn 14 (by decide)) (Nat.le_of_ble_eq_true rfl)).trans (hJ.says (hdn 14 (by decide)) rfl)
          exact po_call 48 9 #[] #[] _ HWF hJ rfl hE (awake8_any _) rfl rfl rfl rfl (wanted_of rfl rfl e47) Try.func9 (by kernel_rfl) (by kernel_rfl) (by simp only [List.map_toArray, List.map_cons, List.map_nil, eval_const, eval_func] <;> rfl)
        · have e47 := (hS 14 47 rfl (hdn 14 (by decide)) (Nat.le_of_ble_eq_true rfl)).trans (hJ.says (hdn 14 (by decide)) rfl)
          have e48 := (hS 15 48 rfl (hdn 15 (by decide)) (Nat.le_of_ble_eq_true rfl)).trans (hJ.says (hdn 15 (by decide)) rfl)
          exact po_run 49 (Op.pick (Operand.tmp 47) (Operand.tmp 48) (Operand.const (Value.bool false))) _ HWF hJ rfl hE rfl rfl rfl rfl rfl rfl (by first | (simp only [execOp, mkOp, eval_const, e47, e48]; done) | (simp only [execOp, mkOp, eval_const, e47, e48]; go_simp))
        · have e49 := (hS 16 49 rfl (hdn 16 (by decide)) (Nat.le_of_ble_eq_true rfl)).trans (hJ.says (hdn 16 (by decide)) rfl)
          exact po_run 2 (Op.assign (Operand.tmp 49)) _ HWF hJ rfl hE rfl rfl rfl rfl rfl rfl (by first | (simp only [execOp, mkOp, eval_const, e49]; done) | (simp only [execOp, mkOp, eval_const, e49]; go_simp))
      · have q0 := hJ.told 0 (by decide) rfl
        have q1 := hJ.told 1 (by decide) rfl
        have q2 := hJ.told 2 (by decide) rfl
        have q3 := hJ.told 3 (by decide) rfl
        have q4 := hJ.told 4 (by decide) rfl
        have q5 := hJ.told 5 (by decide) rfl
        have q6 := hJ.told 6 (by decide) rfl
        have q7 := hJ.told 7 (by decide) rfl
        have q8 := hJ.told 8 (by decide) rfl
        have q9 := hJ.told 9 (by decide) rfl
        have q10 := hJ.told 10 (by decide) rfl
        have q11 := hJ.told 11 (by decide) rfl
        have q12 := hJ.told 12 (by decide) rfl
        have q13 := hJ.told 13 (by decide) rfl
        have q14 := hJ.told 14 (by decide) rfl
        have q15 := hJ.told 15 (by decide) rfl
        have q16 := hJ.told 16 (by decide) rfl
        have q17 := hJ.told 17 (by decide) rfl
        rw [putO_true _ _ _ _ _ rfl]
        simp only [putA, Nat.zero_add, Nat.reduceAdd]
        rw [q0, q1, q2, q3, q4, q5, q6, q7, q8, q9, q10, q11, q12, q13, q14, q15, q16, q17]
        simp only [Act.put, List.setIfInBounds_toArray, List.set_cons_zero, List.set_cons_succ]
        refine po_end ?_
        replace r_t3 := Keep.row hE r_t3 rfl
        replace r_t5 := Keep.row hE r_t5 rfl
        replace f_s0 := Bs.below f_s0 (Keep.nil hE) (Nat.le_refl _)
        have Bw11 := hE.below Bw10 (HGS.out _ Bw10) rfl
        clear Bw10 hE hJ HWF q0 q1 q2 q3 q4 q5 q6 q7 q8 q9 q10 q11 q12 q13 q14 q15 q16 q17
        go_wp2
        go_ret
        exact ⟨rfl, Bw11⟩
    | some P0 =>
      have HE0 : Hid (decE l0 = 0) := Lib.hid (decE_some hd)
      have HEN : Hid (litB (encQ t) 32 = l0) := Lib.hid (by
        obtain ⟨k1, k2, k3⟩ := decN_some hd
        rw [Rt.out.enc, decP_some hd, k3]
        exact litB_numL l0 32 k1)
      clear hd
      clear h0 hB0 e0 d0
      go_enter Try.func3, Try.ntmps3
      go_wp2_with (first
        | (have hgo := Bw0; clear hgo
           go_at_call 10
           refine (qDec_to _ l0 _ f_s0 t 0 HT1.out HE0.out).mono ?_
           rintro e w5 ⟨rfl, kk⟩
           replace f_s0 := Bs.below f_s0 kk (Nat.le_refl _)
           have Bw1 := Bw0.trans (kk.mono (HGS.out _ Bw0))
           clear Bw0 kk)
        | (have hgo := Bw1; clear hgo
           refine wpList_alloc_row rfl 29 rfl 12 (u64f fun _ => 0) zeroQ ?_
           intro b_t3 w9 lk r_t3 kk
           have l_t3 := Nat.le_trans (HGS.out _ Bw1) lk
           have a_s0_t3 := Bs.away f_s0 lk
           replace f_s0 := Bs.below f_s0 kk (Nat.le_refl _)
           have Bw2 := Bw1.trans (kk.mono (HGS.out _ Bw1))
           clear Bw1 kk lk)
        | (have hgo := Bw2; clear hgo
           refine wpList_store_as rfl 29 (.tmp 3) (.tmp 14) rfl 12 (qT t) arrQ r_t3 rfl rfl (by omega) (fun j _ => qF_one _ _ _ j) (fun i hi => putN_whole hi) ?_
           intro w10 q gk
           replace r_t3 := q
           have Bw3 := Bw2.grown gk (HGS.out _ Bw2) (by intro k hk; cases hk; exact l_t3)
           replace f_s0 := gb_bs f_s0 gk a_s0_t3
           clear Bw2 gk q)
        | (have hgo := Bw3; clear hgo
           go_at_call 11
           refine (tDec_to _ l0 _ f_s0 u 0 HU1.out HE0.out).mono ?_
           rintro e w13 ⟨rfl, kk⟩
           replace r_t3 := World.rowIs.of_block r_t3 (kk.block _ (World.rowIs.lt r_t3))
           replace f_s0 := Bs.below f_s0 kk (Nat.le_refl _)
           have Bw4 := Bw3.trans (kk.mono (HGS.out _ Bw3))
           clear Bw3 kk)
        | (have hgo := Bw4; clear hgo
           refine wpList_alloc_row rfl 36 rfl 48 (u64f fun _ => 0) zeroPt ?_
           intro b_t5 w17 lk r_t5 kk
           have n_t3_t5 : b_t3 ≠ b_t5 := Nat.ne_of_lt (Nat.lt_of_lt_of_le (World.rowIs.lt r_t3) lk)
           have l_t5 := Nat.le_trans (HGS.out _ Bw4) lk
           have a_s0_t5 := Bs.away f_s0 lk
           replace r_t3 := World.rowIs.of_block r_t3 (kk.block _ (World.rowIs.lt r_t3))
           replace f_s0 := Bs.below f_s0 kk (Nat.le_refl _)
           have Bw5 := Bw4.trans (kk.mono (HGS.out _ Bw4))
           clear Bw4 kk lk)
        | (have hgo := Bw5; clear hgo
           refine wpList_store_as rfl 36 (.tmp 5) (.tmp 19) rfl 48 (ptT u) arrP r_t5 rfl rfl (by omega) (fun j _ => ptF_one _ _ _ j) (fun i hi => putN_whole hi) ?_
           intro w18 q gk
           replace r_t3 := gb_rowIs r_t3 gk n_t3_t5
           replace r_t5 := q
           have Bw6 := Bw5.grown gk (HGS.out _ Bw5) (by intro k hk; cases hk; exact l_t5)
           replace f_s0 := gb_bs f_s0 gk a_s0_t5
           clear Bw5 gk q)
        | (have hgo := Bw6; clear hgo
           refine wpList_load_asg rfl 29 (.tmp 3) rfl 12 (qT t) arrQ r_t3 rfl (by omega) (fun i hi => by rw [Nat.zero_add]) ?_
           have Bw7 := Bw6
           clear Bw6)
        | (have hgo := Bw7; clear hgo
           refine wpList_load_asg rfl 36 (.tmp 5) rfl 48 (ptT u) arrP r_t5 rfl (by omega) (fun i hi => by rw [Nat.zero_add]) ?_
           have Bw8 := Bw7
           clear Bw7)
        | (have hgo := Bw8; clear hgo
           go_at_call 12
           refine (is8_any t u _ Ht.out Hu.out (Rt.out.enc.trans Ru.out.enc.symm)).mono ?_
           rintro e w26 ⟨rfl, kk⟩
           replace r_t3 := World.rowIs.of_block r_t3 (kk.block _ (World.rowIs.lt r_t3))
           replace r_t5 := World.rowIs.of_block r_t5 (kk.block _ (World.rowIs.lt r_t5))
           replace f_s0 := Bs.below f_s0 kk (Nat.le_refl _)
           have Bw9 := Bw8.trans (kk.mono (HGS.out _ Bw8))
           clear Bw8 kk))
      have Bw10 := Bw9.drew
      replace r_t3 := World.rowIs.drew r_t3
      replace r_t5 := World.rowIs.drew r_t5
      replace f_s0 := Bs.drew f_s0
      clear Bw9
      refine wp_region_po (Keep []) (Keep.refl _) (fun _ _ _ h1 h2 => h1.trans h2) (.rd 0 (.rd 1 (.rd 2 .done))) #[true, true, true, false, false, false, false, false, false, false, false, false, false, false, false, false, false, false, false, false, false] [3, 4, 5, 6, 7, 8, 9, 10, 11, 12, 13, 14, 15, 16, 17, 18, 19, 20] [some 33, some 34, some 35, some 36, some 37, some 38, some 39, some 40, some 41, some 42, some 43, some 44, some 45, some 46, some 47, some 48, some 49, some 2] [[], [0], [1], [], [3], [2, 4], [5], [1, 6], [7], [7, 8], [7], [7, 9, 10], [7, 9, 11], [7, 12], [11, 13], [14], [14, 15], [0, 1, 2, 3, 4, 5, 6, 7, 8, 9, 10, 11, 12, 13, 14, 15, 16]] [(0, []), (1, [0]), (2, [1]), (3, [2]), (4, [3, 2, 2]), (5, [4, 2]), (6, [2]), (7, [6, 2]), (8, [5, 7, 2]), (9, [2, 8]), (10, [9, 4]), (11, [10]), (12, [11, 10, 10]), (13, [10]), (14, [13, 12, 10]), (15, [12, 14, 10]), (16, [10, 15]), (17, [16, 14]), (18, [17, 17]), (19, [17, 18]), (20, [19, 18, 0, 1, 2, 3, 4, 5, 6, 7, 8, 9, 10, 11, 12, 13, 14, 15, 16, 17, 18, 19])] 7 (by as_aux_lemma => kernel_rfl) (by as_aux_lemma => kernel_rfl) (by decide) (by as_aux_lemma => kernel_rfl) (by as_aux_lemma => kernel_rfl) (by as_aux_lemma => kernel_rfl) rfl (fun d _ _ _ _ h => by cases d <;> exact h) ?_
      refine lintz_pure 30 (Op.move (Operand.tmp 4)) 30 ((.int .i64 0)) rfl rfl rfl rfl rfl (fun w0 hb => by unfold mkOp; go_simp; all_goals (with_reducible rfl)) ?_
      simp only [Act.put, List.setIfInBounds_toArray, List.set_cons_zero, List.set_cons_succ]
      refine lintz_pure 31 (Op.binOp BinOp.neq 30 (Operand.tmp 30) (Operand.const (Value.int IntKind.i64 0)) 30) 4 (.bool false) rfl rfl rfl rfl rfl (fun w0 hb => by unfold mkOp; go_simp) ?_
      simp only [Act.put, List.setIfInBounds_toArray, List.set_cons_zero, List.set_cons_succ]
      refine lintz_pure 32 (Op.move (Operand.tmp 31)) 4 (.bool false) rfl rfl rfl rfl rfl (fun w0 hb => by unfold mkOp; go_simp; all_goals (with_reducible rfl)) ?_
      simp only [Act.put, List.setIfInBounds_toArray, List.set_cons_zero, List.set_cons_succ]
      refine lintz_leaf ?_
      have HWF : poWf [.val (.agg (arrOf 12 (qT t))), .own (litB (encQ t) 32) 18, .val (.string ⟨(litB (encQ t) 32).toArray⟩), .val (.slice ad0 n0 c0), .val (.string ⟨(l0).toArray⟩), .val (.bool true), .val (.bool true), .val (.bool true), .val (.agg (arrOf 12 (qT t))), .val (.bool sb), .val (.agg (arrOf 48 (ptT u))), .val (.bool sb), .val (.bool true), .val (.bool true), .val (.bool true), .val (.bool true), .val (.bool true), .val (.bool true)] [] = true := by as_aux_lemma => kernel_rfl
      refine ⟨JG [.val (.agg (arrOf 12 (qT t))), .own (litB (encQ t) 32) 18, .val (.string ⟨(litB (encQ t) 32).toArray⟩), .val (.slice ad0 n0 c0), .val (.string ⟨(l0).toArray⟩), .val (.bool true), .val (.bool true), .val (.bool true), .val (.agg (arrOf 12 (qT t))), .val (.bool sb), .val (.agg (arrOf 48 (ptT u))), .val (.bool sb), .val (.bool true), .val (.bool true), .val (.bool true), .val (.bool true), .val (.bool true), .val (.bool true)] [] _, JG.start (Nat.le_refl _) (fun i hi => absurd hi (Nat.not_lt_zero _)), fun m gz wa p az hp hm hmp hcl hdn hE hJ hS hO => ?_, fun gz wa hE hJ => ?_⟩
      · rcases (show p = 0 ∨ p = 1 ∨ p = 2 ∨ p = 3 ∨ p = 4 ∨ p = 5 ∨ p = 6 ∨ p = 7 ∨ p = 8 ∨ p = 9 ∨ p = 10 ∨ p = 11 ∨ p = 12 ∨ p = 13 ∨ p = 14 ∨ p = 15 ∨ p = 16 ∨ p = 17 by have h9 : p < 18 := hp; omega) with rfl | rfl | rfl | rfl | rfl | rfl | rfl | rfl | rfl | rfl | rfl | rfl | rfl | rfl | rfl | rfl | rfl | rfl
        · have e32 : az.eval (.tmp 32) = .bool false := hO 32 rfl
          have e3 : az.eval (.tmp 3) = .pointer (some ⟨b_t3, 0, none⟩) := hO 3 rfl
          exact po_run 33 (Op.load 29 (Operand.tmp 3)) _ HWF hJ rfl hE rfl rfl rfl rfl rfl (wanted_of rfl rfl e32) (exec_load_as _ _ _ _ (qT t) e3 arrQ (Keep.row hE r_t3 rfl) (by omega) (fun i hi => by rw [Nat.zero_add]))
        · have e32 : az.eval (.tmp 32) = .bool false := hO 32 rfl
          have e33 := (hS 0 33 rfl (hdn 0 (by decide)) (Nat.le_of_ble_eq_true rfl)).trans (hJ.says (hdn 0 (by decide)) rfl)
          exact po_owns 34 13 #[Operand.tmp 33] #[29] _ HWF hJ rfl hE (qTEncode_any t _ Ht.out) rfl rfl rfl rfl (wanted_of rfl rfl e32) Try.func13 (by kernel_rfl) (by kernel_rfl) (by simp only [List.map_toArray, List.map_cons, List.map_nil, eval_const, eval_func, e33] <;> rfl)
        · have e32 : az.eval (.tmp 32) = .bool false := hO 32 rfl
          have e34 := hS 1 34 rfl (hdn 1 (by decide)) (Nat.le_of_ble_eq_true rfl)
          exact po_run 35 (Op.convert 22 9 (Operand.tmp 34)) 9 HWF hJ rfl hE rfl rfl rfl rfl rfl (wanted_of rfl rfl e32) (exec_str _ _ _ e34 (hJ.own (hdn 1 (by decide)) rfl (po_never hm (Nat.le_refl _))).bs)
        · have e32 : az.eval (.tmp 32) = .bool false := hO 32 rfl
          have e0 : az.eval (.tmp 0) = .slice ad0 n0 c0 := hO 0 rfl
          exact po_run 36 (Op.move (Operand.tmp 0)) _ HWF hJ rfl hE rfl rfl rfl rfl rfl (wanted_of rfl rfl e32) (by first | (simp only [execOp, mkOp, eval_const, e0]; done) | (simp only [execOp, mkOp, eval_const, e0]; go_simp))
        · have e32 : az.eval (.tmp 32) = .bool false := hO 32 rfl
          have e36 := (hS 3 36 rfl (hdn 3 (by decide)) (Nat.le_of_ble_eq_true rfl)).trans (hJ.says (hdn 3 (by decide)) rfl)
          exact po_run 37 (Op.convert 22 9 (Operand.tmp 36)) 9 HWF hJ rfl hE rfl rfl rfl rfl rfl (wanted_of rfl rfl e32) (exec_str _ _ _ e36 (Bs.below f_s0 (Keep.nil hE) (Nat.le_refl _)))
        · have e32 : az.eval (.tmp 32) = .bool false := hO 32 rfl
          have e35 := (hS 2 35 rfl (hdn 2 (by decide)) (Nat.le_of_ble_eq_true rfl)).trans (hJ.says (hdn 2 (by decide)) rfl)
          have e37 := (hS 4 37 rfl (hdn 4 (by decide)) (Nat.le_of_ble_eq_true rfl)).trans (hJ.says (hdn 4 (by decide)) rfl)
          exact po_run 38 (Op.binOp BinOp.eql 9 (Operand.tmp 35) (Operand.tmp 37) 9) _ HWF hJ rfl hE rfl rfl rfl rfl rfl (wanted_of rfl rfl e32) (exec_str_yes _ _ _ _ (HEN.out) e35 e37)
        · have e32 : az.eval (.tmp 32) = .bool false := hO 32 rfl
          have e38 := (hS 5 38 rfl (hdn 5 (by decide)) (Nat.le_of_ble_eq_true rfl)).trans (hJ.says (hdn 5 (by decide)) rfl)
          exact po_run 39 (Op.pick (Operand.tmp 32) (Operand.const (Value.bool true)) (Operand.tmp 38)) _ HWF hJ rfl hE rfl rfl rfl rfl rfl rfl (by first | (simp only [execOp, mkOp, eval_const, e32, e38]; done) | (simp only [execOp, mkOp, eval_const, e32, e38]; go_simp))
        · have e39 := (hS 6 39 rfl (hdn 6 (by decide)) (Nat.le_of_ble_eq_true rfl)).trans (hJ.says (hdn 6 (by decide)) rfl)
          exact po_run 40 (Op.move (Operand.tmp 39)) _ HWF hJ rfl hE rfl rfl rfl rfl rfl rfl (by first | (simp only [execOp, mkOp, eval_const, e39]; done) | (simp only [execOp, mkOp, eval_const, e39]; go_simp))
        · have e40 := (hS 7 40 rfl (hdn 7 (by decide)) (Nat.le_of_ble_eq_true rfl)).trans (hJ.says (hdn 7 (by decide)) rfl)
          have e3 : az.eval (.tmp 3) = .pointer (some ⟨b_t3, 0, none⟩) := hO 3 rfl
          exact po_run 41 (Op.load 29 (Operand.tmp 3)) _ HWF hJ rfl hE rfl rfl rfl rfl rfl (wanted_of rfl rfl e40) (exec_load_as _ _ _ _ (qT t) e3 arrQ (Keep.row hE r_t3 rfl) (by omega) (fun i hi => by rw [Nat.zero_add]))
        · have e40 := (hS 7 40 rfl (hdn 7 (by decide)) (Nat.le_of_ble_eq_true rfl)).trans (hJ.says (hdn 7 (by decide)) rfl)
          have e41 := (hS 8 41 rfl (hdn 8 (by decide)) (Nat.le_of_ble_eq_true rfl)).trans (hJ.says (hdn 8 (by decide)) rfl)
          exact po_call 42 14 #[Operand.tmp 41] #[29] _ HWF hJ rfl hE (small_to t sb _ Ht.out HS1.out) rfl rfl rfl rfl (wanted_of rfl rfl e40) Try.func14 (by kernel_rfl) (by kernel_rfl) (by simp only [List.map_toArray, List.map_cons, List.map_nil, eval_const, eval_func, e41] <;> rfl)
        · have e40 := (hS 7 40 rfl (hdn 7 (by decide)) (Nat.le_of_ble_eq_true rfl)).trans (hJ.says (hdn 7 (by decide)) rfl)
          have e5 : az.eval (.tmp 5) = .pointer (some ⟨b_t5, 0, none⟩) := hO 5 rfl
          exact po_run 43 (Op.load 36 (Operand.tmp 5)) _ HWF hJ rfl hE rfl rfl rfl rfl rfl (wanted_of rfl rfl e40) (exec_load_as _ _ _ _ (ptT u) e5 arrP (Keep.row hE r_t5 rfl) (by omega) (fun i hi => by rw [Nat.zero_add]))
        · have e40 := (hS 7 40 rfl (hdn 7 (by decide)) (Nat.le_of_ble_eq_true rfl)).trans (hJ.says (hdn 7 (by decide)) rfl)
          have e43 := (hS 10 43 rfl (hdn 10 (by decide)) (Nat.le_of_ble_eq_true rfl)).trans (hJ.says (hdn 10 (by decide)) rfl)
          exact po_call 44 15 #[Operand.tmp 43] #[36] _ HWF hJ rfl hE (tsmall_to u sb _ Hu.out HS2.out) rfl rfl rfl rfl (wanted_of rfl rfl e40) Try.func15 (by kernel_rfl) (by kernel_rfl) (by simp only [List.map_toArray, List.map_cons, List.map_nil, eval_const, eval_func, e43] <;> rfl)
        · have e40 := (hS 7 40 rfl (hdn 7 (by decide)) (Nat.le_of_ble_eq_true rfl)).trans (hJ.says (hdn 7 (by decide)) rfl)
          have e42 := (hS 9 42 rfl (hdn 9 (by decide)) (Nat.le_of_ble_eq_true rfl)).trans (hJ.says (hdn 9 (by decide)) rfl)
          have e44 := (hS 11 44 rfl (hdn 11 (by decide)) (Nat.le_of_ble_eq_true rfl)).trans (hJ.says (hdn 11 (by decide)) rfl)
          exact po_run 45 (Op.binOp BinOp.eql 4 (Operand.tmp 42) (Operand.tmp 44) 4) _ HWF hJ rfl hE rfl rfl rfl rfl rfl (wanted_of rfl rfl e40) (by simp only [execOp, mkOp, eval_const, e42, e44]; go_simp)
        · have e40 := (hS 7 40 rfl (hdn 7 (by decide)) (Nat.le_of_ble_eq_true rfl)).trans (hJ.says (hdn 7 (by decide)) rfl)
          have e45 := (hS 12 45 rfl (hdn 12 (by decide)) (Nat.le_of_ble_eq_true rfl)).trans (hJ.says (hdn 12 (by decide)) rfl)
          exact po_run 46 (Op.pick (Operand.tmp 40) (Operand.tmp 45) (Operand.const (Value.bool false))) _ HWF hJ rfl hE rfl rfl rfl rfl rfl rfl (by first | (simp only [execOp, mkOp, eval_const, e40, e45]; done) | (simp only [execOp, mkOp, eval_const, e40, e45]; go_simp))
        · have e46 := (hS 13 46 rfl (hdn 13 (by decide)) (Nat.le_of_ble_eq_true rfl)).trans (hJ.says (hdn 13 (by decide)) rfl)
          exact po_run 47 (Op.move (Operand.tmp 46)) _ HWF hJ rfl hE rfl rfl rfl rfl rfl rfl (by first | (simp only [execOp, mkOp, eval_const, e46]; done) | (simp only [execOp, mkOp, eval_const, e46]; go_simp))
        · have e47 := (hS 14 47 rfl (hdn 14 (by decide)) (Nat.le_of_ble_eq_true rfl)).trans (hJ.says (hdn 14 (by decide)) rfl)
          exact po_call 48 9 #[] #[] _ HWF hJ rfl hE (awake8_any _) rfl rfl rfl rfl (wanted_of rfl rfl e47) Try.func9 (by kernel_rfl) (by kernel_rfl) (by simp only [List.map_toArray, List.map_cons, List.map_nil, eval_const, eval_func] <;> rfl)
        · have e47 := (hS 14 47 rfl (hdn 14 (by decide)) (Nat.le_of_ble_eq_true rfl)).trans (hJ.says (hdn 14 (by decide)) rfl)
          have e48 := (hS 15 48 rfl (hdn 15 (by decide)) (Nat.le_of_ble_eq_true rfl)).trans (hJ.says (hdn 15 (by decide)) rfl)
          exact po_run 49 (Op.pick (Operand.tmp 47) (Operand.tmp 48) (Operand.const (Value.bool false))) _ HWF hJ rfl hE rfl rfl rfl rfl rfl rfl (by first | (simp only [execOp, mkOp, eval_const, e47, e48]; done) | (simp only [execOp, mkOp, eval_const, e47, e48]; go_simp))
        · have e49 := (hS 16 49 rfl (hdn 16 (by decide)) (Nat.le_of_ble_eq_true rfl)).trans (hJ.says (hdn 16 (by decide)) rfl)
          exact po_run 2 (Op.assign (Operand.tmp 49)) _ HWF hJ rfl hE rfl rfl rfl rfl rfl rfl (by first | (simp only [execOp, mkOp, eval_const, e49]; done) | (simp only [execOp, mkOp, eval_const, e49]; go_simp))
      · have q0 := hJ.told 0 (by decide) rfl
        have q2 := hJ.told 2 (by decide) rfl
        have q3 := hJ.told 3 (by decide) rfl
        have q4 := hJ.told 4 (by decide) rfl
        have q5 := hJ.told 5 (by decide) rfl
        have q6 := hJ.told 6 (by decide) rfl
        have q7 := hJ.told 7 (by decide) rfl
        have q8 := hJ.told 8 (by decide) rfl
        have q9 := hJ.told 9 (by decide) rfl
        have q10 := hJ.told 10 (by decide) rfl
        have q11 := hJ.told 11 (by decide) rfl
        have q12 := hJ.told 12 (by decide) rfl
        have q13 := hJ.told 13 (by decide) rfl
        have q14 := hJ.told 14 (by decide) rfl
        have q15 := hJ.told 15 (by decide) rfl
        have q16 := hJ.told 16 (by decide) rfl
        have q17 := hJ.told 17 (by decide) rfl
        rw [putO_true _ _ _ _ _ rfl]
        simp only [putA, Nat.zero_add, Nat.reduceAdd]
        rw [q0, q2, q3, q4, q5, q6, q7, q8, q9, q10, q11, q12, q13, q14, q15, q16, q17]
        simp only [Act.put, List.setIfInBounds_toArray, List.set_cons_zero, List.set_cons_succ]
        refine po_end ?_
        replace r_t3 := Keep.row hE r_t3 rfl
        replace r_t5 := Keep.row hE r_t5 rfl
        replace f_s0 := Bs.below f_s0 (Keep.nil hE) (Nat.le_refl _)
        have Bw11 := hE.below Bw10 (HGS.out _ Bw10) rfl
        clear Bw10 hE hJ HWF q0 q2 q3 q4 q5 q6 q7 q8 q9 q10 q11 q12 q13 q14 q15 q16 q17
        go_wp2
        go_ret
        exact ⟨rfl, Bw11⟩
  · have q0 : (100 : Int) < (n0 : Int) := by omega
    clear h0 hB0 e0 d0
    go_enter Try.func3, Try.ntmps3
    go_wp2_with (go_at_call 9; refine (awake8_any _).mono ?_; rintro e w9 ⟨rfl, hb9⟩)
    go_ret
    exact ⟨rfl, hb9⟩
end Go.Proofs.Ytphkmaihnbhgoaa
