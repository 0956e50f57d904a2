/- PointForms, walked. -/
import Derived.Test.YtphkmaihnbhgoaaMM6
import Derived.Test.YtphkmaihnbhgoaaLawPtReads
namespace Go.Proofs.Ytphkmaihnbhgoaa
open Go.RowKit Go.Deep
set_option linter.unusedSimpArgs false
set_option linter.unusedVariables false

theorem qEnc_to (t : Nat × Nat × Nat) (N : Nat) (w : World) (h : LtT t) (hN : encQ t = N) : Calls Try.prog 13 #[.agg (arrOf 12 (qT t))] w fun e w' => ∃ v, e = .returned v ∧ Owns w' w.heap.size v (litB N 32) ∧ Below w.heap.size w w' := by
  have g := qTEncode_any t w h
  rwa [hN] at g
theorem flip_to (v : Value) (N : Nat) (l : List UInt8) (w : World) (h : Bs w v (litB N 32)) (hl : flipB (litB N 32) 255 = l) : Calls Try.prog 33 #[v, .int .i64 255] w fun e w' => ∃ v', e = .returned v' ∧ Bs w' v' l ∧ Below w.heap.size w w' := by
  have g := flip_any v (litB N 32) 255 w h (by rw [litB_length]; decide) (by rw [litB_length]; decide) (by decide) (by decide)
  rw [litB_length, show ((255 : Int) % (8 * ((32 : Nat) : Int))).toNat = 255 from by decide, hl] at g
  exact g
set_option maxHeartbeats 8000000 in
set_option maxRecDepth 100000 in
theorem law_pointForms (w : World) (v0 : Value) (l0 : List UInt8) (h0 : Bs w v0 l0) : Calls Try.prog 7 #[v0] w fun e w' => e = .returned (.bool true) ∧ Below w.heap.size w w' := by
  obtain ⟨ad0, n0, c0, rfl, e0, y0, z0, hB0⟩ := h0.shape
  by_cases d0 : n0 ≤ 100
  · have q0 : ¬ (100 : Int) < (n0 : Int) := by omega
    have f_s0 := hB0
    have HF_s0 := Lib.hid hB0
    have Bw0 := Below.refl w.heap.size w
    have HGS : Hid (∀ wq : World, Below w.heap.size w wq → w.heap.size ≤ wq.heap.size) := Lib.hid fun wq h => h.size
    obtain ⟨A, hA⟩ := nat_var (numL (l0) 64 % ordL)
    have HA : Hid (A < ordL) := Lib.hid (by rw [hA]; exact Nat.mod_lt _ ordL_pos)
    have HNA := Lib.hid hA.symm
    clear hA
    have hP := mulE_on ptB_on A
    have hRP : RQ (mulE A ptB) (qMul bT A) := RQ.mul RQ.base HA.out
    obtain ⟨P, hPe⟩ : ∃ P, P = mulE A ptB := ⟨_, rfl⟩
    have HPO : Hid (P.1 = 0 → P = ptO) := Lib.hid (by rw [hPe]; exact zero_of)
    rw [← hPe] at hP hRP
    have RP := Lib.hid hRP
    obtain ⟨N, hN⟩ := nat_var (encN P)
    have HN : Hid (encQ (qMul bT A) = N) := Lib.hid (by rw [hN]; exact hRP.enc)
    obtain ⟨q, hq⟩ : ∃ q, q = eT (litB N 32) := ⟨_, rfl⟩
    have hdn : decN (litB N 32) = some P := by rw [hN]; exact decN_enc hP
    have Rq : Hid (RQ P q) := Lib.hid (by have g := RQ.dec (litB N 32); rw [decP_some hdn, ← hq] at g; exact g)
    have Hq := Lib.hid Rq.out.1
    have HQ1 := Lib.hid hq.symm
    have HQ0 := Lib.hid (decE_some hdn)
    obtain ⟨FL, hFL⟩ : ∃ FL, FL = flipB (litB N 32) 255 := ⟨_, rfl⟩
    have HFL := Lib.hid hFL.symm
    clear hq hdn hRP hPe
    by_cases h0 : P.1 = 0
    · have hdf : decN FL = none := by rw [hFL, hN]; exact flip_none hP h0
      have HR1 : Hid (eT FL = (0, 0, 0)) := Lib.hid (by unfold eT; rw [hdf])
      have HR0 := Lib.hid (decE_none hdf)
      have HPZ := Lib.hid (HPO.out h0)
      clear hdf hFL hN hP h0
      clear h0 hB0 e0 d0
      go_enter Try.func7, Try.ntmps7
      go_wp2_with (first
        | (have hgo := Bw0; clear hgo
           go_at_call 16
           refine (qTBase_any _).mono ?_
           rintro e w4 ⟨rfl, kk⟩
           replace f_s0 := Bs.below f_s0 kk (Nat.le_refl _)
           have Bw1 := Bw0.trans (kk.mono (HGS.out _ Bw0))
           clear Bw0 kk)
        | (have hgo := Bw1; clear hgo
           go_at_call 18
           refine (sWide_to _ (l0) _ f_s0 (A) HNA.out).mono ?_
           rintro e w6 ⟨rfl, kk⟩
           replace f_s0 := Bs.below f_s0 kk (Nat.le_refl _)
           have Bw2 := Bw1.trans (kk.mono (HGS.out _ Bw1))
           clear Bw1 kk)
        | (have hgo := Bw2; clear hgo
           go_at_call 17
           refine (qTMul_any bT A _ LtT.base).mono ?_
           rintro e w7 ⟨rfl, kk⟩
           replace f_s0 := Bs.below f_s0 kk (Nat.le_refl _)
           have Bw3 := Bw2.trans (kk.mono (HGS.out _ Bw2))
           clear Bw2 kk)
        | (have hgo := Bw3; clear hgo
           refine wpList_alloc_row rfl 29 rfl 12 (u64f fun _ => 0) zeroQ ?_
           intro b_t3 w8 lk r_t3 kk
           have l_t3 := Nat.le_trans (HGS.out _ Bw3) lk
           have a_s0_t3 := Bs.away f_s0 lk
           replace f_s0 := Bs.below f_s0 kk (Nat.le_refl _)
           have Bw4 := Bw3.trans (kk.mono (HGS.out _ Bw3))
           clear Bw3 kk lk
           replace r_t3 := World.rowIs.congr r_t3 zeroQT)
        | (have hgo := Bw4; clear hgo
           refine wpList_store_as rfl 29 (.tmp 3) (.tmp 18) rfl 12 (qT (qMul bT A)) arrQ r_t3 rfl rfl (by omega) (fun j _ => qF_one _ _ _ j) (fun i hi => putN_whole hi) ?_
           intro w9 q gk
           replace r_t3 := q
           have Bw5 := Bw4.grown gk (HGS.out _ Bw4) (by intro k hk; cases hk; exact l_t3)
           replace f_s0 := gb_bs f_s0 gk a_s0_t3
           clear Bw4 gk q)
        | (have hgo := Bw5; clear hgo
           refine wpList_load_as rfl 29 (.tmp 3) rfl 12 (qT (qMul bT A)) arrQ r_t3 rfl (by omega) (fun i hi => by rw [Nat.zero_add]) ?_
           have Bw6 := Bw5
           clear Bw5)
        | (have hgo := Bw6; clear hgo
           go_at_call 13
           refine (qEnc_to _ N _ (LtT.oft _ _ _) HN.out).mono ?_
           rintro e w11 ⟨v_e, rfl, o_e, kk⟩
           obtain ⟨g, cap, hv, hg, hgs, _, _⟩ := o_e.open_cons (by rw [litB_length]; decide)
           rw [litB_length] at hv
           subst hv
           clear hg hgs
           replace r_t3 := World.rowIs.of_block r_t3 (kk.block _ (World.rowIs.lt r_t3))
           replace f_s0 := Bs.below f_s0 kk (Nat.le_refl _)
           have Bw7 := Bw6.trans (kk.mono (HGS.out _ Bw6))
           clear Bw6 kk
           have f_e := o_e.bs
           clear o_e)
        | (have hgo := Bw7; clear hgo
           go_at_call 10
           refine (qDec_to _ (litB N 32) _ f_e q 0 HQ1.out HQ0.out).mono ?_
           rintro e w13 ⟨rfl, kk⟩
           replace r_t3 := World.rowIs.of_block r_t3 (kk.block _ (World.rowIs.lt r_t3))
           replace f_s0 := Bs.below f_s0 kk (Nat.le_refl _)
           replace f_e := Bs.below f_e kk (Nat.le_refl _)
           have Bw8 := Bw7.trans (kk.mono (HGS.out _ Bw7))
           clear Bw7 kk)
        | (have hgo := Bw8; clear hgo
           refine wpList_alloc_row rfl 29 rfl 12 (u64f fun _ => 0) zeroQ ?_
           intro b_t5 w17 lk r_t5 kk
           have n_t3_t5 : b_t3 ≠ b_t5 := Nat.ne_of_lt (Nat.lt_of_lt_of_le (World.rowIs.lt r_t3) lk)
           have l_t5 := Nat.le_trans (HGS.out _ Bw8) lk
           have a_s0_t5 := Bs.away f_s0 lk
           have a_e_t5 := Bs.away f_e lk
           replace r_t3 := World.rowIs.of_block r_t3 (kk.block _ (World.rowIs.lt r_t3))
           replace f_s0 := Bs.below f_s0 kk (Nat.le_refl _)
           replace f_e := Bs.below f_e kk (Nat.le_refl _)
           have Bw9 := Bw8.trans (kk.mono (HGS.out _ Bw8))
           clear Bw8 kk lk
           replace r_t5 := World.rowIs.congr r_t5 zeroQT)
        | (have hgo := Bw9; clear hgo
           refine wpList_store_as rfl 29 (.tmp 5) (.tmp 24) rfl 12 (qT q) arrQ r_t5 rfl rfl (by omega) (fun j _ => qF_one _ _ _ j) (fun i hi => putN_whole hi) ?_
           intro w18 q gk
           replace r_t3 := gb_rowIs r_t3 gk n_t3_t5
           replace r_t5 := q
           have Bw10 := Bw9.grown gk (HGS.out _ Bw9) (by intro k hk; cases hk; exact l_t5)
           replace f_s0 := gb_bs f_s0 gk a_s0_t5
           replace f_e := gb_bs f_e gk a_e_t5
           clear Bw9 gk q)
        | (have hgo := Bw10; clear hgo
           refine wpList_load_asg rfl 29 (.tmp 5) rfl 12 (qT q) arrQ r_t5 rfl (by omega) (fun i hi => by rw [Nat.zero_add]) ?_
           have Bw11 := Bw10
           clear Bw10)
        | (have hgo := Bw11; clear hgo
           refine wpList_load_asg rfl 29 (.tmp 3) rfl 12 (qT (qMul bT A)) arrQ r_t3 rfl (by omega) (fun i hi => by rw [Nat.zero_add]) ?_
           have Bw12 := Bw11
           clear Bw11)
        | (have hgo := Bw12; clear hgo
           go_at_call 26
           refine (qTSame_to q (qMul bT A) true _ Hq.out (LtT.oft _ _ _) ((RQ.same Rq.out RP.out).trans (decide_eq_true (rfl)))).mono ?_
           rintro e w30 ⟨rfl, kk⟩
           replace r_t3 := World.rowIs.of_block r_t3 (kk.block _ (World.rowIs.lt r_t3))
           replace r_t5 := World.rowIs.of_block r_t5 (kk.block _ (World.rowIs.lt r_t5))
           replace f_s0 := Bs.below f_s0 kk (Nat.le_refl _)
           replace f_e := Bs.below f_e kk (Nat.le_refl _)
           have Bw13 := Bw12.trans (kk.mono (HGS.out _ Bw12))
           clear Bw12 kk)
        | (have hgo := Bw13; clear hgo
           go_at_call 33
           refine (flip_to _ N FL _ f_e HFL.out).mono ?_
           rintro e w34 ⟨v_s40, rfl, f_s40, kk⟩
           replace r_t3 := World.rowIs.of_block r_t3 (kk.block _ (World.rowIs.lt r_t3))
           replace r_t5 := World.rowIs.of_block r_t5 (kk.block _ (World.rowIs.lt r_t5))
           replace f_s0 := Bs.below f_s0 kk (Nat.le_refl _)
           replace f_e := Bs.below f_e kk (Nat.le_refl _)
           have Bw14 := Bw13.trans (kk.mono (HGS.out _ Bw13))
           clear Bw13 kk)
        | (have hgo := Bw14; clear hgo
           go_at_call 10
           refine (qDec_to _ FL _ f_s40 (0, 0, 0) 12 HR1.out HR0.out).mono ?_
           rintro e w37 ⟨rfl, kk⟩
           replace r_t3 := World.rowIs.of_block r_t3 (kk.block _ (World.rowIs.lt r_t3))
           replace r_t5 := World.rowIs.of_block r_t5 (kk.block _ (World.rowIs.lt r_t5))
           replace f_s0 := Bs.below f_s0 kk (Nat.le_refl _)
           replace f_e := Bs.below f_e kk (Nat.le_refl _)
           replace f_s40 := Bs.below f_s40 kk (Nat.le_refl _)
           have Bw15 := Bw14.trans (kk.mono (HGS.out _ Bw14))
           clear Bw14 kk)
        | (have hgo := Bw15; clear hgo
           refine wpList_alloc_row rfl 29 rfl 12 (u64f fun _ => 0) zeroQ ?_
           intro b_t8 w41 lk r_t8 kk
           have n_t3_t8 : b_t3 ≠ b_t8 := Nat.ne_of_lt (Nat.lt_of_lt_of_le (World.rowIs.lt r_t3) lk)
           have n_t5_t8 : b_t5 ≠ b_t8 := Nat.ne_of_lt (Nat.lt_of_lt_of_le (World.rowIs.lt r_t5) lk)
           have l_t8 := Nat.le_trans (HGS.out _ Bw15) lk
           have a_s0_t8 := Bs.away f_s0 lk
           have a_e_t8 := Bs.away f_e lk
           have a_s40_t8 := Bs.away f_s40 lk
           replace r_t3 := World.rowIs.of_block r_t3 (kk.block _ (World.rowIs.lt r_t3))
           replace r_t5 := World.rowIs.of_block r_t5 (kk.block _ (World.rowIs.lt r_t5))
           replace f_s0 := Bs.below f_s0 kk (Nat.le_refl _)
           replace f_e := Bs.below f_e kk (Nat.le_refl _)
           replace f_s40 := Bs.below f_s40 kk (Nat.le_refl _)
           have Bw16 := Bw15.trans (kk.mono (HGS.out _ Bw15))
           clear Bw15 kk lk
           replace r_t8 := World.rowIs.congr r_t8 zeroQT)
        | (have hgo := Bw16; clear hgo
           refine wpList_store_as rfl 29 (.tmp 8) (.tmp 44) rfl 12 (qT (0, 0, 0)) arrQ r_t8 rfl rfl (by omega) (fun j _ => qF_one _ _ _ j) (fun i hi => putN_whole hi) ?_
           intro w42 q gk
           replace r_t3 := gb_rowIs r_t3 gk n_t3_t8
           replace r_t5 := gb_rowIs r_t5 gk n_t5_t8
           replace r_t8 := q
           have Bw17 := Bw16.grown gk (HGS.out _ Bw16) (by intro k hk; cases hk; exact l_t8)
           replace f_s0 := gb_bs f_s0 gk a_s0_t8
           replace f_e := gb_bs f_e gk a_e_t8
           replace f_s40 := gb_bs f_s40 gk a_s40_t8
           clear Bw16 gk q)
        | (have hgo := Bw17; clear hgo
           refine wpList_alloc_row rfl 29 rfl 12 (u64f fun _ => 0) zeroQ ?_
           intro b_t10 w46 lk r_t10 kk
           have n_t3_t10 : b_t3 ≠ b_t10 := Nat.ne_of_lt (Nat.lt_of_lt_of_le (World.rowIs.lt r_t3) lk)
           have n_t5_t10 : b_t5 ≠ b_t10 := Nat.ne_of_lt (Nat.lt_of_lt_of_le (World.rowIs.lt r_t5) lk)
           have n_t8_t10 : b_t8 ≠ b_t10 := Nat.ne_of_lt (Nat.lt_of_lt_of_le (World.rowIs.lt r_t8) lk)
           have l_t10 := Nat.le_trans (HGS.out _ Bw17) lk
           have a_s0_t10 := Bs.away f_s0 lk
           have a_e_t10 := Bs.away f_e lk
           have a_s40_t10 := Bs.away f_s40 lk
           replace r_t3 := World.rowIs.of_block r_t3 (kk.block _ (World.rowIs.lt r_t3))
           replace r_t5 := World.rowIs.of_block r_t5 (kk.block _ (World.rowIs.lt r_t5))
           replace r_t8 := World.rowIs.of_block r_t8 (kk.block _ (World.rowIs.lt r_t8))
           replace f_s0 := Bs.below f_s0 kk (Nat.le_refl _)
           replace f_e := Bs.below f_e kk (Nat.le_refl _)
           replace f_s40 := Bs.below f_s40 kk (Nat.le_refl _)
           have Bw18 := Bw17.trans (kk.mono (HGS.out _ Bw17))
           clear Bw17 kk lk
           replace r_t10 := World.rowIs.congr r_t10 zeroQT)
        | (have hgo := Bw18; clear hgo
           refine wpList_load_asg rfl 29 (.tmp 3) rfl 12 (qT (qMul bT A)) arrQ r_t3 rfl (by omega) (fun i hi => by rw [Nat.zero_add]) ?_
           have Bw19 := Bw18
           clear Bw18)
        | (have hgo := Bw19; clear hgo
           refine wpList_load_asg rfl 29 (.tmp 10) rfl 12 (qT (0, 0, 0)) arrQ r_t10 rfl (by omega) (fun i hi => by rw [Nat.zero_add]) ?_
           have Bw20 := Bw19
           clear Bw19)
        | (have hgo := Bw20; clear hgo
           go_at_call 26
           refine (qTSame_to (qMul bT A) (0, 0, 0) true _ (LtT.oft _ _ _) LtT.none ((RQ.same RP.out RQ.none).trans (decide_eq_true (HPZ.out)))).mono ?_
           rintro e w52 ⟨rfl, kk⟩
           replace r_t3 := World.rowIs.of_block r_t3 (kk.block _ (World.rowIs.lt r_t3))
           replace r_t5 := World.rowIs.of_block r_t5 (kk.block _ (World.rowIs.lt r_t5))
           replace r_t8 := World.rowIs.of_block r_t8 (kk.block _ (World.rowIs.lt r_t8))
           replace r_t10 := World.rowIs.of_block r_t10 (kk.block _ (World.rowIs.lt r_t10))
           replace f_s0 := Bs.below f_s0 kk (Nat.le_refl _)
           replace f_e := Bs.below f_e kk (Nat.le_refl _)
           replace f_s40 := Bs.below f_s40 kk (Nat.le_refl _)
           have Bw21 := Bw20.trans (kk.mono (HGS.out _ Bw20))
           clear Bw20 kk)
        | (have hgo := Bw21; clear hgo
           go_at_call 9
           refine (awake8_any _).mono ?_
           rintro e w55 ⟨rfl, kk⟩
           replace r_t3 := World.rowIs.of_block r_t3 (kk.block _ (World.rowIs.lt r_t3))
           replace r_t5 := World.rowIs.of_block r_t5 (kk.block _ (World.rowIs.lt r_t5))
           replace r_t8 := World.rowIs.of_block r_t8 (kk.block _ (World.rowIs.lt r_t8))
           replace r_t10 := World.rowIs.of_block r_t10 (kk.block _ (World.rowIs.lt r_t10))
           replace f_s0 := Bs.below f_s0 kk (Nat.le_refl _)
           replace f_e := Bs.below f_e kk (Nat.le_refl _)
           replace f_s40 := Bs.below f_s40 kk (Nat.le_refl _)
           have Bw22 := Bw21.trans (kk.mono (HGS.out _ Bw21))
           clear Bw21 kk))
      go_ret
      exact ⟨rfl, Bw22⟩
    · have hfn : FL = litB (encN (negE P)) 32 := by rw [hFL, hN]; exact flip_neg hP h0
      have hdf : decN FL = some (negE P) := by rw [hfn]; exact decN_enc (negE_on hP)
      obtain ⟨r, hr⟩ : ∃ r, r = eT FL := ⟨_, rfl⟩
      have Rr : Hid (RQ (negE P) r) := Lib.hid (by have g := RQ.dec FL; rw [decP_some hdf, ← hr] at g; exact g)
      have Hr := Lib.hid Rr.out.1
      have HR1 := Lib.hid hr.symm
      have HR0 := Lib.hid (decE_some hdf)
      have HRE : Hid (litB (encQ r) 32 = FL) := Lib.hid (by rw [Rr.out.enc, ← hfn])
      have HNE := Lib.hid (negE_ne hP h0)
      clear hfn hdf hr hFL hN hP h0
      clear h0 hB0 e0 d0
      go_enter Try.func7, Try.ntmps7
      go_wp2_with (first
        | (have hgo := Bw0; clear hgo
           go_at_call 16
           refine (qTBase_any _).mono ?_
           rintro e w4 ⟨rfl, kk⟩
           replace f_s0 := Bs.below f_s0 kk (Nat.le_refl _)
           have Bw1 := Bw0.trans (kk.mono (HGS.out _ Bw0))
           clear Bw0 kk)
        | (have hgo := Bw1; clear hgo
           go_at_call 18
           refine (sWide_to _ (l0) _ f_s0 (A) HNA.out).mono ?_
           rintro e w6 ⟨rfl, kk⟩
           replace f_s0 := Bs.below f_s0 kk (Nat.le_refl _)
           have Bw2 := Bw1.trans (kk.mono (HGS.out _ Bw1))
           clear Bw1 kk)
        | (have hgo := Bw2; clear hgo
           go_at_call 17
           refine (qTMul_any bT A _ LtT.base).mono ?_
           rintro e w7 ⟨rfl, kk⟩
           replace f_s0 := Bs.below f_s0 kk (Nat.le_refl _)
           have Bw3 := Bw2.trans (kk.mono (HGS.out _ Bw2))
           clear Bw2 kk)
        | (have hgo := Bw3; clear hgo
           refine wpList_alloc_row rfl 29 rfl 12 (u64f fun _ => 0) zeroQ ?_
           intro b_t3 w8 lk r_t3 kk
           have l_t3 := Nat.le_trans (HGS.out _ Bw3) lk
           have a_s0_t3 := Bs.away f_s0 lk
           replace f_s0 := Bs.below f_s0 kk (Nat.le_refl _)
           have Bw4 := Bw3.trans (kk.mono (HGS.out _ Bw3))
           clear Bw3 kk lk
           replace r_t3 := World.rowIs.congr r_t3 zeroQT)
        | (have hgo := Bw4; clear hgo
           refine wpList_store_as rfl 29 (.tmp 3) (.tmp 18) rfl 12 (qT (qMul bT A)) arrQ r_t3 rfl rfl (by omega) (fun j _ => qF_one _ _ _ j) (fun i hi => putN_whole hi) ?_
           intro w9 q gk
           replace r_t3 := q
           have Bw5 := Bw4.grown gk (HGS.out _ Bw4) (by intro k hk; cases hk; exact l_t3)
           replace f_s0 := gb_bs f_s0 gk a_s0_t3
           clear Bw4 gk q)
        | (have hgo := Bw5; clear hgo
           refine wpList_load_as rfl 29 (.tmp 3) rfl 12 (qT (qMul bT A)) arrQ r_t3 rfl (by omega) (fun i hi => by rw [Nat.zero_add]) ?_
           have Bw6 := Bw5
           clear Bw5)
        | (have hgo := Bw6; clear hgo
           go_at_call 13
           refine (qEnc_to _ N _ (LtT.oft _ _ _) HN.out).mono ?_
           rintro e w11 ⟨v_e, rfl, o_e, kk⟩
           obtain ⟨g, cap, hv, hg, hgs, _, _⟩ := o_e.open_cons (by rw [litB_length]; decide)
           rw [litB_length] at hv
           subst hv
           clear hg hgs
           replace r_t3 := World.rowIs.of_block r_t3 (kk.block _ (World.rowIs.lt r_t3))
           replace f_s0 := Bs.below f_s0 kk (Nat.le_refl _)
           have Bw7 := Bw6.trans (kk.mono (HGS.out _ Bw6))
           clear Bw6 kk
           have f_e := o_e.bs
           clear o_e)
        | (have hgo := Bw7; clear hgo
           go_at_call 10
           refine (qDec_to _ (litB N 32) _ f_e q 0 HQ1.out HQ0.out).mono ?_
           rintro e w13 ⟨rfl, kk⟩
           replace r_t3 := World.rowIs.of_block r_t3 (kk.block _ (World.rowIs.lt r_t3))
           replace f_s0 := Bs.below f_s0 kk (Nat.le_refl _)
           replace f_e := Bs.below f_e kk (Nat.le_refl _)
           have Bw8 := Bw7.trans (kk.mono (HGS.out _ Bw7))
           clear Bw7 kk)
        | (have hgo := Bw8; clear hgo
           refine wpList_alloc_row rfl 29 rfl 12 (u64f fun _ => 0) zeroQ ?_
           intro b_t5 w17 lk r_t5 kk
           have n_t3_t5 : b_t3 ≠ b_t5 := Nat.ne_of_lt (Nat.lt_of_lt_of_le (World.rowIs.lt r_t3) lk)
           have l_t5 := Nat.le_trans (HGS.out _ Bw8) lk
           have a_s0_t5 := Bs.away f_s0 lk
           have a_e_t5 := Bs.away f_e lk
           replace r_t3 := World.rowIs.of_block r_t3 (kk.block _ (World.rowIs.lt r_t3))
           replace f_s0 := Bs.below f_s0 kk (Nat.le_refl _)
           replace f_e := Bs.below f_e kk (Nat.le_refl _)
           have Bw9 := Bw8.trans (kk.mono (HGS.out _ Bw8))
           clear Bw8 kk lk
           replace r_t5 := World.rowIs.congr r_t5 zeroQT)
        | (have hgo := Bw9; clear hgo
           refine wpList_store_as rfl 29 (.tmp 5) (.tmp 24) rfl 12 (qT q) arrQ r_t5 rfl rfl (by omega) (fun j _ => qF_one _ _ _ j) (fun i hi => putN_whole hi) ?_
           intro w18 q gk
           replace r_t3 := gb_rowIs r_t3 gk n_t3_t5
           replace r_t5 := q
           have Bw10 := Bw9.grown gk (HGS.out _ Bw9) (by intro k hk; cases hk; exact l_t5)
           replace f_s0 := gb_bs f_s0 gk a_s0_t5
           replace f_e := gb_bs f_e gk a_e_t5
           clear Bw9 gk q)
        | (have hgo := Bw10; clear hgo
           refine wpList_load_asg rfl 29 (.tmp 5) rfl 12 (qT q) arrQ r_t5 rfl (by omega) (fun i hi => by rw [Nat.zero_add]) ?_
           have Bw11 := Bw10
           clear Bw10)
        | (have hgo := Bw11; clear hgo
           refine wpList_load_asg rfl 29 (.tmp 3) rfl 12 (qT (qMul bT A)) arrQ r_t3 rfl (by omega) (fun i hi => by rw [Nat.zero_add]) ?_
           have Bw12 := Bw11
           clear Bw11)
        | (have hgo := Bw12; clear hgo
           go_at_call 26
           refine (qTSame_to q (qMul bT A) true _ Hq.out (LtT.oft _ _ _) ((RQ.same Rq.out RP.out).trans (decide_eq_true (rfl)))).mono ?_
           rintro e w30 ⟨rfl, kk⟩
           replace r_t3 := World.rowIs.of_block r_t3 (kk.block _ (World.rowIs.lt r_t3))
           replace r_t5 := World.rowIs.of_block r_t5 (kk.block _ (World.rowIs.lt r_t5))
           replace f_s0 := Bs.below f_s0 kk (Nat.le_refl _)
           replace f_e := Bs.below f_e kk (Nat.le_refl _)
           have Bw13 := Bw12.trans (kk.mono (HGS.out _ Bw12))
           clear Bw12 kk)
        | (have hgo := Bw13; clear hgo
           go_at_call 33
           refine (flip_to _ N FL _ f_e HFL.out).mono ?_
           rintro e w34 ⟨v_s40, rfl, f_s40, kk⟩
           replace r_t3 := World.rowIs.of_block r_t3 (kk.block _ (World.rowIs.lt r_t3))
           replace r_t5 := World.rowIs.of_block r_t5 (kk.block _ (World.rowIs.lt r_t5))
           replace f_s0 := Bs.below f_s0 kk (Nat.le_refl _)
           replace f_e := Bs.below f_e kk (Nat.le_refl _)
           have Bw14 := Bw13.trans (kk.mono (HGS.out _ Bw13))
           clear Bw13 kk)
        | (have hgo := Bw14; clear hgo
           go_at_call 10
           refine (qDec_to _ FL _ f_s40 r 0 HR1.out HR0.out).mono ?_
           rintro e w37 ⟨rfl, kk⟩
           replace r_t3 := World.rowIs.of_block r_t3 (kk.block _ (World.rowIs.lt r_t3))
           replace r_t5 := World.rowIs.of_block r_t5 (kk.block _ (World.rowIs.lt r_t5))
           replace f_s0 := Bs.below f_s0 kk (Nat.le_refl _)
           replace f_e := Bs.below f_e kk (Nat.le_refl _)
           replace f_s40 := Bs.below f_s40 kk (Nat.le_refl _)
           have Bw15 := Bw14.trans (kk.mono (HGS.out _ Bw14))
           clear Bw14 kk)
        | (have hgo := Bw15; clear hgo
           refine wpList_alloc_row rfl 29 rfl 12 (u64f fun _ => 0) zeroQ ?_
           intro b_t8 w41 lk r_t8 kk
           have n_t3_t8 : b_t3 ≠ b_t8 := Nat.ne_of_lt (Nat.lt_of_lt_of_le (World.rowIs.lt r_t3) lk)
           have n_t5_t8 : b_t5 ≠ b_t8 := Nat.ne_of_lt (Nat.lt_of_lt_of_le (World.rowIs.lt r_t5) lk)
           have l_t8 := Nat.le_trans (HGS.out _ Bw15) lk
           have a_s0_t8 := Bs.away f_s0 lk
           have a_e_t8 := Bs.away f_e lk
           have a_s40_t8 := Bs.away f_s40 lk
           replace r_t3 := World.rowIs.of_block r_t3 (kk.block _ (World.rowIs.lt r_t3))
           replace r_t5 := World.rowIs.of_block r_t5 (kk.block _ (World.rowIs.lt r_t5))
           replace f_s0 := Bs.below f_s0 kk (Nat.le_refl _)
           replace f_e := Bs.below f_e kk (Nat.le_refl _)
           replace f_s40 := Bs.below f_s40 kk (Nat.le_refl _)
           have Bw16 := Bw15.trans (kk.mono (HGS.out _ Bw15))
           clear Bw15 kk lk
           replace r_t8 := World.rowIs.congr r_t8 zeroQT)
        | (have hgo := Bw16; clear hgo
           refine wpList_store_as rfl 29 (.tmp 8) (.tmp 44) rfl 12 (qT r) arrQ r_t8 rfl rfl (by omega) (fun j _ => qF_one _ _ _ j) (fun i hi => putN_whole hi) ?_
           intro w42 q gk
           replace r_t3 := gb_rowIs r_t3 gk n_t3_t8
           replace r_t5 := gb_rowIs r_t5 gk n_t5_t8
           replace r_t8 := q
           have Bw17 := Bw16.grown gk (HGS.out _ Bw16) (by intro k hk; cases hk; exact l_t8)
           replace f_s0 := gb_bs f_s0 gk a_s0_t8
           replace f_e := gb_bs f_e gk a_e_t8
           replace f_s40 := gb_bs f_s40 gk a_s40_t8
           clear Bw16 gk q))
      have Bw18 := Bw17.drew
      replace r_t3 := World.rowIs.drew r_t3
      replace r_t5 := World.rowIs.drew r_t5
      replace r_t8 := World.rowIs.drew r_t8
      replace f_s0 := Bs.drew f_s0
      replace f_e := Bs.drew f_e
      replace f_s40 := Bs.drew f_s40
      clear Bw17
      refine wp_region_po (Keep []) (Keep.refl _) (fun _ _ _ h1 h2 => h1.trans h2) (.rd 0 (.rd 1 .done)) #[true, true, false, false, false, false, false, false, false, false, false, false, false, false, false, false, false, false, false, false, false, false] [2, 3, 4, 5, 6, 7, 8, 9, 10, 11, 12, 13, 14, 15, 16, 17, 18, 19, 20, 21] [some 50, some 51, some 52, some 53, some 54, some 55, some 56, some 57, some 58, some 59, some 60, some 61, some 62, some 63, some 64, some 65, some 66, some 67, some 68, some 2] [[], [0], [1], [2], [2], [2, 3, 4], [2, 5], [2, 6], [5, 7], [8], [8, 9], [8, 10], [8], [8, 12], [8, 11, 13], [8, 14], [10, 15], [16], [16, 17], [0, 1, 2, 3, 4, 5, 6, 7, 8, 9, 10, 11, 12, 13, 14, 15, 16, 17, 18]] [(0, []), (1, []), (2, [1]), (3, [0, 2, 2]), (4, [3, 3]), (5, [4]), (6, [4]), (7, [5, 6, 4, 4]), (8, [7, 4]), (9, [4, 8]), (10, [9, 7]), (11, [10]), (12, [11, 10, 10]), (13, [12, 10]), (14, [10]), (15, [14, 10]), (16, [13, 15, 10]), (17, [10, 16]), (18, [17, 12]), (19, [18, 18]), (20, [18, 19]), (21, [20, 19, 0, 1, 2, 3, 4, 5, 6, 7, 8, 9, 10, 11, 12, 13, 14, 15, 16, 17, 18, 19, 20])] 3 (by as_aux_lemma => kernel_rfl) (by as_aux_lemma => kernel_rfl) (by decide) (by as_aux_lemma => kernel_rfl) (by as_aux_lemma => kernel_rfl) (by as_aux_lemma => kernel_rfl) rfl (fun d _ _ _ _ h => by cases d <;> exact h) ?_
      refine lintz_pure 48 (Op.load 29 (Operand.tmp 8)) 29 (.agg (arrOf 12 (qT r))) rfl rfl rfl rfl rfl (fun w0 hb => by exact exec_load_as _ _ _ _ (qT r) rfl arrQ (Keep.row hb r_t8 rfl) (by omega) (fun i hi => by rw [Nat.zero_add])) ?_
      simp only [Act.put, List.setIfInBounds_toArray, List.set_cons_zero, List.set_cons_succ]
      refine lintz_pure 49 (Op.load 29 (Operand.tmp 3)) 29 (.agg (arrOf 12 (qT (qMul bT A)))) rfl rfl rfl rfl rfl (fun w0 hb => by exact exec_load_as _ _ _ _ (qT (qMul bT A)) rfl arrQ (Keep.row hb r_t3 rfl) (by omega) (fun i hi => by rw [Nat.zero_add])) ?_
      simp only [Act.put, List.setIfInBounds_toArray, List.set_cons_zero, List.set_cons_succ]
      refine lintz_leaf ?_
      have HWF : poWf [.val (.agg (arrOf 12 (qT (pneg (qMul bT A))))), .val (.bool true), .val (.bool true), .val (.agg (arrOf 12 (qT r))), .val (.agg (arrOf 12 (qT (qMul bT A)))), .val (.bool false), .val (.bool true), .val (.bool true), .val (.bool true), .val (.agg (arrOf 12 (qT r))), .own (litB (encQ r) 32) 20, .val (.string ⟨(litB (encQ r) 32).toArray⟩), .val (v_s40), .val (.string ⟨(FL).toArray⟩), .val (.bool true), .val (.bool true), .val (.bool true), .val (.bool true), .val (.bool true), .val (.bool true)] [] = true := by as_aux_lemma => kernel_rfl
      refine ⟨JG [.val (.agg (arrOf 12 (qT (pneg (qMul bT A))))), .val (.bool true), .val (.bool true), .val (.agg (arrOf 12 (qT r))), .val (.agg (arrOf 12 (qT (qMul bT A)))), .val (.bool false), .val (.bool true), .val (.bool true), .val (.bool true), .val (.agg (arrOf 12 (qT r))), .own (litB (encQ r) 32) 20, .val (.string ⟨(litB (encQ r) 32).toArray⟩), .val (v_s40), .val (.string ⟨(FL).toArray⟩), .val (.bool true), .val (.bool true), .val (.bool true), .val (.bool true), .val (.bool true), .val (.bool true)] [] _, JG.start (Nat.le_refl _) (fun i hi => absurd hi (Nat.not_lt_zero _)), fun m gz wa p az hp hm hmp hcl hdn hE hJ hS hO => ?_, fun gz wa hE hJ => ?_⟩
      · rcases (show p = 0 ∨ p = 1 ∨ p = 2 ∨ p = 3 ∨ p = 4 ∨ p = 5 ∨ p = 6 ∨ p = 7 ∨ p = 8 ∨ p = 9 ∨ p = 10 ∨ p = 11 ∨ p = 12 ∨ p = 13 ∨ p = 14 ∨ p = 15 ∨ p = 16 ∨ p = 17 ∨ p = 18 ∨ p = 19 by have h9 : p < 20 := hp; omega) with rfl | rfl | rfl | rfl | rfl | rfl | rfl | rfl | rfl | rfl | rfl | rfl | rfl | rfl | rfl | rfl | rfl | rfl | rfl | rfl
        · have e49 : az.eval (.tmp 49) = .agg (arrOf 12 (qT (qMul bT A))) := hO 49 rfl
          exact po_call 50 24 #[Operand.tmp 49] #[29] _ HWF hJ rfl hE (qTNeg_any (qMul bT A) _ (LtT.oft _ _ _)) rfl rfl rfl rfl rfl Try.func24 (by kernel_rfl) (by kernel_rfl) (by simp only [List.map_toArray, List.map_cons, List.map_nil, eval_const, eval_func, e49] <;> rfl)
        · have e48 : az.eval (.tmp 48) = .agg (arrOf 12 (qT r)) := hO 48 rfl
          have e50 := (hS 0 50 rfl (hdn 0 (by decide)) (Nat.le_of_ble_eq_true rfl)).trans (hJ.says (hdn 0 (by decide)) rfl)
          exact po_call 51 26 #[Operand.tmp 48, Operand.tmp 50] #[29, 29] _ HWF hJ rfl hE (qTSame_to r (pneg (qMul bT A)) true _ Hr.out (LtT.neg (LtT.oft _ _ _)) ((RQ.same Rr.out (RQ.neg RP.out)).trans (decide_eq_true (rfl)))) rfl rfl rfl rfl rfl Try.func26 (by kernel_rfl) (by kernel_rfl) (by simp only [List.map_toArray, List.map_cons, List.map_nil, eval_const, eval_func, e48, e50] <;> rfl)
        · have e51 := (hS 1 51 rfl (hdn 1 (by decide)) (Nat.le_of_ble_eq_true rfl)).trans (hJ.says (hdn 1 (by decide)) rfl)
          exact po_run 52 (Op.move (Operand.tmp 51)) _ HWF hJ rfl hE rfl rfl rfl rfl rfl rfl (by first | (simp only [execOp, mkOp, eval_const, e51]; done) | (simp only [execOp, mkOp, eval_const, e51]; go_simp))
        · have e52 := (hS 2 52 rfl (hdn 2 (by decide)) (Nat.le_of_ble_eq_true rfl)).trans (hJ.says (hdn 2 (by decide)) rfl)
          have e8 : az.eval (.tmp 8) = .pointer (some ⟨b_t8, 0, none⟩) := hO 8 rfl
          exact po_run 53 (Op.load 29 (Operand.tmp 8)) _ HWF hJ rfl hE rfl rfl rfl rfl rfl (wanted_of rfl rfl e52) (exec_load_as _ _ _ _ (qT r) e8 arrQ (Keep.row hE r_t8 rfl) (by omega) (fun i hi => by rw [Nat.zero_add]))
        · have e52 := (hS 2 52 rfl (hdn 2 (by decide)) (Nat.le_of_ble_eq_true rfl)).trans (hJ.says (hdn 2 (by decide)) rfl)
          have e3 : az.eval (.tmp 3) = .pointer (some ⟨b_t3, 0, none⟩) := hO 3 rfl
          exact po_run 54 (Op.load 29 (Operand.tmp 3)) _ HWF hJ rfl hE rfl rfl rfl rfl rfl (wanted_of rfl rfl e52) (exec_load_as _ _ _ _ (qT (qMul bT A)) e3 arrQ (Keep.row hE r_t3 rfl) (by omega) (fun i hi => by rw [Nat.zero_add]))
        · have e52 := (hS 2 52 rfl (hdn 2 (by decide)) (Nat.le_of_ble_eq_true rfl)).trans (hJ.says (hdn 2 (by decide)) rfl)
          have e53 := (hS 3 53 rfl (hdn 3 (by decide)) (Nat.le_of_ble_eq_true rfl)).trans (hJ.says (hdn 3 (by decide)) rfl)
          have e54 := (hS 4 54 rfl (hdn 4 (by decide)) (Nat.le_of_ble_eq_true rfl)).trans (hJ.says (hdn 4 (by decide)) rfl)
          exact po_call 55 26 #[Operand.tmp 53, Operand.tmp 54] #[29, 29] _ HWF hJ rfl hE (qTSame_to r (qMul bT A) false _ Hr.out (LtT.oft _ _ _) ((RQ.same Rr.out RP.out).trans (decide_eq_false (HNE.out)))) rfl rfl rfl rfl (wanted_of rfl rfl e52) Try.func26 (by kernel_rfl) (by kernel_rfl) (by simp only [List.map_toArray, List.map_cons, List.map_nil, eval_const, eval_func, e53, e54] <;> rfl)
        · have e52 := (hS 2 52 rfl (hdn 2 (by decide)) (Nat.le_of_ble_eq_true rfl)).trans (hJ.says (hdn 2 (by decide)) rfl)
          have e55 := (hS 5 55 rfl (hdn 5 (by decide)) (Nat.le_of_ble_eq_true rfl)).trans (hJ.says (hdn 5 (by decide)) rfl)
          exact po_run 56 (Op.unOp UnOp.not 4 (Operand.tmp 55)) _ HWF hJ rfl hE rfl rfl rfl rfl rfl (wanted_of rfl rfl e52) (by first | (simp only [execOp, mkOp, eval_const, e55]; done) | (simp only [execOp, mkOp, eval_const, e55]; go_simp))
        · have e52 := (hS 2 52 rfl (hdn 2 (by decide)) (Nat.le_of_ble_eq_true rfl)).trans (hJ.says (hdn 2 (by decide)) rfl)
          have e56 := (hS 6 56 rfl (hdn 6 (by decide)) (Nat.le_of_ble_eq_true rfl)).trans (hJ.says (hdn 6 (by decide)) rfl)
          exact po_run 57 (Op.pick (Operand.tmp 52) (Operand.tmp 56) (Operand.const (Value.bool false))) _ HWF hJ rfl hE rfl rfl rfl rfl rfl rfl (by first | (simp only [execOp, mkOp, eval_const, e52, e56]; done) | (simp only [execOp, mkOp, eval_const, e52, e56]; go_simp))
        · have e57 := (hS 7 57 rfl (hdn 7 (by decide)) (Nat.le_of_ble_eq_true rfl)).trans (hJ.says (hdn 7 (by decide)) rfl)
          exact po_run 58 (Op.move (Operand.tmp 57)) _ HWF hJ rfl hE rfl rfl rfl rfl rfl rfl (by first | (simp only [execOp, mkOp, eval_const, e57]; done) | (simp only [execOp, mkOp, eval_const, e57]; go_simp))
        · have e58 := (hS 8 58 rfl (hdn 8 (by decide)) (Nat.le_of_ble_eq_true rfl)).trans (hJ.says (hdn 8 (by decide)) rfl)
          have e8 : az.eval (.tmp 8) = .pointer (some ⟨b_t8, 0, none⟩) := hO 8 rfl
          exact po_run 59 (Op.load 29 (Operand.tmp 8)) _ HWF hJ rfl hE rfl rfl rfl rfl rfl (wanted_of rfl rfl e58) (exec_load_as _ _ _ _ (qT r) e8 arrQ (Keep.row hE r_t8 rfl) (by omega) (fun i hi => by rw [Nat.zero_add]))
        · have e58 := (hS 8 58 rfl (hdn 8 (by decide)) (Nat.le_of_ble_eq_true rfl)).trans (hJ.says (hdn 8 (by decide)) rfl)
          have e59 := (hS 9 59 rfl (hdn 9 (by decide)) (Nat.le_of_ble_eq_true rfl)).trans (hJ.says (hdn 9 (by decide)) rfl)
          exact po_owns 60 13 #[Operand.tmp 59] #[29] _ HWF hJ rfl hE (qTEncode_any r _ Hr.out) rfl rfl rfl rfl (wanted_of rfl rfl e58) Try.func13 (by kernel_rfl) (by kernel_rfl) (by simp only [List.map_toArray, List.map_cons, List.map_nil, eval_const, eval_func, e59] <;> rfl)
        · have e58 := (hS 8 58 rfl (hdn 8 (by decide)) (Nat.le_of_ble_eq_true rfl)).trans (hJ.says (hdn 8 (by decide)) rfl)
          have e60 := hS 10 60 rfl (hdn 10 (by decide)) (Nat.le_of_ble_eq_true rfl)
          exact po_run 61 (Op.convert 22 9 (Operand.tmp 60)) 9 HWF hJ rfl hE rfl rfl rfl rfl rfl (wanted_of rfl rfl e58) (exec_str _ _ _ e60 (hJ.own (hdn 10 (by decide)) rfl (po_never hm (Nat.le_refl _))).bs)
        · have e58 := (hS 8 58 rfl (hdn 8 (by decide)) (Nat.le_of_ble_eq_true rfl)).trans (hJ.says (hdn 8 (by decide)) rfl)
          have e7 : az.eval (.tmp 7) = v_s40 := hO 7 rfl
          exact po_run 62 (Op.move (Operand.tmp 7)) _ HWF hJ rfl hE rfl rfl rfl rfl rfl (wanted_of rfl rfl e58) (by first | (simp only [execOp, mkOp, eval_const, e7]; done) | (simp only [execOp, mkOp, eval_const, e7]; go_simp))
        · have e58 := (hS 8 58 rfl (hdn 8 (by decide)) (Nat.le_of_ble_eq_true rfl)).trans (hJ.says (hdn 8 (by decide)) rfl)
          have e62 := (hS 12 62 rfl (hdn 12 (by decide)) (Nat.le_of_ble_eq_true rfl)).trans (hJ.says (hdn 12 (by decide)) rfl)
          exact po_run 63 (Op.convert 22 9 (Operand.tmp 62)) 9 HWF hJ rfl hE rfl rfl rfl rfl rfl (wanted_of rfl rfl e58) (exec_str _ _ _ e62 (Bs.below f_s40 (Keep.nil hE) (Nat.le_refl _)))
        · have e58 := (hS 8 58 rfl (hdn 8 (by decide)) (Nat.le_of_ble_eq_true rfl)).trans (hJ.says (hdn 8 (by decide)) rfl)
          have e61 := (hS 11 61 rfl (hdn 11 (by decide)) (Nat.le_of_ble_eq_true rfl)).trans (hJ.says (hdn 11 (by decide)) rfl)
          have e63 := (hS 13 63 rfl (hdn 13 (by decide)) (Nat.le_of_ble_eq_true rfl)).trans (hJ.says (hdn 13 (by decide)) rfl)
          exact po_run 64 (Op.binOp BinOp.eql 9 (Operand.tmp 61) (Operand.tmp 63) 9) _ HWF hJ rfl hE rfl rfl rfl rfl rfl (wanted_of rfl rfl e58) (exec_str_yes _ _ _ _ (HRE.out) e61 e63)
        · have e58 := (hS 8 58 rfl (hdn 8 (by decide)) (Nat.le_of_ble_eq_true rfl)).trans (hJ.says (hdn 8 (by decide)) rfl)
          have e64 := (hS 14 64 rfl (hdn 14 (by decide)) (Nat.le_of_ble_eq_true rfl)).trans (hJ.says (hdn 14 (by decide)) rfl)
          exact po_run 65 (Op.pick (Operand.tmp 58) (Operand.tmp 64) (Operand.const (Value.bool false))) _ HWF hJ rfl hE rfl rfl rfl rfl rfl rfl (by first | (simp only [execOp, mkOp, eval_const, e58, e64]; done) | (simp only [execOp, mkOp, eval_const, e58, e64]; go_simp))
        · have e65 := (hS 15 65 rfl (hdn 15 (by decide)) (Nat.le_of_ble_eq_true rfl)).trans (hJ.says (hdn 15 (by decide)) rfl)
          exact po_run 66 (Op.move (Operand.tmp 65)) _ HWF hJ rfl hE rfl rfl rfl rfl rfl rfl (by first | (simp only [execOp, mkOp, eval_const, e65]; done) | (simp only [execOp, mkOp, eval_const, e65]; go_simp))
        · have e66 := (hS 16 66 rfl (hdn 16 (by decide)) (Nat.le_of_ble_eq_true rfl)).trans (hJ.says (hdn 16 (by decide)) rfl)
          exact po_call 67 9 #[] #[] _ HWF hJ rfl hE (awake8_any _) rfl rfl rfl rfl (wanted_of rfl rfl e66) Try.func9 (by kernel_rfl) (by kernel_rfl) (by simp only [List.map_toArray, List.map_cons, List.map_nil, eval_const, eval_func] <;> rfl)
        · have e66 := (hS 16 66 rfl (hdn 16 (by decide)) (Nat.le_of_ble_eq_true rfl)).trans (hJ.says (hdn 16 (by decide)) rfl)
          have e67 := (hS 17 67 rfl (hdn 17 (by decide)) (Nat.le_of_ble_eq_true rfl)).trans (hJ.says (hdn 17 (by decide)) rfl)
          exact po_run 68 (Op.pick (Operand.tmp 66) (Operand.tmp 67) (Operand.const (Value.bool false))) _ HWF hJ rfl hE rfl rfl rfl rfl rfl rfl (by first | (simp only [execOp, mkOp, eval_const, e66, e67]; done) | (simp only [execOp, mkOp, eval_const, e66, e67]; go_simp))
        · have e68 := (hS 18 68 rfl (hdn 18 (by decide)) (Nat.le_of_ble_eq_true rfl)).trans (hJ.says (hdn 18 (by decide)) rfl)
          exact po_run 2 (Op.assign (Operand.tmp 68)) _ HWF hJ rfl hE rfl rfl rfl rfl rfl rfl (by first | (simp only [execOp, mkOp, eval_const, e68]; done) | (simp only [execOp, mkOp, eval_const, e68]; go_simp))
      · have q0 := hJ.told 0 (by decide) rfl
        have q1 := hJ.told 1 (by decide) rfl
        have q2 := hJ.told 2 (by decide) rfl
        have q3 := hJ.told 3 (by decide) rfl
        have q4 := hJ.told 4 (by decide) rfl
        have q5 := hJ.told 5 (by decide) rfl
        have q6 := hJ.told 6 (by decide) rfl
        have q7 := hJ.told 7 (by decide) rfl
        have q8 := hJ.told 8 (by decide) rfl
        have q9 := hJ.told 9 (by decide) rfl
        have q11 := hJ.told 11 (by decide) rfl
        have q12 := hJ.told 12 (by decide) rfl
        have q13 := hJ.told 13 (by decide) rfl
        have q14 := hJ.told 14 (by decide) rfl
        have q15 := hJ.told 15 (by decide) rfl
        have q16 := hJ.told 16 (by decide) rfl
        have q17 := hJ.told 17 (by decide) rfl
        have q18 := hJ.told 18 (by decide) rfl
        have q19 := hJ.told 19 (by decide) rfl
        rw [putO_true _ _ _ _ _ rfl]
        simp only [putA, Nat.zero_add, Nat.reduceAdd]
        rw [q0, q1, q2, q3, q4, q5, q6, q7, q8, q9, q11, q12, q13, q14, q15, q16, q17, q18, q19]
        simp only [Act.put, List.setIfInBounds_toArray, List.set_cons_zero, List.set_cons_succ]
        refine po_end ?_
        replace r_t3 := Keep.row hE r_t3 rfl
        replace r_t5 := Keep.row hE r_t5 rfl
        replace r_t8 := Keep.row hE r_t8 rfl
        replace f_s0 := Bs.below f_s0 (Keep.nil hE) (Nat.le_refl _)
        replace f_e := Bs.below f_e (Keep.nil hE) (Nat.le_refl _)
        replace f_s40 := Bs.below f_s40 (Keep.nil hE) (Nat.le_refl _)
        have Bw19 := hE.below Bw18 (HGS.out _ Bw18) rfl
        clear Bw18 hE hJ HWF q0 q1 q2 q3 q4 q5 q6 q7 q8 q9 q11 q12 q13 q14 q15 q16 q17 q18 q19
        go_wp2
        go_ret
        exact ⟨rfl, Bw19⟩
  · have q0 : (100 : Int) < (n0 : Int) := by omega
    clear h0 hB0 e0 d0
    go_enter Try.func7, Try.ntmps7
    go_wp2_with (go_at_call 9; refine (awake8_any _).mono ?_; rintro e w9 ⟨rfl, hb9⟩)
    go_ret
    exact ⟨rfl, hb9⟩
end Go.Proofs.Ytphkmaihnbhgoaa
