/- Texts joined: what they are for stands ahead of each. -/
import Derived.Test.YtonhpmaiagbheaaGreatMV5
import Derived.ProofKit
import Derived.OpenShut
import Derived.ChangeOld
import Derived.Deep.Matrix
set_option linter.unusedSimpArgs false
set_option linter.unusedVariables false

namespace Go.Proofs.YtonhpmaiagbheaaGreat
open Go.RowKit Go.Deep
theorem tDecodeE_any (v : Value) (l : List UInt8) (p : Nat × Nat × Nat) (e0 : Int) (w : World) (h : Bs w v l) (hp : dT l = p) (he : decE l = e0) : Calls Tryz.prog 44 #[v] w fun e w' => e = .returned (.tuple #[.agg (arrOf 48 (ptT p)), .int .i64 e0]) ∧ Below w.heap.size w w' := by
 rw [← hp, ← he]
 exact tDecode_any v l w h
theorem tSmallB_any (p : Nat × Nat × Nat) (b : Bool) (w : World) (h : LtT p) (hb : pSmall p = b) : Calls Tryz.prog 45 #[.agg (arrOf 48 (ptT p))] w fun e w' => e = .returned (.bool b) ∧ Below w.heap.size w w' := by
 rw [← hb]
 exact tSmall_any p w h
theorem refStrictE_any (v : Value) (l : List UInt8) (S : Nat) (e0 : Int) (w : World) (h : Bs w v l) (hS : (strictSN l).getD 0 = S) (he : (if (strictSN l).isSome then 0 else 2 : Int) = e0) : Calls Tryz.prog 46 #[v] w fun e w' => e = .returned (.tuple #[.agg (arrOf 32 (bF 32 S)), .int .i64 e0]) ∧ Below w.heap.size w w' := by
 rw [← hS, ← he]
 exact refStrictSc_any v l w h
set_option maxHeartbeats 4000000 in
set_option maxRecDepth 10000 in
theorem edVerify_more (v0 : Value) (l0 : List UInt8) (v1 : Value) (l1 : List UInt8) (v2 : Value) (l2 : List UInt8) (w : World) (h0 : Bs w v0 l0) (h1 : Bs w v1 l1) (h2 : Bs w v2 l2) (hl : l0.length + l2.length < 2 ^ 29) (hd : decE l0 = 0) (hs : pSmall (dT l0) = false) (hn : l1.length = 64) : Calls Tryz.prog 16 #[v0, v1, v2] w fun e w' => e = .returned (.int .i64 (edVer l0 l1 l2)) ∧ Below w.heap.size w w' := by
 obtain ⟨ad1, n1, c1, rfl, e1, y1, z1, hB1⟩ := h1.shape
 have d1' : n1 = 64 := by omega
 subst d1'
 obtain ⟨E, hE⟩ : ∃ E, E = edVer l0 l1 l2 := ⟨_, rfl⟩
 rw [← hE]
 have HEV := Lib.hid hE
 obtain ⟨pP, hpP⟩ : ∃ p, p = dT l0 := ⟨_, rfl⟩
 have HT_pP : Hid (LtT pP) := Lib.hid (by rw [hpP]; exact LtT.dec _)
 have HD := Lib.hid hd
 have HD1 := Lib.hid fun v w h => tDecodeE_any v l0 pP 0 w h hpP.symm hd
 have HS := Lib.hid hs
 have HSM := Lib.hid fun w => tSmallB_any pP false w HT_pP.out (by rw [hpP]; exact hs)
 obtain ⟨pQ, hpQ⟩ : ∃ p, p = dT (l1.take 32) := ⟨_, rfl⟩
 have HT_pQ : Hid (LtT pQ) := Lib.hid (by rw [hpQ]; exact LtT.dec _)
 obtain ⟨d1, hd1⟩ : ∃ d, decE (l1.take 32) = d := ⟨_, rfl⟩
 have HR := Lib.hid hd1
 have HRT : Hid (d1 = 12 ∨ d1 = 0) := Lib.hid (by rw [← hd1]; exact decE_twoN _)
 have HD2 := Lib.hid fun v w h => tDecodeE_any v (l1.take 32) pQ d1 w h hpQ.symm hd1
 obtain ⟨S, hS⟩ := nat_var ((strictSN (l1.drop 32)).getD 0)
 obtain ⟨e2, he2⟩ : ∃ e, (if (strictSN (l1.drop 32)).isSome then 0 else 2 : Int) = e := ⟨_, rfl⟩
 have HSC := Lib.hid fun v w h => refStrictE_any v (l1.drop 32) S e2 w h hS.symm he2
 have HG : Hid (e2 = 2 ∧ (strictSN (l1.drop 32)).isSome = false ∨ e2 = 0 ∧ (strictSN (l1.drop 32)).isSome = true) := Lib.hid (by
   rw [← he2]
   cases strictSN (l1.drop 32) with
   | none => exact .inl ⟨rfl, rfl⟩
   | some _ => exact .inr ⟨rfl, rfl⟩)
 obtain ⟨K, hK⟩ := nat_var (edK (l1.take 32) l0 l2)
 have HNK : Hid (numL (k512.sum ([(l1).take 32, l0, l2].flatten)) 64 % ordL = K) := Lib.hid hK.symm
 obtain ⟨sm, hsm⟩ : ∃ b, edSame l0 l1 l2 = b := ⟨_, rfl⟩
 have HSMB := Lib.hid hsm
 have hsame : pSame (pmul dP bT S) (padd dP pQ (pmul dP pP K)) = sm := by rw [hpP, hpQ, hS, hK]; exact hsm
 obtain ⟨pS, hpS⟩ : ∃ p, p = pmul dP bT S := ⟨_, rfl⟩
 obtain ⟨pK, hpK⟩ : ∃ p, p = pmul dP pP K := ⟨_, rfl⟩
 have HMS := Lib.hid fun w => tMult_any bT S w LtT.base
 have HMK := Lib.hid fun w => tMult_any pP K w HT_pP.out
 have HT_pS : Hid (LtT pS) := Lib.hid (by rw [hpS]; exact LtT.mul _ _)
 have HT_pK : Hid (LtT pK) := Lib.hid (by rw [hpK]; exact LtT.mul _ _)
 rw [← hpS] at HMS hsame
 rw [← hpK] at HMK hsame
 obtain ⟨pX, hpX⟩ : ∃ p, p = padd dP pQ pK := ⟨_, rfl⟩
 have HMX := Lib.hid fun w => tAdd_any pQ pK w HT_pQ.out HT_pK.out
 have HT_pX : Hid (LtT pX) := Lib.hid (by rw [hpX]; exact LtT.add _ _)
 rw [← hpX] at HMX hsame
 have HME := Lib.hid fun w => tSame_any pS pX w HT_pS.out HT_pX.out
 rw [hsame] at HME
 have HLE : Hid (l0.length + l2.length < 2 ^ 29) := Lib.hid hl
 have HL1 : Hid (l1.length = 64) := Lib.hid e1
 clear hK hpS hpK hpX hsame hE hd hs hd1 hS he2 hsm hpP hpQ hl e1 hn
 have f_s_0 := h0
 have HF_s_0 := Lib.hid h0
 have f_s_1 := hB1
 have HF_s_1 := Lib.hid hB1
 have f_s_2 := h2
 have HF_s_2 := Lib.hid h2
 clear h0 h1 h2 hB1
 have Bw0 := Below.refl w.heap.size w
 have HGS : Hid (∀ wq : World, Below w.heap.size w wq → w.heap.size ≤ wq.heap.size) := Lib.hid fun wq h => h.size
 go_enter Tryz.func16, Tryz.ntmps16
 go_wp2_with (first
   | (have hgo := Bw0; clear hgo
      go_at_call 44
      refine (HD1.out _ _ f_s_0).mono ?_
      rintro e w2 ⟨rfl, kk⟩
      replace f_s_0 := zfb f_s_0 kk
      replace f_s_1 := zfb f_s_1 kk
      replace f_s_2 := zfb f_s_2 kk
      have Bw1 := zbt HGS Bw0 kk
      clear Bw0 kk)
   | (have hgo := Bw1; clear hgo
      refine wpList_alloc_row rfl 63 rfl 48 (u64f fun _ => 0) zeroPt ?_
      intro b_t7 w6 lk r_t7 kk
      have l_t7 := zrl HGS Bw1 lk
      have a_s_0_t7 := Bs.away f_s_0 lk
      have a_s_1_t7 := Bs.away f_s_1 lk
      have a_s_2_t7 := Bs.away f_s_2 lk
      replace f_s_0 := zfb f_s_0 kk
      replace f_s_1 := zfb f_s_1 kk
      replace f_s_2 := zfb f_s_2 kk
      have Bw2 := zbt HGS Bw1 kk
      clear Bw1 kk lk)
   | (have hgo := Bw2; clear hgo
      refine wpList_store_as rfl 63 (.tmp 7) (.tmp 17) rfl 48 (ptT pP) arrP r_t7 rfl rfl (by omega) (fun j _ => ptF_one _ _ _ j) (fun i hi => putN_whole hi) ?_
      intro w7 q gk
      replace r_t7 := q
      have Bw3 := zbg HGS Bw2 gk l_t7
      replace f_s_0 := gb_bs f_s_0 gk a_s_0_t7
      replace f_s_1 := gb_bs f_s_1 gk a_s_1_t7
      replace f_s_2 := gb_bs f_s_2 gk a_s_2_t7
      clear Bw2 gk q)
   | (have hgo := Bw3; clear hgo
      refine wpList_load_asg rfl 63 (.tmp 7) rfl 48 (ptT pP) arrP r_t7 rfl (by omega) (fun i hi => by rw [Nat.zero_add]) ?_
      have Bw4 := Bw3
      clear Bw3)
   | (have hgo := Bw4; clear hgo
      go_at_call 45
      refine (HSM.out _).mono ?_
      rintro e w13 ⟨rfl, kk⟩
      replace r_t7 := zrb r_t7 kk
      replace f_s_0 := zfb f_s_0 kk
      replace f_s_1 := zfb f_s_1 kk
      replace f_s_2 := zfb f_s_2 kk
      have Bw5 := zbt HGS Bw4 kk
      clear Bw4 kk)
   | (have hgo := Bw5; clear hgo
      obtain ⟨v_s30, f_s30, hr30⟩ := takeB f_s_1 32 (by rw [HL1.out]; decide)
      refine wpList_value rfl _ (by rw [exec_mkOp]; exact hr30 _ _ _ _ _ rfl rfl) ?_
      clear hr30
      have Bw6 := Bw5
      clear Bw5)
   | (have hgo := Bw6; clear hgo
      go_at_call 44
      refine (HD2.out _ _ f_s30).mono ?_
      rintro e w20 ⟨rfl, kk⟩
      replace r_t7 := zrb r_t7 kk
      replace f_s_0 := zfb f_s_0 kk
      replace f_s_1 := zfb f_s_1 kk
      replace f_s_2 := zfb f_s_2 kk
      replace f_s30 := zfb f_s30 kk
      have Bw7 := zbt HGS Bw6 kk
      clear Bw6 kk
      rcases HRT.out with hr | hr <;> rw [hr] <;> replace hr := Lib.hid hr)
   | (have hgo := Bw7; clear hgo
      refine wpList_alloc_row rfl 63 rfl 48 (u64f fun _ => 0) zeroPt ?_
      intro b_t9 w24 lk r_t9 kk
      have n_t7_t9 := zrn r_t7 lk
      have l_t9 := zrl HGS Bw7 lk
      have a_s_0_t9 := Bs.away f_s_0 lk
      have a_s_1_t9 := Bs.away f_s_1 lk
      have a_s_2_t9 := Bs.away f_s_2 lk
      have a_s30_t9 := Bs.away f_s30 lk
      replace r_t7 := zrb r_t7 kk
      replace f_s_0 := zfb f_s_0 kk
      replace f_s_1 := zfb f_s_1 kk
      replace f_s_2 := zfb f_s_2 kk
      replace f_s30 := zfb f_s30 kk
      have Bw8 := zbt HGS Bw7 kk
      clear Bw7 kk lk)
   | (have hgo := Bw8; clear hgo
      refine wpList_store_as rfl 63 (.tmp 9) (.tmp 32) rfl 48 (ptT pQ) arrP r_t9 rfl rfl (by omega) (fun j _ => ptF_one _ _ _ j) (fun i hi => putN_whole hi) ?_
      intro w25 q gk
      replace r_t7 := gb_rowIs r_t7 gk n_t7_t9
      replace r_t9 := q
      have Bw9 := zbg HGS Bw8 gk l_t9
      replace f_s_0 := gb_bs f_s_0 gk a_s_0_t9
      replace f_s_1 := gb_bs f_s_1 gk a_s_1_t9
      replace f_s_2 := gb_bs f_s_2 gk a_s_2_t9
      replace f_s30 := gb_bs f_s30 gk a_s30_t9
      clear Bw8 gk q)
   | (have hgo := Bw9; clear hgo
      obtain ⟨v_s36, f_s36, hr36⟩ := dropB f_s_1 32 (by rw [HL1.out]; decide)
      refine wpList_value rfl _ (by rw [exec_mkOp]; exact hr36 _ _ _ _ _ rfl rfl) ?_
      clear hr36
      have Bw10 := Bw9
      clear Bw9)
   | (have hgo := Bw10; clear hgo
      go_at_call 46
      refine (HSC.out _ _ f_s36).mono ?_
      rintro e w29 ⟨rfl, kk⟩
      replace r_t7 := zrb r_t7 kk
      replace r_t9 := zrb r_t9 kk
      replace f_s_0 := zfb f_s_0 kk
      replace f_s_1 := zfb f_s_1 kk
      replace f_s_2 := zfb f_s_2 kk
      replace f_s30 := zfb f_s30 kk
      replace f_s36 := zfb f_s36 kk
      have Bw11 := zbt HGS Bw10 kk
      clear Bw10 kk
      rcases HG.out with ⟨he, hg⟩ | ⟨he, hg⟩ <;> rw [he] <;> clear he <;> replace hg := Lib.hid hg)
   | (have hgo := Bw11; clear hgo
      refine wpList_alloc_row rfl 67 rfl 32 (fun _ => .int .u8 0) zeroSc ?_
      intro b_t11 w33 lk r_t11 kk
      have n_t7_t11 := zrn r_t7 lk
      have n_t9_t11 := zrn r_t9 lk
      have l_t11 := zrl HGS Bw11 lk
      have a_s_0_t11 := Bs.away f_s_0 lk
      have a_s_1_t11 := Bs.away f_s_1 lk
      have a_s_2_t11 := Bs.away f_s_2 lk
      have a_s30_t11 := Bs.away f_s30 lk
      have a_s36_t11 := Bs.away f_s36 lk
      replace r_t7 := zrb r_t7 kk
      replace r_t9 := zrb r_t9 kk
      replace f_s_0 := zfb f_s_0 kk
      replace f_s_1 := zfb f_s_1 kk
      replace f_s_2 := zfb f_s_2 kk
      replace f_s30 := zfb f_s30 kk
      replace f_s36 := zfb f_s36 kk
      have Bw12 := zbt HGS Bw11 kk
      clear Bw11 kk lk)
   | (have hgo := Bw12; clear hgo
      refine wpList_store_as rfl 67 (.tmp 11) (.tmp 38) rfl 32 (bF 32 S) arrSc r_t11 rfl rfl (by omega) (fun _ _ => rfl) (fun i hi => putN_whole hi) ?_
      intro w34 q gk
      replace r_t7 := gb_rowIs r_t7 gk n_t7_t11
      replace r_t9 := gb_rowIs r_t9 gk n_t9_t11
      replace r_t11 := q
      have Bw13 := zbg HGS Bw12 gk l_t11
      replace f_s_0 := gb_bs f_s_0 gk a_s_0_t11
      replace f_s_1 := gb_bs f_s_1 gk a_s_1_t11
      replace f_s_2 := gb_bs f_s_2 gk a_s_2_t11
      replace f_s30 := gb_bs f_s30 gk a_s30_t11
      replace f_s36 := gb_bs f_s36 gk a_s36_t11
      clear Bw12 gk q)
   | (have hgo := Bw13; clear hgo
      obtain ⟨v_s47, f_s47, hr47⟩ := takeB f_s_1 32 (by rw [HL1.out]; decide)
      refine wpList_value rfl _ (by rw [exec_mkOp]; exact hr47 _ _ _ _ _ rfl rfl) ?_
      clear hr47
      have Bw14 := Bw13
      clear Bw13)
   | (have hgo := Bw14; clear hgo
      refine wpList_rows3 rfl (.tmp 47) (.tmp 48) (.tmp 49) rfl f_s47 f_s_0 f_s_2 rfl rfl rfl ?_
      intro v_r50 w46 F_r50 kk
      replace r_t7 := zrb r_t7 kk
      replace r_t9 := zrb r_t9 kk
      replace r_t11 := zrb r_t11 kk
      replace f_s_0 := zfb f_s_0 kk
      replace f_s_1 := zfb f_s_1 kk
      replace f_s_2 := zfb f_s_2 kk
      replace f_s30 := zfb f_s30 kk
      replace f_s36 := zfb f_s36 kk
      replace f_s47 := zfb f_s47 kk
      have Bw15 := zbt HGS Bw14 kk
      clear Bw14 kk)
   | (have hgo := Bw15; clear hgo
      go_at_call 35
      refine (refCat_any _ [(l1).take 32, l0, l2] _ F_r50 (by have := HLE.out; have := HL1.out; simp; omega)).mono ?_
      rintro e w47 ⟨v_s51, rfl, o_s51, kk⟩
      replace r_t7 := zrb r_t7 kk
      replace r_t9 := zrb r_t9 kk
      replace r_t11 := zrb r_t11 kk
      replace f_s_0 := zfb f_s_0 kk
      replace f_s_1 := zfb f_s_1 kk
      replace f_s_2 := zfb f_s_2 kk
      replace f_s30 := zfb f_s30 kk
      replace f_s36 := zfb f_s36 kk
      replace f_s47 := zfb f_s47 kk
      have Bw16 := zbt HGS Bw15 kk
      clear Bw15 kk
      have f_s51 := o_s51.bs
      clear o_s51)
   | (have hgo := Bw16; clear hgo
      go_at_call 29
      refine (ref512_any _ ([(l1).take 32, l0, l2].flatten) _ f_s51 (by have := HLE.out; have := HL1.out; simp; omega)).mono ?_
      rintro e w48 ⟨v_s52, rfl, f_s52, kk⟩
      replace r_t7 := zrb r_t7 kk
      replace r_t9 := zrb r_t9 kk
      replace r_t11 := zrb r_t11 kk
      replace f_s_0 := zfb f_s_0 kk
      replace f_s_1 := zfb f_s_1 kk
      replace f_s_2 := zfb f_s_2 kk
      replace f_s30 := zfb f_s30 kk
      replace f_s36 := zfb f_s36 kk
      replace f_s47 := zfb f_s47 kk
      replace f_s51 := zfb f_s51 kk
      have Bw17 := zbt HGS Bw16 kk
      clear Bw16 kk)
   | (have hgo := Bw17; clear hgo
      go_at_call 32
      refine (refWideN_any _ (k512.sum ([(l1).take 32, l0, l2].flatten)) _ f_s52 K HNK.out).mono ?_
      rintro e w49 ⟨rfl, kk⟩
      replace r_t7 := zrb r_t7 kk
      replace r_t9 := zrb r_t9 kk
      replace r_t11 := zrb r_t11 kk
      replace f_s_0 := zfb f_s_0 kk
      replace f_s_1 := zfb f_s_1 kk
      replace f_s_2 := zfb f_s_2 kk
      replace f_s30 := zfb f_s30 kk
      replace f_s36 := zfb f_s36 kk
      replace f_s47 := zfb f_s47 kk
      replace f_s51 := zfb f_s51 kk
      replace f_s52 := zfb f_s52 kk
      have Bw18 := zbt HGS Bw17 kk
      clear Bw17 kk)
   | (have hgo := Bw18; clear hgo
      refine wpList_alloc_row rfl 67 rfl 32 (fun _ => .int .u8 0) zeroSc ?_
      intro b_t13 w50 lk r_t13 kk
      have n_t7_t13 := zrn r_t7 lk
      have n_t9_t13 := zrn r_t9 lk
      have n_t11_t13 := zrn r_t11 lk
      have l_t13 := zrl HGS Bw18 lk
      have a_s_0_t13 := Bs.away f_s_0 lk
      have a_s_1_t13 := Bs.away f_s_1 lk
      have a_s_2_t13 := Bs.away f_s_2 lk
      have a_s30_t13 := Bs.away f_s30 lk
      have a_s36_t13 := Bs.away f_s36 lk
      have a_s47_t13 := Bs.away f_s47 lk
      have a_s51_t13 := Bs.away f_s51 lk
      have a_s52_t13 := Bs.away f_s52 lk
      replace r_t7 := zrb r_t7 kk
      replace r_t9 := zrb r_t9 kk
      replace r_t11 := zrb r_t11 kk
      replace f_s_0 := zfb f_s_0 kk
      replace f_s_1 := zfb f_s_1 kk
      replace f_s_2 := zfb f_s_2 kk
      replace f_s30 := zfb f_s30 kk
      replace f_s36 := zfb f_s36 kk
      replace f_s47 := zfb f_s47 kk
      replace f_s51 := zfb f_s51 kk
      replace f_s52 := zfb f_s52 kk
      have Bw19 := zbt HGS Bw18 kk
      clear Bw18 kk lk)
   | (have hgo := Bw19; clear hgo
      refine wpList_store_as rfl 67 (.tmp 13) (.tmp 53) rfl 32 (bF 32 K) arrSc r_t13 rfl rfl (by omega) (fun _ _ => rfl) (fun i hi => putN_whole hi) ?_
      intro w51 q gk
      replace r_t7 := gb_rowIs r_t7 gk n_t7_t13
      replace r_t9 := gb_rowIs r_t9 gk n_t9_t13
      replace r_t11 := gb_rowIs r_t11 gk n_t11_t13
      replace r_t13 := q
      have Bw20 := zbg HGS Bw19 gk l_t13
      replace f_s_0 := gb_bs f_s_0 gk a_s_0_t13
      replace f_s_1 := gb_bs f_s_1 gk a_s_1_t13
      replace f_s_2 := gb_bs f_s_2 gk a_s_2_t13
      replace f_s30 := gb_bs f_s30 gk a_s30_t13
      replace f_s36 := gb_bs f_s36 gk a_s36_t13
      replace f_s47 := gb_bs f_s47 gk a_s47_t13
      replace f_s51 := gb_bs f_s51 gk a_s51_t13
      replace f_s52 := gb_bs f_s52 gk a_s52_t13
      clear Bw19 gk q))
 any_goals (go_ret; first | exact ⟨by rw [HEV.out.trans (edVer_4 HD.out HS.out HL1.out (HR.out.trans hr.out))]; rfl, Bw13⟩ | exact ⟨by rw [HEV.out.trans (edVer_5 HD.out HS.out HL1.out (HR.out.trans hr.out) hg.out)]; rfl, Bw13⟩)
 clear f_s_0 f_s_1 f_s_2 f_s30 f_s36 f_s47 f_s51 f_s52
 go_wp2
 have Bw21 := Bw20.drew
 replace r_t7 := World.rowIs.drew r_t7
 replace r_t9 := World.rowIs.drew r_t9
 replace r_t11 := World.rowIs.drew r_t11
 replace r_t13 := World.rowIs.drew r_t13
 clear Bw20
 refine zpo [] (.rd 1 (.rd 3 (.rd 4 (.rd 5 .done)))) #[false, true, false, true, true, true, false, false, false, false] [0, 2, 6, 7, 8, 9] [some 54, some 56, some 60, some 61, some 62, some 63] [[], [0], [1], [2], [1, 3], [4]] [(0, []), (1, []), (2, [0, 1, 0]), (3, []), (4, []), (5, []), (6, [4, 5, 2]), (7, [3, 6, 6]), (8, [2, 7, 7]), (9, [8])] 58 ?_
 refine zld (bF 32 S) arrSc r_t11 rfl (fun i hi => by rw [Nat.zero_add]) rfl rfl rfl rfl rfl (by omega) ?_
 simp only [Act.put, zA, zB, zC]
 refine zld (ptT pQ) arrP r_t9 rfl (fun i hi => by rw [Nat.zero_add]) rfl rfl rfl rfl rfl (by omega) ?_
 refine zld (ptT pP) arrP r_t7 rfl (fun i hi => by rw [Nat.zero_add]) rfl rfl rfl rfl rfl (by omega) ?_
 refine zld (bF 32 K) arrSc r_t13 rfl (fun i hi => by rw [Nat.zero_add]) rfl rfl rfl rfl rfl (by omega) ?_
 simp only [Act.put, zA, zB, zC]
 refine lintz_leaf ?_
 refine po_start [.val (.agg (arrOf 48 (ptT bT))), .val (.agg (arrOf 48 (ptT pS))), .val (.agg (arrOf 48 (ptT pK))), .val (.agg (arrOf 48 (ptT pX))), .val (.bool sm), .val (.bool (!sm))] [] (fun i hi => absurd hi (Nat.not_lt_zero _)) (fun HWF m gz wa p az hp hm hmp hcl hdn hE hJ hS hO => ?_) (fun gz wa hE hJ => ?_)
 · rcases (show p = 0 ∨ p = 1 ∨ p = 2 ∨ p = 3 ∨ p = 4 ∨ p = 5 by have h9 : p < 6 := hp; omega) with rfl | rfl | rfl | rfl | rfl | rfl
   · exact po_k HWF hJ hE (tBase_any _) rfl rfl rfl rfl rfl rfl (ar0)
   · have e55 : az.eval (.tmp 55) = .agg (arrOf 32 (bF 32 S)) := hO 55 rfl
     exact po_k HWF hJ hE (HMS.out _) rfl rfl rfl rfl rfl rfl (ar2 (po_e hS hdn hJ 0 54 rfl rfl rfl rfl) e55)
   · have e58 : az.eval (.tmp 58) = .agg (arrOf 48 (ptT pP)) := hO 58 rfl
     have e59 : az.eval (.tmp 59) = .agg (arrOf 32 (bF 32 K)) := hO 59 rfl
     exact po_k HWF hJ hE (HMK.out _) rfl rfl rfl rfl rfl rfl (ar2 e58 e59)
   · have e57 : az.eval (.tmp 57) = .agg (arrOf 48 (ptT pQ)) := hO 57 rfl
     exact po_k HWF hJ hE (HMX.out _) rfl rfl rfl rfl rfl rfl (ar2 e57 (po_e hS hdn hJ 2 60 rfl rfl rfl rfl))
   · exact po_k HWF hJ hE (HME.out _) rfl rfl rfl rfl rfl rfl (ar2 (po_e hS hdn hJ 1 56 rfl rfl rfl rfl) (po_e hS hdn hJ 3 61 rfl rfl rfl rfl))
   · exact po_p _ HWF hJ hE rfl rfl rfl rfl rfl rfl rfl (exec_notb _ _ _ _ (po_e hS hdn hJ 4 62 rfl rfl rfl rfl))
 · rw [putO_true _ _ _ _ _ rfl]
   simp only [putA, Nat.zero_add, Nat.reduceAdd]
   rw [hJ.tt 0 rfl, hJ.tt 1 rfl, hJ.tt 2 rfl, hJ.tt 3 rfl, hJ.tt 4 rfl, hJ.tt 5 rfl]
   simp only [Act.put, zA, zB, zC]
   refine po_end ?_
   replace r_t7 := Keep.row hE r_t7 rfl
   replace r_t9 := Keep.row hE r_t9 rfl
   replace r_t11 := Keep.row hE r_t11 rfl
   replace r_t13 := Keep.row hE r_t13 rfl
   have Bw22 := hE.below Bw21 (HGS.out _ Bw21) rfl
   clear Bw21 hE hJ 
   have hv := Lib.hid <| edVer_6 HD.out HS.out HL1.out (HR.out.trans hr.out) hg.out sm HSMB.out
   cases sm
   · simp only [Bool.not_false]
     go_wp2
     go_ret
     exact ⟨by rw [HEV.out.trans hv.out]; rfl, Bw22⟩
   · simp only [Bool.not_true]
     go_wp2
     go_ret
     exact ⟨by rw [HEV.out.trans hv.out]; rfl, Bw22⟩
set_option maxHeartbeats 4000000 in
set_option maxRecDepth 10000 in
theorem edVerify_1 (v0 : Value) (l0 : List UInt8) (v1 : Value) (l1 : List UInt8) (v2 : Value) (l2 : List UInt8) (w : World) (h0 : Bs w v0 l0) (h1 : Bs w v1 l1) (h2 : Bs w v2 l2) (hl : l0.length + l2.length < 2 ^ 29) (hd : decE l0 = 12) : Calls Tryz.prog 16 #[v0, v1, v2] w fun e w' => e = .returned (.int .i64 12) ∧ Below w.heap.size w w' := by
 obtain ⟨ad1, n1, c1, rfl, e1, y1, z1, hB1⟩ := h1.shape
 obtain ⟨pP, hpP⟩ : ∃ p, p = dT l0 := ⟨_, rfl⟩
 have HT_pP : Hid (LtT pP) := Lib.hid (by rw [hpP]; exact LtT.dec _)
 have HD1 := Lib.hid fun v w h => tDecodeE_any v l0 pP 12 w h hpP.symm hd
 have f_s_0 := h0
 have HF_s_0 := Lib.hid h0
 have f_s_1 := hB1
 have HF_s_1 := Lib.hid hB1
 have f_s_2 := h2
 have HF_s_2 := Lib.hid h2
 clear h0 h1 h2 hB1 hpP hd hl e1
 have Bw0 := Below.refl w.heap.size w
 have HGS : Hid (∀ wq : World, Below w.heap.size w wq → w.heap.size ≤ wq.heap.size) := Lib.hid fun wq h => h.size
 go_enter Tryz.func16, Tryz.ntmps16
 go_wp2_with (first
   | (have hgo := Bw0; clear hgo
      go_at_call 44
      refine (HD1.out _ _ f_s_0).mono ?_
      rintro e w2 ⟨rfl, kk⟩
      replace f_s_0 := zfb f_s_0 kk
      replace f_s_1 := zfb f_s_1 kk
      replace f_s_2 := zfb f_s_2 kk
      have Bw1 := zbt HGS Bw0 kk
      clear Bw0 kk)
   | (have hgo := Bw1; clear hgo
      refine wpList_alloc_row rfl 63 rfl 48 (u64f fun _ => 0) zeroPt ?_
      intro b_t7 w6 lk r_t7 kk
      have l_t7 := zrl HGS Bw1 lk
      have a_s_0_t7 := Bs.away f_s_0 lk
      have a_s_1_t7 := Bs.away f_s_1 lk
      have a_s_2_t7 := Bs.away f_s_2 lk
      replace f_s_0 := zfb f_s_0 kk
      replace f_s_1 := zfb f_s_1 kk
      replace f_s_2 := zfb f_s_2 kk
      have Bw2 := zbt HGS Bw1 kk
      clear Bw1 kk lk)
   | (have hgo := Bw2; clear hgo
      refine wpList_store_as rfl 63 (.tmp 7) (.tmp 17) rfl 48 (ptT pP) arrP r_t7 rfl rfl (by omega) (fun j _ => ptF_one _ _ _ j) (fun i hi => putN_whole hi) ?_
      intro w7 q gk
      replace r_t7 := q
      have Bw3 := zbg HGS Bw2 gk l_t7
      replace f_s_0 := gb_bs f_s_0 gk a_s_0_t7
      replace f_s_1 := gb_bs f_s_1 gk a_s_1_t7
      replace f_s_2 := gb_bs f_s_2 gk a_s_2_t7
      clear Bw2 gk q))
 go_ret
 exact ⟨rfl, Bw3⟩
set_option maxHeartbeats 4000000 in
set_option maxRecDepth 10000 in
theorem edVerify_2 (v0 : Value) (l0 : List UInt8) (v1 : Value) (l1 : List UInt8) (v2 : Value) (l2 : List UInt8) (w : World) (h0 : Bs w v0 l0) (h1 : Bs w v1 l1) (h2 : Bs w v2 l2) (hl : l0.length + l2.length < 2 ^ 29) (hd : decE l0 = 0) (hs : pSmall (dT l0) = true) : Calls Tryz.prog 16 #[v0, v1, v2] w fun e w' => e = .returned (.int .i64 12) ∧ Below w.heap.size w w' := by
 obtain ⟨ad1, n1, c1, rfl, e1, y1, z1, hB1⟩ := h1.shape
 obtain ⟨pP, hpP⟩ : ∃ p, p = dT l0 := ⟨_, rfl⟩
 have HT_pP : Hid (LtT pP) := Lib.hid (by rw [hpP]; exact LtT.dec _)
 have HD1 := Lib.hid fun v w h => tDecodeE_any v l0 pP 0 w h hpP.symm hd
 have HSM := Lib.hid fun w => tSmallB_any pP true w HT_pP.out (by rw [hpP]; exact hs)
 have f_s_0 := h0
 have HF_s_0 := Lib.hid h0
 have f_s_1 := hB1
 have HF_s_1 := Lib.hid hB1
 have f_s_2 := h2
 have HF_s_2 := Lib.hid h2
 clear h0 h1 h2 hB1 hpP hd hl e1 hs
 have Bw0 := Below.refl w.heap.size w
 have HGS : Hid (∀ wq : World, Below w.heap.size w wq → w.heap.size ≤ wq.heap.size) := Lib.hid fun wq h => h.size
 go_enter Tryz.func16, Tryz.ntmps16
 go_wp2_with (first
   | (have hgo := Bw0; clear hgo
      go_at_call 44
      refine (HD1.out _ _ f_s_0).mono ?_
      rintro e w2 ⟨rfl, kk⟩
      replace f_s_0 := zfb f_s_0 kk
      replace f_s_1 := zfb f_s_1 kk
      replace f_s_2 := zfb f_s_2 kk
      have Bw1 := zbt HGS Bw0 kk
      clear Bw0 kk)
   | (have hgo := Bw1; clear hgo
      refine wpList_alloc_row rfl 63 rfl 48 (u64f fun _ => 0) zeroPt ?_
      intro b_t7 w6 lk r_t7 kk
      have l_t7 := zrl HGS Bw1 lk
      have a_s_0_t7 := Bs.away f_s_0 lk
      have a_s_1_t7 := Bs.away f_s_1 lk
      have a_s_2_t7 := Bs.away f_s_2 lk
      replace f_s_0 := zfb f_s_0 kk
      replace f_s_1 := zfb f_s_1 kk
      replace f_s_2 := zfb f_s_2 kk
      have Bw2 := zbt HGS Bw1 kk
      clear Bw1 kk lk)
   | (have hgo := Bw2; clear hgo
      refine wpList_store_as rfl 63 (.tmp 7) (.tmp 17) rfl 48 (ptT pP) arrP r_t7 rfl rfl (by omega) (fun j _ => ptF_one _ _ _ j) (fun i hi => putN_whole hi) ?_
      intro w7 q gk
      replace r_t7 := q
      have Bw3 := zbg HGS Bw2 gk l_t7
      replace f_s_0 := gb_bs f_s_0 gk a_s_0_t7
      replace f_s_1 := gb_bs f_s_1 gk a_s_1_t7
      replace f_s_2 := gb_bs f_s_2 gk a_s_2_t7
      clear Bw2 gk q)
   | (have hgo := Bw3; clear hgo
      refine wpList_load_asg rfl 63 (.tmp 7) rfl 48 (ptT pP) arrP r_t7 rfl (by omega) (fun i hi => by rw [Nat.zero_add]) ?_
      have Bw4 := Bw3
      clear Bw3)
   | (have hgo := Bw4; clear hgo
      go_at_call 45
      refine (HSM.out _).mono ?_
      rintro e w13 ⟨rfl, kk⟩
      replace r_t7 := zrb r_t7 kk
      replace f_s_0 := zfb f_s_0 kk
      replace f_s_1 := zfb f_s_1 kk
      replace f_s_2 := zfb f_s_2 kk
      have Bw5 := zbt HGS Bw4 kk
      clear Bw4 kk))
 go_ret
 exact ⟨rfl, Bw5⟩
set_option maxHeartbeats 4000000 in
set_option maxRecDepth 10000 in
theorem edVerify_3 (v0 : Value) (l0 : List UInt8) (v1 : Value) (l1 : List UInt8) (v2 : Value) (l2 : List UInt8) (w : World) (h0 : Bs w v0 l0) (h1 : Bs w v1 l1) (h2 : Bs w v2 l2) (hl : l0.length + l2.length < 2 ^ 29) (hd : decE l0 = 0) (hs : pSmall (dT l0) = false) (hn : ¬ l1.length = 64) : Calls Tryz.prog 16 #[v0, v1, v2] w fun e w' => e = .returned (.int .i64 3) ∧ Below w.heap.size w w' := by
 obtain ⟨ad1, n1, c1, rfl, e1, y1, z1, hB1⟩ := h1.shape
 obtain ⟨pP, hpP⟩ : ∃ p, p = dT l0 := ⟨_, rfl⟩
 have HT_pP : Hid (LtT pP) := Lib.hid (by rw [hpP]; exact LtT.dec _)
 have HD1 := Lib.hid fun v w h => tDecodeE_any v l0 pP 0 w h hpP.symm hd
 have HSM := Lib.hid fun w => tSmallB_any pP false w HT_pP.out (by rw [hpP]; exact hs)
 have q1 : ¬ (n1 : Int) = 64 := by omega
 have f_s_0 := h0
 have HF_s_0 := Lib.hid h0
 have f_s_1 := hB1
 have HF_s_1 := Lib.hid hB1
 have f_s_2 := h2
 have HF_s_2 := Lib.hid h2
 clear h0 h1 h2 hB1 hpP hd hl e1 hs hn
 have Bw0 := Below.refl w.heap.size w
 have HGS : Hid (∀ wq : World, Below w.heap.size w wq → w.heap.size ≤ wq.heap.size) := Lib.hid fun wq h => h.size
 go_enter Tryz.func16, Tryz.ntmps16
 go_wp2_with (first
   | (have hgo := Bw0; clear hgo
      go_at_call 44
      refine (HD1.out _ _ f_s_0).mono ?_
      rintro e w2 ⟨rfl, kk⟩
      replace f_s_0 := zfb f_s_0 kk
      replace f_s_1 := zfb f_s_1 kk
      replace f_s_2 := zfb f_s_2 kk
      have Bw1 := zbt HGS Bw0 kk
      clear Bw0 kk)
   | (have hgo := Bw1; clear hgo
      refine wpList_alloc_row rfl 63 rfl 48 (u64f fun _ => 0) zeroPt ?_
      intro b_t7 w6 lk r_t7 kk
      have l_t7 := zrl HGS Bw1 lk
      have a_s_0_t7 := Bs.away f_s_0 lk
      have a_s_1_t7 := Bs.away f_s_1 lk
      have a_s_2_t7 := Bs.away f_s_2 lk
      replace f_s_0 := zfb f_s_0 kk
      replace f_s_1 := zfb f_s_1 kk
      replace f_s_2 := zfb f_s_2 kk
      have Bw2 := zbt HGS Bw1 kk
      clear Bw1 kk lk)
   | (have hgo := Bw2; clear hgo
      refine wpList_store_as rfl 63 (.tmp 7) (.tmp 17) rfl 48 (ptT pP) arrP r_t7 rfl rfl (by omega) (fun j _ => ptF_one _ _ _ j) (fun i hi => putN_whole hi) ?_
      intro w7 q gk
      replace r_t7 := q
      have Bw3 := zbg HGS Bw2 gk l_t7
      replace f_s_0 := gb_bs f_s_0 gk a_s_0_t7
      replace f_s_1 := gb_bs f_s_1 gk a_s_1_t7
      replace f_s_2 := gb_bs f_s_2 gk a_s_2_t7
      clear Bw2 gk q)
   | (have hgo := Bw3; clear hgo
      refine wpList_load_asg rfl 63 (.tmp 7) rfl 48 (ptT pP) arrP r_t7 rfl (by omega) (fun i hi => by rw [Nat.zero_add]) ?_
      have Bw4 := Bw3
      clear Bw3)
   | (have hgo := Bw4; clear hgo
      go_at_call 45
      refine (HSM.out _).mono ?_
      rintro e w13 ⟨rfl, kk⟩
      replace r_t7 := zrb r_t7 kk
      replace f_s_0 := zfb f_s_0 kk
      replace f_s_1 := zfb f_s_1 kk
      replace f_s_2 := zfb f_s_2 kk
      have Bw5 := zbt HGS Bw4 kk
      clear Bw4 kk))
 go_ret
 exact ⟨rfl, Bw5⟩
theorem edVerify_any (v0 : Value) (l0 : List UInt8) (v1 : Value) (l1 : List UInt8) (v2 : Value) (l2 : List UInt8) (w : World) (h0 : Bs w v0 l0) (h1 : Bs w v1 l1) (h2 : Bs w v2 l2) (hl : l0.length + l2.length < 2 ^ 29) :
   Calls Tryz.prog 16 #[v0, v1, v2] w fun e w' => e = .returned (.int .i64 (edVer l0 l1 l2)) ∧ Below w.heap.size w w' := by
 rcases decE_twoN l0 with hd | hd
 · rw [edVer_1 hd]
   exact edVerify_1 v0 l0 v1 l1 v2 l2 w h0 h1 h2 hl hd
 · cases hs : pSmall (dT l0) with
   | true =>
     rw [edVer_2 hd hs]
     exact edVerify_2 v0 l0 v1 l1 v2 l2 w h0 h1 h2 hl hd hs
   | false =>
     by_cases hn : l1.length = 64
     · exact edVerify_more v0 l0 v1 l1 v2 l2 w h0 h1 h2 hl hd hs hn
     · rw [edVer_3 hd hs hn]
       exact edVerify_3 v0 l0 v1 l1 v2 l2 w h0 h1 h2 hl hd hs hn
theorem edVerify_to (v0 : Value) (l0 : List UInt8) (v1 : Value) (l1 : List UInt8) (v2 : Value) (l2 : List UInt8) (e : Int) (w : World) (h0 : Bs w v0 l0) (h1 : Bs w v1 l1) (h2 : Bs w v2 l2) (hl : l0.length + l2.length < 2 ^ 29) (he : edVer l0 l1 l2 = e) :
   Calls Tryz.prog 16 #[v0, v1, v2] w fun e' w' => e' = .returned (.int .i64 e) ∧ Below w.heap.size w w' := by
 subst he
 exact edVerify_any v0 l0 v1 l1 v2 l2 w h0 h1 h2 hl
end Go.Proofs.YtonhpmaiagbheaaGreat
namespace Go.Proofs.YtonhpmaiagbheaaGreat
open Go.ChangeShapes Go.WideShapes Go.ChangeAt Go.RowKit Go.Deep
def asB (zs : List Int) : List UInt8 := zs.map fun n => UInt8.ofNat n.toNat
theorem asB_at (n : Int) (h : 0 ≤ n ∧ n ≤ 255) : ((UInt8.ofNat n.toNat).toNat : Int) = n := by
 rw [UInt8.toNat_ofNat_of_lt' (by show n.toNat < 256; omega)]; omega
theorem bs_of_cells {W : World} {a : Option Addr} {len cap : Nat} {zs : List Int} (hl : len ≤ cap) (hm : cap ≤ maxLen) (hz : zs.length = cap) (hn : a = none → cap = 0)
   (hwz : ∀ n ∈ zs, (Lit.int .u8 n).wf = true) (hcell : ∀ x, a = some x → ∀ i, i < cap → W.cell? (x.add i) = some (.int .u8 (zs.getD i 0))) : Bs W (.slice a len cap) (asB (zs.take len)) := by
 have hlen : (asB (zs.take len)).length = len := by simp [asB]; omega
 refine ⟨a, cap, by rw [hlen], by omega, hm, hn, fun y hy i hi => ?_⟩
 rw [hlen] at hi
 have hc := hcell y hy i (by omega)
 refine ⟨by rw [← add_block y i]; exact World.block_lt_of_cell? W _ hc, ?_⟩
 rw [hc]
 have hi2 : i < zs.length := by omega
 have hg : zs.getD i 0 = zs[i] := by simp [hi2]
 have hw := bd_u8 (hwz zs[i] (List.getElem_mem _))
 rw [← hg] at hw
 have e : (asB (zs.take len))[i]'(by rw [hlen]; exact hi) = UInt8.ofNat (zs.getD i 0).toNat := by
   simp [asB, List.getElem?_eq_getElem (show i < zs.length by omega)]
 rw [e, asB_at _ hw]
theorem bs_of_trod {H : Type} {enc : TypeId × Value → H} {W : World} {a : Option Addr} {len cap : Nat} {d : DataW H} {ps : List MemPlace}
   (h : DataW.Trod enc Tryz.prog W 0 (fun _ => true) true 22 (.slice a len cap) d ps) : ∃ l, Bs W (.slice a len cap) l := by
 obtain ⟨fuel, hf⟩ := h
 rcases open_ints Tryz.underlying22 Tryz.underlying5 (by kernel_rfl) hf with ⟨hcs, _⟩ | ⟨x, l, c, zs, hcs, _, hl, hm, hz, _, hcell, hwz⟩
 · simp [Value.cells] at hcs
   obtain ⟨rfl, rfl, rfl⟩ := hcs
   exact ⟨[], Bs.nil W⟩
 · simp [Value.cells] at hcs
   obtain ⟨rfl, rfl, rfl⟩ := hcs
   have hz' : zs.length = cap := by simpa using hz
   exact ⟨_, bs_of_cells hl hm hz' (fun h => by cases h) hwz (fun y hy i hi => by cases hy; exact hcell i (by omega))⟩
theorem bss_of_trod {H : Type} {enc : TypeId × Value → H} {W : World} {a : Option Addr} {len cap : Nat} {d : DataW H} {ps : List MemPlace}
   (h : DataW.Trod enc Tryz.prog W 0 (fun _ => true) true 23 (.slice a len cap) d ps) : ∃ L, Bss W (.slice a len cap) L := by
 obtain ⟨fuel, hf⟩ := h
 rcases open_int_rows Tryz.underlying23 Tryz.underlying22 Tryz.underlying5 (by kernel_rfl) (by kernel_rfl) hf with ⟨hcs, _⟩ | ⟨x, l, c, A, L, C, Z, hcs, _, hl, hm, _, hrow⟩
 · simp [Value.cells] at hcs
   obtain ⟨rfl, rfl, rfl⟩ := hcs
   exact ⟨[], none, 0, rfl, by simp, by simp [maxLen], fun _ => rfl, fun y hy => by cases hy⟩
 · simp [Value.cells] at hcs
   obtain ⟨rfl, rfl, rfl⟩ := hcs
   refine ⟨(List.range len).map fun r => asB ((Z r).take (L r)), some x, cap, by simp, by simpa using hl, hm, (fun h => by cases h), fun y hy i hi => ?_⟩
   cases hy
   have hi' : i < len := by simpa using hi
   obtain ⟨g1, g2, g3, g4, g5, g6, g7⟩ := hrow i (by omega)
   refine ⟨by rw [← add_block x i]; exact World.block_lt_of_cell? W _ g1, _, g1, ?_⟩
   have := bs_of_cells g2 g3 g4 g6 g5 (fun y hy j hj => (g7 y hy).2 j hj)
   simpa using this
end Go.Proofs.YtonhpmaiagbheaaGreat
