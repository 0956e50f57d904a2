/- EdSmall, walked. -/
import Derived.Test.YtonhpmaiagbheaaMM4
namespace Go.Proofs.Ytonhpmaiagbheaa
open Go.RowKit Go.Deep
set_option linter.unusedSimpArgs false
set_option linter.unusedVariables false

set_option maxHeartbeats 8000000 in
set_option maxRecDepth 100000 in
theorem law_edSmall (w : World) (v0 : Value) (l0 : List UInt8) (h0 : Bs w v0 l0) (v1 : Value) (l1 : List UInt8) (h1 : Bs w v1 l1) (x2 : Int) (w2 : (Lit.int .i64 x2).wf = true) : Calls Try.prog 4 #[v0, v1, .int .i64 x2] w fun e w' => e = .returned (.bool true) ∧ Below w.heap.size w w' := by
  obtain ⟨ad0, n0, c0, rfl, e0, y0, z0, hB0⟩ := h0.shape
  obtain ⟨ad1, n1, c1, rfl, e1, y1, z1, hB1⟩ := h1.shape
  by_cases d0 : n0 ≤ 100
  · have q0 : ¬ (100 : Int) < (n0 : Int) := by omega
    by_cases d1 : n1 ≤ 300
    · have q1 : ¬ (300 : Int) < (n1 : Int) := by omega
      have HL0 : Hid (l0.length = n0) := Lib.hid e0
      have f_s_0 := hB0
      have HF_s_0 := Lib.hid hB0
      have HL1 : Hid (l1.length = n1) := Lib.hid e1
      have f_s_1 := hB1
      have HF_s_1 := Lib.hid hB1
      have Bw0 := Below.refl w.heap.size w
      have HGS : Hid (∀ wq : World, Below w.heap.size w wq → w.heap.size ≤ wq.heap.size) := Lib.hid fun wq h => h.size
      clear h0 hB0 e0 h1 hB1 e1  d0 d1
      obtain ⟨hx1, hx2⟩ := bd_i64 w2
      have HN0 : Hid (n0 ≤ 100) := Lib.hid (by omega)
      have HN1 : Hid (n1 ≤ 300) := Lib.hid (by omega)
      obtain ⟨R, hR⟩ : ∃ R : Nat, x2 % 4 = (R : Int) := ⟨(x2 % 4).toNat, by omega⟩
      have hR4 : R < 4 := by omega
      have HRD := Lib.hid fun w => round4_to x2 R w hx1 hx2 hR
      clear hR hx1 hx2 w2
      rcases (show R = 0 ∨ R = 1 ∨ R = 2 ∨ R = 3 by omega) with rfl | rfl | rfl | rfl
      · clear hR4
        obtain ⟨YL, hYL⟩ : ∃ YL, YL = (List.replicate 32 (0 : UInt8)).set 0 (UInt8.ofNat 1) := ⟨_, rfl⟩
        have HV := Lib.hid (ver_y0 l0 l1)
        rw [← hYL] at HV
        have HYL := Lib.hid hYL.symm
        clear hYL
        have HLY : Hid (YL.length = 32) := Lib.hid (by rw [← HYL.out]; rfl)
        go_enter Try.func4, Try.ntmps4
        go_wp2_with (first
          | (have hgo := Bw0; clear hgo
             refine wpList_make32 rfl rfl ?_
             intro gc w10 lk o_c kk
             have HGB : Hid (w.heap.size ≤ gc) := Lib.hid (Nat.le_trans (HGS.out _ Bw0) lk)
             clear lk
             replace f_s_0 := zfb f_s_0 kk
             replace f_s_1 := zfb f_s_1 kk
             have Bw1 := zbt HGS Bw0 kk
             clear Bw0 kk)
          | (have hgo := Bw1; clear hgo
             go_at_call 14
             refine (HRD.out _).mono ?_
             rintro e w12 ⟨rfl, kk⟩
             replace f_s_0 := zfb f_s_0 kk
             replace f_s_1 := zfb f_s_1 kk
             replace o_c := Owns.belowJ o_c kk
             have Bw2 := zbt HGS Bw1 kk
             clear Bw1 kk)
          | (have hgo := Bw2; clear hgo
             refine wpList_store_byte rfl (.tmp 26) (.const (.int .u8 1)) rfl 0 1 o_c rfl (Nat.le_refl _) (by show 0 < 32; decide) rfl rfl (by decide) ?_
             intro w13 o_d gk
             replace f_s_0 := HF_s_0.out.below (Bw2.grown gk (HGS.out _ Bw2) (by intro k hk; cases hk; exact HGB.out)) (Nat.le_refl _)
             replace f_s_1 := HF_s_1.out.below (Bw2.grown gk (HGS.out _ Bw2) (by intro k hk; cases hk; exact HGB.out)) (Nat.le_refl _)
             have Bw3 := Bw2.grown gk (HGS.out _ Bw2) (by intro k hk; cases hk; exact HGB.out)
             rw [HYL.out] at o_d
             have f_y := o_d.bs
             clear Bw2 gk o_c o_d)
          | (have hgo := Bw3; clear hgo
             refine wpList_rows1 rfl (.tmp 57) rfl f_s_1 rfl ?_
             intro v_r58 w17 F_r58 kk
             replace f_s_0 := zfb f_s_0 kk
             replace f_s_1 := zfb f_s_1 kk
             replace f_y := zfb f_y kk
             have Bw4 := zbt HGS Bw3 kk
             clear Bw3 kk)
          | (have hgo := Bw4; clear hgo
             go_at_call 12
             refine (verify_to _ YL _ l0 _ _ l1 12 _ f_y f_s_0 F_r58 List.flatten_singleton (by simp) (by have h1 := HLY.out; have h2 := HL1.out; have h3 := HN1.out; omega) HV.out).mono ?_
             rintro e w18 ⟨rfl, kk⟩
             replace f_s_0 := zfb f_s_0 kk
             replace f_s_1 := zfb f_s_1 kk
             replace f_y := zfb f_y kk
             have Bw5 := zbt HGS Bw4 kk
             clear Bw4 kk)
          | (have hgo := Bw5; clear hgo
             go_at_call 8
             refine (awake9_any _).mono ?_
             rintro e w22 ⟨rfl, kk⟩
             replace f_s_0 := zfb f_s_0 kk
             replace f_s_1 := zfb f_s_1 kk
             replace f_y := zfb f_y kk
             have Bw6 := zbt HGS Bw5 kk
             clear Bw5 kk))
        go_ret
        exact ⟨rfl, Bw6⟩
      · clear hR4
        obtain ⟨YL, hYL⟩ : ∃ YL, YL = ((fillL 32).set 0 (UInt8.ofNat 236)).set 31 (UInt8.ofNat 127) := ⟨_, rfl⟩
        have HV := Lib.hid (ver_y1 l0 l1)
        rw [← hYL] at HV
        have HYL := Lib.hid hYL.symm
        clear hYL
        have HLY : Hid (YL.length = 32) := Lib.hid (by rw [← HYL.out]; rfl)
        go_enter Try.func4, Try.ntmps4
        go_wp2_with (first
          | (have hgo := Bw0; clear hgo
             refine wpList_make32 rfl rfl ?_
             intro gc w10 lk o_c kk
             have HGB : Hid (w.heap.size ≤ gc) := Lib.hid (Nat.le_trans (HGS.out _ Bw0) lk)
             clear lk
             replace f_s_0 := zfb f_s_0 kk
             replace f_s_1 := zfb f_s_1 kk
             have Bw1 := zbt HGS Bw0 kk
             clear Bw0 kk)
          | (have hgo := Bw1; clear hgo
             go_at_call 14
             refine (HRD.out _).mono ?_
             rintro e w12 ⟨rfl, kk⟩
             replace f_s_0 := zfb f_s_0 kk
             replace f_s_1 := zfb f_s_1 kk
             replace o_c := Owns.belowJ o_c kk
             have Bw2 := zbt HGS Bw1 kk
             clear Bw1 kk))
        go_loopw [9] (fun kk wr => ∃ k : Nat, k ≤ 32 ∧ kk = .int .i64 (k : Int) ∧ Owns wr gc (.slice (some ⟨gc, 0, none⟩) 32 32) (fillL k) ∧ Below w.heap.size w wr) (fun kk _ => 32 - (intOf kk).toNat)
        case atStart => exact ⟨0, Nat.zero_le _, rfl, o_c, Bw2⟩
        case round =>
          clear o_c Bw2 f_s_0 f_s_1
          obtain ⟨k, hk, rfl, o_c, Bw⟩ := hrel
          by_cases hlt : k < 32
          · have hkI : 0 ≤ (k : Int) ∧ (k : Int) < 32 := by omega
            have hin : IntKind.i64.wrap ((k : Int) + 1) = (k : Int) + 1 := IntWalk.i64_in _ (by omega)
            have HKN := Lib.hid (fillL_len k hk)
            have HKL := Lib.hid hlt
            have HST := Lib.hid (fillL_set k hlt)
            go_wp2_with (have hgo := Bw; clear hgo
                         refine wpList_store_byte rfl (.tmp 35) (.const (.int .u8 255)) rfl k 255 o_c HKN.out.symm (Nat.le_refl _) (by rw [HKN.out]; exact HKL.out) rfl rfl (by decide) ?_
                         intro w50 o_d gk
                         rw [HST.out] at o_d
                         have Bw50 := Bw.grown gk (HGS.out _ Bw) (by intro k hk; cases hk; exact HGB.out)
                         clear Bw gk o_c)
            go_roundw
            case rel => exact ⟨k + 1, by omega, by go_num, o_d, Bw50⟩
            case measure => (simp [intOf]; try omega)
          · obtain rfl : k = 32 := by omega
            clear hlt hk
            have HFL := Lib.hid (fillL_len 32 (Nat.le_refl _))
            have f_s_0 := HF_s_0.out.below Bw (Nat.le_refl _)
            have f_s_1 := HF_s_1.out.below Bw (Nat.le_refl _)
            have Bw60 := Bw
            clear Bw
            go_wp2_with (first
              | (have hgo := Bw60; clear hgo
                 refine wpList_store_byte rfl (.tmp 37) (.const (.int .u8 236)) rfl 0 236 o_c HFL.out.symm (Nat.le_refl _) (by rw [HFL.out]; decide) rfl rfl (by decide) ?_
                 intro w601 o_d gk
                 replace f_s_0 := HF_s_0.out.below (Bw60.grown gk (HGS.out _ Bw60) (by intro k hk; cases hk; exact HGB.out)) (Nat.le_refl _)
                 replace f_s_1 := HF_s_1.out.below (Bw60.grown gk (HGS.out _ Bw60) (by intro k hk; cases hk; exact HGB.out)) (Nat.le_refl _)
                 have Bw61 := Bw60.grown gk (HGS.out _ Bw60) (by intro k hk; cases hk; exact HGB.out)
                 clear Bw60 gk o_c)
              | (have hgo := Bw61; clear hgo
                 refine wpList_store_byte rfl (.tmp 39) (.const (.int .u8 127)) rfl 31 127 o_d (by rw [List.length_set]; exact HFL.out.symm) (Nat.le_refl _) (by rw [List.length_set, HFL.out]; decide) rfl rfl (by decide) ?_
                 intro w602 o_e gk
                 replace f_s_0 := HF_s_0.out.below (Bw61.grown gk (HGS.out _ Bw61) (by intro k hk; cases hk; exact HGB.out)) (Nat.le_refl _)
                 replace f_s_1 := HF_s_1.out.below (Bw61.grown gk (HGS.out _ Bw61) (by intro k hk; cases hk; exact HGB.out)) (Nat.le_refl _)
                 have Bw62 := Bw61.grown gk (HGS.out _ Bw61) (by intro k hk; cases hk; exact HGB.out)
                 rw [HYL.out] at o_e
                 have f_y := o_e.bs
                 clear Bw61 gk o_d o_e)
              | (have hgo := Bw62; clear hgo
                 refine wpList_rows1 rfl (.tmp 57) rfl f_s_1 rfl ?_
                 intro v_r58 w606 F_r58 kk
                 replace f_s_0 := zfb f_s_0 kk
                 replace f_s_1 := zfb f_s_1 kk
                 replace f_y := zfb f_y kk
                 have Bw63 := zbt HGS Bw62 kk
                 clear Bw62 kk)
              | (have hgo := Bw63; clear hgo
                 go_at_call 12
                 refine (verify_to _ YL _ l0 _ _ l1 12 _ f_y f_s_0 F_r58 List.flatten_singleton (by simp) (by have h1 := HLY.out; have h2 := HL1.out; have h3 := HN1.out; omega) HV.out).mono ?_
                 rintro e w607 ⟨rfl, kk⟩
                 replace f_s_0 := zfb f_s_0 kk
                 replace f_s_1 := zfb f_s_1 kk
                 replace f_y := zfb f_y kk
                 have Bw64 := zbt HGS Bw63 kk
                 clear Bw63 kk)
              | (have hgo := Bw64; clear hgo
                 go_at_call 8
                 refine (awake9_any _).mono ?_
                 rintro e w611 ⟨rfl, kk⟩
                 replace f_s_0 := zfb f_s_0 kk
                 replace f_s_1 := zfb f_s_1 kk
                 replace f_y := zfb f_y kk
                 have Bw65 := zbt HGS Bw64 kk
                 clear Bw64 kk))
            go_ret
            exact ⟨rfl, Bw65⟩
      · clear hR4
        obtain ⟨YL, hYL⟩ : ∃ YL, YL = ((fillL 32).set 0 (UInt8.ofNat 237)).set 31 (UInt8.ofNat 127) := ⟨_, rfl⟩
        have HV := Lib.hid (ver_y2 l0 l1)
        rw [← hYL] at HV
        have HYL := Lib.hid hYL.symm
        clear hYL
        have HLY : Hid (YL.length = 32) := Lib.hid (by rw [← HYL.out]; rfl)
        go_enter Try.func4, Try.ntmps4
        go_wp2_with (first
          | (have hgo := Bw0; clear hgo
             refine wpList_make32 rfl rfl ?_
             intro gc w10 lk o_c kk
             have HGB : Hid (w.heap.size ≤ gc) := Lib.hid (Nat.le_trans (HGS.out _ Bw0) lk)
             clear lk
             replace f_s_0 := zfb f_s_0 kk
             replace f_s_1 := zfb f_s_1 kk
             have Bw1 := zbt HGS Bw0 kk
             clear Bw0 kk)
          | (have hgo := Bw1; clear hgo
             go_at_call 14
             refine (HRD.out _).mono ?_
             rintro e w12 ⟨rfl, kk⟩
             replace f_s_0 := zfb f_s_0 kk
             replace f_s_1 := zfb f_s_1 kk
             replace o_c := Owns.belowJ o_c kk
             have Bw2 := zbt HGS Bw1 kk
             clear Bw1 kk))
        go_loopw [10] (fun kk wr => ∃ k : Nat, k ≤ 32 ∧ kk = .int .i64 (k : Int) ∧ Owns wr gc (.slice (some ⟨gc, 0, none⟩) 32 32) (fillL k) ∧ Below w.heap.size w wr) (fun kk _ => 32 - (intOf kk).toNat)
        case atStart => exact ⟨0, Nat.zero_le _, rfl, o_c, Bw2⟩
        case round =>
          clear o_c Bw2 f_s_0 f_s_1
          obtain ⟨k, hk, rfl, o_c, Bw⟩ := hrel
          by_cases hlt : k < 32
          · have hkI : 0 ≤ (k : Int) ∧ (k : Int) < 32 := by omega
            have hin : IntKind.i64.wrap ((k : Int) + 1) = (k : Int) + 1 := IntWalk.i64_in _ (by omega)
            have HKN := Lib.hid (fillL_len k hk)
            have HKL := Lib.hid hlt
            have HST := Lib.hid (fillL_set k hlt)
            go_wp2_with (have hgo := Bw; clear hgo
                         refine wpList_store_byte rfl (.tmp 48) (.const (.int .u8 255)) rfl k 255 o_c HKN.out.symm (Nat.le_refl _) (by rw [HKN.out]; exact HKL.out) rfl rfl (by decide) ?_
                         intro w50 o_d gk
                         rw [HST.out] at o_d
                         have Bw50 := Bw.grown gk (HGS.out _ Bw) (by intro k hk; cases hk; exact HGB.out)
                         clear Bw gk o_c)
            go_roundw
            case rel => exact ⟨k + 1, by omega, by go_num, o_d, Bw50⟩
            case measure => (simp [intOf]; try omega)
          · obtain rfl : k = 32 := by omega
            clear hlt hk
            have HFL := Lib.hid (fillL_len 32 (Nat.le_refl _))
            have f_s_0 := HF_s_0.out.below Bw (Nat.le_refl _)
            have f_s_1 := HF_s_1.out.below Bw (Nat.le_refl _)
            have Bw60 := Bw
            clear Bw
            go_wp2_with (first
              | (have hgo := Bw60; clear hgo
                 refine wpList_store_byte rfl (.tmp 50) (.const (.int .u8 237)) rfl 0 237 o_c HFL.out.symm (Nat.le_refl _) (by rw [HFL.out]; decide) rfl rfl (by decide) ?_
                 intro w601 o_d gk
                 replace f_s_0 := HF_s_0.out.below (Bw60.grown gk (HGS.out _ Bw60) (by intro k hk; cases hk; exact HGB.out)) (Nat.le_refl _)
                 replace f_s_1 := HF_s_1.out.below (Bw60.grown gk (HGS.out _ Bw60) (by intro k hk; cases hk; exact HGB.out)) (Nat.le_refl _)
                 have Bw61 := Bw60.grown gk (HGS.out _ Bw60) (by intro k hk; cases hk; exact HGB.out)
                 clear Bw60 gk o_c)
              | (have hgo := Bw61; clear hgo
                 refine wpList_store_byte rfl (.tmp 52) (.const (.int .u8 127)) rfl 31 127 o_d (by rw [List.length_set]; exact HFL.out.symm) (Nat.le_refl _) (by rw [List.length_set, HFL.out]; decide) rfl rfl (by decide) ?_
                 intro w602 o_e gk
                 replace f_s_0 := HF_s_0.out.below (Bw61.grown gk (HGS.out _ Bw61) (by intro k hk; cases hk; exact HGB.out)) (Nat.le_refl _)
                 replace f_s_1 := HF_s_1.out.below (Bw61.grown gk (HGS.out _ Bw61) (by intro k hk; cases hk; exact HGB.out)) (Nat.le_refl _)
                 have Bw62 := Bw61.grown gk (HGS.out _ Bw61) (by intro k hk; cases hk; exact HGB.out)
                 rw [HYL.out] at o_e
                 have f_y := o_e.bs
                 clear Bw61 gk o_d o_e)
              | (have hgo := Bw62; clear hgo
                 refine wpList_rows1 rfl (.tmp 57) rfl f_s_1 rfl ?_
                 intro v_r58 w606 F_r58 kk
                 replace f_s_0 := zfb f_s_0 kk
                 replace f_s_1 := zfb f_s_1 kk
                 replace f_y := zfb f_y kk
                 have Bw63 := zbt HGS Bw62 kk
                 clear Bw62 kk)
              | (have hgo := Bw63; clear hgo
                 go_at_call 12
                 refine (verify_to _ YL _ l0 _ _ l1 12 _ f_y f_s_0 F_r58 List.flatten_singleton (by simp) (by have h1 := HLY.out; have h2 := HL1.out; have h3 := HN1.out; omega) HV.out).mono ?_
                 rintro e w607 ⟨rfl, kk⟩
                 replace f_s_0 := zfb f_s_0 kk
                 replace f_s_1 := zfb f_s_1 kk
                 replace f_y := zfb f_y kk
                 have Bw64 := zbt HGS Bw63 kk
                 clear Bw63 kk)
              | (have hgo := Bw64; clear hgo
                 go_at_call 8
                 refine (awake9_any _).mono ?_
                 rintro e w611 ⟨rfl, kk⟩
                 replace f_s_0 := zfb f_s_0 kk
                 replace f_s_1 := zfb f_s_1 kk
                 replace f_y := zfb f_y kk
                 have Bw65 := zbt HGS Bw64 kk
                 clear Bw64 kk))
            go_ret
            exact ⟨rfl, Bw65⟩
      · clear hR4
        obtain ⟨YL, hYL⟩ : ∃ YL, YL = List.replicate 32 (0 : UInt8) := ⟨_, rfl⟩
        have HV := Lib.hid (ver_y3 l0 l1)
        rw [← hYL] at HV
        have HYL := Lib.hid hYL.symm
        clear hYL
        have HLY : Hid (YL.length = 32) := Lib.hid (by rw [← HYL.out]; rfl)
        go_enter Try.func4, Try.ntmps4
        go_wp2_with (first
          | (have hgo := Bw0; clear hgo
             refine wpList_make32 rfl rfl ?_
             intro gc w10 lk o_c kk
             have HGB : Hid (w.heap.size ≤ gc) := Lib.hid (Nat.le_trans (HGS.out _ Bw0) lk)
             clear lk
             replace f_s_0 := zfb f_s_0 kk
             replace f_s_1 := zfb f_s_1 kk
             have Bw1 := zbt HGS Bw0 kk
             clear Bw0 kk)
          | (have hgo := Bw1; clear hgo
             go_at_call 14
             refine (HRD.out _).mono ?_
             rintro e w12 ⟨rfl, kk⟩
             replace f_s_0 := zfb f_s_0 kk
             replace f_s_1 := zfb f_s_1 kk
             replace o_c := Owns.belowJ o_c kk
             have Bw2 := zbt HGS Bw1 kk
             clear Bw1 kk
             rw [HYL.out] at o_c
             have f_y := o_c.bs
             clear o_c)
          | (have hgo := Bw2; clear hgo
             refine wpList_rows1 rfl (.tmp 57) rfl f_s_1 rfl ?_
             intro v_r58 w16 F_r58 kk
             replace f_s_0 := zfb f_s_0 kk
             replace f_s_1 := zfb f_s_1 kk
             replace f_y := zfb f_y kk
             have Bw3 := zbt HGS Bw2 kk
             clear Bw2 kk)
          | (have hgo := Bw3; clear hgo
             go_at_call 12
             refine (verify_to _ YL _ l0 _ _ l1 12 _ f_y f_s_0 F_r58 List.flatten_singleton (by simp) (by have h1 := HLY.out; have h2 := HL1.out; have h3 := HN1.out; omega) HV.out).mono ?_
             rintro e w17 ⟨rfl, kk⟩
             replace f_s_0 := zfb f_s_0 kk
             replace f_s_1 := zfb f_s_1 kk
             replace f_y := zfb f_y kk
             have Bw4 := zbt HGS Bw3 kk
             clear Bw3 kk)
          | (have hgo := Bw4; clear hgo
             go_at_call 8
             refine (awake9_any _).mono ?_
             rintro e w21 ⟨rfl, kk⟩
             replace f_s_0 := zfb f_s_0 kk
             replace f_s_1 := zfb f_s_1 kk
             replace f_y := zfb f_y kk
             have Bw5 := zbt HGS Bw4 kk
             clear Bw4 kk))
        go_ret
        exact ⟨rfl, Bw5⟩
    · have q1 : (300 : Int) < (n1 : Int) := by omega
      clear h0 hB0 e0 h1 hB1 e1 d0 d1
      go_enter Try.func4, Try.ntmps4
      go_wp2_with (go_at_call 8; refine (awake9_any _).mono ?_; rintro e w9 ⟨rfl, hb9⟩)
      go_ret
      exact ⟨rfl, hb9⟩
  · have q0 : (100 : Int) < (n0 : Int) := by omega
    clear h0 hB0 e0 h1 hB1 e1 d0
    go_enter Try.func4, Try.ntmps4
    go_wp2_with (go_at_call 8; refine (awake9_any _).mono ?_; rintro e w9 ⟨rfl, hb9⟩)
    go_ret
    exact ⟨rfl, hb9⟩
end Go.Proofs.Ytonhpmaiagbheaa
