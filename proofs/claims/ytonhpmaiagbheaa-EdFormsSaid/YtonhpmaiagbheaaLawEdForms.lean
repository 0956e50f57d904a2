/- EdForms, walked. -/
import Derived.Test.YtonhpmaiagbheaaMM4
namespace Go.Proofs.Ytonhpmaiagbheaa
open Go.RowKit Go.Deep
set_option linter.unusedSimpArgs false
set_option linter.unusedVariables false

set_option maxHeartbeats 8000000 in
set_option maxRecDepth 100000 in
theorem law_edForms (w : World) (v0 : Value) (l0 : List UInt8) (h0 : Bs w v0 l0) (v1 : Value) (l1 : List UInt8) (h1 : Bs w v1 l1) : Calls Try.prog 5 #[v0, v1] w fun e w' => e = .returned (.bool true) ∧ Below w.heap.size w w' := by
  obtain ⟨ad0, n0, c0, rfl, e0, y0, z0, hB0⟩ := h0.shape
  obtain ⟨ad1, n1, c1, rfl, e1, y1, z1, hB1⟩ := h1.shape
  by_cases d0 : n0 = 32
  · have q0 : (n0 : Int) = 32 := by omega
    by_cases d1 : n1 ≤ 300
    · have q1 : ¬ (300 : Int) < (n1 : Int) := by omega
      obtain rfl : n0 = 32 := d0
      have HL0 : Hid (l0.length = 32) := Lib.hid e0
      have f_s_0 := hB0
      have HF_s_0 := Lib.hid hB0
      have HL1 : Hid (l1.length = n1) := Lib.hid e1
      have f_s_1 := hB1
      have HF_s_1 := Lib.hid hB1
      have Bw0 := Below.refl w.heap.size w
      have HGS : Hid (∀ wq : World, Below w.heap.size w wq → w.heap.size ≤ wq.heap.size) := Lib.hid fun wq h => h.size
      clear h0 hB0 e0 h1 hB1 e1  d1
      have HN1 : Hid (n1 ≤ 300) := Lib.hid (by omega)
      have HLT : Hid (l1.length < 2 ^ 29) := Lib.hid (by rw [HL1.out]; omega)
      have HVS := Lib.hid (ver_sig l0 l1)
      have HVM := Lib.hid (ver_more l0 l1)
      have HSL := Lib.hid (edSig_length l0 l1)
      have HPL := Lib.hid (edPub_length l0)
      have HRL := Lib.hid (edRR_length l0 l1)
      have HSE := Lib.hid (edSig_eq l0 l1)
      obtain ⟨pb, hpb⟩ : ∃ p, p = edPub l0 := ⟨_, rfl⟩
      obtain ⟨sg, hsg⟩ : ∃ s, s = edSig l0 l1 := ⟨_, rfl⟩
      obtain ⟨rr, hrr⟩ : ∃ r, r = edRR l0 l1 := ⟨_, rfl⟩
      obtain ⟨X, hX⟩ := nat_var (edS l0 l1)
      rw [← hpb] at HVS HVM HPL
      rw [← hsg] at HVS HSL HSE
      rw [← hrr] at HVM HRL HSE
      rw [← hX] at HVM HSE
      obtain ⟨TL, hTL⟩ : ∃ t, t = rr ++ litB (X + ordL) 32 := ⟨_, rfl⟩
      rw [← hTL] at HVM
      have HMX0 : Hid (mixS rr X 0 = sg) := Lib.hid (by rw [mixS_zero]; exact HSE.out.symm)
      have HMX32 : Hid (mixS rr X 32 = TL) := Lib.hid (by rw [hTL]; exact mixS_end rr X)
      have HTLL : Hid (TL.length = 64) := Lib.hid (by rw [← HMX32.out]; exact mixS_length X 32 HRL.out (by decide))
      have HPB := Lib.hid hpb.symm
      have HSG := Lib.hid hsg.symm
      clear hpb hsg hrr hX hTL HSE
      go_enter Try.func5, Try.ntmps5
      go_wp2_with (first
        | (have hgo := Bw0; clear hgo
           go_at_call 9
           refine (public_to _ l0 pb _ f_s_0 HL0.out HPB.out).mono ?_
           rintro e w11 ⟨v_s26, rfl, o_s26, kk⟩
           replace f_s_0 := zfb f_s_0 kk
           replace f_s_1 := zfb f_s_1 kk
           have Bw1 := zbt HGS Bw0 kk
           clear Bw0 kk
           have f_s26 := o_s26.bs
           clear o_s26)
        | (have hgo := Bw1; clear hgo
           refine wpList_rows1 rfl (.tmp 31) rfl f_s_1 rfl ?_
           intro v_r32 w19 F_r32 kk
           replace f_s_0 := zfb f_s_0 kk
           replace f_s_1 := zfb f_s_1 kk
           replace f_s26 := zfb f_s26 kk
           have Bw2 := zbt HGS Bw1 kk
           clear Bw1 kk)
        | (have hgo := Bw2; clear hgo
           go_at_call 10
           refine (sign_to _ l0 _ _ l1 sg _ f_s_0 HL0.out F_r32 List.flatten_singleton (by simp) HLT.out HSG.out).mono ?_
           rintro e w20 ⟨v_s33, rfl, o_s33, kk⟩
           replace f_s_0 := zfb f_s_0 kk
           replace f_s_1 := zfb f_s_1 kk
           replace f_s26 := zfb f_s26 kk
           have Bw3 := zbt HGS Bw2 kk
           clear Bw2 kk
           have f_s33 := o_s33.bs
           clear o_s33
           obtain ⟨ad_s33, n_s33, c_s33, rfl, he, hy, hz, _⟩ := f_s33.shape
           have hn : n_s33 = 64 := by rw [← he]; exact HSL.out
           subst hn
           clear he hy hz)
        | (have hgo := Bw3; clear hgo
           refine wpList_rows1 rfl (.tmp 38) rfl f_s_1 rfl ?_
           intro v_r39 w28 F_r39 kk
           replace f_s_0 := zfb f_s_0 kk
           replace f_s_1 := zfb f_s_1 kk
           replace f_s26 := zfb f_s26 kk
           replace f_s33 := zfb f_s33 kk
           have Bw4 := zbt HGS Bw3 kk
           clear Bw3 kk)
        | (have hgo := Bw4; clear hgo
           go_at_call 10
           refine (sign_to _ l0 _ _ l1 sg _ f_s_0 HL0.out F_r39 List.flatten_singleton (by simp) HLT.out HSG.out).mono ?_
           rintro e w29 ⟨v_t, rfl, o_t, kk⟩
           obtain ⟨gt, ct, hv, hgt, hgts, _, _⟩ := o_t.open_cons (by rw [HSL.out]; decide)
           rw [HSL.out] at hv
           subst hv
           have a_s26 := Bs.away f_s26 hgt
           have a_s33 := Bs.away f_s33 hgt
           have HCT : Hid (64 ≤ ct) := Lib.hid (owns_cap o_t)
           have HGT : Hid (w.heap.size ≤ gt) := Lib.hid (Nat.le_trans (HGS.out _ Bw4) hgt)
           replace o_t := o_t.lower (HGS.out _ Bw4)
           clear hgt hgts F_r39
           replace f_s_0 := zfb f_s_0 kk
           replace f_s_1 := zfb f_s_1 kk
           replace f_s26 := zfb f_s26 kk
           replace f_s33 := zfb f_s33 kk
           have Bw5 := zbt HGS Bw4 kk
           clear Bw4 kk)
        | (have hgo := Bw5; clear hgo
           refine wpList_value_given rfl (.string ⟨(sg).toArray⟩) (by rw [exec_mkOp]; exact exec_str _ _ _ rfl f_s33) ?_
           have Bw6 := Bw5
           clear Bw5)
        | (have hgo := Bw6; clear hgo
           refine wpList_value_given rfl (.string ⟨(sg).toArray⟩) (by rw [exec_mkOp]; exact exec_str _ _ _ rfl o_t.bs) ?_
           have Bw7 := Bw6
           clear Bw6)
        | (have hgo := Bw7; clear hgo
           refine wpList_value_given rfl (.bool false) (by rw [exec_mkOp]; exact exec_neqstr _ _ _ _ _ rfl rfl) ?_
           have Bw8 := Bw7
           clear Bw7)
        | (have hgo := Bw8; clear hgo
           have hlt_ := (World.ownsRow.lt o_t _ rfl).2
           go_at_call 15
           refine (refOrderO_any _).mono ?_
           rintro e w57 ⟨v_l, rfl, o_l, kk⟩
           have a_l := Owns.away o_l hlt_
           have f_l := o_l.bs
           clear hlt_ o_l
           replace f_s_0 := zfb f_s_0 kk
           replace f_s_1 := zfb f_s_1 kk
           replace f_s26 := zfb f_s26 kk
           replace f_s33 := zfb f_s33 kk
           replace o_t := Owns.belowJ o_t kk
           have Bw9 := zbt HGS Bw8 kk
           clear Bw8 kk))
      rw [← HMX0.out] at o_t
      go_loopw [12, 13] (fun cc ii wq => ∃ i c : Nat, i ≤ 32 ∧ Hid (c = cyA X ordL i) ∧ cc = .int .i64 (c : Int) ∧ ii = .int .i64 (i : Int) ∧ Owns wq w.heap.size (.slice (some ⟨gt, 0, none⟩) 64 ct) (mixS rr X i) ∧ Bs wq v_s26 pb ∧ Bs wq (.slice ad_s33 64 c_s33) sg ∧ Bs wq v_l (litB ordL 32) ∧ Below w.heap.size w wq) (fun _ ii _ => 32 - (intOf ii).toNat)
      case atStart => exact ⟨0, 0, Nat.zero_le _, Lib.hid (cyA_zero X ordL).symm, rfl, rfl, o_t, f_s26, f_s33, f_l, Bw9⟩
      case round =>
        clear o_t f_s26 f_s33 f_l Bw9 f_s_0 f_s_1
        obtain ⟨i, c, hi, HC, rfl, rfl, o_t, f_p, f_s, f_l, Bw⟩ := hrel
        by_cases hlt : i < 32
        · have hiI : 0 ≤ (i : Int) ∧ (i : Int) < 32 := by omega
          have hcs := cyA_step X ordL i
          have hcle := cyA_le X ordL i
          have hcl2 := cyA_le X ordL (i + 1)
          have hsl := byteN_lt (X + ordL) i
          rw [← HC.out] at hcs hcle
          have hml := mixS_length X i HRL.out hi
          have hcx := o_t.cellAt hml.symm (32 + i) (by rw [hml]; omega)
          rw [mixS_get X i HRL.out hlt] at hcx
          obtain ⟨b2, o2, c2, rfl, _, _, _, hcy⟩ := f_l.open_n (n := 32) (litB_length ordL 32) (by decide)
          replace hcy := hcy i (by rw [litB_length]; exact hlt)
          rw [litB_at, UInt8.toNat_ofNat', show ordL / 256 ^ i % 2 ^ 8 = byteN ordL i from rfl] at hcy
          obtain ⟨x, hx⟩ := nat_var (byteN X i)
          have hxl : x < 256 := by rw [hx]; exact byteN_lt X i
          obtain ⟨y, hy⟩ := nat_var (byteN ordL i)
          have hyl : y < 256 := by rw [hy]; exact byteN_lt ordL i
          rw [← hx] at hcx hcs
          rw [← hy] at hcy hcs
          obtain ⟨v, hv⟩ := nat_var (x + y + c)
          obtain ⟨z, hz⟩ := nat_var (v % 256)
          obtain ⟨q, hq⟩ := nat_var (v / 256)
          obtain ⟨xy, hxy⟩ := nat_var (x + y)
          have hz2 : z = byteN (X + ordL) i := by omega
          have hq2 : q = cyA X ordL (i + 1) := by omega
          have HQ2 := Lib.hid hq2
          have hst := mixS_set X i z HRL.out hlt hz2
          obtain ⟨j, hj⟩ := nat_var (32 + i)
          rw [← hj] at hcx hst
          have HSET := Lib.hid hst
          have hwj : IntKind.i64.wrap (32 + (i : Int)) = (j : Int) := by rw [IntWalk.i64_in _ (by omega)]; omega
          have hjI : 0 ≤ (j : Int) ∧ (j : Int) < 64 := by omega
          have HJL : Hid (j < (mixS rr X i).length) := Lib.hid (by rw [hml]; omega)
          have HML := Lib.hid hml
          have hwx : IntKind.i64.wrap (x : Int) = (x : Int) := IntWalk.i64_in _ (by omega)
          have hwy : IntKind.i64.wrap (y : Int) = (y : Int) := IntWalk.i64_in _ (by omega)
          have hwxy : IntKind.i64.wrap ((x : Int) + (y : Int)) = (xy : Int) := by rw [IntWalk.i64_in _ (by omega)]; omega
          have hwv : IntKind.i64.wrap ((xy : Int) + (c : Int)) = (v : Int) := by rw [IntWalk.i64_in _ (by omega)]; omega
          have hwz : IntKind.u8.wrap (v : Int) = (z : Int) := by rw [IntKind.wrap_u8]; omega
          have HZL : Hid (z < 256) := Lib.hid (by omega)
          have HQ := Lib.hid hq
          have HVL : Hid (v < 1000000000) := Lib.hid (by omega)
          have HIL := Lib.hid hlt
          clear hcs hcle hcl2 hsl hx hy hv hz hq hxy hz2 hq2 hxl hyl hlt HC hml hst hj
          go_wp2
          go_region
          replace o_t := o_t.drew
          replace f_p := Bs.drew f_p
          replace f_s := Bs.drew f_s
          replace f_l := Bs.drew f_l
          replace Bw := Bw.drew
          go_wp2_with (first
            | (refine wpList_store_byte rfl (.tmp 89) (.tmp 88) rfl j z o_t HML.out.symm HCT.out HJL.out rfl rfl HZL.out ?_
               intro w7 o7 g7
               rw [HSET.out] at o7
               replace f_p := gb_bs f_p g7 a_s26
               replace f_s := gb_bs f_s g7 a_s33
               replace f_l := gb_bs f_l g7 a_l
               replace Bw := Bw.grown g7 (HGS.out _ Bw) (by intro k hk; cases hk; exact HGT.out)
               clear o_t g7)
            | refine wpList_shrI8 rfl (.tmp 90) (.const (.int .u64 8)) rfl rfl rfl HQ.out HVL.out ?_)
          go_roundw
          case rel => exact ⟨i + 1, q, by have := HIL.out; omega, HQ2, rfl, by have := HIL.out; go_num, o7, f_p, f_s, f_l, Bw⟩
          case measure => (have := HIL.out; simp [intOf]; try omega)
        · obtain rfl : i = 32 := by omega
          rw [HMX32.out] at o_t
          have f_s26 := f_p
          have f_s33 := f_s
          have f_t := o_t.bs
          have f_s_1 := HF_s_1.out.below Bw (Nat.le_refl _)
          have Bw60 := Bw
          clear HC o_t f_p f_s f_l Bw
          go_wp2_with (first
            | (have hgo := Bw60; clear hgo
               refine wpList_rows1 rfl (.tmp 94) rfl f_s_1 rfl ?_
               intro v_r95 w604 F_r95 kk
               replace f_s26 := zfb f_s26 kk
               replace f_s33 := zfb f_s33 kk
               replace f_t := zfb f_t kk
               replace f_s_1 := zfb f_s_1 kk
               have Bw61 := zbt HGS Bw60 kk
               clear Bw60 kk)
            | (have hgo := Bw61; clear hgo
               go_at_call 12
               refine (verify_to _ pb _ TL _ _ l1 3 _ f_s26 f_t F_r95 List.flatten_singleton (by simp) (by have h1 := HPL.out; have h2 := HL1.out; have h3 := HN1.out; omega) HVM.out).mono ?_
               rintro e w605 ⟨rfl, kk⟩
               replace f_s26 := zfb f_s26 kk
               replace f_s33 := zfb f_s33 kk
               replace f_t := zfb f_t kk
               replace f_s_1 := zfb f_s_1 kk
               have Bw62 := zbt HGS Bw61 kk
               clear Bw61 kk)
            | (have hgo := Bw62; clear hgo
               refine wpList_rows1g rfl (.tmp 101) rfl f_s_1 rfl ?_
               intro v_r102 w611 F_r102 kk
               replace f_s26 := zfb f_s26 kk
               replace f_s33 := zfb f_s33 kk
               replace f_t := zfb f_t kk
               replace f_s_1 := zfb f_s_1 kk
               have Bw63 := zbt HGS Bw62 kk
               clear Bw62 kk)
            | (have hgo := Bw63; clear hgo
               go_at_call 12
               refine (verify_to _ pb _ sg _ _ l1 0 _ f_s26 f_s33 F_r102 List.flatten_singleton (by simp) (by have h1 := HPL.out; have h2 := HL1.out; have h3 := HN1.out; omega) HVS.out).mono ?_
               rintro e w612 ⟨rfl, kk⟩
               replace f_s26 := zfb f_s26 kk
               replace f_s33 := zfb f_s33 kk
               replace f_t := zfb f_t kk
               replace f_s_1 := zfb f_s_1 kk
               have Bw64 := zbt HGS Bw63 kk
               clear Bw63 kk)
            | (have hgo := Bw64; clear hgo
               go_at_call 8
               refine (awake9_any _).mono ?_
               rintro e w616 ⟨rfl, kk⟩
               replace f_s26 := zfb f_s26 kk
               replace f_s33 := zfb f_s33 kk
               replace f_t := zfb f_t kk
               replace f_s_1 := zfb f_s_1 kk
               have Bw65 := zbt HGS Bw64 kk
               clear Bw64 kk))
          go_ret
          exact ⟨rfl, Bw65⟩
    · have q1 : (300 : Int) < (n1 : Int) := by omega
      clear h0 hB0 e0 h1 hB1 e1 d0 d1
      go_enter Try.func5, Try.ntmps5
      go_wp2_with (go_at_call 8; refine (awake9_any _).mono ?_; rintro e w9 ⟨rfl, hb9⟩)
      go_ret
      exact ⟨rfl, hb9⟩
  · have q0 : ¬ (n0 : Int) = 32 := by omega
    clear h0 hB0 e0 h1 hB1 e1 d0
    go_enter Try.func5, Try.ntmps5
    go_wp2_with (go_at_call 8; refine (awake9_any _).mono ?_; rintro e w9 ⟨rfl, hb9⟩)
    go_ret
    exact ⟨rfl, hb9⟩
end Go.Proofs.Ytonhpmaiagbheaa
