/- EdVerifies, walked. -/
import Derived.Test.YtonhpmaiagbheaaGreatMV6
namespace Go.Proofs.YtonhpmaiagbheaaGreat
open Go.RowKit Go.Deep
set_option linter.unusedSimpArgs false
set_option linter.unusedVariables false

set_option maxHeartbeats 8000000 in
set_option maxRecDepth 100000 in
theorem law_edVerifies (w : World) (v0 : Value) (l0 : List UInt8) (h0 : Bs w v0 l0) (v1 : Value) (l1 : List UInt8) (h1 : Bs w v1 l1) (v2 : Value) (L2 : List (List UInt8)) (h2 : Bss w v2 L2) : Calls Tryz.prog 4 #[v0, v1, v2] w fun e w' => e = .returned (.bool true) ∧ Below w.heap.size w w' := by
  obtain ⟨ad0, n0, c0, rfl, e0, y0, z0, hB0⟩ := h0.shape
  obtain ⟨ad1, n1, c1, rfl, e1, y1, z1, hB1⟩ := h1.shape
  by_cases d0 : n0 ≤ 100
  · have q0 : ¬ (100 : Int) < (n0 : Int) := by omega
    by_cases d1 : n1 ≤ 100
    · have q1 : ¬ (100 : Int) < (n1 : Int) := by omega
      have HL0 : Hid (l0.length = n0) := Lib.hid e0
      have f_s_0 := hB0
      have HF_s_0 := Lib.hid hB0
      have HL1 : Hid (l1.length = n1) := Lib.hid e1
      have f_s_1 := hB1
      have HF_s_1 := Lib.hid hB1
      have HR2 := Lib.hid h2
      have Bw0 := Below.refl w.heap.size w
      have HGS : Hid (∀ wq : World, Below w.heap.size w wq → w.heap.size ≤ wq.heap.size) := Lib.hid fun wq h => h.size
      clear h0 hB0 e0 h1 hB1 e1 h2 d0 d1
      have HN0 : Hid (n0 ≤ 100) := Lib.hid (by omega)
      have HN1 : Hid (n1 ≤ 100) := Lib.hid (by omega)
      go_enter Tryz.func4, Tryz.ntmps4
      go_wp2_with (first
        | (have hgo := Bw0; clear hgo
           go_at_call 5
           refine (all_any _ _ 300 _ (HR2.out.below Bw0 (Nat.le_refl _)) (by decide)).mono ?_
           rintro e w12 ⟨s, rfl, hs1, hs2, kk⟩
           have HS := Lib.hid hs2
           clear hs1 hs2
           replace f_s_0 := zfb f_s_0 kk
           replace f_s_1 := zfb f_s_1 kk
           have Bw1 := zbt HGS Bw0 kk
           clear Bw0 kk
           by_cases hsum : (300 : Int) < (s : Int)))
      focus
        go_wp2_with (go_at_call 6; refine (awake9_any _).mono ?_; rintro e w9 ⟨rfl, hb9⟩)
        go_ret
        exact ⟨rfl, Bw1.trans (hb9.mono (HGS.out _ Bw1))⟩
      have hlen := HS.out (by omega)
      obtain ⟨t0, ht⟩ : ∃ t, t = L2.flatten := ⟨_, rfl⟩
      rw [← ht] at hlen
      have HT := Lib.hid ht.symm
      have HLT : Hid (t0.length ≤ 300) := Lib.hid (by omega)
      have HLN : Hid (2 + L2.length ≤ 2147483647) := Lib.hid (by omega)
      clear hlen HS ht
      obtain ⟨ev, hev⟩ : ∃ e, e = edVer l0 l1 t0 := ⟨_, rfl⟩
      have HEV := Lib.hid hev.symm
      clear hev
      go_wp2_with (first
        | (have hgo := Bw1; clear hgo
           go_at_call 15
           refine (verify_to _ l0 _ l1 _ _ t0 ev _ f_s_0 f_s_1 (HR2.out.below Bw1 (Nat.le_refl _)) HT.out HLN.out (by have h1 := HLT.out; have h2 := HL0.out; have h3 := HN0.out; omega) HEV.out).mono ?_
           rintro e w16 ⟨rfl, kk⟩
           replace f_s_0 := zfb f_s_0 kk
           replace f_s_1 := zfb f_s_1 kk
           have Bw2 := zbt HGS Bw1 kk
           clear Bw1 kk)
        | (have hgo := Bw2; clear hgo
           go_at_call 14
           refine (alikeCat_to _ _ t0 _ (HR2.out.below Bw2 (Nat.le_refl _)) HT.out (by have := HLT.out; omega)).mono ?_
           rintro e w20 ⟨v_s28, rfl, o_s28, kk⟩
           replace f_s_0 := zfb f_s_0 kk
           replace f_s_1 := zfb f_s_1 kk
           have Bw3 := zbt HGS Bw2 kk
           clear Bw2 kk
           have f_s28 := o_s28.bs
           clear o_s28)
        | (have hgo := Bw3; clear hgo
           go_at_call 16
           refine (edVerify_to _ l0 _ l1 _ t0 ev _ f_s_0 f_s_1 f_s28 (by have h1 := HLT.out; have h2 := HL0.out; have h3 := HN0.out; omega) HEV.out).mono ?_
           rintro e w21 ⟨rfl, kk⟩
           replace f_s_0 := zfb f_s_0 kk
           replace f_s_1 := zfb f_s_1 kk
           replace f_s28 := zfb f_s28 kk
           have Bw4 := zbt HGS Bw3 kk
           clear Bw3 kk)
        | (have hgo := Bw4; clear hgo
           go_at_call 6
           refine (awake9_any _).mono ?_
           rintro e w24 ⟨rfl, kk⟩
           replace f_s_0 := zfb f_s_0 kk
           replace f_s_1 := zfb f_s_1 kk
           replace f_s28 := zfb f_s28 kk
           have Bw5 := zbt HGS Bw4 kk
           clear Bw4 kk))
      go_ret
      exact ⟨rfl, Bw5⟩
    · have q1 : (100 : Int) < (n1 : Int) := by omega
      clear h0 hB0 e0 h1 hB1 e1 d0 d1
      go_enter Tryz.func4, Tryz.ntmps4
      go_wp2_with (go_at_call 6; refine (awake9_any _).mono ?_; rintro e w9 ⟨rfl, hb9⟩)
      go_ret
      exact ⟨rfl, hb9⟩
  · have q0 : (100 : Int) < (n0 : Int) := by omega
    clear h0 hB0 e0 h1 hB1 e1 d0
    go_enter Tryz.func4, Tryz.ntmps4
    go_wp2_with (go_at_call 6; refine (awake9_any _).mono ?_; rintro e w9 ⟨rfl, hb9⟩)
    go_ret
    exact ⟨rfl, hb9⟩
end Go.Proofs.YtonhpmaiagbheaaGreat
