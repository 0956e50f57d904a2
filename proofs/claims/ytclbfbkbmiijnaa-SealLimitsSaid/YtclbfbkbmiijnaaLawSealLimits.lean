/- SealLimits, walked. -/
import Derived.Test.YtclbfbkbmiijnaaMM3
namespace Go.Proofs.Ytclbfbkbmiijnaa
open Go.RowKit Go.Deep
set_option linter.unusedSimpArgs false
set_option linter.unusedVariables false

set_option maxHeartbeats 8000000 in
set_option maxRecDepth 100000 in
theorem round32_to (k : Int) (R : Nat) (w : World) (h0 : -9223372036854775808 ≤ k) (h1 : k ≤ 9223372036854775807) (h : k % 32 = (R : Int)) : Calls Try.prog 15 #[.int .i64 k, .int .i64 32] w fun e w' => e = .returned (.int .i64 (R : Int)) ∧ Below w.heap.size w w' := by
  refine (round_any k 32 w h0 h1 (by decide) (by decide)).mono ?_
  rintro e w' ⟨rfl, rfl⟩
  exact ⟨by rw [h], Below.refl _ _⟩
set_option maxHeartbeats 8000000 in
set_option maxRecDepth 100000 in
theorem law_sealLimits (w : World) (x0 : Int) (w0 : (Lit.int .i64 x0).wf = true) (x1 : Int) (w1 : (Lit.int .i64 x1).wf = true) : Calls Try.prog 5 #[.int .i64 x0, .int .i64 x1] w fun e w' => e = .returned (.bool true) ∧ Below w.heap.size w w' := by
  by_cases d0 : 0 ≤ x0
  · have q0 : ¬ x0 < 0 := by omega
    by_cases d1 : 0 ≤ x1
    · have q1 : ¬ x1 < 0 := by omega
      by_cases d2 : x0 ≤ 66000
      · have q2 : ¬ (66000 : Int) < x0 := by omega
        by_cases d3 : x1 ≤ 66000
        · have q3 : ¬ (66000 : Int) < x1 := by omega
          by_cases d4 : x0 ≤ 200
          · have q4 : ¬ (200 : Int) < x0 := by omega
            by_cases d5 : x1 ≤ 200
            · have q5 : ¬ (200 : Int) < x1 := by omega
              by_cases d6 : x0 ≤ 65536
              · have q6 : ¬ (65536 : Int) < x0 := by omega
                by_cases d7 : x1 ≤ 65536
                · have q7 : ¬ (65536 : Int) < x1 := by omega
                  obtain ⟨N, rfl⟩ := Int.eq_ofNat_of_zero_le (show 0 ≤ x0 by omega)
                  obtain ⟨M, rfl⟩ := Int.eq_ofNat_of_zero_le (show 0 ≤ x1 by omega)
                  obtain ⟨m, hm⟩ := nat_var (N + 32)
                  have hw1 : IntKind.i64.wrap ((N : Int) + 32) = (m : Int) := by rw [IntWalk.i64_in _ (by omega)]; omega
                  obtain ⟨r, hr⟩ := nat_var (N % 32)
                  have HNN : Hid (N ≤ 66000 ∧ M ≤ 66000 ∧ r < 32) := Lib.hid (by omega)
                  have HRR : Hid ((N : Int) % 32 = (r : Int)) := Lib.hid (by omega)
                  obtain ⟨XL, hXL⟩ : ∃ E, E = seL key0 non0 (List.replicate M 0) (List.replicate N 0) := ⟨_, rfl⟩
                  have hz : (List.replicate N (0 : UInt8)).length = N := List.length_replicate
                  have hz2 : (List.replicate M (0 : UInt8)).length = M := List.length_replicate
                  have hk : okSz 65536 (List.replicate M 0) (List.replicate N 0) := ⟨by omega, by omega⟩
                  have hs := seE_ok okK_0 hk
                  have HS : Hid (∀ v0 v1 v2 v3 w, Bs w v0 key0 → Bs w v1 non0 → Bs w v2 (List.replicate M 0) → Bs w v3 (List.replicate N 0) → Calls Try.prog 8 #[v0, v1, v2, v3] w fun e w' => ∃ v, e = .returned (.tuple #[v, .int .i64 0]) ∧ Bs w' v XL ∧ Below w.heap.size w w') := Lib.hid fun v0 v1 v2 v3 w h0 h1 h2 h3 => by
                    rw [← hs.1, hXL]
                    exact pSeal_to v0 _ v1 _ v2 _ v3 _ w h0 h1 h2 h3
                  have HXL : Hid (XL.length = m) := Lib.hid (by rw [hXL, hs.2, boxL_len, hm, hz])
                  have hsh := opE_short (l2 := []) (l3 := List.replicate r 0) okK_0 ⟨by rw [List.length_replicate]; omega, by decide⟩ (by rw [List.length_replicate]; omega)
                  have HO : Hid (∀ v0 v1 v3 w, Bs w v0 key0 → Bs w v1 non0 → Bs w v3 (List.replicate r 0) → Calls Try.prog 10 #[v0, v1, .slice none 0 0, v3] w fun e w' => ∃ v, e = .returned (.tuple #[v, .int .i64 2]) ∧ Bs w' v [] ∧ Below w.heap.size w w') := Lib.hid fun v0 v1 v3 w h0 h1 h3 => by
                    have g := pOpen_to v0 _ v1 _ _ [] v3 _ w h0 h1 (Bs.nil _) h3
                    rwa [hsh.1, hsh.2] at g
                  have Bw0 := Below.refl w.heap.size w
                  have HGS : Hid (∀ wq : World, Below w.heap.size w wq → w.heap.size ≤ wq.heap.size) := Lib.hid fun wq h => h.size
                  clear hXL hz hz2 hk hs hsh hm hr w0 w1 d0 d1 d2 d3 d4 d5 d6 d7
                  go_enter Try.func5, Try.ntmps5
                  go_wp2_with (first
                    | (have hgo := Bw0; clear hgo
                       refine wpList_makeO rfl (.const (.int .i64 32)) rfl 32 rfl (by decide) ?_
                       intro v_k w1 f_k kk
                       have Bw1 := zbt HGS Bw0 kk
                       clear Bw0 kk))
                  replace f_k : Bs w1 v_k key0 := f_k
                  replace f_k := f_k.drew
                  have Bw2 := Bw1.drew
                  clear Bw1
                  refine wp_region_lint (.rd 0 (.rd 1 (.rd 2 (.rd 3 (.rd 5 (.br 4 (.wr 6 (.wr 7 (.rd 8 (.rd 9 (.rd 10 (.rd 11 (.rd 12 .done))))))) 6 (.wr 4 (.wr 7 (.rd 8 (.rd 9 (.rd 10 (.rd 11 (.rd 12 .done))))))))))))) (by kernel_rfl) (by kernel_rfl) (by decide) (by kernel_rfl) (fun d _ _ _ _ h => by cases d <;> exact h) ?_
                  refine lint_pure 44 _ _ (v_k) rfl rfl rfl rfl rfl (fun wx hx => by unfold mkOp; go_simp; all_goals (with_reducible rfl)) ?_
                  simp only [Act.put, zA, zB, zC]
                  refine lint_pure 45 _ _ (v_k) rfl rfl rfl rfl rfl (fun wx hx => by unfold mkOp; go_simp; all_goals (with_reducible rfl)) ?_
                  simp only [Act.put, zA, zB, zC]
                  obtain ⟨v_non, f_non, hr46⟩ := takeB f_k 12 (by decide)
                  refine lint_pure 46 _ _ (v_non) rfl rfl rfl rfl rfl (fun wx hx => by exact hr46 _ _ _ _ _ rfl rfl) ?_
                  clear hr46
                  simp only [Act.put, zA, zB, zC]
                  refine lint_pure 47 _ _ (.int .i64 (M : Int)) rfl rfl rfl rfl rfl (fun wx hx => by unfold mkOp; go_simp; all_goals (with_reducible rfl)) ?_
                  simp only [Act.put, zA, zB, zC]
                  refine lint_pure 49 _ _ (.int .i64 (N : Int)) rfl rfl rfl rfl rfl (fun wx hx => by unfold mkOp; go_simp; all_goals (with_reducible rfl)) ?_
                  simp only [Act.put, zA, zB, zC]
                  refine ⟨?_, ?_⟩
                  · skip
                    refine stp_makeN 48 (.tmp 47) M rfl rfl rfl rfl rfl (by have := HNN.out; omega) ?_
                    intro wq48 v_48 f_48 kk
                    replace f_k := zfb f_k kk
                    replace f_non := zfb f_non kk
                    have Bw3 := zbt HGS Bw2 kk
                    clear Bw2 kk
                    simp only [Act.put, zA, zB, zC]
                    refine stp_makeN 50 (.tmp 49) N rfl rfl rfl rfl rfl (by have := HNN.out; omega) ?_
                    intro wq50 v_50 f_50 kk
                    replace f_k := zfb f_k kk
                    replace f_non := zfb f_non kk
                    replace f_48 := zfb f_48 kk
                    have Bw4 := zbt HGS Bw3 kk
                    clear Bw3 kk
                    simp only [Act.put, zA, zB, zC]
                    refine stp_fn 51 8 _ _ _ (HS.out _ _ _ _ _ f_k f_non f_48 f_50) rfl rfl rfl rfl Try.func8 (by kernel_rfl) (by kernel_rfl) (by go_simp) ?_
                    rintro e wq51 ⟨v_51, rfl, f_51, kk⟩
                    refine ⟨_, rfl, kk, ?_⟩
                    replace f_k := zfb f_k kk
                    replace f_non := zfb f_non kk
                    replace f_48 := zfb f_48 kk
                    replace f_50 := zfb f_50 kk
                    have Bw5 := zbt HGS Bw4 kk
                    clear Bw4 kk
                    simp only [Act.put, zA, zB, zC]
                    refine lint_pure 43 _ _ (.tuple #[v_51, .int .i64 0]) rfl rfl rfl rfl rfl (fun wx hx => by unfold mkOp; go_simp; all_goals (with_reducible rfl)) ?_
                    simp only [Act.put, zA, zB, zC]
                    refine lint_pure 52 _ _ (v_51) rfl rfl rfl rfl rfl (fun wx hx => by unfold mkOp; go_simp; all_goals (with_reducible rfl)) ?_
                    simp only [Act.put, zA, zB, zC]
                    refine lint_pure 53 _ _ (.int .i64 (0 : Int)) rfl rfl rfl rfl rfl (fun wx hx => by unfold mkOp; go_simp; all_goals (with_reducible rfl)) ?_
                    simp only [Act.put, zA, zB, zC]
                    refine lint_pure 6 _ _ (v_51) rfl rfl rfl rfl rfl (fun wx hx => by unfold mkOp; go_simp; all_goals (with_reducible rfl)) ?_
                    simp only [Act.put, zA, zB, zC]
                    refine lint_pure 7 _ _ (.int .i64 (0 : Int)) rfl rfl rfl rfl rfl (fun wx hx => by unfold mkOp; go_simp; all_goals (with_reducible rfl)) ?_
                    simp only [Act.put, zA, zB, zC]
                    refine lint_end ?_
                    clear f_48 f_50 f_non
                    obtain ⟨ad_x, n_x, c_x, rfl, he, hy, hz, _⟩ := f_51.shape
                    have hn : n_x = m := by rw [← he]; exact HXL.out
                    subst hn
                    clear he hy hz f_51
                    go_wp2
                    replace f_k := f_k.drew
                    have Bw6 := Bw5.drew
                    clear Bw5
                    refine wp_region_lint (.rd 0 (.rd 1 (.rd 2 (.rd 3 (.wr 4 (.wr 5 (.wr 6 (.rd 7 (.rd 8 (.rd 9 (.rd 10 (.rd 11 .done)))))))))))) (by kernel_rfl) (by kernel_rfl) (by decide) (by kernel_rfl) (fun d _ _ _ _ h => by cases d <;> exact h) ?_
                    refine lint_pure 61 _ _ (v_k) rfl rfl rfl rfl rfl (fun wx hx => by unfold mkOp; go_simp; all_goals (with_reducible rfl)) ?_
                    simp only [Act.put, zA, zB, zC]
                    refine lint_pure 62 _ _ (v_k) rfl rfl rfl rfl rfl (fun wx hx => by unfold mkOp; go_simp; all_goals (with_reducible rfl)) ?_
                    simp only [Act.put, zA, zB, zC]
                    obtain ⟨v_nom, f_nom, hr63⟩ := takeB f_k 12 (by decide)
                    refine lint_pure 63 _ _ (v_nom) rfl rfl rfl rfl rfl (fun wx hx => by exact hr63 _ _ _ _ _ rfl rfl) ?_
                    clear hr63
                    simp only [Act.put, zA, zB, zC]
                    refine lint_pure 64 _ _ (.int .i64 (N : Int)) rfl rfl rfl rfl rfl (fun wx hx => by unfold mkOp; go_simp; all_goals (with_reducible rfl)) ?_
                    simp only [Act.put, zA, zB, zC]
                    refine stp_fn 65 15 _ _ _ (round32_to _ r _ (by omega) (by have := HNN.out; omega) HRR.out) rfl rfl rfl rfl Try.func15 (by kernel_rfl) (by kernel_rfl) (by go_simp) ?_
                    rintro e wq65 ⟨rfl, kk⟩
                    refine ⟨_, rfl, kk, ?_⟩
                    replace f_k := zfb f_k kk
                    replace f_nom := zfb f_nom kk
                    have Bw7 := zbt HGS Bw6 kk
                    clear Bw6 kk
                    simp only [Act.put, zA, zB, zC]
                    refine stp_makeN 66 (.tmp 65) r rfl rfl rfl rfl rfl (by have := HNN.out; omega) ?_
                    intro wq66 v_66 f_66 kk
                    replace f_k := zfb f_k kk
                    replace f_nom := zfb f_nom kk
                    have Bw8 := zbt HGS Bw7 kk
                    clear Bw7 kk
                    simp only [Act.put, zA, zB, zC]
                    refine stp_fn 67 10 _ _ _ (HO.out _ _ _ _ f_k f_nom f_66) rfl rfl rfl rfl Try.func10 (by kernel_rfl) (by kernel_rfl) (by go_simp) ?_
                    rintro e wq67 ⟨v_67, rfl, f_67, kk⟩
                    refine ⟨_, rfl, kk, ?_⟩
                    replace f_k := zfb f_k kk
                    replace f_nom := zfb f_nom kk
                    replace f_66 := zfb f_66 kk
                    have Bw9 := zbt HGS Bw8 kk
                    clear Bw8 kk
                    simp only [Act.put, zA, zB, zC]
                    refine lint_pure 60 _ _ (.tuple #[v_67, .int .i64 2]) rfl rfl rfl rfl rfl (fun wx hx => by unfold mkOp; go_simp; all_goals (with_reducible rfl)) ?_
                    simp only [Act.put, zA, zB, zC]
                    refine lint_pure 68 _ _ (v_67) rfl rfl rfl rfl rfl (fun wx hx => by unfold mkOp; go_simp; all_goals (with_reducible rfl)) ?_
                    simp only [Act.put, zA, zB, zC]
                    refine lint_pure 69 _ _ (.int .i64 (2 : Int)) rfl rfl rfl rfl rfl (fun wx hx => by unfold mkOp; go_simp; all_goals (with_reducible rfl)) ?_
                    simp only [Act.put, zA, zB, zC]
                    refine lint_pure 9 _ _ (v_67) rfl rfl rfl rfl rfl (fun wx hx => by unfold mkOp; go_simp; all_goals (with_reducible rfl)) ?_
                    simp only [Act.put, zA, zB, zC]
                    refine lint_pure 10 _ _ (.int .i64 (2 : Int)) rfl rfl rfl rfl rfl (fun wx hx => by unfold mkOp; go_simp; all_goals (with_reducible rfl)) ?_
                    simp only [Act.put, zA, zB, zC]
                    refine lint_end ?_
                    go_wp2_with (first
                      | (have hgo := Bw9; clear hgo
                         go_at_call 7
                         refine (awake13_any _).mono ?_
                         rintro e w99 ⟨rfl, kk⟩
                         have Bw99 := zbt HGS Bw9 kk
                         clear Bw9 kk))
                    go_ret
                    exact ⟨rfl, Bw99⟩
                  · skip
                    refine stp_makeN 50 (.tmp 49) N rfl rfl rfl rfl rfl (by have := HNN.out; omega) ?_
                    intro wq50 v_50 f_50 kk
                    replace f_k := zfb f_k kk
                    replace f_non := zfb f_non kk
                    have Bw3 := zbt HGS Bw2 kk
                    clear Bw2 kk
                    simp only [Act.put, zA, zB, zC]
                    refine stp_makeN 48 (.tmp 47) M rfl rfl rfl rfl rfl (by have := HNN.out; omega) ?_
                    intro wq48 v_48 f_48 kk
                    replace f_k := zfb f_k kk
                    replace f_non := zfb f_non kk
                    replace f_50 := zfb f_50 kk
                    have Bw4 := zbt HGS Bw3 kk
                    clear Bw3 kk
                    simp only [Act.put, zA, zB, zC]
                    refine stp_fn 51 8 _ _ _ (HS.out _ _ _ _ _ f_k f_non f_48 f_50) rfl rfl rfl rfl Try.func8 (by kernel_rfl) (by kernel_rfl) (by go_simp) ?_
                    rintro e wq51 ⟨v_51, rfl, f_51, kk⟩
                    refine ⟨_, rfl, kk, ?_⟩
                    replace f_k := zfb f_k kk
                    replace f_non := zfb f_non kk
                    replace f_50 := zfb f_50 kk
                    replace f_48 := zfb f_48 kk
                    have Bw5 := zbt HGS Bw4 kk
                    clear Bw4 kk
                    simp only [Act.put, zA, zB, zC]
                    refine lint_pure 43 _ _ (.tuple #[v_51, .int .i64 0]) rfl rfl rfl rfl rfl (fun wx hx => by unfold mkOp; go_simp; all_goals (with_reducible rfl)) ?_
                    simp only [Act.put, zA, zB, zC]
                    refine lint_pure 52 _ _ (v_51) rfl rfl rfl rfl rfl (fun wx hx => by unfold mkOp; go_simp; all_goals (with_reducible rfl)) ?_
                    simp only [Act.put, zA, zB, zC]
                    refine lint_pure 53 _ _ (.int .i64 (0 : Int)) rfl rfl rfl rfl rfl (fun wx hx => by unfold mkOp; go_simp; all_goals (with_reducible rfl)) ?_
                    simp only [Act.put, zA, zB, zC]
                    refine lint_pure 6 _ _ (v_51) rfl rfl rfl rfl rfl (fun wx hx => by unfold mkOp; go_simp; all_goals (with_reducible rfl)) ?_
                    simp only [Act.put, zA, zB, zC]
                    refine lint_pure 7 _ _ (.int .i64 (0 : Int)) rfl rfl rfl rfl rfl (fun wx hx => by unfold mkOp; go_simp; all_goals (with_reducible rfl)) ?_
                    simp only [Act.put, zA, zB, zC]
                    refine lint_end ?_
                    clear f_48 f_50 f_non
                    obtain ⟨ad_x, n_x, c_x, rfl, he, hy, hz, _⟩ := f_51.shape
                    have hn : n_x = m := by rw [← he]; exact HXL.out
                    subst hn
                    clear he hy hz f_51
                    go_wp2
                    replace f_k := f_k.drew
                    have Bw6 := Bw5.drew
                    clear Bw5
                    refine wp_region_lint (.rd 0 (.rd 1 (.rd 2 (.rd 3 (.wr 4 (.wr 5 (.wr 6 (.rd 7 (.rd 8 (.rd 9 (.rd 10 (.rd 11 .done)))))))))))) (by kernel_rfl) (by kernel_rfl) (by decide) (by kernel_rfl) (fun d _ _ _ _ h => by cases d <;> exact h) ?_
                    refine lint_pure 61 _ _ (v_k) rfl rfl rfl rfl rfl (fun wx hx => by unfold mkOp; go_simp; all_goals (with_reducible rfl)) ?_
                    simp only [Act.put, zA, zB, zC]
                    refine lint_pure 62 _ _ (v_k) rfl rfl rfl rfl rfl (fun wx hx => by unfold mkOp; go_simp; all_goals (with_reducible rfl)) ?_
                    simp only [Act.put, zA, zB, zC]
                    obtain ⟨v_nom, f_nom, hr63⟩ := takeB f_k 12 (by decide)
                    refine lint_pure 63 _ _ (v_nom) rfl rfl rfl rfl rfl (fun wx hx => by exact hr63 _ _ _ _ _ rfl rfl) ?_
                    clear hr63
                    simp only [Act.put, zA, zB, zC]
                    refine lint_pure 64 _ _ (.int .i64 (N : Int)) rfl rfl rfl rfl rfl (fun wx hx => by unfold mkOp; go_simp; all_goals (with_reducible rfl)) ?_
                    simp only [Act.put, zA, zB, zC]
                    refine stp_fn 65 15 _ _ _ (round32_to _ r _ (by omega) (by have := HNN.out; omega) HRR.out) rfl rfl rfl rfl Try.func15 (by kernel_rfl) (by kernel_rfl) (by go_simp) ?_
                    rintro e wq65 ⟨rfl, kk⟩
                    refine ⟨_, rfl, kk, ?_⟩
                    replace f_k := zfb f_k kk
                    replace f_nom := zfb f_nom kk
                    have Bw7 := zbt HGS Bw6 kk
                    clear Bw6 kk
                    simp only [Act.put, zA, zB, zC]
                    refine stp_makeN 66 (.tmp 65) r rfl rfl rfl rfl rfl (by have := HNN.out; omega) ?_
                    intro wq66 v_66 f_66 kk
                    replace f_k := zfb f_k kk
                    replace f_nom := zfb f_nom kk
                    have Bw8 := zbt HGS Bw7 kk
                    clear Bw7 kk
                    simp only [Act.put, zA, zB, zC]
                    refine stp_fn 67 10 _ _ _ (HO.out _ _ _ _ f_k f_nom f_66) rfl rfl rfl rfl Try.func10 (by kernel_rfl) (by kernel_rfl) (by go_simp) ?_
                    rintro e wq67 ⟨v_67, rfl, f_67, kk⟩
                    refine ⟨_, rfl, kk, ?_⟩
                    replace f_k := zfb f_k kk
                    replace f_nom := zfb f_nom kk
                    replace f_66 := zfb f_66 kk
                    have Bw9 := zbt HGS Bw8 kk
                    clear Bw8 kk
                    simp only [Act.put, zA, zB, zC]
                    refine lint_pure 60 _ _ (.tuple #[v_67, .int .i64 2]) rfl rfl rfl rfl rfl (fun wx hx => by unfold mkOp; go_simp; all_goals (with_reducible rfl)) ?_
                    simp only [Act.put, zA, zB, zC]
                    refine lint_pure 68 _ _ (v_67) rfl rfl rfl rfl rfl (fun wx hx => by unfold mkOp; go_simp; all_goals (with_reducible rfl)) ?_
                    simp only [Act.put, zA, zB, zC]
                    refine lint_pure 69 _ _ (.int .i64 (2 : Int)) rfl rfl rfl rfl rfl (fun wx hx => by unfold mkOp; go_simp; all_goals (with_reducible rfl)) ?_
                    simp only [Act.put, zA, zB, zC]
                    refine lint_pure 9 _ _ (v_67) rfl rfl rfl rfl rfl (fun wx hx => by unfold mkOp; go_simp; all_goals (with_reducible rfl)) ?_
                    simp only [Act.put, zA, zB, zC]
                    refine lint_pure 10 _ _ (.int .i64 (2 : Int)) rfl rfl rfl rfl rfl (fun wx hx => by unfold mkOp; go_simp; all_goals (with_reducible rfl)) ?_
                    simp only [Act.put, zA, zB, zC]
                    refine lint_end ?_
                    go_wp2_with (first
                      | (have hgo := Bw9; clear hgo
                         go_at_call 7
                         refine (awake13_any _).mono ?_
                         rintro e w99 ⟨rfl, kk⟩
                         have Bw99 := zbt HGS Bw9 kk
                         clear Bw9 kk))
                    go_ret
                    exact ⟨rfl, Bw99⟩
                · have q7 : (65536 : Int) < x1 := by omega
                  obtain ⟨N, rfl⟩ := Int.eq_ofNat_of_zero_le (show 0 ≤ x0 by omega)
                  obtain ⟨M, rfl⟩ := Int.eq_ofNat_of_zero_le (show 0 ≤ x1 by omega)
                  obtain ⟨m, hm⟩ := nat_var (N + 32)
                  have hw1 : IntKind.i64.wrap ((N : Int) + 32) = (m : Int) := by rw [IntWalk.i64_in _ (by omega)]; omega
                  obtain ⟨r, hr⟩ := nat_var (N % 32)
                  have HNN : Hid (N ≤ 66000 ∧ M ≤ 66000 ∧ r < 32) := Lib.hid (by omega)
                  have HRR : Hid ((N : Int) % 32 = (r : Int)) := Lib.hid (by omega)
                  obtain ⟨XL, hXL⟩ : ∃ E, E = seL key0 non0 (List.replicate M 0) (List.replicate N 0) := ⟨_, rfl⟩
                  have hz : (List.replicate N (0 : UInt8)).length = N := List.length_replicate
                  have hz2 : (List.replicate M (0 : UInt8)).length = M := List.length_replicate
                  have hk : ¬ okSz 65536 (List.replicate M 0) (List.replicate N 0) := fun g => by
                    have g1 := g.1
                    have g2 := g.2
                    omega
                  have hs := seE_big okK_0 hk
                  have HS : Hid (∀ v0 v1 v2 v3 w, Bs w v0 key0 → Bs w v1 non0 → Bs w v2 (List.replicate M 0) → Bs w v3 (List.replicate N 0) → Calls Try.prog 8 #[v0, v1, v2, v3] w fun e w' => ∃ v, e = .returned (.tuple #[v, .int .i64 11]) ∧ Bs w' v XL ∧ Below w.heap.size w w') := Lib.hid fun v0 v1 v2 v3 w h0 h1 h2 h3 => by
                    rw [← hs.1, hXL]
                    exact pSeal_to v0 _ v1 _ v2 _ v3 _ w h0 h1 h2 h3
                  have hsh := opE_short (l2 := []) (l3 := List.replicate r 0) okK_0 ⟨by rw [List.length_replicate]; omega, by decide⟩ (by rw [List.length_replicate]; omega)
                  have HO : Hid (∀ v0 v1 v3 w, Bs w v0 key0 → Bs w v1 non0 → Bs w v3 (List.replicate r 0) → Calls Try.prog 10 #[v0, v1, .slice none 0 0, v3] w fun e w' => ∃ v, e = .returned (.tuple #[v, .int .i64 2]) ∧ Bs w' v [] ∧ Below w.heap.size w w') := Lib.hid fun v0 v1 v3 w h0 h1 h3 => by
                    have g := pOpen_to v0 _ v1 _ _ [] v3 _ w h0 h1 (Bs.nil _) h3
                    rwa [hsh.1, hsh.2] at g
                  have Bw0 := Below.refl w.heap.size w
                  have HGS : Hid (∀ wq : World, Below w.heap.size w wq → w.heap.size ≤ wq.heap.size) := Lib.hid fun wq h => h.size
                  clear hXL hz hz2 hk hs hsh hm hr w0 w1 d0 d1 d2 d3 d4 d5 d6 d7
                  go_enter Try.func5, Try.ntmps5
                  go_wp2_with (first
                    | (have hgo := Bw0; clear hgo
                       refine wpList_makeO rfl (.const (.int .i64 32)) rfl 32 rfl (by decide) ?_
                       intro v_k w1 f_k kk
                       have Bw1 := zbt HGS Bw0 kk
                       clear Bw0 kk))
                  replace f_k : Bs w1 v_k key0 := f_k
                  replace f_k := f_k.drew
                  have Bw2 := Bw1.drew
                  clear Bw1
                  refine wp_region_lint (.rd 0 (.rd 1 (.rd 2 (.rd 3 (.rd 5 (.br 4 (.wr 6 (.wr 7 (.rd 8 (.rd 9 (.rd 10 (.rd 11 (.rd 12 .done))))))) 6 (.wr 4 (.wr 7 (.rd 8 (.rd 9 (.rd 10 (.rd 11 (.rd 12 .done))))))))))))) (by kernel_rfl) (by kernel_rfl) (by decide) (by kernel_rfl) (fun d _ _ _ _ h => by cases d <;> exact h) ?_
                  refine lint_pure 44 _ _ (v_k) rfl rfl rfl rfl rfl (fun wx hx => by unfold mkOp; go_simp; all_goals (with_reducible rfl)) ?_
                  simp only [Act.put, zA, zB, zC]
                  refine lint_pure 45 _ _ (v_k) rfl rfl rfl rfl rfl (fun wx hx => by unfold mkOp; go_simp; all_goals (with_reducible rfl)) ?_
                  simp only [Act.put, zA, zB, zC]
                  obtain ⟨v_non, f_non, hr46⟩ := takeB f_k 12 (by decide)
                  refine lint_pure 46 _ _ (v_non) rfl rfl rfl rfl rfl (fun wx hx => by exact hr46 _ _ _ _ _ rfl rfl) ?_
                  clear hr46
                  simp only [Act.put, zA, zB, zC]
                  refine lint_pure 47 _ _ (.int .i64 (M : Int)) rfl rfl rfl rfl rfl (fun wx hx => by unfold mkOp; go_simp; all_goals (with_reducible rfl)) ?_
                  simp only [Act.put, zA, zB, zC]
                  refine lint_pure 49 _ _ (.int .i64 (N : Int)) rfl rfl rfl rfl rfl (fun wx hx => by unfold mkOp; go_simp; all_goals (with_reducible rfl)) ?_
                  simp only [Act.put, zA, zB, zC]
                  refine ⟨?_, ?_⟩
                  · skip
                    refine stp_makeN 48 (.tmp 47) M rfl rfl rfl rfl rfl (by have := HNN.out; omega) ?_
                    intro wq48 v_48 f_48 kk
                    replace f_k := zfb f_k kk
                    replace f_non := zfb f_non kk
                    have Bw3 := zbt HGS Bw2 kk
                    clear Bw2 kk
                    simp only [Act.put, zA, zB, zC]
                    refine stp_makeN 50 (.tmp 49) N rfl rfl rfl rfl rfl (by have := HNN.out; omega) ?_
                    intro wq50 v_50 f_50 kk
                    replace f_k := zfb f_k kk
                    replace f_non := zfb f_non kk
                    replace f_48 := zfb f_48 kk
                    have Bw4 := zbt HGS Bw3 kk
                    clear Bw3 kk
                    simp only [Act.put, zA, zB, zC]
                    refine stp_fn 51 8 _ _ _ (HS.out _ _ _ _ _ f_k f_non f_48 f_50) rfl rfl rfl rfl Try.func8 (by kernel_rfl) (by kernel_rfl) (by go_simp) ?_
                    rintro e wq51 ⟨v_51, rfl, f_51, kk⟩
                    refine ⟨_, rfl, kk, ?_⟩
                    replace f_k := zfb f_k kk
                    replace f_non := zfb f_non kk
                    replace f_48 := zfb f_48 kk
                    replace f_50 := zfb f_50 kk
                    have Bw5 := zbt HGS Bw4 kk
                    clear Bw4 kk
                    simp only [Act.put, zA, zB, zC]
                    refine lint_pure 43 _ _ (.tuple #[v_51, .int .i64 11]) rfl rfl rfl rfl rfl (fun wx hx => by unfold mkOp; go_simp; all_goals (with_reducible rfl)) ?_
                    simp only [Act.put, zA, zB, zC]
                    refine lint_pure 52 _ _ (v_51) rfl rfl rfl rfl rfl (fun wx hx => by unfold mkOp; go_simp; all_goals (with_reducible rfl)) ?_
                    simp only [Act.put, zA, zB, zC]
                    refine lint_pure 53 _ _ (.int .i64 (11 : Int)) rfl rfl rfl rfl rfl (fun wx hx => by unfold mkOp; go_simp; all_goals (with_reducible rfl)) ?_
                    simp only [Act.put, zA, zB, zC]
                    refine lint_pure 6 _ _ (v_51) rfl rfl rfl rfl rfl (fun wx hx => by unfold mkOp; go_simp; all_goals (with_reducible rfl)) ?_
                    simp only [Act.put, zA, zB, zC]
                    refine lint_pure 7 _ _ (.int .i64 (11 : Int)) rfl rfl rfl rfl rfl (fun wx hx => by unfold mkOp; go_simp; all_goals (with_reducible rfl)) ?_
                    simp only [Act.put, zA, zB, zC]
                    refine lint_end ?_
                    clear f_48 f_50 f_non
                    clear f_51
                    go_wp2
                    replace f_k := f_k.drew
                    have Bw6 := Bw5.drew
                    clear Bw5
                    refine wp_region_lint (.rd 0 (.rd 1 (.rd 2 (.rd 3 (.wr 4 (.wr 5 (.wr 6 (.rd 7 (.rd 8 (.rd 9 (.rd 10 (.rd 11 .done)))))))))))) (by kernel_rfl) (by kernel_rfl) (by decide) (by kernel_rfl) (fun d _ _ _ _ h => by cases d <;> exact h) ?_
                    refine lint_pure 61 _ _ (v_k) rfl rfl rfl rfl rfl (fun wx hx => by unfold mkOp; go_simp; all_goals (with_reducible rfl)) ?_
                    simp only [Act.put, zA, zB, zC]
                    refine lint_pure 62 _ _ (v_k) rfl rfl rfl rfl rfl (fun wx hx => by unfold mkOp; go_simp; all_goals (with_reducible rfl)) ?_
                    simp only [Act.put, zA, zB, zC]
                    obtain ⟨v_nom, f_nom, hr63⟩ := takeB f_k 12 (by decide)
                    refine lint_pure 63 _ _ (v_nom) rfl rfl rfl rfl rfl (fun wx hx => by exact hr63 _ _ _ _ _ rfl rfl) ?_
                    clear hr63
                    simp only [Act.put, zA, zB, zC]
                    refine lint_pure 64 _ _ (.int .i64 (N : Int)) rfl rfl rfl rfl rfl (fun wx hx => by unfold mkOp; go_simp; all_goals (with_reducible rfl)) ?_
                    simp only [Act.put, zA, zB, zC]
                    refine stp_fn 65 15 _ _ _ (round32_to _ r _ (by omega) (by have := HNN.out; omega) HRR.out) rfl rfl rfl rfl Try.func15 (by kernel_rfl) (by kernel_rfl) (by go_simp) ?_
                    rintro e wq65 ⟨rfl, kk⟩
                    refine ⟨_, rfl, kk, ?_⟩
                    replace f_k := zfb f_k kk
                    replace f_nom := zfb f_nom kk
                    have Bw7 := zbt HGS Bw6 kk
                    clear Bw6 kk
                    simp only [Act.put, zA, zB, zC]
                    refine stp_makeN 66 (.tmp 65) r rfl rfl rfl rfl rfl (by have := HNN.out; omega) ?_
                    intro wq66 v_66 f_66 kk
                    replace f_k := zfb f_k kk
                    replace f_nom := zfb f_nom kk
                    have Bw8 := zbt HGS Bw7 kk
                    clear Bw7 kk
                    simp only [Act.put, zA, zB, zC]
                    refine stp_fn 67 10 _ _ _ (HO.out _ _ _ _ f_k f_nom f_66) rfl rfl rfl rfl Try.func10 (by kernel_rfl) (by kernel_rfl) (by go_simp) ?_
                    rintro e wq67 ⟨v_67, rfl, f_67, kk⟩
                    refine ⟨_, rfl, kk, ?_⟩
                    replace f_k := zfb f_k kk
                    replace f_nom := zfb f_nom kk
                    replace f_66 := zfb f_66 kk
                    have Bw9 := zbt HGS Bw8 kk
                    clear Bw8 kk
                    simp only [Act.put, zA, zB, zC]
                    refine lint_pure 60 _ _ (.tuple #[v_67, .int .i64 2]) rfl rfl rfl rfl rfl (fun wx hx => by unfold mkOp; go_simp; all_goals (with_reducible rfl)) ?_
                    simp only [Act.put, zA, zB, zC]
                    refine lint_pure 68 _ _ (v_67) rfl rfl rfl rfl rfl (fun wx hx => by unfold mkOp; go_simp; all_goals (with_reducible rfl)) ?_
                    simp only [Act.put, zA, zB, zC]
                    refine lint_pure 69 _ _ (.int .i64 (2 : Int)) rfl rfl rfl rfl rfl (fun wx hx => by unfold mkOp; go_simp; all_goals (with_reducible rfl)) ?_
                    simp only [Act.put, zA, zB, zC]
                    refine lint_pure 9 _ _ (v_67) rfl rfl rfl rfl rfl (fun wx hx => by unfold mkOp; go_simp; all_goals (with_reducible rfl)) ?_
                    simp only [Act.put, zA, zB, zC]
                    refine lint_pure 10 _ _ (.int .i64 (2 : Int)) rfl rfl rfl rfl rfl (fun wx hx => by unfold mkOp; go_simp; all_goals (with_reducible rfl)) ?_
                    simp only [Act.put, zA, zB, zC]
                    refine lint_end ?_
                    go_wp2_with (first
                      | (have hgo := Bw9; clear hgo
                         go_at_call 7
                         refine (awake13_any _).mono ?_
                         rintro e w99 ⟨rfl, kk⟩
                         have Bw99 := zbt HGS Bw9 kk
                         clear Bw9 kk))
                    go_ret
                    exact ⟨rfl, Bw99⟩
                  · skip
                    refine stp_makeN 50 (.tmp 49) N rfl rfl rfl rfl rfl (by have := HNN.out; omega) ?_
                    intro wq50 v_50 f_50 kk
                    replace f_k := zfb f_k kk
                    replace f_non := zfb f_non kk
                    have Bw3 := zbt HGS Bw2 kk
                    clear Bw2 kk
                    simp only [Act.put, zA, zB, zC]
                    refine stp_makeN 48 (.tmp 47) M rfl rfl rfl rfl rfl (by have := HNN.out; omega) ?_
                    intro wq48 v_48 f_48 kk
                    replace f_k := zfb f_k kk
                    replace f_non := zfb f_non kk
                    replace f_50 := zfb f_50 kk
                    have Bw4 := zbt HGS Bw3 kk
                    clear Bw3 kk
                    simp only [Act.put, zA, zB, zC]
                    refine stp_fn 51 8 _ _ _ (HS.out _ _ _ _ _ f_k f_non f_48 f_50) rfl rfl rfl rfl Try.func8 (by kernel_rfl) (by kernel_rfl) (by go_simp) ?_
                    rintro e wq51 ⟨v_51, rfl, f_51, kk⟩
                    refine ⟨_, rfl, kk, ?_⟩
                    replace f_k := zfb f_k kk
                    replace f_non := zfb f_non kk
                    replace f_50 := zfb f_50 kk
                    replace f_48 := zfb f_48 kk
                    have Bw5 := zbt HGS Bw4 kk
                    clear Bw4 kk
                    simp only [Act.put, zA, zB, zC]
                    refine lint_pure 43 _ _ (.tuple #[v_51, .int .i64 11]) rfl rfl rfl rfl rfl (fun wx hx => by unfold mkOp; go_simp; all_goals (with_reducible rfl)) ?_
                    simp only [Act.put, zA, zB, zC]
                    refine lint_pure 52 _ _ (v_51) rfl rfl rfl rfl rfl (fun wx hx => by unfold mkOp; go_simp; all_goals (with_reducible rfl)) ?_
                    simp only [Act.put, zA, zB, zC]
                    refine lint_pure 53 _ _ (.int .i64 (11 : Int)) rfl rfl rfl rfl rfl (fun wx hx => by unfold mkOp; go_simp; all_goals (with_reducible rfl)) ?_
                    simp only [Act.put, zA, zB, zC]
                    refine lint_pure 6 _ _ (v_51) rfl rfl rfl rfl rfl (fun wx hx => by unfold mkOp; go_simp; all_goals (with_reducible rfl)) ?_
                    simp only [Act.put, zA, zB, zC]
                    refine lint_pure 7 _ _ (.int .i64 (11 : Int)) rfl rfl rfl rfl rfl (fun wx hx => by unfold mkOp; go_simp; all_goals (with_reducible rfl)) ?_
                    simp only [Act.put, zA, zB, zC]
                    refine lint_end ?_
                    clear f_48 f_50 f_non
                    clear f_51
                    go_wp2
                    replace f_k := f_k.drew
                    have Bw6 := Bw5.drew
                    clear Bw5
                    refine wp_region_lint (.rd 0 (.rd 1 (.rd 2 (.rd 3 (.wr 4 (.wr 5 (.wr 6 (.rd 7 (.rd 8 (.rd 9 (.rd 10 (.rd 11 .done)))))))))))) (by kernel_rfl) (by kernel_rfl) (by decide) (by kernel_rfl) (fun d _ _ _ _ h => by cases d <;> exact h) ?_
                    refine lint_pure 61 _ _ (v_k) rfl rfl rfl rfl rfl (fun wx hx => by unfold mkOp; go_simp; all_goals (with_reducible rfl)) ?_
                    simp only [Act.put, zA, zB, zC]
                    refine lint_pure 62 _ _ (v_k) rfl rfl rfl rfl rfl (fun wx hx => by unfold mkOp; go_simp; all_goals (with_reducible rfl)) ?_
                    simp only [Act.put, zA, zB, zC]
                    obtain ⟨v_nom, f_nom, hr63⟩ := takeB f_k 12 (by decide)
                    refine lint_pure 63 _ _ (v_nom) rfl rfl rfl rfl rfl (fun wx hx => by exact hr63 _ _ _ _ _ rfl rfl) ?_
                    clear hr63
                    simp only [Act.put, zA, zB, zC]
                    refine lint_pure 64 _ _ (.int .i64 (N : Int)) rfl rfl rfl rfl rfl (fun wx hx => by unfold mkOp; go_simp; all_goals (with_reducible rfl)) ?_
                    simp only [Act.put, zA, zB, zC]
                    refine stp_fn 65 15 _ _ _ (round32_to _ r _ (by omega) (by have := HNN.out; omega) HRR.out) rfl rfl rfl rfl Try.func15 (by kernel_rfl) (by kernel_rfl) (by go_simp) ?_
                    rintro e wq65 ⟨rfl, kk⟩
                    refine ⟨_, rfl, kk, ?_⟩
                    replace f_k := zfb f_k kk
                    replace f_nom := zfb f_nom kk
                    have Bw7 := zbt HGS Bw6 kk
                    clear Bw6 kk
                    simp only [Act.put, zA, zB, zC]
                    refine stp_makeN 66 (.tmp 65) r rfl rfl rfl rfl rfl (by have := HNN.out; omega) ?_
                    intro wq66 v_66 f_66 kk
                    replace f_k := zfb f_k kk
                    replace f_nom := zfb f_nom kk
                    have Bw8 := zbt HGS Bw7 kk
                    clear Bw7 kk
                    simp only [Act.put, zA, zB, zC]
                    refine stp_fn 67 10 _ _ _ (HO.out _ _ _ _ f_k f_nom f_66) rfl rfl rfl rfl Try.func10 (by kernel_rfl) (by kernel_rfl) (by go_simp) ?_
                    rintro e wq67 ⟨v_67, rfl, f_67, kk⟩
                    refine ⟨_, rfl, kk, ?_⟩
                    replace f_k := zfb f_k kk
                    replace f_nom := zfb f_nom kk
                    replace f_66 := zfb f_66 kk
                    have Bw9 := zbt HGS Bw8 kk
                    clear Bw8 kk
                    simp only [Act.put, zA, zB, zC]
                    refine lint_pure 60 _ _ (.tuple #[v_67, .int .i64 2]) rfl rfl rfl rfl rfl (fun wx hx => by unfold mkOp; go_simp; all_goals (with_reducible rfl)) ?_
                    simp only [Act.put, zA, zB, zC]
                    refine lint_pure 68 _ _ (v_67) rfl rfl rfl rfl rfl (fun wx hx => by unfold mkOp; go_simp; all_goals (with_reducible rfl)) ?_
                    simp only [Act.put, zA, zB, zC]
                    refine lint_pure 69 _ _ (.int .i64 (2 : Int)) rfl rfl rfl rfl rfl (fun wx hx => by unfold mkOp; go_simp; all_goals (with_reducible rfl)) ?_
                    simp only [Act.put, zA, zB, zC]
                    refine lint_pure 9 _ _ (v_67) rfl rfl rfl rfl rfl (fun wx hx => by unfold mkOp; go_simp; all_goals (with_reducible rfl)) ?_
                    simp only [Act.put, zA, zB, zC]
                    refine lint_pure 10 _ _ (.int .i64 (2 : Int)) rfl rfl rfl rfl rfl (fun wx hx => by unfold mkOp; go_simp; all_goals (with_reducible rfl)) ?_
                    simp only [Act.put, zA, zB, zC]
                    refine lint_end ?_
                    go_wp2_with (first
                      | (have hgo := Bw9; clear hgo
                         go_at_call 7
                         refine (awake13_any _).mono ?_
                         rintro e w99 ⟨rfl, kk⟩
                         have Bw99 := zbt HGS Bw9 kk
                         clear Bw9 kk))
                    go_ret
                    exact ⟨rfl, Bw99⟩
              · have q6 : (65536 : Int) < x0 := by omega
                obtain ⟨N, rfl⟩ := Int.eq_ofNat_of_zero_le (show 0 ≤ x0 by omega)
                obtain ⟨M, rfl⟩ := Int.eq_ofNat_of_zero_le (show 0 ≤ x1 by omega)
                obtain ⟨m, hm⟩ := nat_var (N + 32)
                have hw1 : IntKind.i64.wrap ((N : Int) + 32) = (m : Int) := by rw [IntWalk.i64_in _ (by omega)]; omega
                obtain ⟨r, hr⟩ := nat_var (N % 32)
                have HNN : Hid (N ≤ 66000 ∧ M ≤ 66000 ∧ r < 32) := Lib.hid (by omega)
                have HRR : Hid ((N : Int) % 32 = (r : Int)) := Lib.hid (by omega)
                obtain ⟨XL, hXL⟩ : ∃ E, E = seL key0 non0 (List.replicate M 0) (List.replicate N 0) := ⟨_, rfl⟩
                have hz : (List.replicate N (0 : UInt8)).length = N := List.length_replicate
                have hz2 : (List.replicate M (0 : UInt8)).length = M := List.length_replicate
                have hk : ¬ okSz 65536 (List.replicate M 0) (List.replicate N 0) := fun g => by
                  have g1 := g.1
                  have g2 := g.2
                  omega
                have hs := seE_big okK_0 hk
                have HS : Hid (∀ v0 v1 v2 v3 w, Bs w v0 key0 → Bs w v1 non0 → Bs w v2 (List.replicate M 0) → Bs w v3 (List.replicate N 0) → Calls Try.prog 8 #[v0, v1, v2, v3] w fun e w' => ∃ v, e = .returned (.tuple #[v, .int .i64 11]) ∧ Bs w' v XL ∧ Below w.heap.size w w') := Lib.hid fun v0 v1 v2 v3 w h0 h1 h2 h3 => by
                  rw [← hs.1, hXL]
                  exact pSeal_to v0 _ v1 _ v2 _ v3 _ w h0 h1 h2 h3
                have hsh := opE_short (l2 := []) (l3 := List.replicate r 0) okK_0 ⟨by rw [List.length_replicate]; omega, by decide⟩ (by rw [List.length_replicate]; omega)
                have HO : Hid (∀ v0 v1 v3 w, Bs w v0 key0 → Bs w v1 non0 → Bs w v3 (List.replicate r 0) → Calls Try.prog 10 #[v0, v1, .slice none 0 0, v3] w fun e w' => ∃ v, e = .returned (.tuple #[v, .int .i64 2]) ∧ Bs w' v [] ∧ Below w.heap.size w w') := Lib.hid fun v0 v1 v3 w h0 h1 h3 => by
                  have g := pOpen_to v0 _ v1 _ _ [] v3 _ w h0 h1 (Bs.nil _) h3
                  rwa [hsh.1, hsh.2] at g
                have Bw0 := Below.refl w.heap.size w
                have HGS : Hid (∀ wq : World, Below w.heap.size w wq → w.heap.size ≤ wq.heap.size) := Lib.hid fun wq h => h.size
                clear hXL hz hz2 hk hs hsh hm hr w0 w1 d0 d1 d2 d3 d4 d5 d6
                go_enter Try.func5, Try.ntmps5
                go_wp2_with (first
                  | (have hgo := Bw0; clear hgo
                     refine wpList_makeO rfl (.const (.int .i64 32)) rfl 32 rfl (by decide) ?_
                     intro v_k w1 f_k kk
                     have Bw1 := zbt HGS Bw0 kk
                     clear Bw0 kk))
                replace f_k : Bs w1 v_k key0 := f_k
                replace f_k := f_k.drew
                have Bw2 := Bw1.drew
                clear Bw1
                refine wp_region_lint (.rd 0 (.rd 1 (.rd 2 (.rd 3 (.rd 5 (.br 4 (.wr 6 (.wr 7 (.rd 8 (.rd 9 (.rd 10 (.rd 11 (.rd 12 .done))))))) 6 (.wr 4 (.wr 7 (.rd 8 (.rd 9 (.rd 10 (.rd 11 (.rd 12 .done))))))))))))) (by kernel_rfl) (by kernel_rfl) (by decide) (by kernel_rfl) (fun d _ _ _ _ h => by cases d <;> exact h) ?_
                refine lint_pure 44 _ _ (v_k) rfl rfl rfl rfl rfl (fun wx hx => by unfold mkOp; go_simp; all_goals (with_reducible rfl)) ?_
                simp only [Act.put, zA, zB, zC]
                refine lint_pure 45 _ _ (v_k) rfl rfl rfl rfl rfl (fun wx hx => by unfold mkOp; go_simp; all_goals (with_reducible rfl)) ?_
                simp only [Act.put, zA, zB, zC]
                obtain ⟨v_non, f_non, hr46⟩ := takeB f_k 12 (by decide)
                refine lint_pure 46 _ _ (v_non) rfl rfl rfl rfl rfl (fun wx hx => by exact hr46 _ _ _ _ _ rfl rfl) ?_
                clear hr46
                simp only [Act.put, zA, zB, zC]
                refine lint_pure 47 _ _ (.int .i64 (M : Int)) rfl rfl rfl rfl rfl (fun wx hx => by unfold mkOp; go_simp; all_goals (with_reducible rfl)) ?_
                simp only [Act.put, zA, zB, zC]
                refine lint_pure 49 _ _ (.int .i64 (N : Int)) rfl rfl rfl rfl rfl (fun wx hx => by unfold mkOp; go_simp; all_goals (with_reducible rfl)) ?_
                simp only [Act.put, zA, zB, zC]
                refine ⟨?_, ?_⟩
                · skip
                  refine stp_makeN 48 (.tmp 47) M rfl rfl rfl rfl rfl (by have := HNN.out; omega) ?_
                  intro wq48 v_48 f_48 kk
                  replace f_k := zfb f_k kk
                  replace f_non := zfb f_non kk
                  have Bw3 := zbt HGS Bw2 kk
                  clear Bw2 kk
                  simp only [Act.put, zA, zB, zC]
                  refine stp_makeN 50 (.tmp 49) N rfl rfl rfl rfl rfl (by have := HNN.out; omega) ?_
                  intro wq50 v_50 f_50 kk
                  replace f_k := zfb f_k kk
                  replace f_non := zfb f_non kk
                  replace f_48 := zfb f_48 kk
                  have Bw4 := zbt HGS Bw3 kk
                  clear Bw3 kk
                  simp only [Act.put, zA, zB, zC]
                  refine stp_fn 51 8 _ _ _ (HS.out _ _ _ _ _ f_k f_non f_48 f_50) rfl rfl rfl rfl Try.func8 (by kernel_rfl) (by kernel_rfl) (by go_simp) ?_
                  rintro e wq51 ⟨v_51, rfl, f_51, kk⟩
                  refine ⟨_, rfl, kk, ?_⟩
                  replace f_k := zfb f_k kk
                  replace f_non := zfb f_non kk
                  replace f_48 := zfb f_48 kk
                  replace f_50 := zfb f_50 kk
                  have Bw5 := zbt HGS Bw4 kk
                  clear Bw4 kk
                  simp only [Act.put, zA, zB, zC]
                  refine lint_pure 43 _ _ (.tuple #[v_51, .int .i64 11]) rfl rfl rfl rfl rfl (fun wx hx => by unfold mkOp; go_simp; all_goals (with_reducible rfl)) ?_
                  simp only [Act.put, zA, zB, zC]
                  refine lint_pure 52 _ _ (v_51) rfl rfl rfl rfl rfl (fun wx hx => by unfold mkOp; go_simp; all_goals (with_reducible rfl)) ?_
                  simp only [Act.put, zA, zB, zC]
                  refine lint_pure 53 _ _ (.int .i64 (11 : Int)) rfl rfl rfl rfl rfl (fun wx hx => by unfold mkOp; go_simp; all_goals (with_reducible rfl)) ?_
                  simp only [Act.put, zA, zB, zC]
                  refine lint_pure 6 _ _ (v_51) rfl rfl rfl rfl rfl (fun wx hx => by unfold mkOp; go_simp; all_goals (with_reducible rfl)) ?_
                  simp only [Act.put, zA, zB, zC]
                  refine lint_pure 7 _ _ (.int .i64 (11 : Int)) rfl rfl rfl rfl rfl (fun wx hx => by unfold mkOp; go_simp; all_goals (with_reducible rfl)) ?_
                  simp only [Act.put, zA, zB, zC]
                  refine lint_end ?_
                  clear f_48 f_50 f_non
                  clear f_51
                  go_wp2
                  replace f_k := f_k.drew
                  have Bw6 := Bw5.drew
                  clear Bw5
                  refine wp_region_lint (.rd 0 (.rd 1 (.rd 2 (.rd 3 (.wr 4 (.wr 5 (.wr 6 (.rd 7 (.rd 8 (.rd 9 (.rd 10 (.rd 11 .done)))))))))))) (by kernel_rfl) (by kernel_rfl) (by decide) (by kernel_rfl) (fun d _ _ _ _ h => by cases d <;> exact h) ?_
                  refine lint_pure 61 _ _ (v_k) rfl rfl rfl rfl rfl (fun wx hx => by unfold mkOp; go_simp; all_goals (with_reducible rfl)) ?_
                  simp only [Act.put, zA, zB, zC]
                  refine lint_pure 62 _ _ (v_k) rfl rfl rfl rfl rfl (fun wx hx => by unfold mkOp; go_simp; all_goals (with_reducible rfl)) ?_
                  simp only [Act.put, zA, zB, zC]
                  obtain ⟨v_nom, f_nom, hr63⟩ := takeB f_k 12 (by decide)
                  refine lint_pure 63 _ _ (v_nom) rfl rfl rfl rfl rfl (fun wx hx => by exact hr63 _ _ _ _ _ rfl rfl) ?_
                  clear hr63
                  simp only [Act.put, zA, zB, zC]
                  refine lint_pure 64 _ _ (.int .i64 (N : Int)) rfl rfl rfl rfl rfl (fun wx hx => by unfold mkOp; go_simp; all_goals (with_reducible rfl)) ?_
                  simp only [Act.put, zA, zB, zC]
                  refine stp_fn 65 15 _ _ _ (round32_to _ r _ (by omega) (by have := HNN.out; omega) HRR.out) rfl rfl rfl rfl Try.func15 (by kernel_rfl) (by kernel_rfl) (by go_simp) ?_
                  rintro e wq65 ⟨rfl, kk⟩
                  refine ⟨_, rfl, kk, ?_⟩
                  replace f_k := zfb f_k kk
                  replace f_nom := zfb f_nom kk
                  have Bw7 := zbt HGS Bw6 kk
                  clear Bw6 kk
                  simp only [Act.put, zA, zB, zC]
                  refine stp_makeN 66 (.tmp 65) r rfl rfl rfl rfl rfl (by have := HNN.out; omega) ?_
                  intro wq66 v_66 f_66 kk
                  replace f_k := zfb f_k kk
                  replace f_nom := zfb f_nom kk
                  have Bw8 := zbt HGS Bw7 kk
                  clear Bw7 kk
                  simp only [Act.put, zA, zB, zC]
                  refine stp_fn 67 10 _ _ _ (HO.out _ _ _ _ f_k f_nom f_66) rfl rfl rfl rfl Try.func10 (by kernel_rfl) (by kernel_rfl) (by go_simp) ?_
                  rintro e wq67 ⟨v_67, rfl, f_67, kk⟩
                  refine ⟨_, rfl, kk, ?_⟩
                  replace f_k := zfb f_k kk
                  replace f_nom := zfb f_nom kk
                  replace f_66 := zfb f_66 kk
                  have Bw9 := zbt HGS Bw8 kk
                  clear Bw8 kk
                  simp only [Act.put, zA, zB, zC]
                  refine lint_pure 60 _ _ (.tuple #[v_67, .int .i64 2]) rfl rfl rfl rfl rfl (fun wx hx => by unfold mkOp; go_simp; all_goals (with_reducible rfl)) ?_
                  simp only [Act.put, zA, zB, zC]
                  refine lint_pure 68 _ _ (v_67) rfl rfl rfl rfl rfl (fun wx hx => by unfold mkOp; go_simp; all_goals (with_reducible rfl)) ?_
                  simp only [Act.put, zA, zB, zC]
                  refine lint_pure 69 _ _ (.int .i64 (2 : Int)) rfl rfl rfl rfl rfl (fun wx hx => by unfold mkOp; go_simp; all_goals (with_reducible rfl)) ?_
                  simp only [Act.put, zA, zB, zC]
                  refine lint_pure 9 _ _ (v_67) rfl rfl rfl rfl rfl (fun wx hx => by unfold mkOp; go_simp; all_goals (with_reducible rfl)) ?_
                  simp only [Act.put, zA, zB, zC]
                  refine lint_pure 10 _ _ (.int .i64 (2 : Int)) rfl rfl rfl rfl rfl (fun wx hx => by unfold mkOp; go_simp; all_goals (with_reducible rfl)) ?_
                  simp only [Act.put, zA, zB, zC]
                  refine lint_end ?_
                  go_wp2_with (first
                    | (have hgo := Bw9; clear hgo
                       go_at_call 7
                       refine (awake13_any _).mono ?_
                       rintro e w99 ⟨rfl, kk⟩
                       have Bw99 := zbt HGS Bw9 kk
                       clear Bw9 kk))
                  go_ret
                  exact ⟨rfl, Bw99⟩
                · skip
                  refine stp_makeN 50 (.tmp 49) N rfl rfl rfl rfl rfl (by have := HNN.out; omega) ?_
                  intro wq50 v_50 f_50 kk
                  replace f_k := zfb f_k kk
                  replace f_non := zfb f_non kk
                  have Bw3 := zbt HGS Bw2 kk
                  clear Bw2 kk
                  simp only [Act.put, zA, zB, zC]
                  refine stp_makeN 48 (.tmp 47) M rfl rfl rfl rfl rfl (by have := HNN.out; omega) ?_
                  intro wq48 v_48 f_48 kk
                  replace f_k := zfb f_k kk
                  replace f_non := zfb f_non kk
                  replace f_50 := zfb f_50 kk
                  have Bw4 := zbt HGS Bw3 kk
                  clear Bw3 kk
                  simp only [Act.put, zA, zB, zC]
                  refine stp_fn 51 8 _ _ _ (HS.out _ _ _ _ _ f_k f_non f_48 f_50) rfl rfl rfl rfl Try.func8 (by kernel_rfl) (by kernel_rfl) (by go_simp) ?_
                  rintro e wq51 ⟨v_51, rfl, f_51, kk⟩
                  refine ⟨_, rfl, kk, ?_⟩
                  replace f_k := zfb f_k kk
                  replace f_non := zfb f_non kk
                  replace f_50 := zfb f_50 kk
                  replace f_48 := zfb f_48 kk
                  have Bw5 := zbt HGS Bw4 kk
                  clear Bw4 kk
                  simp only [Act.put, zA, zB, zC]
                  refine lint_pure 43 _ _ (.tuple #[v_51, .int .i64 11]) rfl rfl rfl rfl rfl (fun wx hx => by unfold mkOp; go_simp; all_goals (with_reducible rfl)) ?_
                  simp only [Act.put, zA, zB, zC]
                  refine lint_pure 52 _ _ (v_51) rfl rfl rfl rfl rfl (fun wx hx => by unfold mkOp; go_simp; all_goals (with_reducible rfl)) ?_
                  simp only [Act.put, zA, zB, zC]
                  refine lint_pure 53 _ _ (.int .i64 (11 : Int)) rfl rfl rfl rfl rfl (fun wx hx => by unfold mkOp; go_simp; all_goals (with_reducible rfl)) ?_
                  simp only [Act.put, zA, zB, zC]
                  refine lint_pure 6 _ _ (v_51) rfl rfl rfl rfl rfl (fun wx hx => by unfold mkOp; go_simp; all_goals (with_reducible rfl)) ?_
                  simp only [Act.put, zA, zB, zC]
                  refine lint_pure 7 _ _ (.int .i64 (11 : Int)) rfl rfl rfl rfl rfl (fun wx hx => by unfold mkOp; go_simp; all_goals (with_reducible rfl)) ?_
                  simp only [Act.put, zA, zB, zC]
                  refine lint_end ?_
                  clear f_48 f_50 f_non
                  clear f_51
                  go_wp2
                  replace f_k := f_k.drew
                  have Bw6 := Bw5.drew
                  clear Bw5
                  refine wp_region_lint (.rd 0 (.rd 1 (.rd 2 (.rd 3 (.wr 4 (.wr 5 (.wr 6 (.rd 7 (.rd 8 (.rd 9 (.rd 10 (.rd 11 .done)))))))))))) (by kernel_rfl) (by kernel_rfl) (by decide) (by kernel_rfl) (fun d _ _ _ _ h => by cases d <;> exact h) ?_
                  refine lint_pure 61 _ _ (v_k) rfl rfl rfl rfl rfl (fun wx hx => by unfold mkOp; go_simp; all_goals (with_reducible rfl)) ?_
                  simp only [Act.put, zA, zB, zC]
                  refine lint_pure 62 _ _ (v_k) rfl rfl rfl rfl rfl (fun wx hx => by unfold mkOp; go_simp; all_goals (with_reducible rfl)) ?_
                  simp only [Act.put, zA, zB, zC]
                  obtain ⟨v_nom, f_nom, hr63⟩ := takeB f_k 12 (by decide)
                  refine lint_pure 63 _ _ (v_nom) rfl rfl rfl rfl rfl (fun wx hx => by exact hr63 _ _ _ _ _ rfl rfl) ?_
                  clear hr63
                  simp only [Act.put, zA, zB, zC]
                  refine lint_pure 64 _ _ (.int .i64 (N : Int)) rfl rfl rfl rfl rfl (fun wx hx => by unfold mkOp; go_simp; all_goals (with_reducible rfl)) ?_
                  simp only [Act.put, zA, zB, zC]
                  refine stp_fn 65 15 _ _ _ (round32_to _ r _ (by omega) (by have := HNN.out; omega) HRR.out) rfl rfl rfl rfl Try.func15 (by kernel_rfl) (by kernel_rfl) (by go_simp) ?_
                  rintro e wq65 ⟨rfl, kk⟩
                  refine ⟨_, rfl, kk, ?_⟩
                  replace f_k := zfb f_k kk
                  replace f_nom := zfb f_nom kk
                  have Bw7 := zbt HGS Bw6 kk
                  clear Bw6 kk
                  simp only [Act.put, zA, zB, zC]
                  refine stp_makeN 66 (.tmp 65) r rfl rfl rfl rfl rfl (by have := HNN.out; omega) ?_
                  intro wq66 v_66 f_66 kk
                  replace f_k := zfb f_k kk
                  replace f_nom := zfb f_nom kk
                  have Bw8 := zbt HGS Bw7 kk
                  clear Bw7 kk
                  simp only [Act.put, zA, zB, zC]
                  refine stp_fn 67 10 _ _ _ (HO.out _ _ _ _ f_k f_nom f_66) rfl rfl rfl rfl Try.func10 (by kernel_rfl) (by kernel_rfl) (by go_simp) ?_
                  rintro e wq67 ⟨v_67, rfl, f_67, kk⟩
                  refine ⟨_, rfl, kk, ?_⟩
                  replace f_k := zfb f_k kk
                  replace f_nom := zfb f_nom kk
                  replace f_66 := zfb f_66 kk
                  have Bw9 := zbt HGS Bw8 kk
                  clear Bw8 kk
                  simp only [Act.put, zA, zB, zC]
                  refine lint_pure 60 _ _ (.tuple #[v_67, .int .i64 2]) rfl rfl rfl rfl rfl (fun wx hx => by unfold mkOp; go_simp; all_goals (with_reducible rfl)) ?_
                  simp only [Act.put, zA, zB, zC]
                  refine lint_pure 68 _ _ (v_67) rfl rfl rfl rfl rfl (fun wx hx => by unfold mkOp; go_simp; all_goals (with_reducible rfl)) ?_
                  simp only [Act.put, zA, zB, zC]
                  refine lint_pure 69 _ _ (.int .i64 (2 : Int)) rfl rfl rfl rfl rfl (fun wx hx => by unfold mkOp; go_simp; all_goals (with_reducible rfl)) ?_
                  simp only [Act.put, zA, zB, zC]
                  refine lint_pure 9 _ _ (v_67) rfl rfl rfl rfl rfl (fun wx hx => by unfold mkOp; go_simp; all_goals (with_reducible rfl)) ?_
                  simp only [Act.put, zA, zB, zC]
                  refine lint_pure 10 _ _ (.int .i64 (2 : Int)) rfl rfl rfl rfl rfl (fun wx hx => by unfold mkOp; go_simp; all_goals (with_reducible rfl)) ?_
                  simp only [Act.put, zA, zB, zC]
                  refine lint_end ?_
                  go_wp2_with (first
                    | (have hgo := Bw9; clear hgo
                       go_at_call 7
                       refine (awake13_any _).mono ?_
                       rintro e w99 ⟨rfl, kk⟩
                       have Bw99 := zbt HGS Bw9 kk
                       clear Bw9 kk))
                  go_ret
                  exact ⟨rfl, Bw99⟩
            · have q5 : (200 : Int) < x1 := by omega
              by_cases d6 : x1 < 65500
              · have q6 : x1 < (65500 : Int) := by omega
                clear w0 w1 d0 d1 d2 d3 d4 d5 d6
                go_enter Try.func5, Try.ntmps5
                go_wp2_with (go_at_call 7; refine (awake13_any _).mono ?_; rintro e w9 ⟨rfl, hb9⟩)
                go_ret
                exact ⟨rfl, hb9⟩
              · have q6 : ¬ x1 < (65500 : Int) := by omega
                by_cases d7 : x0 ≤ 65536
                · have q7 : ¬ (65536 : Int) < x0 := by omega
                  by_cases d8 : x1 ≤ 65536
                  · have q8 : ¬ (65536 : Int) < x1 := by omega
                    obtain ⟨N, rfl⟩ := Int.eq_ofNat_of_zero_le (show 0 ≤ x0 by omega)
                    obtain ⟨M, rfl⟩ := Int.eq_ofNat_of_zero_le (show 0 ≤ x1 by omega)
                    obtain ⟨m, hm⟩ := nat_var (N + 32)
                    have hw1 : IntKind.i64.wrap ((N : Int) + 32) = (m : Int) := by rw [IntWalk.i64_in _ (by omega)]; omega
                    obtain ⟨r, hr⟩ := nat_var (N % 32)
                    have HNN : Hid (N ≤ 66000 ∧ M ≤ 66000 ∧ r < 32) := Lib.hid (by omega)
                    have HRR : Hid ((N : Int) % 32 = (r : Int)) := Lib.hid (by omega)
                    obtain ⟨XL, hXL⟩ : ∃ E, E = seL key0 non0 (List.replicate M 0) (List.replicate N 0) := ⟨_, rfl⟩
                    have hz : (List.replicate N (0 : UInt8)).length = N := List.length_replicate
                    have hz2 : (List.replicate M (0 : UInt8)).length = M := List.length_replicate
                    have hk : okSz 65536 (List.replicate M 0) (List.replicate N 0) := ⟨by omega, by omega⟩
                    have hs := seE_ok okK_0 hk
                    have HS : Hid (∀ v0 v1 v2 v3 w, Bs w v0 key0 → Bs w v1 non0 → Bs w v2 (List.replicate M 0) → Bs w v3 (List.replicate N 0) → Calls Try.prog 8 #[v0, v1, v2, v3] w fun e w' => ∃ v, e = .returned (.tuple #[v, .int .i64 0]) ∧ Bs w' v XL ∧ Below w.heap.size w w') := Lib.hid fun v0 v1 v2 v3 w h0 h1 h2 h3 => by
                      rw [← hs.1, hXL]
                      exact pSeal_to v0 _ v1 _ v2 _ v3 _ w h0 h1 h2 h3
                    have HXL : Hid (XL.length = m) := Lib.hid (by rw [hXL, hs.2, boxL_len, hm, hz])
                    have hsh := opE_short (l2 := []) (l3 := List.replicate r 0) okK_0 ⟨by rw [List.length_replicate]; omega, by decide⟩ (by rw [List.length_replicate]; omega)
                    have HO : Hid (∀ v0 v1 v3 w, Bs w v0 key0 → Bs w v1 non0 → Bs w v3 (List.replicate r 0) → Calls Try.prog 10 #[v0, v1, .slice none 0 0, v3] w fun e w' => ∃ v, e = .returned (.tuple #[v, .int .i64 2]) ∧ Bs w' v [] ∧ Below w.heap.size w w') := Lib.hid fun v0 v1 v3 w h0 h1 h3 => by
                      have g := pOpen_to v0 _ v1 _ _ [] v3 _ w h0 h1 (Bs.nil _) h3
                      rwa [hsh.1, hsh.2] at g
                    have Bw0 := Below.refl w.heap.size w
                    have HGS : Hid (∀ wq : World, Below w.heap.size w wq → w.heap.size ≤ wq.heap.size) := Lib.hid fun wq h => h.size
                    clear hXL hz hz2 hk hs hsh hm hr w0 w1 d0 d1 d2 d3 d4 d5 d6 d7 d8
                    go_enter Try.func5, Try.ntmps5
                    go_wp2_with (first
                      | (have hgo := Bw0; clear hgo
                         refine wpList_makeO rfl (.const (.int .i64 32)) rfl 32 rfl (by decide) ?_
                         intro v_k w1 f_k kk
                         have Bw1 := zbt HGS Bw0 kk
                         clear Bw0 kk))
                    replace f_k : Bs w1 v_k key0 := f_k
                    replace f_k := f_k.drew
                    have Bw2 := Bw1.drew
                    clear Bw1
                    refine wp_region_lint (.rd 0 (.rd 1 (.rd 2 (.rd 3 (.rd 5 (.br 4 (.wr 6 (.wr 7 (.rd 8 (.rd 9 (.rd 10 (.rd 11 (.rd 12 .done))))))) 6 (.wr 4 (.wr 7 (.rd 8 (.rd 9 (.rd 10 (.rd 11 (.rd 12 .done))))))))))))) (by kernel_rfl) (by kernel_rfl) (by decide) (by kernel_rfl) (fun d _ _ _ _ h => by cases d <;> exact h) ?_
                    refine lint_pure 44 _ _ (v_k) rfl rfl rfl rfl rfl (fun wx hx => by unfold mkOp; go_simp; all_goals (with_reducible rfl)) ?_
                    simp only [Act.put, zA, zB, zC]
                    refine lint_pure 45 _ _ (v_k) rfl rfl rfl rfl rfl (fun wx hx => by unfold mkOp; go_simp; all_goals (with_reducible rfl)) ?_
                    simp only [Act.put, zA, zB, zC]
                    obtain ⟨v_non, f_non, hr46⟩ := takeB f_k 12 (by decide)
                    refine lint_pure 46 _ _ (v_non) rfl rfl rfl rfl rfl (fun wx hx => by exact hr46 _ _ _ _ _ rfl rfl) ?_
                    clear hr46
                    simp only [Act.put, zA, zB, zC]
                    refine lint_pure 47 _ _ (.int .i64 (M : Int)) rfl rfl rfl rfl rfl (fun wx hx => by unfold mkOp; go_simp; all_goals (with_reducible rfl)) ?_
                    simp only [Act.put, zA, zB, zC]
                    refine lint_pure 49 _ _ (.int .i64 (N : Int)) rfl rfl rfl rfl rfl (fun wx hx => by unfold mkOp; go_simp; all_goals (with_reducible rfl)) ?_
                    simp only [Act.put, zA, zB, zC]
                    refine ⟨?_, ?_⟩
                    · skip
                      refine stp_makeN 48 (.tmp 47) M rfl rfl rfl rfl rfl (by have := HNN.out; omega) ?_
                      intro wq48 v_48 f_48 kk
                      replace f_k := zfb f_k kk
                      replace f_non := zfb f_non kk
                      have Bw3 := zbt HGS Bw2 kk
                      clear Bw2 kk
                      simp only [Act.put, zA, zB, zC]
                      refine stp_makeN 50 (.tmp 49) N rfl rfl rfl rfl rfl (by have := HNN.out; omega) ?_
                      intro wq50 v_50 f_50 kk
                      replace f_k := zfb f_k kk
                      replace f_non := zfb f_non kk
                      replace f_48 := zfb f_48 kk
                      have Bw4 := zbt HGS Bw3 kk
                      clear Bw3 kk
                      simp only [Act.put, zA, zB, zC]
                      refine stp_fn 51 8 _ _ _ (HS.out _ _ _ _ _ f_k f_non f_48 f_50) rfl rfl rfl rfl Try.func8 (by kernel_rfl) (by kernel_rfl) (by go_simp) ?_
                      rintro e wq51 ⟨v_51, rfl, f_51, kk⟩
                      refine ⟨_, rfl, kk, ?_⟩
                      replace f_k := zfb f_k kk
                      replace f_non := zfb f_non kk
                      replace f_48 := zfb f_48 kk
                      replace f_50 := zfb f_50 kk
                      have Bw5 := zbt HGS Bw4 kk
                      clear Bw4 kk
                      simp only [Act.put, zA, zB, zC]
                      refine lint_pure 43 _ _ (.tuple #[v_51, .int .i64 0]) rfl rfl rfl rfl rfl (fun wx hx => by unfold mkOp; go_simp; all_goals (with_reducible rfl)) ?_
                      simp only [Act.put, zA, zB, zC]
                      refine lint_pure 52 _ _ (v_51) rfl rfl rfl rfl rfl (fun wx hx => by unfold mkOp; go_simp; all_goals (with_reducible rfl)) ?_
                      simp only [Act.put, zA, zB, zC]
                      refine lint_pure 53 _ _ (.int .i64 (0 : Int)) rfl rfl rfl rfl rfl (fun wx hx => by unfold mkOp; go_simp; all_goals (with_reducible rfl)) ?_
                      simp only [Act.put, zA, zB, zC]
                      refine lint_pure 6 _ _ (v_51) rfl rfl rfl rfl rfl (fun wx hx => by unfold mkOp; go_simp; all_goals (with_reducible rfl)) ?_
                      simp only [Act.put, zA, zB, zC]
                      refine lint_pure 7 _ _ (.int .i64 (0 : Int)) rfl rfl rfl rfl rfl (fun wx hx => by unfold mkOp; go_simp; all_goals (with_reducible rfl)) ?_
                      simp only [Act.put, zA, zB, zC]
                      refine lint_end ?_
                      clear f_48 f_50 f_non
                      obtain ⟨ad_x, n_x, c_x, rfl, he, hy, hz, _⟩ := f_51.shape
                      have hn : n_x = m := by rw [← he]; exact HXL.out
                      subst hn
                      clear he hy hz f_51
                      go_wp2
                      replace f_k := f_k.drew
                      have Bw6 := Bw5.drew
                      clear Bw5
                      refine wp_region_lint (.rd 0 (.rd 1 (.rd 2 (.rd 3 (.wr 4 (.wr 5 (.wr 6 (.rd 7 (.rd 8 (.rd 9 (.rd 10 (.rd 11 .done)))))))))))) (by kernel_rfl) (by kernel_rfl) (by decide) (by kernel_rfl) (fun d _ _ _ _ h => by cases d <;> exact h) ?_
                      refine lint_pure 61 _ _ (v_k) rfl rfl rfl rfl rfl (fun wx hx => by unfold mkOp; go_simp; all_goals (with_reducible rfl)) ?_
                      simp only [Act.put, zA, zB, zC]
                      refine lint_pure 62 _ _ (v_k) rfl rfl rfl rfl rfl (fun wx hx => by unfold mkOp; go_simp; all_goals (with_reducible rfl)) ?_
                      simp only [Act.put, zA, zB, zC]
                      obtain ⟨v_nom, f_nom, hr63⟩ := takeB f_k 12 (by decide)
                      refine lint_pure 63 _ _ (v_nom) rfl rfl rfl rfl rfl (fun wx hx => by exact hr63 _ _ _ _ _ rfl rfl) ?_
                      clear hr63
                      simp only [Act.put, zA, zB, zC]
                      refine lint_pure 64 _ _ (.int .i64 (N : Int)) rfl rfl rfl rfl rfl (fun wx hx => by unfold mkOp; go_simp; all_goals (with_reducible rfl)) ?_
                      simp only [Act.put, zA, zB, zC]
                      refine stp_fn 65 15 _ _ _ (round32_to _ r _ (by omega) (by have := HNN.out; omega) HRR.out) rfl rfl rfl rfl Try.func15 (by kernel_rfl) (by kernel_rfl) (by go_simp) ?_
                      rintro e wq65 ⟨rfl, kk⟩
                      refine ⟨_, rfl, kk, ?_⟩
                      replace f_k := zfb f_k kk
                      replace f_nom := zfb f_nom kk
                      have Bw7 := zbt HGS Bw6 kk
                      clear Bw6 kk
                      simp only [Act.put, zA, zB, zC]
                      refine stp_makeN 66 (.tmp 65) r rfl rfl rfl rfl rfl (by have := HNN.out; omega) ?_
                      intro wq66 v_66 f_66 kk
                      replace f_k := zfb f_k kk
                      replace f_nom := zfb f_nom kk
                      have Bw8 := zbt HGS Bw7 kk
                      clear Bw7 kk
                      simp only [Act.put, zA, zB, zC]
                      refine stp_fn 67 10 _ _ _ (HO.out _ _ _ _ f_k f_nom f_66) rfl rfl rfl rfl Try.func10 (by kernel_rfl) (by kernel_rfl) (by go_simp) ?_
                      rintro e wq67 ⟨v_67, rfl, f_67, kk⟩
                      refine ⟨_, rfl, kk, ?_⟩
                      replace f_k := zfb f_k kk
                      replace f_nom := zfb f_nom kk
                      replace f_66 := zfb f_66 kk
                      have Bw9 := zbt HGS Bw8 kk
                      clear Bw8 kk
                      simp only [Act.put, zA, zB, zC]
                      refine lint_pure 60 _ _ (.tuple #[v_67, .int .i64 2]) rfl rfl rfl rfl rfl (fun wx hx => by unfold mkOp; go_simp; all_goals (with_reducible rfl)) ?_
                      simp only [Act.put, zA, zB, zC]
                      refine lint_pure 68 _ _ (v_67) rfl rfl rfl rfl rfl (fun wx hx => by unfold mkOp; go_simp; all_goals (with_reducible rfl)) ?_
                      simp only [Act.put, zA, zB, zC]
                      refine lint_pure 69 _ _ (.int .i64 (2 : Int)) rfl rfl rfl rfl rfl (fun wx hx => by unfold mkOp; go_simp; all_goals (with_reducible rfl)) ?_
                      simp only [Act.put, zA, zB, zC]
                      refine lint_pure 9 _ _ (v_67) rfl rfl rfl rfl rfl (fun wx hx => by unfold mkOp; go_simp; all_goals (with_reducible rfl)) ?_
                      simp only [Act.put, zA, zB, zC]
                      refine lint_pure 10 _ _ (.int .i64 (2 : Int)) rfl rfl rfl rfl rfl (fun wx hx => by unfold mkOp; go_simp; all_goals (with_reducible rfl)) ?_
                      simp only [Act.put, zA, zB, zC]
                      refine lint_end ?_
                      go_wp2_with (first
                        | (have hgo := Bw9; clear hgo
                           go_at_call 7
                           refine (awake13_any _).mono ?_
                           rintro e w99 ⟨rfl, kk⟩
                           have Bw99 := zbt HGS Bw9 kk
                           clear Bw9 kk))
                      go_ret
                      exact ⟨rfl, Bw99⟩
                    · skip
                      refine stp_makeN 50 (.tmp 49) N rfl rfl rfl rfl rfl (by have := HNN.out; omega) ?_
                      intro wq50 v_50 f_50 kk
                      replace f_k := zfb f_k kk
                      replace f_non := zfb f_non kk
                      have Bw3 := zbt HGS Bw2 kk
                      clear Bw2 kk
                      simp only [Act.put, zA, zB, zC]
                      refine stp_makeN 48 (.tmp 47) M rfl rfl rfl rfl rfl (by have := HNN.out; omega) ?_
                      intro wq48 v_48 f_48 kk
                      replace f_k := zfb f_k kk
                      replace f_non := zfb f_non kk
                      replace f_50 := zfb f_50 kk
                      have Bw4 := zbt HGS Bw3 kk
                      clear Bw3 kk
                      simp only [Act.put, zA, zB, zC]
                      refine stp_fn 51 8 _ _ _ (HS.out _ _ _ _ _ f_k f_non f_48 f_50) rfl rfl rfl rfl Try.func8 (by kernel_rfl) (by kernel_rfl) (by go_simp) ?_
                      rintro e wq51 ⟨v_51, rfl, f_51, kk⟩
                      refine ⟨_, rfl, kk, ?_⟩
                      replace f_k := zfb f_k kk
                      replace f_non := zfb f_non kk
                      replace f_50 := zfb f_50 kk
                      replace f_48 := zfb f_48 kk
                      have Bw5 := zbt HGS Bw4 kk
                      clear Bw4 kk
                      simp only [Act.put, zA, zB, zC]
                      refine lint_pure 43 _ _ (.tuple #[v_51, .int .i64 0]) rfl rfl rfl rfl rfl (fun wx hx => by unfold mkOp; go_simp; all_goals (with_reducible rfl)) ?_
                      simp only [Act.put, zA, zB, zC]
                      refine lint_pure 52 _ _ (v_51) rfl rfl rfl rfl rfl (fun wx hx => by unfold mkOp; go_simp; all_goals (with_reducible rfl)) ?_
                      simp only [Act.put, zA, zB, zC]
                      refine lint_pure 53 _ _ (.int .i64 (0 : Int)) rfl rfl rfl rfl rfl (fun wx hx => by unfold mkOp; go_simp; all_goals (with_reducible rfl)) ?_
                      simp only [Act.put, zA, zB, zC]
                      refine lint_pure 6 _ _ (v_51) rfl rfl rfl rfl rfl (fun wx hx => by unfold mkOp; go_simp; all_goals (with_reducible rfl)) ?_
                      simp only [Act.put, zA, zB, zC]
                      refine lint_pure 7 _ _ (.int .i64 (0 : Int)) rfl rfl rfl rfl rfl (fun wx hx => by unfold mkOp; go_simp; all_goals (with_reducible rfl)) ?_
                      simp only [Act.put, zA, zB, zC]
                      refine lint_end ?_
                      clear f_48 f_50 f_non
                      obtain ⟨ad_x, n_x, c_x, rfl, he, hy, hz, _⟩ := f_51.shape
                      have hn : n_x = m := by rw [← he]; exact HXL.out
                      subst hn
                      clear he hy hz f_51
                      go_wp2
                      replace f_k := f_k.drew
                      have Bw6 := Bw5.drew
                      clear Bw5
                      refine wp_region_lint (.rd 0 (.rd 1 (.rd 2 (.rd 3 (.wr 4 (.wr 5 (.wr 6 (.rd 7 (.rd 8 (.rd 9 (.rd 10 (.rd 11 .done)))))))))))) (by kernel_rfl) (by kernel_rfl) (by decide) (by kernel_rfl) (fun d _ _ _ _ h => by cases d <;> exact h) ?_
                      refine lint_pure 61 _ _ (v_k) rfl rfl rfl rfl rfl (fun wx hx => by unfold mkOp; go_simp; all_goals (with_reducible rfl)) ?_
                      simp only [Act.put, zA, zB, zC]
                      refine lint_pure 62 _ _ (v_k) rfl rfl rfl rfl rfl (fun wx hx => by unfold mkOp; go_simp; all_goals (with_reducible rfl)) ?_
                      simp only [Act.put, zA, zB, zC]
                      obtain ⟨v_nom, f_nom, hr63⟩ := takeB f_k 12 (by decide)
                      refine lint_pure 63 _ _ (v_nom) rfl rfl rfl rfl rfl (fun wx hx => by exact hr63 _ _ _ _ _ rfl rfl) ?_
                      clear hr63
                      simp only [Act.put, zA, zB, zC]
                      refine lint_pure 64 _ _ (.int .i64 (N : Int)) rfl rfl rfl rfl rfl (fun wx hx => by unfold mkOp; go_simp; all_goals (with_reducible rfl)) ?_
                      simp only [Act.put, zA, zB, zC]
                      refine stp_fn 65 15 _ _ _ (round32_to _ r _ (by omega) (by have := HNN.out; omega) HRR.out) rfl rfl rfl rfl Try.func15 (by kernel_rfl) (by kernel_rfl) (by go_simp) ?_
                      rintro e wq65 ⟨rfl, kk⟩
                      refine ⟨_, rfl, kk, ?_⟩
                      replace f_k := zfb f_k kk
                      replace f_nom := zfb f_nom kk
                      have Bw7 := zbt HGS Bw6 kk
                      clear Bw6 kk
                      simp only [Act.put, zA, zB, zC]
                      refine stp_makeN 66 (.tmp 65) r rfl rfl rfl rfl rfl (by have := HNN.out; omega) ?_
                      intro wq66 v_66 f_66 kk
                      replace f_k := zfb f_k kk
                      replace f_nom := zfb f_nom kk
                      have Bw8 := zbt HGS Bw7 kk
                      clear Bw7 kk
                      simp only [Act.put, zA, zB, zC]
                      refine stp_fn 67 10 _ _ _ (HO.out _ _ _ _ f_k f_nom f_66) rfl rfl rfl rfl Try.func10 (by kernel_rfl) (by kernel_rfl) (by go_simp) ?_
                      rintro e wq67 ⟨v_67, rfl, f_67, kk⟩
                      refine ⟨_, rfl, kk, ?_⟩
                      replace f_k := zfb f_k kk
                      replace f_nom := zfb f_nom kk
                      replace f_66 := zfb f_66 kk
                      have Bw9 := zbt HGS Bw8 kk
                      clear Bw8 kk
                      simp only [Act.put, zA, zB, zC]
                      refine lint_pure 60 _ _ (.tuple #[v_67, .int .i64 2]) rfl rfl rfl rfl rfl (fun wx hx => by unfold mkOp; go_simp; all_goals (with_reducible rfl)) ?_
                      simp only [Act.put, zA, zB, zC]
                      refine lint_pure 68 _ _ (v_67) rfl rfl rfl rfl rfl (fun wx hx => by unfold mkOp; go_simp; all_goals (with_reducible rfl)) ?_
                      simp only [Act.put, zA, zB, zC]
                      refine lint_pure 69 _ _ (.int .i64 (2 : Int)) rfl rfl rfl rfl rfl (fun wx hx => by unfold mkOp; go_simp; all_goals (with_reducible rfl)) ?_
                      simp only [Act.put, zA, zB, zC]
                      refine lint_pure 9 _ _ (v_67) rfl rfl rfl rfl rfl (fun wx hx => by unfold mkOp; go_simp; all_goals (with_reducible rfl)) ?_
                      simp only [Act.put, zA, zB, zC]
                      refine lint_pure 10 _ _ (.int .i64 (2 : Int)) rfl rfl rfl rfl rfl (fun wx hx => by unfold mkOp; go_simp; all_goals (with_reducible rfl)) ?_
                      simp only [Act.put, zA, zB, zC]
                      refine lint_end ?_
                      go_wp2_with (first
                        | (have hgo := Bw9; clear hgo
                           go_at_call 7
                           refine (awake13_any _).mono ?_
                           rintro e w99 ⟨rfl, kk⟩
                           have Bw99 := zbt HGS Bw9 kk
                           clear Bw9 kk))
                      go_ret
                      exact ⟨rfl, Bw99⟩
                  · have q8 : (65536 : Int) < x1 := by omega
                    obtain ⟨N, rfl⟩ := Int.eq_ofNat_of_zero_le (show 0 ≤ x0 by omega)
                    obtain ⟨M, rfl⟩ := Int.eq_ofNat_of_zero_le (show 0 ≤ x1 by omega)
                    obtain ⟨m, hm⟩ := nat_var (N + 32)
                    have hw1 : IntKind.i64.wrap ((N : Int) + 32) = (m : Int) := by rw [IntWalk.i64_in _ (by omega)]; omega
                    obtain ⟨r, hr⟩ := nat_var (N % 32)
                    have HNN : Hid (N ≤ 66000 ∧ M ≤ 66000 ∧ r < 32) := Lib.hid (by omega)
                    have HRR : Hid ((N : Int) % 32 = (r : Int)) := Lib.hid (by omega)
                    obtain ⟨XL, hXL⟩ : ∃ E, E = seL key0 non0 (List.replicate M 0) (List.replicate N 0) := ⟨_, rfl⟩
                    have hz : (List.replicate N (0 : UInt8)).length = N := List.length_replicate
                    have hz2 : (List.replicate M (0 : UInt8)).length = M := List.length_replicate
                    have hk : ¬ okSz 65536 (List.replicate M 0) (List.replicate N 0) := fun g => by
                      have g1 := g.1
                      have g2 := g.2
                      omega
                    have hs := seE_big okK_0 hk
                    have HS : Hid (∀ v0 v1 v2 v3 w, Bs w v0 key0 → Bs w v1 non0 → Bs w v2 (List.replicate M 0) → Bs w v3 (List.replicate N 0) → Calls Try.prog 8 #[v0, v1, v2, v3] w fun e w' => ∃ v, e = .returned (.tuple #[v, .int .i64 11]) ∧ Bs w' v XL ∧ Below w.heap.size w w') := Lib.hid fun v0 v1 v2 v3 w h0 h1 h2 h3 => by
                      rw [← hs.1, hXL]
                      exact pSeal_to v0 _ v1 _ v2 _ v3 _ w h0 h1 h2 h3
                    have hsh := opE_short (l2 := []) (l3 := List.replicate r 0) okK_0 ⟨by rw [List.length_replicate]; omega, by decide⟩ (by rw [List.length_replicate]; omega)
                    have HO : Hid (∀ v0 v1 v3 w, Bs w v0 key0 → Bs w v1 non0 → Bs w v3 (List.replicate r 0) → Calls Try.prog 10 #[v0, v1, .slice none 0 0, v3] w fun e w' => ∃ v, e = .returned (.tuple #[v, .int .i64 2]) ∧ Bs w' v [] ∧ Below w.heap.size w w') := Lib.hid fun v0 v1 v3 w h0 h1 h3 => by
                      have g := pOpen_to v0 _ v1 _ _ [] v3 _ w h0 h1 (Bs.nil _) h3
                      rwa [hsh.1, hsh.2] at g
                    have Bw0 := Below.refl w.heap.size w
                    have HGS : Hid (∀ wq : World, Below w.heap.size w wq → w.heap.size ≤ wq.heap.size) := Lib.hid fun wq h => h.size
                    clear hXL hz hz2 hk hs hsh hm hr w0 w1 d0 d1 d2 d3 d4 d5 d6 d7 d8
                    go_enter Try.func5, Try.ntmps5
                    go_wp2_with (first
                      | (have hgo := Bw0; clear hgo
                         refine wpList_makeO rfl (.const (.int .i64 32)) rfl 32 rfl (by decide) ?_
                         intro v_k w1 f_k kk
                         have Bw1 := zbt HGS Bw0 kk
                         clear Bw0 kk))
                    replace f_k : Bs w1 v_k key0 := f_k
                    replace f_k := f_k.drew
                    have Bw2 := Bw1.drew
                    clear Bw1
                    refine wp_region_lint (.rd 0 (.rd 1 (.rd 2 (.rd 3 (.rd 5 (.br 4 (.wr 6 (.wr 7 (.rd 8 (.rd 9 (.rd 10 (.rd 11 (.rd 12 .done))))))) 6 (.wr 4 (.wr 7 (.rd 8 (.rd 9 (.rd 10 (.rd 11 (.rd 12 .done))))))))))))) (by kernel_rfl) (by kernel_rfl) (by decide) (by kernel_rfl) (fun d _ _ _ _ h => by cases d <;> exact h) ?_
                    refine lint_pure 44 _ _ (v_k) rfl rfl rfl rfl rfl (fun wx hx => by unfold mkOp; go_simp; all_goals (with_reducible rfl)) ?_
                    simp only [Act.put, zA, zB, zC]
                    refine lint_pure 45 _ _ (v_k) rfl rfl rfl rfl rfl (fun wx hx => by unfold mkOp; go_simp; all_goals (with_reducible rfl)) ?_
                    simp only [Act.put, zA, zB, zC]
                    obtain ⟨v_non, f_non, hr46⟩ := takeB f_k 12 (by decide)
                    refine lint_pure 46 _ _ (v_non) rfl rfl rfl rfl rfl (fun wx hx => by exact hr46 _ _ _ _ _ rfl rfl) ?_
                    clear hr46
                    simp only [Act.put, zA, zB, zC]
                    refine lint_pure 47 _ _ (.int .i64 (M : Int)) rfl rfl rfl rfl rfl (fun wx hx => by unfold mkOp; go_simp; all_goals (with_reducible rfl)) ?_
                    simp only [Act.put, zA, zB, zC]
                    refine lint_pure 49 _ _ (.int .i64 (N : Int)) rfl rfl rfl rfl rfl (fun wx hx => by unfold mkOp; go_simp; all_goals (with_reducible rfl)) ?_
                    simp only [Act.put, zA, zB, zC]
                    refine ⟨?_, ?_⟩
                    · skip
                      refine stp_makeN 48 (.tmp 47) M rfl rfl rfl rfl rfl (by have := HNN.out; omega) ?_
                      intro wq48 v_48 f_48 kk
                      replace f_k := zfb f_k kk
                      replace f_non := zfb f_non kk
                      have Bw3 := zbt HGS Bw2 kk
                      clear Bw2 kk
                      simp only [Act.put, zA, zB, zC]
                      refine stp_makeN 50 (.tmp 49) N rfl rfl rfl rfl rfl (by have := HNN.out; omega) ?_
                      intro wq50 v_50 f_50 kk
                      replace f_k := zfb f_k kk
                      replace f_non := zfb f_non kk
                      replace f_48 := zfb f_48 kk
                      have Bw4 := zbt HGS Bw3 kk
                      clear Bw3 kk
                      simp only [Act.put, zA, zB, zC]
                      refine stp_fn 51 8 _ _ _ (HS.out _ _ _ _ _ f_k f_non f_48 f_50) rfl rfl rfl rfl Try.func8 (by kernel_rfl) (by kernel_rfl) (by go_simp) ?_
                      rintro e wq51 ⟨v_51, rfl, f_51, kk⟩
                      refine ⟨_, rfl, kk, ?_⟩
                      replace f_k := zfb f_k kk
                      replace f_non := zfb f_non kk
                      replace f_48 := zfb f_48 kk
                      replace f_50 := zfb f_50 kk
                      have Bw5 := zbt HGS Bw4 kk
                      clear Bw4 kk
                      simp only [Act.put, zA, zB, zC]
                      refine lint_pure 43 _ _ (.tuple #[v_51, .int .i64 11]) rfl rfl rfl rfl rfl (fun wx hx => by unfold mkOp; go_simp; all_goals (with_reducible rfl)) ?_
                      simp only [Act.put, zA, zB, zC]
                      refine lint_pure 52 _ _ (v_51) rfl rfl rfl rfl rfl (fun wx hx => by unfold mkOp; go_simp; all_goals (with_reducible rfl)) ?_
                      simp only [Act.put, zA, zB, zC]
                      refine lint_pure 53 _ _ (.int .i64 (11 : Int)) rfl rfl rfl rfl rfl (fun wx hx => by unfold mkOp; go_simp; all_goals (with_reducible rfl)) ?_
                      simp only [Act.put, zA, zB, zC]
                      refine lint_pure 6 _ _ (v_51) rfl rfl rfl rfl rfl (fun wx hx => by unfold mkOp; go_simp; all_goals (with_reducible rfl)) ?_
                      simp only [Act.put, zA, zB, zC]
                      refine lint_pure 7 _ _ (.int .i64 (11 : Int)) rfl rfl rfl rfl rfl (fun wx hx => by unfold mkOp; go_simp; all_goals (with_reducible rfl)) ?_
                      simp only [Act.put, zA, zB, zC]
                      refine lint_end ?_
                      clear f_48 f_50 f_non
                      clear f_51
                      go_wp2
                      replace f_k := f_k.drew
                      have Bw6 := Bw5.drew
                      clear Bw5
                      refine wp_region_lint (.rd 0 (.rd 1 (.rd 2 (.rd 3 (.wr 4 (.wr 5 (.wr 6 (.rd 7 (.rd 8 (.rd 9 (.rd 10 (.rd 11 .done)))))))))))) (by kernel_rfl) (by kernel_rfl) (by decide) (by kernel_rfl) (fun d _ _ _ _ h => by cases d <;> exact h) ?_
                      refine lint_pure 61 _ _ (v_k) rfl rfl rfl rfl rfl (fun wx hx => by unfold mkOp; go_simp; all_goals (with_reducible rfl)) ?_
                      simp only [Act.put, zA, zB, zC]
                      refine lint_pure 62 _ _ (v_k) rfl rfl rfl rfl rfl (fun wx hx => by unfold mkOp; go_simp; all_goals (with_reducible rfl)) ?_
                      simp only [Act.put, zA, zB, zC]
                      obtain ⟨v_nom, f_nom, hr63⟩ := takeB f_k 12 (by decide)
                      refine lint_pure 63 _ _ (v_nom) rfl rfl rfl rfl rfl (fun wx hx => by exact hr63 _ _ _ _ _ rfl rfl) ?_
                      clear hr63
                      simp only [Act.put, zA, zB, zC]
                      refine lint_pure 64 _ _ (.int .i64 (N : Int)) rfl rfl rfl rfl rfl (fun wx hx => by unfold mkOp; go_simp; all_goals (with_reducible rfl)) ?_
                      simp only [Act.put, zA, zB, zC]
                      refine stp_fn 65 15 _ _ _ (round32_to _ r _ (by omega) (by have := HNN.out; omega) HRR.out) rfl rfl rfl rfl Try.func15 (by kernel_rfl) (by kernel_rfl) (by go_simp) ?_
                      rintro e wq65 ⟨rfl, kk⟩
                      refine ⟨_, rfl, kk, ?_⟩
                      replace f_k := zfb f_k kk
                      replace f_nom := zfb f_nom kk
                      have Bw7 := zbt HGS Bw6 kk
                      clear Bw6 kk
                      simp only [Act.put, zA, zB, zC]
                      refine stp_makeN 66 (.tmp 65) r rfl rfl rfl rfl rfl (by have := HNN.out; omega) ?_
                      intro wq66 v_66 f_66 kk
                      replace f_k := zfb f_k kk
                      replace f_nom := zfb f_nom kk
                      have Bw8 := zbt HGS Bw7 kk
                      clear Bw7 kk
                      simp only [Act.put, zA, zB, zC]
                      refine stp_fn 67 10 _ _ _ (HO.out _ _ _ _ f_k f_nom f_66) rfl rfl rfl rfl Try.func10 (by kernel_rfl) (by kernel_rfl) (by go_simp) ?_
                      rintro e wq67 ⟨v_67, rfl, f_67, kk⟩
                      refine ⟨_, rfl, kk, ?_⟩
                      replace f_k := zfb f_k kk
                      replace f_nom := zfb f_nom kk
                      replace f_66 := zfb f_66 kk
                      have Bw9 := zbt HGS Bw8 kk
                      clear Bw8 kk
                      simp only [Act.put, zA, zB, zC]
                      refine lint_pure 60 _ _ (.tuple #[v_67, .int .i64 2]) rfl rfl rfl rfl rfl (fun wx hx => by unfold mkOp; go_simp; all_goals (with_reducible rfl)) ?_
                      simp only [Act.put, zA, zB, zC]
                      refine lint_pure 68 _ _ (v_67) rfl rfl rfl rfl rfl (fun wx hx => by unfold mkOp; go_simp; all_goals (with_reducible rfl)) ?_
                      simp only [Act.put, zA, zB, zC]
                      refine lint_pure 69 _ _ (.int .i64 (2 : Int)) rfl rfl rfl rfl rfl (fun wx hx => by unfold mkOp; go_simp; all_goals (with_reducible rfl)) ?_
                      simp only [Act.put, zA, zB, zC]
                      refine lint_pure 9 _ _ (v_67) rfl rfl rfl rfl rfl (fun wx hx => by unfold mkOp; go_simp; all_goals (with_reducible rfl)) ?_
                      simp only [Act.put, zA, zB, zC]
                      refine lint_pure 10 _ _ (.int .i64 (2 : Int)) rfl rfl rfl rfl rfl (fun wx hx => by unfold mkOp; go_simp; all_goals (with_reducible rfl)) ?_
                      simp only [Act.put, zA, zB, zC]
                      refine lint_end ?_
                      go_wp2_with (first
                        | (have hgo := Bw9; clear hgo
                           go_at_call 7
                           refine (awake13_any _).mono ?_
                           rintro e w99 ⟨rfl, kk⟩
                           have Bw99 := zbt HGS Bw9 kk
                           clear Bw9 kk))
                      go_ret
                      exact ⟨rfl, Bw99⟩
                    · skip
                      refine stp_makeN 50 (.tmp 49) N rfl rfl rfl rfl rfl (by have := HNN.out; omega) ?_
                      intro wq50 v_50 f_50 kk
                      replace f_k := zfb f_k kk
                      replace f_non := zfb f_non kk
                      have Bw3 := zbt HGS Bw2 kk
                      clear Bw2 kk
                      simp only [Act.put, zA, zB, zC]
                      refine stp_makeN 48 (.tmp 47) M rfl rfl rfl rfl rfl (by have := HNN.out; omega) ?_
                      intro wq48 v_48 f_48 kk
                      replace f_k := zfb f_k kk
                      replace f_non := zfb f_non kk
                      replace f_50 := zfb f_50 kk
                      have Bw4 := zbt HGS Bw3 kk
                      clear Bw3 kk
                      simp only [Act.put, zA, zB, zC]
                      refine stp_fn 51 8 _ _ _ (HS.out _ _ _ _ _ f_k f_non f_48 f_50) rfl rfl rfl rfl Try.func8 (by kernel_rfl) (by kernel_rfl) (by go_simp) ?_
                      rintro e wq51 ⟨v_51, rfl, f_51, kk⟩
                      refine ⟨_, rfl, kk, ?_⟩
                      replace f_k := zfb f_k kk
                      replace f_non := zfb f_non kk
                      replace f_50 := zfb f_50 kk
                      replace f_48 := zfb f_48 kk
                      have Bw5 := zbt HGS Bw4 kk
                      clear Bw4 kk
                      simp only [Act.put, zA, zB, zC]
                      refine lint_pure 43 _ _ (.tuple #[v_51, .int .i64 11]) rfl rfl rfl rfl rfl (fun wx hx => by unfold mkOp; go_simp; all_goals (with_reducible rfl)) ?_
                      simp only [Act.put, zA, zB, zC]
                      refine lint_pure 52 _ _ (v_51) rfl rfl rfl rfl rfl (fun wx hx => by unfold mkOp; go_simp; all_goals (with_reducible rfl)) ?_
                      simp only [Act.put, zA, zB, zC]
                      refine lint_pure 53 _ _ (.int .i64 (11 : Int)) rfl rfl rfl rfl rfl (fun wx hx => by unfold mkOp; go_simp; all_goals (with_reducible rfl)) ?_
                      simp only [Act.put, zA, zB, zC]
                      refine lint_pure 6 _ _ (v_51) rfl rfl rfl rfl rfl (fun wx hx => by unfold mkOp; go_simp; all_goals (with_reducible rfl)) ?_
                      simp only [Act.put, zA, zB, zC]
                      refine lint_pure 7 _ _ (.int .i64 (11 : Int)) rfl rfl rfl rfl rfl (fun wx hx => by unfold mkOp; go_simp; all_goals (with_reducible rfl)) ?_
                      simp only [Act.put, zA, zB, zC]
                      refine lint_end ?_
                      clear f_48 f_50 f_non
                      clear f_51
                      go_wp2
                      replace f_k := f_k.drew
                      have Bw6 := Bw5.drew
                      clear Bw5
                      refine wp_region_lint (.rd 0 (.rd 1 (.rd 2 (.rd 3 (.wr 4 (.wr 5 (.wr 6 (.rd 7 (.rd 8 (.rd 9 (.rd 10 (.rd 11 .done)))))))))))) (by kernel_rfl) (by kernel_rfl) (by decide) (by kernel_rfl) (fun d _ _ _ _ h => by cases d <;> exact h) ?_
                      refine lint_pure 61 _ _ (v_k) rfl rfl rfl rfl rfl (fun wx hx => by unfold mkOp; go_simp; all_goals (with_reducible rfl)) ?_
                      simp only [Act.put, zA, zB, zC]
                      refine lint_pure 62 _ _ (v_k) rfl rfl rfl rfl rfl (fun wx hx => by unfold mkOp; go_simp; all_goals (with_reducible rfl)) ?_
                      simp only [Act.put, zA, zB, zC]
                      obtain ⟨v_nom, f_nom, hr63⟩ := takeB f_k 12 (by decide)
                      refine lint_pure 63 _ _ (v_nom) rfl rfl rfl rfl rfl (fun wx hx => by exact hr63 _ _ _ _ _ rfl rfl) ?_
                      clear hr63
                      simp only [Act.put, zA, zB, zC]
                      refine lint_pure 64 _ _ (.int .i64 (N : Int)) rfl rfl rfl rfl rfl (fun wx hx => by unfold mkOp; go_simp; all_goals (with_reducible rfl)) ?_
                      simp only [Act.put, zA, zB, zC]
                      refine stp_fn 65 15 _ _ _ (round32_to _ r _ (by omega) (by have := HNN.out; omega) HRR.out) rfl rfl rfl rfl Try.func15 (by kernel_rfl) (by kernel_rfl) (by go_simp) ?_
                      rintro e wq65 ⟨rfl, kk⟩
                      refine ⟨_, rfl, kk, ?_⟩
                      replace f_k := zfb f_k kk
                      replace f_nom := zfb f_nom kk
                      have Bw7 := zbt HGS Bw6 kk
                      clear Bw6 kk
                      simp only [Act.put, zA, zB, zC]
                      refine stp_makeN 66 (.tmp 65) r rfl rfl rfl rfl rfl (by have := HNN.out; omega) ?_
                      intro wq66 v_66 f_66 kk
                      replace f_k := zfb f_k kk
                      replace f_nom := zfb f_nom kk
                      have Bw8 := zbt HGS Bw7 kk
                      clear Bw7 kk
                      simp only [Act.put, zA, zB, zC]
                      refine stp_fn 67 10 _ _ _ (HO.out _ _ _ _ f_k f_nom f_66) rfl rfl rfl rfl Try.func10 (by kernel_rfl) (by kernel_rfl) (by go_simp) ?_
                      rintro e wq67 ⟨v_67, rfl, f_67, kk⟩
                      refine ⟨_, rfl, kk, ?_⟩
                      replace f_k := zfb f_k kk
                      replace f_nom := zfb f_nom kk
                      replace f_66 := zfb f_66 kk
                      have Bw9 := zbt HGS Bw8 kk
                      clear Bw8 kk
                      simp only [Act.put, zA, zB, zC]
                      refine lint_pure 60 _ _ (.tuple #[v_67, .int .i64 2]) rfl rfl rfl rfl rfl (fun wx hx => by unfold mkOp; go_simp; all_goals (with_reducible rfl)) ?_
                      simp only [Act.put, zA, zB, zC]
                      refine lint_pure 68 _ _ (v_67) rfl rfl rfl rfl rfl (fun wx hx => by unfold mkOp; go_simp; all_goals (with_reducible rfl)) ?_
                      simp only [Act.put, zA, zB, zC]
                      refine lint_pure 69 _ _ (.int .i64 (2 : Int)) rfl rfl rfl rfl rfl (fun wx hx => by unfold mkOp; go_simp; all_goals (with_reducible rfl)) ?_
                      simp only [Act.put, zA, zB, zC]
                      refine lint_pure 9 _ _ (v_67) rfl rfl rfl rfl rfl (fun wx hx => by unfold mkOp; go_simp; all_goals (with_reducible rfl)) ?_
                      simp only [Act.put, zA, zB, zC]
                      refine lint_pure 10 _ _ (.int .i64 (2 : Int)) rfl rfl rfl rfl rfl (fun wx hx => by unfold mkOp; go_simp; all_goals (with_reducible rfl)) ?_
                      simp only [Act.put, zA, zB, zC]
                      refine lint_end ?_
                      go_wp2_with (first
                        | (have hgo := Bw9; clear hgo
                           go_at_call 7
                           refine (awake13_any _).mono ?_
                           rintro e w99 ⟨rfl, kk⟩
                           have Bw99 := zbt HGS Bw9 kk
                           clear Bw9 kk))
                      go_ret
                      exact ⟨rfl, Bw99⟩
                · have q7 : (65536 : Int) < x0 := by omega
                  obtain ⟨N, rfl⟩ := Int.eq_ofNat_of_zero_le (show 0 ≤ x0 by omega)
                  obtain ⟨M, rfl⟩ := Int.eq_ofNat_of_zero_le (show 0 ≤ x1 by omega)
                  obtain ⟨m, hm⟩ := nat_var (N + 32)
                  have hw1 : IntKind.i64.wrap ((N : Int) + 32) = (m : Int) := by rw [IntWalk.i64_in _ (by omega)]; omega
                  obtain ⟨r, hr⟩ := nat_var (N % 32)
                  have HNN : Hid (N ≤ 66000 ∧ M ≤ 66000 ∧ r < 32) := Lib.hid (by omega)
                  have HRR : Hid ((N : Int) % 32 = (r : Int)) := Lib.hid (by omega)
                  obtain ⟨XL, hXL⟩ : ∃ E, E = seL key0 non0 (List.replicate M 0) (List.replicate N 0) := ⟨_, rfl⟩
                  have hz : (List.replicate N (0 : UInt8)).length = N := List.length_replicate
                  have hz2 : (List.replicate M (0 : UInt8)).length = M := List.length_replicate
                  have hk : ¬ okSz 65536 (List.replicate M 0) (List.replicate N 0) := fun g => by
                    have g1 := g.1
                    have g2 := g.2
                    omega
                  have hs := seE_big okK_0 hk
                  have HS : Hid (∀ v0 v1 v2 v3 w, Bs w v0 key0 → Bs w v1 non0 → Bs w v2 (List.replicate M 0) → Bs w v3 (List.replicate N 0) → Calls Try.prog 8 #[v0, v1, v2, v3] w fun e w' => ∃ v, e = .returned (.tuple #[v, .int .i64 11]) ∧ Bs w' v XL ∧ Below w.heap.size w w') := Lib.hid fun v0 v1 v2 v3 w h0 h1 h2 h3 => by
                    rw [← hs.1, hXL]
                    exact pSeal_to v0 _ v1 _ v2 _ v3 _ w h0 h1 h2 h3
                  have hsh := opE_short (l2 := []) (l3 := List.replicate r 0) okK_0 ⟨by rw [List.length_replicate]; omega, by decide⟩ (by rw [List.length_replicate]; omega)
                  have HO : Hid (∀ v0 v1 v3 w, Bs w v0 key0 → Bs w v1 non0 → Bs w v3 (List.replicate r 0) → Calls Try.prog 10 #[v0, v1, .slice none 0 0, v3] w fun e w' => ∃ v, e = .returned (.tuple #[v, .int .i64 2]) ∧ Bs w' v [] ∧ Below w.heap.size w w') := Lib.hid fun v0 v1 v3 w h0 h1 h3 => by
                    have g := pOpen_to v0 _ v1 _ _ [] v3 _ w h0 h1 (Bs.nil _) h3
                    rwa [hsh.1, hsh.2] at g
                  have Bw0 := Below.refl w.heap.size w
                  have HGS : Hid (∀ wq : World, Below w.heap.size w wq → w.heap.size ≤ wq.heap.size) := Lib.hid fun wq h => h.size
                  clear hXL hz hz2 hk hs hsh hm hr w0 w1 d0 d1 d2 d3 d4 d5 d6 d7
                  go_enter Try.func5, Try.ntmps5
                  go_wp2_with (first
                    | (have hgo := Bw0; clear hgo
                       refine wpList_makeO rfl (.const (.int .i64 32)) rfl 32 rfl (by decide) ?_
                       intro v_k w1 f_k kk
                       have Bw1 := zbt HGS Bw0 kk
                       clear Bw0 kk))
                  replace f_k : Bs w1 v_k key0 := f_k
                  replace f_k := f_k.drew
                  have Bw2 := Bw1.drew
                  clear Bw1
                  refine wp_region_lint (.rd 0 (.rd 1 (.rd 2 (.rd 3 (.rd 5 (.br 4 (.wr 6 (.wr 7 (.rd 8 (.rd 9 (.rd 10 (.rd 11 (.rd 12 .done))))))) 6 (.wr 4 (.wr 7 (.rd 8 (.rd 9 (.rd 10 (.rd 11 (.rd 12 .done))))))))))))) (by kernel_rfl) (by kernel_rfl) (by decide) (by kernel_rfl) (fun d _ _ _ _ h => by cases d <;> exact h) ?_
                  refine lint_pure 44 _ _ (v_k) rfl rfl rfl rfl rfl (fun wx hx => by unfold mkOp; go_simp; all_goals (with_reducible rfl)) ?_
                  simp only [Act.put, zA, zB, zC]
                  refine lint_pure 45 _ _ (v_k) rfl rfl rfl rfl rfl (fun wx hx => by unfold mkOp; go_simp; all_goals (with_reducible rfl)) ?_
                  simp only [Act.put, zA, zB, zC]
                  obtain ⟨v_non, f_non, hr46⟩ := takeB f_k 12 (by decide)
                  refine lint_pure 46 _ _ (v_non) rfl rfl rfl rfl rfl (fun wx hx => by exact hr46 _ _ _ _ _ rfl rfl) ?_
                  clear hr46
                  simp only [Act.put, zA, zB, zC]
                  refine lint_pure 47 _ _ (.int .i64 (M : Int)) rfl rfl rfl rfl rfl (fun wx hx => by unfold mkOp; go_simp; all_goals (with_reducible rfl)) ?_
                  simp only [Act.put, zA, zB, zC]
                  refine lint_pure 49 _ _ (.int .i64 (N : Int)) rfl rfl rfl rfl rfl (fun wx hx => by unfold mkOp; go_simp; all_goals (with_reducible rfl)) ?_
                  simp only [Act.put, zA, zB, zC]
                  refine ⟨?_, ?_⟩
                  · skip
                    refine stp_makeN 48 (.tmp 47) M rfl rfl rfl rfl rfl (by have := HNN.out; omega) ?_
                    intro wq48 v_48 f_48 kk
                    replace f_k := zfb f_k kk
                    replace f_non := zfb f_non kk
                    have Bw3 := zbt HGS Bw2 kk
                    clear Bw2 kk
                    simp only [Act.put, zA, zB, zC]
                    refine stp_makeN 50 (.tmp 49) N rfl rfl rfl rfl rfl (by have := HNN.out; omega) ?_
                    intro wq50 v_50 f_50 kk
                    replace f_k := zfb f_k kk
                    replace f_non := zfb f_non kk
                    replace f_48 := zfb f_48 kk
                    have Bw4 := zbt HGS Bw3 kk
                    clear Bw3 kk
                    simp only [Act.put, zA, zB, zC]
                    refine stp_fn 51 8 _ _ _ (HS.out _ _ _ _ _ f_k f_non f_48 f_50) rfl rfl rfl rfl Try.func8 (by kernel_rfl) (by kernel_rfl) (by go_simp) ?_
                    rintro e wq51 ⟨v_51, rfl, f_51, kk⟩
                    refine ⟨_, rfl, kk, ?_⟩
                    replace f_k := zfb f_k kk
                    replace f_non := zfb f_non kk
                    replace f_48 := zfb f_48 kk
                    replace f_50 := zfb f_50 kk
                    have Bw5 := zbt HGS Bw4 kk
                    clear Bw4 kk
                    simp only [Act.put, zA, zB, zC]
                    refine lint_pure 43 _ _ (.tuple #[v_51, .int .i64 11]) rfl rfl rfl rfl rfl (fun wx hx => by unfold mkOp; go_simp; all_goals (with_reducible rfl)) ?_
                    simp only [Act.put, zA, zB, zC]
                    refine lint_pure 52 _ _ (v_51) rfl rfl rfl rfl rfl (fun wx hx => by unfold mkOp; go_simp; all_goals (with_reducible rfl)) ?_
                    simp only [Act.put, zA, zB, zC]
                    refine lint_pure 53 _ _ (.int .i64 (11 : Int)) rfl rfl rfl rfl rfl (fun wx hx => by unfold mkOp; go_simp; all_goals (with_reducible rfl)) ?_
                    simp only [Act.put, zA, zB, zC]
                    refine lint_pure 6 _ _ (v_51) rfl rfl rfl rfl rfl (fun wx hx => by unfold mkOp; go_simp; all_goals (with_reducible rfl)) ?_
                    simp only [Act.put, zA, zB, zC]
                    refine lint_pure 7 _ _ (.int .i64 (11 : Int)) rfl rfl rfl rfl rfl (fun wx hx => by unfold mkOp; go_simp; all_goals (with_reducible rfl)) ?_
                    simp only [Act.put, zA, zB, zC]
                    refine lint_end ?_
                    clear f_48 f_50 f_non
                    clear f_51
                    go_wp2
                    replace f_k := f_k.drew
                    have Bw6 := Bw5.drew
                    clear Bw5
                    refine wp_region_lint (.rd 0 (.rd 1 (.rd 2 (.rd 3 (.wr 4 (.wr 5 (.wr 6 (.rd 7 (.rd 8 (.rd 9 (.rd 10 (.rd 11 .done)))))))))))) (by kernel_rfl) (by kernel_rfl) (by decide) (by kernel_rfl) (fun d _ _ _ _ h => by cases d <;> exact h) ?_
                    refine lint_pure 61 _ _ (v_k) rfl rfl rfl rfl rfl (fun wx hx => by unfold mkOp; go_simp; all_goals (with_reducible rfl)) ?_
                    simp only [Act.put, zA, zB, zC]
                    refine lint_pure 62 _ _ (v_k) rfl rfl rfl rfl rfl (fun wx hx => by unfold mkOp; go_simp; all_goals (with_reducible rfl)) ?_
                    simp only [Act.put, zA, zB, zC]
                    obtain ⟨v_nom, f_nom, hr63⟩ := takeB f_k 12 (by decide)
                    refine lint_pure 63 _ _ (v_nom) rfl rfl rfl rfl rfl (fun wx hx => by exact hr63 _ _ _ _ _ rfl rfl) ?_
                    clear hr63
                    simp only [Act.put, zA, zB, zC]
                    refine lint_pure 64 _ _ (.int .i64 (N : Int)) rfl rfl rfl rfl rfl (fun wx hx => by unfold mkOp; go_simp; all_goals (with_reducible rfl)) ?_
                    simp only [Act.put, zA, zB, zC]
                    refine stp_fn 65 15 _ _ _ (round32_to _ r _ (by omega) (by have := HNN.out; omega) HRR.out) rfl rfl rfl rfl Try.func15 (by kernel_rfl) (by kernel_rfl) (by go_simp) ?_
                    rintro e wq65 ⟨rfl, kk⟩
                    refine ⟨_, rfl, kk, ?_⟩
                    replace f_k := zfb f_k kk
                    replace f_nom := zfb f_nom kk
                    have Bw7 := zbt HGS Bw6 kk
                    clear Bw6 kk
                    simp only [Act.put, zA, zB, zC]
                    refine stp_makeN 66 (.tmp 65) r rfl rfl rfl rfl rfl (by have := HNN.out; omega) ?_
                    intro wq66 v_66 f_66 kk
                    replace f_k := zfb f_k kk
                    replace f_nom := zfb f_nom kk
                    have Bw8 := zbt HGS Bw7 kk
                    clear Bw7 kk
                    simp only [Act.put, zA, zB, zC]
                    refine stp_fn 67 10 _ _ _ (HO.out _ _ _ _ f_k f_nom f_66) rfl rfl rfl rfl Try.func10 (by kernel_rfl) (by kernel_rfl) (by go_simp) ?_
                    rintro e wq67 ⟨v_67, rfl, f_67, kk⟩
                    refine ⟨_, rfl, kk, ?_⟩
                    replace f_k := zfb f_k kk
                    replace f_nom := zfb f_nom kk
                    replace f_66 := zfb f_66 kk
                    have Bw9 := zbt HGS Bw8 kk
                    clear Bw8 kk
                    simp only [Act.put, zA, zB, zC]
                    refine lint_pure 60 _ _ (.tuple #[v_67, .int .i64 2]) rfl rfl rfl rfl rfl (fun wx hx => by unfold mkOp; go_simp; all_goals (with_reducible rfl)) ?_
                    simp only [Act.put, zA, zB, zC]
                    refine lint_pure 68 _ _ (v_67) rfl rfl rfl rfl rfl (fun wx hx => by unfold mkOp; go_simp; all_goals (with_reducible rfl)) ?_
                    simp only [Act.put, zA, zB, zC]
                    refine lint_pure 69 _ _ (.int .i64 (2 : Int)) rfl rfl rfl rfl rfl (fun wx hx => by unfold mkOp; go_simp; all_goals (with_reducible rfl)) ?_
                    simp only [Act.put, zA, zB, zC]
                    refine lint_pure 9 _ _ (v_67) rfl rfl rfl rfl rfl (fun wx hx => by unfold mkOp; go_simp; all_goals (with_reducible rfl)) ?_
                    simp only [Act.put, zA, zB, zC]
                    refine lint_pure 10 _ _ (.int .i64 (2 : Int)) rfl rfl rfl rfl rfl (fun wx hx => by unfold mkOp; go_simp; all_goals (with_reducible rfl)) ?_
                    simp only [Act.put, zA, zB, zC]
                    refine lint_end ?_
                    go_wp2_with (first
                      | (have hgo := Bw9; clear hgo
                         go_at_call 7
                         refine (awake13_any _).mono ?_
                         rintro e w99 ⟨rfl, kk⟩
                         have Bw99 := zbt HGS Bw9 kk
                         clear Bw9 kk))
                    go_ret
                    exact ⟨rfl, Bw99⟩
                  · skip
                    refine stp_makeN 50 (.tmp 49) N rfl rfl rfl rfl rfl (by have := HNN.out; omega) ?_
                    intro wq50 v_50 f_50 kk
                    replace f_k := zfb f_k kk
                    replace f_non := zfb f_non kk
                    have Bw3 := zbt HGS Bw2 kk
                    clear Bw2 kk
                    simp only [Act.put, zA, zB, zC]
                    refine stp_makeN 48 (.tmp 47) M rfl rfl rfl rfl rfl (by have := HNN.out; omega) ?_
                    intro wq48 v_48 f_48 kk
                    replace f_k := zfb f_k kk
                    replace f_non := zfb f_non kk
                    replace f_50 := zfb f_50 kk
                    have Bw4 := zbt HGS Bw3 kk
                    clear Bw3 kk
                    simp only [Act.put, zA, zB, zC]
                    refine stp_fn 51 8 _ _ _ (HS.out _ _ _ _ _ f_k f_non f_48 f_50) rfl rfl rfl rfl Try.func8 (by kernel_rfl) (by kernel_rfl) (by go_simp) ?_
                    rintro e wq51 ⟨v_51, rfl, f_51, kk⟩
                    refine ⟨_, rfl, kk, ?_⟩
                    replace f_k := zfb f_k kk
                    replace f_non := zfb f_non kk
                    replace f_50 := zfb f_50 kk
                    replace f_48 := zfb f_48 kk
                    have Bw5 := zbt HGS Bw4 kk
                    clear Bw4 kk
                    simp only [Act.put, zA, zB, zC]
                    refine lint_pure 43 _ _ (.tuple #[v_51, .int .i64 11]) rfl rfl rfl rfl rfl (fun wx hx => by unfold mkOp; go_simp; all_goals (with_reducible rfl)) ?_
                    simp only [Act.put, zA, zB, zC]
                    refine lint_pure 52 _ _ (v_51) rfl rfl rfl rfl rfl (fun wx hx => by unfold mkOp; go_simp; all_goals (with_reducible rfl)) ?_
                    simp only [Act.put, zA, zB, zC]
                    refine lint_pure 53 _ _ (.int .i64 (11 : Int)) rfl rfl rfl rfl rfl (fun wx hx => by unfold mkOp; go_simp; all_goals (with_reducible rfl)) ?_
                    simp only [Act.put, zA, zB, zC]
                    refine lint_pure 6 _ _ (v_51) rfl rfl rfl rfl rfl (fun wx hx => by unfold mkOp; go_simp; all_goals (with_reducible rfl)) ?_
                    simp only [Act.put, zA, zB, zC]
                    refine lint_pure 7 _ _ (.int .i64 (11 : Int)) rfl rfl rfl rfl rfl (fun wx hx => by unfold mkOp; go_simp; all_goals (with_reducible rfl)) ?_
                    simp only [Act.put, zA, zB, zC]
                    refine lint_end ?_
                    clear f_48 f_50 f_non
                    clear f_51
                    go_wp2
                    replace f_k := f_k.drew
                    have Bw6 := Bw5.drew
                    clear Bw5
                    refine wp_region_lint (.rd 0 (.rd 1 (.rd 2 (.rd 3 (.wr 4 (.wr 5 (.wr 6 (.rd 7 (.rd 8 (.rd 9 (.rd 10 (.rd 11 .done)))))))))))) (by kernel_rfl) (by kernel_rfl) (by decide) (by kernel_rfl) (fun d _ _ _ _ h => by cases d <;> exact h) ?_
                    refine lint_pure 61 _ _ (v_k) rfl rfl rfl rfl rfl (fun wx hx => by unfold mkOp; go_simp; all_goals (with_reducible rfl)) ?_
                    simp only [Act.put, zA, zB, zC]
                    refine lint_pure 62 _ _ (v_k) rfl rfl rfl rfl rfl (fun wx hx => by unfold mkOp; go_simp; all_goals (with_reducible rfl)) ?_
                    simp only [Act.put, zA, zB, zC]
                    obtain ⟨v_nom, f_nom, hr63⟩ := takeB f_k 12 (by decide)
                    refine lint_pure 63 _ _ (v_nom) rfl rfl rfl rfl rfl (fun wx hx => by exact hr63 _ _ _ _ _ rfl rfl) ?_
                    clear hr63
                    simp only [Act.put, zA, zB, zC]
                    refine lint_pure 64 _ _ (.int .i64 (N : Int)) rfl rfl rfl rfl rfl (fun wx hx => by unfold mkOp; go_simp; all_goals (with_reducible rfl)) ?_
                    simp only [Act.put, zA, zB, zC]
                    refine stp_fn 65 15 _ _ _ (round32_to _ r _ (by omega) (by have := HNN.out; omega) HRR.out) rfl rfl rfl rfl Try.func15 (by kernel_rfl) (by kernel_rfl) (by go_simp) ?_
                    rintro e wq65 ⟨rfl, kk⟩
                    refine ⟨_, rfl, kk, ?_⟩
                    replace f_k := zfb f_k kk
                    replace f_nom := zfb f_nom kk
                    have Bw7 := zbt HGS Bw6 kk
                    clear Bw6 kk
                    simp only [Act.put, zA, zB, zC]
                    refine stp_makeN 66 (.tmp 65) r rfl rfl rfl rfl rfl (by have := HNN.out; omega) ?_
                    intro wq66 v_66 f_66 kk
                    replace f_k := zfb f_k kk
                    replace f_nom := zfb f_nom kk
                    have Bw8 := zbt HGS Bw7 kk
                    clear Bw7 kk
                    simp only [Act.put, zA, zB, zC]
                    refine stp_fn 67 10 _ _ _ (HO.out _ _ _ _ f_k f_nom f_66) rfl rfl rfl rfl Try.func10 (by kernel_rfl) (by kernel_rfl) (by go_simp) ?_
                    rintro e wq67 ⟨v_67, rfl, f_67, kk⟩
                    refine ⟨_, rfl, kk, ?_⟩
                    replace f_k := zfb f_k kk
                    replace f_nom := zfb f_nom kk
                    replace f_66 := zfb f_66 kk
                    have Bw9 := zbt HGS Bw8 kk
                    clear Bw8 kk
                    simp only [Act.put, zA, zB, zC]
                    refine lint_pure 60 _ _ (.tuple #[v_67, .int .i64 2]) rfl rfl rfl rfl rfl (fun wx hx => by unfold mkOp; go_simp; all_goals (with_reducible rfl)) ?_
                    simp only [Act.put, zA, zB, zC]
                    refine lint_pure 68 _ _ (v_67) rfl rfl rfl rfl rfl (fun wx hx => by unfold mkOp; go_simp; all_goals (with_reducible rfl)) ?_
                    simp only [Act.put, zA, zB, zC]
                    refine lint_pure 69 _ _ (.int .i64 (2 : Int)) rfl rfl rfl rfl rfl (fun wx hx => by unfold mkOp; go_simp; all_goals (with_reducible rfl)) ?_
                    simp only [Act.put, zA, zB, zC]
                    refine lint_pure 9 _ _ (v_67) rfl rfl rfl rfl rfl (fun wx hx => by unfold mkOp; go_simp; all_goals (with_reducible rfl)) ?_
                    simp only [Act.put, zA, zB, zC]
                    refine lint_pure 10 _ _ (.int .i64 (2 : Int)) rfl rfl rfl rfl rfl (fun wx hx => by unfold mkOp; go_simp; all_goals (with_reducible rfl)) ?_
                    simp only [Act.put, zA, zB, zC]
                    refine lint_end ?_
                    go_wp2_with (first
                      | (have hgo := Bw9; clear hgo
                         go_at_call 7
                         refine (awake13_any _).mono ?_
                         rintro e w99 ⟨rfl, kk⟩
                         have Bw99 := zbt HGS Bw9 kk
                         clear Bw9 kk))
                    go_ret
                    exact ⟨rfl, Bw99⟩
          · have q4 : (200 : Int) < x0 := by omega
            by_cases d5 : x0 < 65500
            · have q5 : x0 < (65500 : Int) := by omega
              clear w0 w1 d0 d1 d2 d3 d4 d5
              go_enter Try.func5, Try.ntmps5
              go_wp2_with (go_at_call 7; refine (awake13_any _).mono ?_; rintro e w9 ⟨rfl, hb9⟩)
              go_ret
              exact ⟨rfl, hb9⟩
            · have q5 : ¬ x0 < (65500 : Int) := by omega
              by_cases d6 : x1 ≤ 200
              · have q6 : ¬ (200 : Int) < x1 := by omega
                by_cases d7 : x0 ≤ 65536
                · have q7 : ¬ (65536 : Int) < x0 := by omega
                  by_cases d8 : x1 ≤ 65536
                  · have q8 : ¬ (65536 : Int) < x1 := by omega
                    obtain ⟨N, rfl⟩ := Int.eq_ofNat_of_zero_le (show 0 ≤ x0 by omega)
                    obtain ⟨M, rfl⟩ := Int.eq_ofNat_of_zero_le (show 0 ≤ x1 by omega)
                    obtain ⟨m, hm⟩ := nat_var (N + 32)
                    have hw1 : IntKind.i64.wrap ((N : Int) + 32) = (m : Int) := by rw [IntWalk.i64_in _ (by omega)]; omega
                    obtain ⟨r, hr⟩ := nat_var (N % 32)
                    have HNN : Hid (N ≤ 66000 ∧ M ≤ 66000 ∧ r < 32) := Lib.hid (by omega)
                    have HRR : Hid ((N : Int) % 32 = (r : Int)) := Lib.hid (by omega)
                    obtain ⟨XL, hXL⟩ : ∃ E, E = seL key0 non0 (List.replicate M 0) (List.replicate N 0) := ⟨_, rfl⟩
                    have hz : (List.replicate N (0 : UInt8)).length = N := List.length_replicate
                    have hz2 : (List.replicate M (0 : UInt8)).length = M := List.length_replicate
                    have hk : okSz 65536 (List.replicate M 0) (List.replicate N 0) := ⟨by omega, by omega⟩
                    have hs := seE_ok okK_0 hk
                    have HS : Hid (∀ v0 v1 v2 v3 w, Bs w v0 key0 → Bs w v1 non0 → Bs w v2 (List.replicate M 0) → Bs w v3 (List.replicate N 0) → Calls Try.prog 8 #[v0, v1, v2, v3] w fun e w' => ∃ v, e = .returned (.tuple #[v, .int .i64 0]) ∧ Bs w' v XL ∧ Below w.heap.size w w') := Lib.hid fun v0 v1 v2 v3 w h0 h1 h2 h3 => by
                      rw [← hs.1, hXL]
                      exact pSeal_to v0 _ v1 _ v2 _ v3 _ w h0 h1 h2 h3
                    have HXL : Hid (XL.length = m) := Lib.hid (by rw [hXL, hs.2, boxL_len, hm, hz])
                    have hsh := opE_short (l2 := []) (l3 := List.replicate r 0) okK_0 ⟨by rw [List.length_replicate]; omega, by decide⟩ (by rw [List.length_replicate]; omega)
                    have HO : Hid (∀ v0 v1 v3 w, Bs w v0 key0 → Bs w v1 non0 → Bs w v3 (List.replicate r 0) → Calls Try.prog 10 #[v0, v1, .slice none 0 0, v3] w fun e w' => ∃ v, e = .returned (.tuple #[v, .int .i64 2]) ∧ Bs w' v [] ∧ Below w.heap.size w w') := Lib.hid fun v0 v1 v3 w h0 h1 h3 => by
                      have g := pOpen_to v0 _ v1 _ _ [] v3 _ w h0 h1 (Bs.nil _) h3
                      rwa [hsh.1, hsh.2] at g
                    have Bw0 := Below.refl w.heap.size w
                    have HGS : Hid (∀ wq : World, Below w.heap.size w wq → w.heap.size ≤ wq.heap.size) := Lib.hid fun wq h => h.size
                    clear hXL hz hz2 hk hs hsh hm hr w0 w1 d0 d1 d2 d3 d4 d5 d6 d7 d8
                    go_enter Try.func5, Try.ntmps5
                    go_wp2_with (first
                      | (have hgo := Bw0; clear hgo
                         refine wpList_makeO rfl (.const (.int .i64 32)) rfl 32 rfl (by decide) ?_
                         intro v_k w1 f_k kk
                         have Bw1 := zbt HGS Bw0 kk
                         clear Bw0 kk))
                    replace f_k : Bs w1 v_k key0 := f_k
                    replace f_k := f_k.drew
                    have Bw2 := Bw1.drew
                    clear Bw1
                    refine wp_region_lint (.rd 0 (.rd 1 (.rd 2 (.rd 3 (.rd 5 (.br 4 (.wr 6 (.wr 7 (.rd 8 (.rd 9 (.rd 10 (.rd 11 (.rd 12 .done))))))) 6 (.wr 4 (.wr 7 (.rd 8 (.rd 9 (.rd 10 (.rd 11 (.rd 12 .done))))))))))))) (by kernel_rfl) (by kernel_rfl) (by decide) (by kernel_rfl) (fun d _ _ _ _ h => by cases d <;> exact h) ?_
                    refine lint_pure 44 _ _ (v_k) rfl rfl rfl rfl rfl (fun wx hx => by unfold mkOp; go_simp; all_goals (with_reducible rfl)) ?_
                    simp only [Act.put, zA, zB, zC]
                    refine lint_pure 45 _ _ (v_k) rfl rfl rfl rfl rfl (fun wx hx => by unfold mkOp; go_simp; all_goals (with_reducible rfl)) ?_
                    simp only [Act.put, zA, zB, zC]
                    obtain ⟨v_non, f_non, hr46⟩ := takeB f_k 12 (by decide)
                    refine lint_pure 46 _ _ (v_non) rfl rfl rfl rfl rfl (fun wx hx => by exact hr46 _ _ _ _ _ rfl rfl) ?_
                    clear hr46
                    simp only [Act.put, zA, zB, zC]
                    refine lint_pure 47 _ _ (.int .i64 (M : Int)) rfl rfl rfl rfl rfl (fun wx hx => by unfold mkOp; go_simp; all_goals (with_reducible rfl)) ?_
                    simp only [Act.put, zA, zB, zC]
                    refine lint_pure 49 _ _ (.int .i64 (N : Int)) rfl rfl rfl rfl rfl (fun wx hx => by unfold mkOp; go_simp; all_goals (with_reducible rfl)) ?_
                    simp only [Act.put, zA, zB, zC]
                    refine ⟨?_, ?_⟩
                    · skip
                      refine stp_makeN 48 (.tmp 47) M rfl rfl rfl rfl rfl (by have := HNN.out; omega) ?_
                      intro wq48 v_48 f_48 kk
                      replace f_k := zfb f_k kk
                      replace f_non := zfb f_non kk
                      have Bw3 := zbt HGS Bw2 kk
                      clear Bw2 kk
                      simp only [Act.put, zA, zB, zC]
                      refine stp_makeN 50 (.tmp 49) N rfl rfl rfl rfl rfl (by have := HNN.out; omega) ?_
                      intro wq50 v_50 f_50 kk
                      replace f_k := zfb f_k kk
                      replace f_non := zfb f_non kk
                      replace f_48 := zfb f_48 kk
                      have Bw4 := zbt HGS Bw3 kk
                      clear Bw3 kk
                      simp only [Act.put, zA, zB, zC]
                      refine stp_fn 51 8 _ _ _ (HS.out _ _ _ _ _ f_k f_non f_48 f_50) rfl rfl rfl rfl Try.func8 (by kernel_rfl) (by kernel_rfl) (by go_simp) ?_
                      rintro e wq51 ⟨v_51, rfl, f_51, kk⟩
                      refine ⟨_, rfl, kk, ?_⟩
                      replace f_k := zfb f_k kk
                      replace f_non := zfb f_non kk
                      replace f_48 := zfb f_48 kk
                      replace f_50 := zfb f_50 kk
                      have Bw5 := zbt HGS Bw4 kk
                      clear Bw4 kk
                      simp only [Act.put, zA, zB, zC]
                      refine lint_pure 43 _ _ (.tuple #[v_51, .int .i64 0]) rfl rfl rfl rfl rfl (fun wx hx => by unfold mkOp; go_simp; all_goals (with_reducible rfl)) ?_
                      simp only [Act.put, zA, zB, zC]
                      refine lint_pure 52 _ _ (v_51) rfl rfl rfl rfl rfl (fun wx hx => by unfold mkOp; go_simp; all_goals (with_reducible rfl)) ?_
                      simp only [Act.put, zA, zB, zC]
                      refine lint_pure 53 _ _ (.int .i64 (0 : Int)) rfl rfl rfl rfl rfl (fun wx hx => by unfold mkOp; go_simp; all_goals (with_reducible rfl)) ?_
                      simp only [Act.put, zA, zB, zC]
                      refine lint_pure 6 _ _ (v_51) rfl rfl rfl rfl rfl (fun wx hx => by unfold mkOp; go_simp; all_goals (with_reducible rfl)) ?_
                      simp only [Act.put, zA, zB, zC]
                      refine lint_pure 7 _ _ (.int .i64 (0 : Int)) rfl rfl rfl rfl rfl (fun wx hx => by unfold mkOp; go_simp; all_goals (with_reducible rfl)) ?_
                      simp only [Act.put, zA, zB, zC]
                      refine lint_end ?_
                      clear f_48 f_50 f_non
                      obtain ⟨ad_x, n_x, c_x, rfl, he, hy, hz, _⟩ := f_51.shape
                      have hn : n_x = m := by rw [← he]; exact HXL.out
                      subst hn
                      clear he hy hz f_51
                      go_wp2
                      replace f_k := f_k.drew
                      have Bw6 := Bw5.drew
                      clear Bw5
                      refine wp_region_lint (.rd 0 (.rd 1 (.rd 2 (.rd 3 (.wr 4 (.wr 5 (.wr 6 (.rd 7 (.rd 8 (.rd 9 (.rd 10 (.rd 11 .done)))))))))))) (by kernel_rfl) (by kernel_rfl) (by decide) (by kernel_rfl) (fun d _ _ _ _ h => by cases d <;> exact h) ?_
                      refine lint_pure 61 _ _ (v_k) rfl rfl rfl rfl rfl (fun wx hx => by unfold mkOp; go_simp; all_goals (with_reducible rfl)) ?_
                      simp only [Act.put, zA, zB, zC]
                      refine lint_pure 62 _ _ (v_k) rfl rfl rfl rfl rfl (fun wx hx => by unfold mkOp; go_simp; all_goals (with_reducible rfl)) ?_
                      simp only [Act.put, zA, zB, zC]
                      obtain ⟨v_nom, f_nom, hr63⟩ := takeB f_k 12 (by decide)
                      refine lint_pure 63 _ _ (v_nom) rfl rfl rfl rfl rfl (fun wx hx => by exact hr63 _ _ _ _ _ rfl rfl) ?_
                      clear hr63
                      simp only [Act.put, zA, zB, zC]
                      refine lint_pure 64 _ _ (.int .i64 (N : Int)) rfl rfl rfl rfl rfl (fun wx hx => by unfold mkOp; go_simp; all_goals (with_reducible rfl)) ?_
                      simp only [Act.put, zA, zB, zC]
                      refine stp_fn 65 15 _ _ _ (round32_to _ r _ (by omega) (by have := HNN.out; omega) HRR.out) rfl rfl rfl rfl Try.func15 (by kernel_rfl) (by kernel_rfl) (by go_simp) ?_
                      rintro e wq65 ⟨rfl, kk⟩
                      refine ⟨_, rfl, kk, ?_⟩
                      replace f_k := zfb f_k kk
                      replace f_nom := zfb f_nom kk
                      have Bw7 := zbt HGS Bw6 kk
                      clear Bw6 kk
                      simp only [Act.put, zA, zB, zC]
                      refine stp_makeN 66 (.tmp 65) r rfl rfl rfl rfl rfl (by have := HNN.out; omega) ?_
                      intro wq66 v_66 f_66 kk
                      replace f_k := zfb f_k kk
                      replace f_nom := zfb f_nom kk
                      have Bw8 := zbt HGS Bw7 kk
                      clear Bw7 kk
                      simp only [Act.put, zA, zB, zC]
                      refine stp_fn 67 10 _ _ _ (HO.out _ _ _ _ f_k f_nom f_66) rfl rfl rfl rfl Try.func10 (by kernel_rfl) (by kernel_rfl) (by go_simp) ?_
                      rintro e wq67 ⟨v_67, rfl, f_67, kk⟩
                      refine ⟨_, rfl, kk, ?_⟩
                      replace f_k := zfb f_k kk
                      replace f_nom := zfb f_nom kk
                      replace f_66 := zfb f_66 kk
                      have Bw9 := zbt HGS Bw8 kk
                      clear Bw8 kk
                      simp only [Act.put, zA, zB, zC]
                      refine lint_pure 60 _ _ (.tuple #[v_67, .int .i64 2]) rfl rfl rfl rfl rfl (fun wx hx => by unfold mkOp; go_simp; all_goals (with_reducible rfl)) ?_
                      simp only [Act.put, zA, zB, zC]
                      refine lint_pure 68 _ _ (v_67) rfl rfl rfl rfl rfl (fun wx hx => by unfold mkOp; go_simp; all_goals (with_reducible rfl)) ?_
                      simp only [Act.put, zA, zB, zC]
                      refine lint_pure 69 _ _ (.int .i64 (2 : Int)) rfl rfl rfl rfl rfl (fun wx hx => by unfold mkOp; go_simp; all_goals (with_reducible rfl)) ?_
                      simp only [Act.put, zA, zB, zC]
                      refine lint_pure 9 _ _ (v_67) rfl rfl rfl rfl rfl (fun wx hx => by unfold mkOp; go_simp; all_goals (with_reducible rfl)) ?_
                      simp only [Act.put, zA, zB, zC]
                      refine lint_pure 10 _ _ (.int .i64 (2 : Int)) rfl rfl rfl rfl rfl (fun wx hx => by unfold mkOp; go_simp; all_goals (with_reducible rfl)) ?_
                      simp only [Act.put, zA, zB, zC]
                      refine lint_end ?_
                      go_wp2_with (first
                        | (have hgo := Bw9; clear hgo
                           go_at_call 7
                           refine (awake13_any _).mono ?_
                           rintro e w99 ⟨rfl, kk⟩
                           have Bw99 := zbt HGS Bw9 kk
                           clear Bw9 kk))
                      go_ret
                      exact ⟨rfl, Bw99⟩
                    · skip
                      refine stp_makeN 50 (.tmp 49) N rfl rfl rfl rfl rfl (by have := HNN.out; omega) ?_
                      intro wq50 v_50 f_50 kk
                      replace f_k := zfb f_k kk
                      replace f_non := zfb f_non kk
                      have Bw3 := zbt HGS Bw2 kk
                      clear Bw2 kk
                      simp only [Act.put, zA, zB, zC]
                      refine stp_makeN 48 (.tmp 47) M rfl rfl rfl rfl rfl (by have := HNN.out; omega) ?_
                      intro wq48 v_48 f_48 kk
                      replace f_k := zfb f_k kk
                      replace f_non := zfb f_non kk
                      replace f_50 := zfb f_50 kk
                      have Bw4 := zbt HGS Bw3 kk
                      clear Bw3 kk
                      simp only [Act.put, zA, zB, zC]
                      refine stp_fn 51 8 _ _ _ (HS.out _ _ _ _ _ f_k f_non f_48 f_50) rfl rfl rfl rfl Try.func8 (by kernel_rfl) (by kernel_rfl) (by go_simp) ?_
                      rintro e wq51 ⟨v_51, rfl, f_51, kk⟩
                      refine ⟨_, rfl, kk, ?_⟩
                      replace f_k := zfb f_k kk
                      replace f_non := zfb f_non kk
                      replace f_50 := zfb f_50 kk
                      replace f_48 := zfb f_48 kk
                      have Bw5 := zbt HGS Bw4 kk
                      clear Bw4 kk
                      simp only [Act.put, zA, zB, zC]
                      refine lint_pure 43 _ _ (.tuple #[v_51, .int .i64 0]) rfl rfl rfl rfl rfl (fun wx hx => by unfold mkOp; go_simp; all_goals (with_reducible rfl)) ?_
                      simp only [Act.put, zA, zB, zC]
                      refine lint_pure 52 _ _ (v_51) rfl rfl rfl rfl rfl (fun wx hx => by unfold mkOp; go_simp; all_goals (with_reducible rfl)) ?_
                      simp only [Act.put, zA, zB, zC]
                      refine lint_pure 53 _ _ (.int .i64 (0 : Int)) rfl rfl rfl rfl rfl (fun wx hx => by unfold mkOp; go_simp; all_goals (with_reducible rfl)) ?_
                      simp only [Act.put, zA, zB, zC]
                      refine lint_pure 6 _ _ (v_51) rfl rfl rfl rfl rfl (fun wx hx => by unfold mkOp; go_simp; all_goals (with_reducible rfl)) ?_
                      simp only [Act.put, zA, zB, zC]
                      refine lint_pure 7 _ _ (.int .i64 (0 : Int)) rfl rfl rfl rfl rfl (fun wx hx => by unfold mkOp; go_simp; all_goals (with_reducible rfl)) ?_
                      simp only [Act.put, zA, zB, zC]
                      refine lint_end ?_
                      clear f_48 f_50 f_non
                      obtain ⟨ad_x, n_x, c_x, rfl, he, hy, hz, _⟩ := f_51.shape
                      have hn : n_x = m := by rw [← he]; exact HXL.out
                      subst hn
                      clear he hy hz f_51
                      go_wp2
                      replace f_k := f_k.drew
                      have Bw6 := Bw5.drew
                      clear Bw5
                      refine wp_region_lint (.rd 0 (.rd 1 (.rd 2 (.rd 3 (.wr 4 (.wr 5 (.wr 6 (.rd 7 (.rd 8 (.rd 9 (.rd 10 (.rd 11 .done)))))))))))) (by kernel_rfl) (by kernel_rfl) (by decide) (by kernel_rfl) (fun d _ _ _ _ h => by cases d <;> exact h) ?_
                      refine lint_pure 61 _ _ (v_k) rfl rfl rfl rfl rfl (fun wx hx => by unfold mkOp; go_simp; all_goals (with_reducible rfl)) ?_
                      simp only [Act.put, zA, zB, zC]
                      refine lint_pure 62 _ _ (v_k) rfl rfl rfl rfl rfl (fun wx hx => by unfold mkOp; go_simp; all_goals (with_reducible rfl)) ?_
                      simp only [Act.put, zA, zB, zC]
                      obtain ⟨v_nom, f_nom, hr63⟩ := takeB f_k 12 (by decide)
                      refine lint_pure 63 _ _ (v_nom) rfl rfl rfl rfl rfl (fun wx hx => by exact hr63 _ _ _ _ _ rfl rfl) ?_
                      clear hr63
                      simp only [Act.put, zA, zB, zC]
                      refine lint_pure 64 _ _ (.int .i64 (N : Int)) rfl rfl rfl rfl rfl (fun wx hx => by unfold mkOp; go_simp; all_goals (with_reducible rfl)) ?_
                      simp only [Act.put, zA, zB, zC]
                      refine stp_fn 65 15 _ _ _ (round32_to _ r _ (by omega) (by have := HNN.out; omega) HRR.out) rfl rfl rfl rfl Try.func15 (by kernel_rfl) (by kernel_rfl) (by go_simp) ?_
                      rintro e wq65 ⟨rfl, kk⟩
                      refine ⟨_, rfl, kk, ?_⟩
                      replace f_k := zfb f_k kk
                      replace f_nom := zfb f_nom kk
                      have Bw7 := zbt HGS Bw6 kk
                      clear Bw6 kk
                      simp only [Act.put, zA, zB, zC]
                      refine stp_makeN 66 (.tmp 65) r rfl rfl rfl rfl rfl (by have := HNN.out; omega) ?_
                      intro wq66 v_66 f_66 kk
                      replace f_k := zfb f_k kk
                      replace f_nom := zfb f_nom kk
                      have Bw8 := zbt HGS Bw7 kk
                      clear Bw7 kk
                      simp only [Act.put, zA, zB, zC]
                      refine stp_fn 67 10 _ _ _ (HO.out _ _ _ _ f_k f_nom f_66) rfl rfl rfl rfl Try.func10 (by kernel_rfl) (by kernel_rfl) (by go_simp) ?_
                      rintro e wq67 ⟨v_67, rfl, f_67, kk⟩
                      refine ⟨_, rfl, kk, ?_⟩
                      replace f_k := zfb f_k kk
                      replace f_nom := zfb f_nom kk
                      replace f_66 := zfb f_66 kk
                      have Bw9 := zbt HGS Bw8 kk
                      clear Bw8 kk
                      simp only [Act.put, zA, zB, zC]
                      refine lint_pure 60 _ _ (.tuple #[v_67, .int .i64 2]) rfl rfl rfl rfl rfl (fun wx hx => by unfold mkOp; go_simp; all_goals (with_reducible rfl)) ?_
                      simp only [Act.put, zA, zB, zC]
                      refine lint_pure 68 _ _ (v_67) rfl rfl rfl rfl rfl (fun wx hx => by unfold mkOp; go_simp; all_goals (with_reducible rfl)) ?_
                      simp only [Act.put, zA, zB, zC]
                      refine lint_pure 69 _ _ (.int .i64 (2 : Int)) rfl rfl rfl rfl rfl (fun wx hx => by unfold mkOp; go_simp; all_goals (with_reducible rfl)) ?_
                      simp only [Act.put, zA, zB, zC]
                      refine lint_pure 9 _ _ (v_67) rfl rfl rfl rfl rfl (fun wx hx => by unfold mkOp; go_simp; all_goals (with_reducible rfl)) ?_
                      simp only [Act.put, zA, zB, zC]
                      refine lint_pure 10 _ _ (.int .i64 (2 : Int)) rfl rfl rfl rfl rfl (fun wx hx => by unfold mkOp; go_simp; all_goals (with_reducible rfl)) ?_
                      simp only [Act.put, zA, zB, zC]
                      refine lint_end ?_
                      go_wp2_with (first
                        | (have hgo := Bw9; clear hgo
                           go_at_call 7
                           refine (awake13_any _).mono ?_
                           rintro e w99 ⟨rfl, kk⟩
                           have Bw99 := zbt HGS Bw9 kk
                           clear Bw9 kk))
                      go_ret
                      exact ⟨rfl, Bw99⟩
                  · have q8 : (65536 : Int) < x1 := by omega
                    obtain ⟨N, rfl⟩ := Int.eq_ofNat_of_zero_le (show 0 ≤ x0 by omega)
                    obtain ⟨M, rfl⟩ := Int.eq_ofNat_of_zero_le (show 0 ≤ x1 by omega)
                    obtain ⟨m, hm⟩ := nat_var (N + 32)
                    have hw1 : IntKind.i64.wrap ((N : Int) + 32) = (m : Int) := by rw [IntWalk.i64_in _ (by omega)]; omega
                    obtain ⟨r, hr⟩ := nat_var (N % 32)
                    have HNN : Hid (N ≤ 66000 ∧ M ≤ 66000 ∧ r < 32) := Lib.hid (by omega)
                    have HRR : Hid ((N : Int) % 32 = (r : Int)) := Lib.hid (by omega)
                    obtain ⟨XL, hXL⟩ : ∃ E, E = seL key0 non0 (List.replicate M 0) (List.replicate N 0) := ⟨_, rfl⟩
                    have hz : (List.replicate N (0 : UInt8)).length = N := List.length_replicate
                    have hz2 : (List.replicate M (0 : UInt8)).length = M := List.length_replicate
                    have hk : ¬ okSz 65536 (List.replicate M 0) (List.replicate N 0) := fun g => by
                      have g1 := g.1
                      have g2 := g.2
                      omega
                    have hs := seE_big okK_0 hk
                    have HS : Hid (∀ v0 v1 v2 v3 w, Bs w v0 key0 → Bs w v1 non0 → Bs w v2 (List.replicate M 0) → Bs w v3 (List.replicate N 0) → Calls Try.prog 8 #[v0, v1, v2, v3] w fun e w' => ∃ v, e = .returned (.tuple #[v, .int .i64 11]) ∧ Bs w' v XL ∧ Below w.heap.size w w') := Lib.hid fun v0 v1 v2 v3 w h0 h1 h2 h3 => by
                      rw [← hs.1, hXL]
                      exact pSeal_to v0 _ v1 _ v2 _ v3 _ w h0 h1 h2 h3
                    have hsh := opE_short (l2 := []) (l3 := List.replicate r 0) okK_0 ⟨by rw [List.length_replicate]; omega, by decide⟩ (by rw [List.length_replicate]; omega)
                    have HO : Hid (∀ v0 v1 v3 w, Bs w v0 key0 → Bs w v1 non0 → Bs w v3 (List.replicate r 0) → Calls Try.prog 10 #[v0, v1, .slice none 0 0, v3] w fun e w' => ∃ v, e = .returned (.tuple #[v, .int .i64 2]) ∧ Bs w' v [] ∧ Below w.heap.size w w') := Lib.hid fun v0 v1 v3 w h0 h1 h3 => by
                      have g := pOpen_to v0 _ v1 _ _ [] v3 _ w h0 h1 (Bs.nil _) h3
                      rwa [hsh.1, hsh.2] at g
                    have Bw0 := Below.refl w.heap.size w
                    have HGS : Hid (∀ wq : World, Below w.heap.size w wq → w.heap.size ≤ wq.heap.size) := Lib.hid fun wq h => h.size
                    clear hXL hz hz2 hk hs hsh hm hr w0 w1 d0 d1 d2 d3 d4 d5 d6 d7 d8
                    go_enter Try.func5, Try.ntmps5
                    go_wp2_with (first
                      | (have hgo := Bw0; clear hgo
                         refine wpList_makeO rfl (.const (.int .i64 32)) rfl 32 rfl (by decide) ?_
                         intro v_k w1 f_k kk
                         have Bw1 := zbt HGS Bw0 kk
                         clear Bw0 kk))
                    replace f_k : Bs w1 v_k key0 := f_k
                    replace f_k := f_k.drew
                    have Bw2 := Bw1.drew
                    clear Bw1
                    refine wp_region_lint (.rd 0 (.rd 1 (.rd 2 (.rd 3 (.rd 5 (.br 4 (.wr 6 (.wr 7 (.rd 8 (.rd 9 (.rd 10 (.rd 11 (.rd 12 .done))))))) 6 (.wr 4 (.wr 7 (.rd 8 (.rd 9 (.rd 10 (.rd 11 (.rd 12 .done))))))))))))) (by kernel_rfl) (by kernel_rfl) (by decide) (by kernel_rfl) (fun d _ _ _ _ h => by cases d <;> exact h) ?_
                    refine lint_pure 44 _ _ (v_k) rfl rfl rfl rfl rfl (fun wx hx => by unfold mkOp; go_simp; all_goals (with_reducible rfl)) ?_
                    simp only [Act.put, zA, zB, zC]
                    refine lint_pure 45 _ _ (v_k) rfl rfl rfl rfl rfl (fun wx hx => by unfold mkOp; go_simp; all_goals (with_reducible rfl)) ?_
                    simp only [Act.put, zA, zB, zC]
                    obtain ⟨v_non, f_non, hr46⟩ := takeB f_k 12 (by decide)
                    refine lint_pure 46 _ _ (v_non) rfl rfl rfl rfl rfl (fun wx hx => by exact hr46 _ _ _ _ _ rfl rfl) ?_
                    clear hr46
                    simp only [Act.put, zA, zB, zC]
                    refine lint_pure 47 _ _ (.int .i64 (M : Int)) rfl rfl rfl rfl rfl (fun wx hx => by unfold mkOp; go_simp; all_goals (with_reducible rfl)) ?_
                    simp only [Act.put, zA, zB, zC]
                    refine lint_pure 49 _ _ (.int .i64 (N : Int)) rfl rfl rfl rfl rfl (fun wx hx => by unfold mkOp; go_simp; all_goals (with_reducible rfl)) ?_
                    simp only [Act.put, zA, zB, zC]
                    refine ⟨?_, ?_⟩
                    · skip
                      refine stp_makeN 48 (.tmp 47) M rfl rfl rfl rfl rfl (by have := HNN.out; omega) ?_
                      intro wq48 v_48 f_48 kk
                      replace f_k := zfb f_k kk
                      replace f_non := zfb f_non kk
                      have Bw3 := zbt HGS Bw2 kk
                      clear Bw2 kk
                      simp only [Act.put, zA, zB, zC]
                      refine stp_makeN 50 (.tmp 49) N rfl rfl rfl rfl rfl (by have := HNN.out; omega) ?_
                      intro wq50 v_50 f_50 kk
                      replace f_k := zfb f_k kk
                      replace f_non := zfb f_non kk
                      replace f_48 := zfb f_48 kk
                      have Bw4 := zbt HGS Bw3 kk
                      clear Bw3 kk
                      simp only [Act.put, zA, zB, zC]
                      refine stp_fn 51 8 _ _ _ (HS.out _ _ _ _ _ f_k f_non f_48 f_50) rfl rfl rfl rfl Try.func8 (by kernel_rfl) (by kernel_rfl) (by go_simp) ?_
                      rintro e wq51 ⟨v_51, rfl, f_51, kk⟩
                      refine ⟨_, rfl, kk, ?_⟩
                      replace f_k := zfb f_k kk
                      replace f_non := zfb f_non kk
                      replace f_48 := zfb f_48 kk
                      replace f_50 := zfb f_50 kk
                      have Bw5 := zbt HGS Bw4 kk
                      clear Bw4 kk
                      simp only [Act.put, zA, zB, zC]
                      refine lint_pure 43 _ _ (.tuple #[v_51, .int .i64 11]) rfl rfl rfl rfl rfl (fun wx hx => by unfold mkOp; go_simp; all_goals (with_reducible rfl)) ?_
                      simp only [Act.put, zA, zB, zC]
                      refine lint_pure 52 _ _ (v_51) rfl rfl rfl rfl rfl (fun wx hx => by unfold mkOp; go_simp; all_goals (with_reducible rfl)) ?_
                      simp only [Act.put, zA, zB, zC]
                      refine lint_pure 53 _ _ (.int .i64 (11 : Int)) rfl rfl rfl rfl rfl (fun wx hx => by unfold mkOp; go_simp; all_goals (with_reducible rfl)) ?_
                      simp only [Act.put, zA, zB, zC]
                      refine lint_pure 6 _ _ (v_51) rfl rfl rfl rfl rfl (fun wx hx => by unfold mkOp; go_simp; all_goals (with_reducible rfl)) ?_
                      simp only [Act.put, zA, zB, zC]
                      refine lint_pure 7 _ _ (.int .i64 (11 : Int)) rfl rfl rfl rfl rfl (fun wx hx => by unfold mkOp; go_simp; all_goals (with_reducible rfl)) ?_
                      simp only [Act.put, zA, zB, zC]
                      refine lint_end ?_
                      clear f_48 f_50 f_non
                      clear f_51
                      go_wp2
                      replace f_k := f_k.drew
                      have Bw6 := Bw5.drew
                      clear Bw5
                      refine wp_region_lint (.rd 0 (.rd 1 (.rd 2 (.rd 3 (.wr 4 (.wr 5 (.wr 6 (.rd 7 (.rd 8 (.rd 9 (.rd 10 (.rd 11 .done)))))))))))) (by kernel_rfl) (by kernel_rfl) (by decide) (by kernel_rfl) (fun d _ _ _ _ h => by cases d <;> exact h) ?_
                      refine lint_pure 61 _ _ (v_k) rfl rfl rfl rfl rfl (fun wx hx => by unfold mkOp; go_simp; all_goals (with_reducible rfl)) ?_
                      simp only [Act.put, zA, zB, zC]
                      refine lint_pure 62 _ _ (v_k) rfl rfl rfl rfl rfl (fun wx hx => by unfold mkOp; go_simp; all_goals (with_reducible rfl)) ?_
                      simp only [Act.put, zA, zB, zC]
                      obtain ⟨v_nom, f_nom, hr63⟩ := takeB f_k 12 (by decide)
                      refine lint_pure 63 _ _ (v_nom) rfl rfl rfl rfl rfl (fun wx hx => by exact hr63 _ _ _ _ _ rfl rfl) ?_
                      clear hr63
                      simp only [Act.put, zA, zB, zC]
                      refine lint_pure 64 _ _ (.int .i64 (N : Int)) rfl rfl rfl rfl rfl (fun wx hx => by unfold mkOp; go_simp; all_goals (with_reducible rfl)) ?_
                      simp only [Act.put, zA, zB, zC]
                      refine stp_fn 65 15 _ _ _ (round32_to _ r _ (by omega) (by have := HNN.out; omega) HRR.out) rfl rfl rfl rfl Try.func15 (by kernel_rfl) (by kernel_rfl) (by go_simp) ?_
                      rintro e wq65 ⟨rfl, kk⟩
                      refine ⟨_, rfl, kk, ?_⟩
                      replace f_k := zfb f_k kk
                      replace f_nom := zfb f_nom kk
                      have Bw7 := zbt HGS Bw6 kk
                      clear Bw6 kk
                      simp only [Act.put, zA, zB, zC]
                      refine stp_makeN 66 (.tmp 65) r rfl rfl rfl rfl rfl (by have := HNN.out; omega) ?_
                      intro wq66 v_66 f_66 kk
                      replace f_k := zfb f_k kk
                      replace f_nom := zfb f_nom kk
                      have Bw8 := zbt HGS Bw7 kk
                      clear Bw7 kk
                      simp only [Act.put, zA, zB, zC]
                      refine stp_fn 67 10 _ _ _ (HO.out _ _ _ _ f_k f_nom f_66) rfl rfl rfl rfl Try.func10 (by kernel_rfl) (by kernel_rfl) (by go_simp) ?_
                      rintro e wq67 ⟨v_67, rfl, f_67, kk⟩
                      refine ⟨_, rfl, kk, ?_⟩
                      replace f_k := zfb f_k kk
                      replace f_nom := zfb f_nom kk
                      replace f_66 := zfb f_66 kk
                      have Bw9 := zbt HGS Bw8 kk
                      clear Bw8 kk
                      simp only [Act.put, zA, zB, zC]
                      refine lint_pure 60 _ _ (.tuple #[v_67, .int .i64 2]) rfl rfl rfl rfl rfl (fun wx hx => by unfold mkOp; go_simp; all_goals (with_reducible rfl)) ?_
                      simp only [Act.put, zA, zB, zC]
                      refine lint_pure 68 _ _ (v_67) rfl rfl rfl rfl rfl (fun wx hx => by unfold mkOp; go_simp; all_goals (with_reducible rfl)) ?_
                      simp only [Act.put, zA, zB, zC]
                      refine lint_pure 69 _ _ (.int .i64 (2 : Int)) rfl rfl rfl rfl rfl (fun wx hx => by unfold mkOp; go_simp; all_goals (with_reducible rfl)) ?_
                      simp only [Act.put, zA, zB, zC]
                      refine lint_pure 9 _ _ (v_67) rfl rfl rfl rfl rfl (fun wx hx => by unfold mkOp; go_simp; all_goals (with_reducible rfl)) ?_
                      simp only [Act.put, zA, zB, zC]
                      refine lint_pure 10 _ _ (.int .i64 (2 : Int)) rfl rfl rfl rfl rfl (fun wx hx => by unfold mkOp; go_simp; all_goals (with_reducible rfl)) ?_
                      simp only [Act.put, zA, zB, zC]
                      refine lint_end ?_
                      go_wp2_with (first
                        | (have hgo := Bw9; clear hgo
                           go_at_call 7
                           refine (awake13_any _).mono ?_
                           rintro e w99 ⟨rfl, kk⟩
                           have Bw99 := zbt HGS Bw9 kk
                           clear Bw9 kk))
                      go_ret
                      exact ⟨rfl, Bw99⟩
                    · skip
                      refine stp_makeN 50 (.tmp 49) N rfl rfl rfl rfl rfl (by have := HNN.out; omega) ?_
                      intro wq50 v_50 f_50 kk
                      replace f_k := zfb f_k kk
                      replace f_non := zfb f_non kk
                      have Bw3 := zbt HGS Bw2 kk
                      clear Bw2 kk
                      simp only [Act.put, zA, zB, zC]
                      refine stp_makeN 48 (.tmp 47) M rfl rfl rfl rfl rfl (by have := HNN.out; omega) ?_
                      intro wq48 v_48 f_48 kk
                      replace f_k := zfb f_k kk
                      replace f_non := zfb f_non kk
                      replace f_50 := zfb f_50 kk
                      have Bw4 := zbt HGS Bw3 kk
                      clear Bw3 kk
                      simp only [Act.put, zA, zB, zC]
                      refine stp_fn 51 8 _ _ _ (HS.out _ _ _ _ _ f_k f_non f_48 f_50) rfl rfl rfl rfl Try.func8 (by kernel_rfl) (by kernel_rfl) (by go_simp) ?_
                      rintro e wq51 ⟨v_51, rfl, f_51, kk⟩
                      refine ⟨_, rfl, kk, ?_⟩
                      replace f_k := zfb f_k kk
                      replace f_non := zfb f_non kk
                      replace f_50 := zfb f_50 kk
                      replace f_48 := zfb f_48 kk
                      have Bw5 := zbt HGS Bw4 kk
                      clear Bw4 kk
                      simp only [Act.put, zA, zB, zC]
                      refine lint_pure 43 _ _ (.tuple #[v_51, .int .i64 11]) rfl rfl rfl rfl rfl (fun wx hx => by unfold mkOp; go_simp; all_goals (with_reducible rfl)) ?_
                      simp only [Act.put, zA, zB, zC]
                      refine lint_pure 52 _ _ (v_51) rfl rfl rfl rfl rfl (fun wx hx => by unfold mkOp; go_simp; all_goals (with_reducible rfl)) ?_
                      simp only [Act.put, zA, zB, zC]
                      refine lint_pure 53 _ _ (.int .i64 (11 : Int)) rfl rfl rfl rfl rfl (fun wx hx => by unfold mkOp; go_simp; all_goals (with_reducible rfl)) ?_
                      simp only [Act.put, zA, zB, zC]
                      refine lint_pure 6 _ _ (v_51) rfl rfl rfl rfl rfl (fun wx hx => by unfold mkOp; go_simp; all_goals (with_reducible rfl)) ?_
                      simp only [Act.put, zA, zB, zC]
                      refine lint_pure 7 _ _ (.int .i64 (11 : Int)) rfl rfl rfl rfl rfl (fun wx hx => by unfold mkOp; go_simp; all_goals (with_reducible rfl)) ?_
                      simp only [Act.put, zA, zB, zC]
                      refine lint_end ?_
                      clear f_48 f_50 f_non
                      clear f_51
                      go_wp2
                      replace f_k := f_k.drew
                      have Bw6 := Bw5.drew
                      clear Bw5
                      refine wp_region_lint (.rd 0 (.rd 1 (.rd 2 (.rd 3 (.wr 4 (.wr 5 (.wr 6 (.rd 7 (.rd 8 (.rd 9 (.rd 10 (.rd 11 .done)))))))))))) (by kernel_rfl) (by kernel_rfl) (by decide) (by kernel_rfl) (fun d _ _ _ _ h => by cases d <;> exact h) ?_
                      refine lint_pure 61 _ _ (v_k) rfl rfl rfl rfl rfl (fun wx hx => by unfold mkOp; go_simp; all_goals (with_reducible rfl)) ?_
                      simp only [Act.put, zA, zB, zC]
                      refine lint_pure 62 _ _ (v_k) rfl rfl rfl rfl rfl (fun wx hx => by unfold mkOp; go_simp; all_goals (with_reducible rfl)) ?_
                      simp only [Act.put, zA, zB, zC]
                      obtain ⟨v_nom, f_nom, hr63⟩ := takeB f_k 12 (by decide)
                      refine lint_pure 63 _ _ (v_nom) rfl rfl rfl rfl rfl (fun wx hx => by exact hr63 _ _ _ _ _ rfl rfl) ?_
                      clear hr63
                      simp only [Act.put, zA, zB, zC]
                      refine lint_pure 64 _ _ (.int .i64 (N : Int)) rfl rfl rfl rfl rfl (fun wx hx => by unfold mkOp; go_simp; all_goals (with_reducible rfl)) ?_
                      simp only [Act.put, zA, zB, zC]
                      refine stp_fn 65 15 _ _ _ (round32_to _ r _ (by omega) (by have := HNN.out; omega) HRR.out) rfl rfl rfl rfl Try.func15 (by kernel_rfl) (by kernel_rfl) (by go_simp) ?_
                      rintro e wq65 ⟨rfl, kk⟩
                      refine ⟨_, rfl, kk, ?_⟩
                      replace f_k := zfb f_k kk
                      replace f_nom := zfb f_nom kk
                      have Bw7 := zbt HGS Bw6 kk
                      clear Bw6 kk
                      simp only [Act.put, zA, zB, zC]
                      refine stp_makeN 66 (.tmp 65) r rfl rfl rfl rfl rfl (by have := HNN.out; omega) ?_
                      intro wq66 v_66 f_66 kk
                      replace f_k := zfb f_k kk
                      replace f_nom := zfb f_nom kk
                      have Bw8 := zbt HGS Bw7 kk
                      clear Bw7 kk
                      simp only [Act.put, zA, zB, zC]
                      refine stp_fn 67 10 _ _ _ (HO.out _ _ _ _ f_k f_nom f_66) rfl rfl rfl rfl Try.func10 (by kernel_rfl) (by kernel_rfl) (by go_simp) ?_
                      rintro e wq67 ⟨v_67, rfl, f_67, kk⟩
                      refine ⟨_, rfl, kk, ?_⟩
                      replace f_k := zfb f_k kk
                      replace f_nom := zfb f_nom kk
                      replace f_66 := zfb f_66 kk
                      have Bw9 := zbt HGS Bw8 kk
                      clear Bw8 kk
                      simp only [Act.put, zA, zB, zC]
                      refine lint_pure 60 _ _ (.tuple #[v_67, .int .i64 2]) rfl rfl rfl rfl rfl (fun wx hx => by unfold mkOp; go_simp; all_goals (with_reducible rfl)) ?_
                      simp only [Act.put, zA, zB, zC]
                      refine lint_pure 68 _ _ (v_67) rfl rfl rfl rfl rfl (fun wx hx => by unfold mkOp; go_simp; all_goals (with_reducible rfl)) ?_
                      simp only [Act.put, zA, zB, zC]
                      refine lint_pure 69 _ _ (.int .i64 (2 : Int)) rfl rfl rfl rfl rfl (fun wx hx => by unfold mkOp; go_simp; all_goals (with_reducible rfl)) ?_
                      simp only [Act.put, zA, zB, zC]
                      refine lint_pure 9 _ _ (v_67) rfl rfl rfl rfl rfl (fun wx hx => by unfold mkOp; go_simp; all_goals (with_reducible rfl)) ?_
                      simp only [Act.put, zA, zB, zC]
                      refine lint_pure 10 _ _ (.int .i64 (2 : Int)) rfl rfl rfl rfl rfl (fun wx hx => by unfold mkOp; go_simp; all_goals (with_reducible rfl)) ?_
                      simp only [Act.put, zA, zB, zC]
                      refine lint_end ?_
                      go_wp2_with (first
                        | (have hgo := Bw9; clear hgo
                           go_at_call 7
                           refine (awake13_any _).mono ?_
                           rintro e w99 ⟨rfl, kk⟩
                           have Bw99 := zbt HGS Bw9 kk
                           clear Bw9 kk))
                      go_ret
                      exact ⟨rfl, Bw99⟩
                · have q7 : (65536 : Int) < x0 := by omega
                  obtain ⟨N, rfl⟩ := Int.eq_ofNat_of_zero_le (show 0 ≤ x0 by omega)
                  obtain ⟨M, rfl⟩ := Int.eq_ofNat_of_zero_le (show 0 ≤ x1 by omega)
                  obtain ⟨m, hm⟩ := nat_var (N + 32)
                  have hw1 : IntKind.i64.wrap ((N : Int) + 32) = (m : Int) := by rw [IntWalk.i64_in _ (by omega)]; omega
                  obtain ⟨r, hr⟩ := nat_var (N % 32)
                  have HNN : Hid (N ≤ 66000 ∧ M ≤ 66000 ∧ r < 32) := Lib.hid (by omega)
                  have HRR : Hid ((N : Int) % 32 = (r : Int)) := Lib.hid (by omega)
                  obtain ⟨XL, hXL⟩ : ∃ E, E = seL key0 non0 (List.replicate M 0) (List.replicate N 0) := ⟨_, rfl⟩
                  have hz : (List.replicate N (0 : UInt8)).length = N := List.length_replicate
                  have hz2 : (List.replicate M (0 : UInt8)).length = M := List.length_replicate
                  have hk : ¬ okSz 65536 (List.replicate M 0) (List.replicate N 0) := fun g => by
                    have g1 := g.1
                    have g2 := g.2
                    omega
                  have hs := seE_big okK_0 hk
                  have HS : Hid (∀ v0 v1 v2 v3 w, Bs w v0 key0 → Bs w v1 non0 → Bs w v2 (List.replicate M 0) → Bs w v3 (List.replicate N 0) → Calls Try.prog 8 #[v0, v1, v2, v3] w fun e w' => ∃ v, e = .returned (.tuple #[v, .int .i64 11]) ∧ Bs w' v XL ∧ Below w.heap.size w w') := Lib.hid fun v0 v1 v2 v3 w h0 h1 h2 h3 => by
                    rw [← hs.1, hXL]
                    exact pSeal_to v0 _ v1 _ v2 _ v3 _ w h0 h1 h2 h3
                  have hsh := opE_short (l2 := []) (l3 := List.replicate r 0) okK_0 ⟨by rw [List.length_replicate]; omega, by decide⟩ (by rw [List.length_replicate]; omega)
                  have HO : Hid (∀ v0 v1 v3 w, Bs w v0 key0 → Bs w v1 non0 → Bs w v3 (List.replicate r 0) → Calls Try.prog 10 #[v0, v1, .slice none 0 0, v3] w fun e w' => ∃ v, e = .returned (.tuple #[v, .int .i64 2]) ∧ Bs w' v [] ∧ Below w.heap.size w w') := Lib.hid fun v0 v1 v3 w h0 h1 h3 => by
                    have g := pOpen_to v0 _ v1 _ _ [] v3 _ w h0 h1 (Bs.nil _) h3
                    rwa [hsh.1, hsh.2] at g
                  have Bw0 := Below.refl w.heap.size w
                  have HGS : Hid (∀ wq : World, Below w.heap.size w wq → w.heap.size ≤ wq.heap.size) := Lib.hid fun wq h => h.size
                  clear hXL hz hz2 hk hs hsh hm hr w0 w1 d0 d1 d2 d3 d4 d5 d6 d7
                  go_enter Try.func5, Try.ntmps5
                  go_wp2_with (first
                    | (have hgo := Bw0; clear hgo
                       refine wpList_makeO rfl (.const (.int .i64 32)) rfl 32 rfl (by decide) ?_
                       intro v_k w1 f_k kk
                       have Bw1 := zbt HGS Bw0 kk
                       clear Bw0 kk))
                  replace f_k : Bs w1 v_k key0 := f_k
                  replace f_k := f_k.drew
                  have Bw2 := Bw1.drew
                  clear Bw1
                  refine wp_region_lint (.rd 0 (.rd 1 (.rd 2 (.rd 3 (.rd 5 (.br 4 (.wr 6 (.wr 7 (.rd 8 (.rd 9 (.rd 10 (.rd 11 (.rd 12 .done))))))) 6 (.wr 4 (.wr 7 (.rd 8 (.rd 9 (.rd 10 (.rd 11 (.rd 12 .done))))))))))))) (by kernel_rfl) (by kernel_rfl) (by decide) (by kernel_rfl) (fun d _ _ _ _ h => by cases d <;> exact h) ?_
                  refine lint_pure 44 _ _ (v_k) rfl rfl rfl rfl rfl (fun wx hx => by unfold mkOp; go_simp; all_goals (with_reducible rfl)) ?_
                  simp only [Act.put, zA, zB, zC]
                  refine lint_pure 45 _ _ (v_k) rfl rfl rfl rfl rfl (fun wx hx => by unfold mkOp; go_simp; all_goals (with_reducible rfl)) ?_
                  simp only [Act.put, zA, zB, zC]
                  obtain ⟨v_non, f_non, hr46⟩ := takeB f_k 12 (by decide)
                  refine lint_pure 46 _ _ (v_non) rfl rfl rfl rfl rfl (fun wx hx => by exact hr46 _ _ _ _ _ rfl rfl) ?_
                  clear hr46
                  simp only [Act.put, zA, zB, zC]
                  refine lint_pure 47 _ _ (.int .i64 (M : Int)) rfl rfl rfl rfl rfl (fun wx hx => by unfold mkOp; go_simp; all_goals (with_reducible rfl)) ?_
                  simp only [Act.put, zA, zB, zC]
                  refine lint_pure 49 _ _ (.int .i64 (N : Int)) rfl rfl rfl rfl rfl (fun wx hx => by unfold mkOp; go_simp; all_goals (with_reducible rfl)) ?_
                  simp only [Act.put, zA, zB, zC]
                  refine ⟨?_, ?_⟩
                  · skip
                    refine stp_makeN 48 (.tmp 47) M rfl rfl rfl rfl rfl (by have := HNN.out; omega) ?_
                    intro wq48 v_48 f_48 kk
                    replace f_k := zfb f_k kk
                    replace f_non := zfb f_non kk
                    have Bw3 := zbt HGS Bw2 kk
                    clear Bw2 kk
                    simp only [Act.put, zA, zB, zC]
                    refine stp_makeN 50 (.tmp 49) N rfl rfl rfl rfl rfl (by have := HNN.out; omega) ?_
                    intro wq50 v_50 f_50 kk
                    replace f_k := zfb f_k kk
                    replace f_non := zfb f_non kk
                    replace f_48 := zfb f_48 kk
                    have Bw4 := zbt HGS Bw3 kk
                    clear Bw3 kk
                    simp only [Act.put, zA, zB, zC]
                    refine stp_fn 51 8 _ _ _ (HS.out _ _ _ _ _ f_k f_non f_48 f_50) rfl rfl rfl rfl Try.func8 (by kernel_rfl) (by kernel_rfl) (by go_simp) ?_
                    rintro e wq51 ⟨v_51, rfl, f_51, kk⟩
                    refine ⟨_, rfl, kk, ?_⟩
                    replace f_k := zfb f_k kk
                    replace f_non := zfb f_non kk
                    replace f_48 := zfb f_48 kk
                    replace f_50 := zfb f_50 kk
                    have Bw5 := zbt HGS Bw4 kk
                    clear Bw4 kk
                    simp only [Act.put, zA, zB, zC]
                    refine lint_pure 43 _ _ (.tuple #[v_51, .int .i64 11]) rfl rfl rfl rfl rfl (fun wx hx => by unfold mkOp; go_simp; all_goals (with_reducible rfl)) ?_
                    simp only [Act.put, zA, zB, zC]
                    refine lint_pure 52 _ _ (v_51) rfl rfl rfl rfl rfl (fun wx hx => by unfold mkOp; go_simp; all_goals (with_reducible rfl)) ?_
                    simp only [Act.put, zA, zB, zC]
                    refine lint_pure 53 _ _ (.int .i64 (11 : Int)) rfl rfl rfl rfl rfl (fun wx hx => by unfold mkOp; go_simp; all_goals (with_reducible rfl)) ?_
                    simp only [Act.put, zA, zB, zC]
                    refine lint_pure 6 _ _ (v_51) rfl rfl rfl rfl rfl (fun wx hx => by unfold mkOp; go_simp; all_goals (with_reducible rfl)) ?_
                    simp only [Act.put, zA, zB, zC]
                    refine lint_pure 7 _ _ (.int .i64 (11 : Int)) rfl rfl rfl rfl rfl (fun wx hx => by unfold mkOp; go_simp; all_goals (with_reducible rfl)) ?_
                    simp only [Act.put, zA, zB, zC]
                    refine lint_end ?_
                    clear f_48 f_50 f_non
                    clear f_51
                    go_wp2
                    replace f_k := f_k.drew
                    have Bw6 := Bw5.drew
                    clear Bw5
                    refine wp_region_lint (.rd 0 (.rd 1 (.rd 2 (.rd 3 (.wr 4 (.wr 5 (.wr 6 (.rd 7 (.rd 8 (.rd 9 (.rd 10 (.rd 11 .done)))))))))))) (by kernel_rfl) (by kernel_rfl) (by decide) (by kernel_rfl) (fun d _ _ _ _ h => by cases d <;> exact h) ?_
                    refine lint_pure 61 _ _ (v_k) rfl rfl rfl rfl rfl (fun wx hx => by unfold mkOp; go_simp; all_goals (with_reducible rfl)) ?_
                    simp only [Act.put, zA, zB, zC]
                    refine lint_pure 62 _ _ (v_k) rfl rfl rfl rfl rfl (fun wx hx => by unfold mkOp; go_simp; all_goals (with_reducible rfl)) ?_
                    simp only [Act.put, zA, zB, zC]
                    obtain ⟨v_nom, f_nom, hr63⟩ := takeB f_k 12 (by decide)
                    refine lint_pure 63 _ _ (v_nom) rfl rfl rfl rfl rfl (fun wx hx => by exact hr63 _ _ _ _ _ rfl rfl) ?_
                    clear hr63
                    simp only [Act.put, zA, zB, zC]
                    refine lint_pure 64 _ _ (.int .i64 (N : Int)) rfl rfl rfl rfl rfl (fun wx hx => by unfold mkOp; go_simp; all_goals (with_reducible rfl)) ?_
                    simp only [Act.put, zA, zB, zC]
                    refine stp_fn 65 15 _ _ _ (round32_to _ r _ (by omega) (by have := HNN.out; omega) HRR.out) rfl rfl rfl rfl Try.func15 (by kernel_rfl) (by kernel_rfl) (by go_simp) ?_
                    rintro e wq65 ⟨rfl, kk⟩
                    refine ⟨_, rfl, kk, ?_⟩
                    replace f_k := zfb f_k kk
                    replace f_nom := zfb f_nom kk
                    have Bw7 := zbt HGS Bw6 kk
                    clear Bw6 kk
                    simp only [Act.put, zA, zB, zC]
                    refine stp_makeN 66 (.tmp 65) r rfl rfl rfl rfl rfl (by have := HNN.out; omega) ?_
                    intro wq66 v_66 f_66 kk
                    replace f_k := zfb f_k kk
                    replace f_nom := zfb f_nom kk
                    have Bw8 := zbt HGS Bw7 kk
                    clear Bw7 kk
                    simp only [Act.put, zA, zB, zC]
                    refine stp_fn 67 10 _ _ _ (HO.out _ _ _ _ f_k f_nom f_66) rfl rfl rfl rfl Try.func10 (by kernel_rfl) (by kernel_rfl) (by go_simp) ?_
                    rintro e wq67 ⟨v_67, rfl, f_67, kk⟩
                    refine ⟨_, rfl, kk, ?_⟩
                    replace f_k := zfb f_k kk
                    replace f_nom := zfb f_nom kk
                    replace f_66 := zfb f_66 kk
                    have Bw9 := zbt HGS Bw8 kk
                    clear Bw8 kk
                    simp only [Act.put, zA, zB, zC]
                    refine lint_pure 60 _ _ (.tuple #[v_67, .int .i64 2]) rfl rfl rfl rfl rfl (fun wx hx => by unfold mkOp; go_simp; all_goals (with_reducible rfl)) ?_
                    simp only [Act.put, zA, zB, zC]
                    refine lint_pure 68 _ _ (v_67) rfl rfl rfl rfl rfl (fun wx hx => by unfold mkOp; go_simp; all_goals (with_reducible rfl)) ?_
                    simp only [Act.put, zA, zB, zC]
                    refine lint_pure 69 _ _ (.int .i64 (2 : Int)) rfl rfl rfl rfl rfl (fun wx hx => by unfold mkOp; go_simp; all_goals (with_reducible rfl)) ?_
                    simp only [Act.put, zA, zB, zC]
                    refine lint_pure 9 _ _ (v_67) rfl rfl rfl rfl rfl (fun wx hx => by unfold mkOp; go_simp; all_goals (with_reducible rfl)) ?_
                    simp only [Act.put, zA, zB, zC]
                    refine lint_pure 10 _ _ (.int .i64 (2 : Int)) rfl rfl rfl rfl rfl (fun wx hx => by unfold mkOp; go_simp; all_goals (with_reducible rfl)) ?_
                    simp only [Act.put, zA, zB, zC]
                    refine lint_end ?_
                    go_wp2_with (first
                      | (have hgo := Bw9; clear hgo
                         go_at_call 7
                         refine (awake13_any _).mono ?_
                         rintro e w99 ⟨rfl, kk⟩
                         have Bw99 := zbt HGS Bw9 kk
                         clear Bw9 kk))
                    go_ret
                    exact ⟨rfl, Bw99⟩
                  · skip
                    refine stp_makeN 50 (.tmp 49) N rfl rfl rfl rfl rfl (by have := HNN.out; omega) ?_
                    intro wq50 v_50 f_50 kk
                    replace f_k := zfb f_k kk
                    replace f_non := zfb f_non kk
                    have Bw3 := zbt HGS Bw2 kk
                    clear Bw2 kk
                    simp only [Act.put, zA, zB, zC]
                    refine stp_makeN 48 (.tmp 47) M rfl rfl rfl rfl rfl (by have := HNN.out; omega) ?_
                    intro wq48 v_48 f_48 kk
                    replace f_k := zfb f_k kk
                    replace f_non := zfb f_non kk
                    replace f_50 := zfb f_50 kk
                    have Bw4 := zbt HGS Bw3 kk
                    clear Bw3 kk
                    simp only [Act.put, zA, zB, zC]
                    refine stp_fn 51 8 _ _ _ (HS.out _ _ _ _ _ f_k f_non f_48 f_50) rfl rfl rfl rfl Try.func8 (by kernel_rfl) (by kernel_rfl) (by go_simp) ?_
                    rintro e wq51 ⟨v_51, rfl, f_51, kk⟩
                    refine ⟨_, rfl, kk, ?_⟩
                    replace f_k := zfb f_k kk
                    replace f_non := zfb f_non kk
                    replace f_50 := zfb f_50 kk
                    replace f_48 := zfb f_48 kk
                    have Bw5 := zbt HGS Bw4 kk
                    clear Bw4 kk
                    simp only [Act.put, zA, zB, zC]
                    refine lint_pure 43 _ _ (.tuple #[v_51, .int .i64 11]) rfl rfl rfl rfl rfl (fun wx hx => by unfold mkOp; go_simp; all_goals (with_reducible rfl)) ?_
                    simp only [Act.put, zA, zB, zC]
                    refine lint_pure 52 _ _ (v_51) rfl rfl rfl rfl rfl (fun wx hx => by unfold mkOp; go_simp; all_goals (with_reducible rfl)) ?_
                    simp only [Act.put, zA, zB, zC]
                    refine lint_pure 53 _ _ (.int .i64 (11 : Int)) rfl rfl rfl rfl rfl (fun wx hx => by unfold mkOp; go_simp; all_goals (with_reducible rfl)) ?_
                    simp only [Act.put, zA, zB, zC]
                    refine lint_pure 6 _ _ (v_51) rfl rfl rfl rfl rfl (fun wx hx => by unfold mkOp; go_simp; all_goals (with_reducible rfl)) ?_
                    simp only [Act.put, zA, zB, zC]
                    refine lint_pure 7 _ _ (.int .i64 (11 : Int)) rfl rfl rfl rfl rfl (fun wx hx => by unfold mkOp; go_simp; all_goals (with_reducible rfl)) ?_
                    simp only [Act.put, zA, zB, zC]
                    refine lint_end ?_
                    clear f_48 f_50 f_non
                    clear f_51
                    go_wp2
                    replace f_k := f_k.drew
                    have Bw6 := Bw5.drew
                    clear Bw5
                    refine wp_region_lint (.rd 0 (.rd 1 (.rd 2 (.rd 3 (.wr 4 (.wr 5 (.wr 6 (.rd 7 (.rd 8 (.rd 9 (.rd 10 (.rd 11 .done)))))))))))) (by kernel_rfl) (by kernel_rfl) (by decide) (by kernel_rfl) (fun d _ _ _ _ h => by cases d <;> exact h) ?_
                    refine lint_pure 61 _ _ (v_k) rfl rfl rfl rfl rfl (fun wx hx => by unfold mkOp; go_simp; all_goals (with_reducible rfl)) ?_
                    simp only [Act.put, zA, zB, zC]
                    refine lint_pure 62 _ _ (v_k) rfl rfl rfl rfl rfl (fun wx hx => by unfold mkOp; go_simp; all_goals (with_reducible rfl)) ?_
                    simp only [Act.put, zA, zB, zC]
                    obtain ⟨v_nom, f_nom, hr63⟩ := takeB f_k 12 (by decide)
                    refine lint_pure 63 _ _ (v_nom) rfl rfl rfl rfl rfl (fun wx hx => by exact hr63 _ _ _ _ _ rfl rfl) ?_
                    clear hr63
                    simp only [Act.put, zA, zB, zC]
                    refine lint_pure 64 _ _ (.int .i64 (N : Int)) rfl rfl rfl rfl rfl (fun wx hx => by unfold mkOp; go_simp; all_goals (with_reducible rfl)) ?_
                    simp only [Act.put, zA, zB, zC]
                    refine stp_fn 65 15 _ _ _ (round32_to _ r _ (by omega) (by have := HNN.out; omega) HRR.out) rfl rfl rfl rfl Try.func15 (by kernel_rfl) (by kernel_rfl) (by go_simp) ?_
                    rintro e wq65 ⟨rfl, kk⟩
                    refine ⟨_, rfl, kk, ?_⟩
                    replace f_k := zfb f_k kk
                    replace f_nom := zfb f_nom kk
                    have Bw7 := zbt HGS Bw6 kk
                    clear Bw6 kk
                    simp only [Act.put, zA, zB, zC]
                    refine stp_makeN 66 (.tmp 65) r rfl rfl rfl rfl rfl (by have := HNN.out; omega) ?_
                    intro wq66 v_66 f_66 kk
                    replace f_k := zfb f_k kk
                    replace f_nom := zfb f_nom kk
                    have Bw8 := zbt HGS Bw7 kk
                    clear Bw7 kk
                    simp only [Act.put, zA, zB, zC]
                    refine stp_fn 67 10 _ _ _ (HO.out _ _ _ _ f_k f_nom f_66) rfl rfl rfl rfl Try.func10 (by kernel_rfl) (by kernel_rfl) (by go_simp) ?_
                    rintro e wq67 ⟨v_67, rfl, f_67, kk⟩
                    refine ⟨_, rfl, kk, ?_⟩
                    replace f_k := zfb f_k kk
                    replace f_nom := zfb f_nom kk
                    replace f_66 := zfb f_66 kk
                    have Bw9 := zbt HGS Bw8 kk
                    clear Bw8 kk
                    simp only [Act.put, zA, zB, zC]
                    refine lint_pure 60 _ _ (.tuple #[v_67, .int .i64 2]) rfl rfl rfl rfl rfl (fun wx hx => by unfold mkOp; go_simp; all_goals (with_reducible rfl)) ?_
                    simp only [Act.put, zA, zB, zC]
                    refine lint_pure 68 _ _ (v_67) rfl rfl rfl rfl rfl (fun wx hx => by unfold mkOp; go_simp; all_goals (with_reducible rfl)) ?_
                    simp only [Act.put, zA, zB, zC]
                    refine lint_pure 69 _ _ (.int .i64 (2 : Int)) rfl rfl rfl rfl rfl (fun wx hx => by unfold mkOp; go_simp; all_goals (with_reducible rfl)) ?_
                    simp only [Act.put, zA, zB, zC]
                    refine lint_pure 9 _ _ (v_67) rfl rfl rfl rfl rfl (fun wx hx => by unfold mkOp; go_simp; all_goals (with_reducible rfl)) ?_
                    simp only [Act.put, zA, zB, zC]
                    refine lint_pure 10 _ _ (.int .i64 (2 : Int)) rfl rfl rfl rfl rfl (fun wx hx => by unfold mkOp; go_simp; all_goals (with_reducible rfl)) ?_
                    simp only [Act.put, zA, zB, zC]
                    refine lint_end ?_
                    go_wp2_with (first
                      | (have hgo := Bw9; clear hgo
                         go_at_call 7
                         refine (awake13_any _).mono ?_
                         rintro e w99 ⟨rfl, kk⟩
                         have Bw99 := zbt HGS Bw9 kk
                         clear Bw9 kk))
                    go_ret
                    exact ⟨rfl, Bw99⟩
              · have q6 : (200 : Int) < x1 := by omega
                by_cases d7 : x1 < 65500
                · have q7 : x1 < (65500 : Int) := by omega
                  clear w0 w1 d0 d1 d2 d3 d4 d5 d6 d7
                  go_enter Try.func5, Try.ntmps5
                  go_wp2_with (go_at_call 7; refine (awake13_any _).mono ?_; rintro e w9 ⟨rfl, hb9⟩)
                  go_ret
                  exact ⟨rfl, hb9⟩
                · have q7 : ¬ x1 < (65500 : Int) := by omega
                  by_cases d8 : x0 ≤ 65536
                  · have q8 : ¬ (65536 : Int) < x0 := by omega
                    by_cases d9 : x1 ≤ 65536
                    · have q9 : ¬ (65536 : Int) < x1 := by omega
                      obtain ⟨N, rfl⟩ := Int.eq_ofNat_of_zero_le (show 0 ≤ x0 by omega)
                      obtain ⟨M, rfl⟩ := Int.eq_ofNat_of_zero_le (show 0 ≤ x1 by omega)
                      obtain ⟨m, hm⟩ := nat_var (N + 32)
                      have hw1 : IntKind.i64.wrap ((N : Int) + 32) = (m : Int) := by rw [IntWalk.i64_in _ (by omega)]; omega
                      obtain ⟨r, hr⟩ := nat_var (N % 32)
                      have HNN : Hid (N ≤ 66000 ∧ M ≤ 66000 ∧ r < 32) := Lib.hid (by omega)
                      have HRR : Hid ((N : Int) % 32 = (r : Int)) := Lib.hid (by omega)
                      obtain ⟨XL, hXL⟩ : ∃ E, E = seL key0 non0 (List.replicate M 0) (List.replicate N 0) := ⟨_, rfl⟩
                      have hz : (List.replicate N (0 : UInt8)).length = N := List.length_replicate
                      have hz2 : (List.replicate M (0 : UInt8)).length = M := List.length_replicate
                      have hk : okSz 65536 (List.replicate M 0) (List.replicate N 0) := ⟨by omega, by omega⟩
                      have hs := seE_ok okK_0 hk
                      have HS : Hid (∀ v0 v1 v2 v3 w, Bs w v0 key0 → Bs w v1 non0 → Bs w v2 (List.replicate M 0) → Bs w v3 (List.replicate N 0) → Calls Try.prog 8 #[v0, v1, v2, v3] w fun e w' => ∃ v, e = .returned (.tuple #[v, .int .i64 0]) ∧ Bs w' v XL ∧ Below w.heap.size w w') := Lib.hid fun v0 v1 v2 v3 w h0 h1 h2 h3 => by
                        rw [← hs.1, hXL]
                        exact pSeal_to v0 _ v1 _ v2 _ v3 _ w h0 h1 h2 h3
                      have HXL : Hid (XL.length = m) := Lib.hid (by rw [hXL, hs.2, boxL_len, hm, hz])
                      have hsh := opE_short (l2 := []) (l3 := List.replicate r 0) okK_0 ⟨by rw [List.length_replicate]; omega, by decide⟩ (by rw [List.length_replicate]; omega)
                      have HO : Hid (∀ v0 v1 v3 w, Bs w v0 key0 → Bs w v1 non0 → Bs w v3 (List.replicate r 0) → Calls Try.prog 10 #[v0, v1, .slice none 0 0, v3] w fun e w' => ∃ v, e = .returned (.tuple #[v, .int .i64 2]) ∧ Bs w' v [] ∧ Below w.heap.size w w') := Lib.hid fun v0 v1 v3 w h0 h1 h3 => by
                        have g := pOpen_to v0 _ v1 _ _ [] v3 _ w h0 h1 (Bs.nil _) h3
                        rwa [hsh.1, hsh.2] at g
                      have Bw0 := Below.refl w.heap.size w
                      have HGS : Hid (∀ wq : World, Below w.heap.size w wq → w.heap.size ≤ wq.heap.size) := Lib.hid fun wq h => h.size
                      clear hXL hz hz2 hk hs hsh hm hr w0 w1 d0 d1 d2 d3 d4 d5 d6 d7 d8 d9
                      go_enter Try.func5, Try.ntmps5
                      go_wp2_with (first
                        | (have hgo := Bw0; clear hgo
                           refine wpList_makeO rfl (.const (.int .i64 32)) rfl 32 rfl (by decide) ?_
                           intro v_k w1 f_k kk
                           have Bw1 := zbt HGS Bw0 kk
                           clear Bw0 kk))
                      replace f_k : Bs w1 v_k key0 := f_k
                      replace f_k := f_k.drew
                      have Bw2 := Bw1.drew
                      clear Bw1
                      refine wp_region_lint (.rd 0 (.rd 1 (.rd 2 (.rd 3 (.rd 5 (.br 4 (.wr 6 (.wr 7 (.rd 8 (.rd 9 (.rd 10 (.rd 11 (.rd 12 .done))))))) 6 (.wr 4 (.wr 7 (.rd 8 (.rd 9 (.rd 10 (.rd 11 (.rd 12 .done))))))))))))) (by kernel_rfl) (by kernel_rfl) (by decide) (by kernel_rfl) (fun d _ _ _ _ h => by cases d <;> exact h) ?_
                      refine lint_pure 44 _ _ (v_k) rfl rfl rfl rfl rfl (fun wx hx => by unfold mkOp; go_simp; all_goals (with_reducible rfl)) ?_
                      simp only [Act.put, zA, zB, zC]
                      refine lint_pure 45 _ _ (v_k) rfl rfl rfl rfl rfl (fun wx hx => by unfold mkOp; go_simp; all_goals (with_reducible rfl)) ?_
                      simp only [Act.put, zA, zB, zC]
                      obtain ⟨v_non, f_non, hr46⟩ := takeB f_k 12 (by decide)
                      refine lint_pure 46 _ _ (v_non) rfl rfl rfl rfl rfl (fun wx hx => by exact hr46 _ _ _ _ _ rfl rfl) ?_
                      clear hr46
                      simp only [Act.put, zA, zB, zC]
                      refine lint_pure 47 _ _ (.int .i64 (M : Int)) rfl rfl rfl rfl rfl (fun wx hx => by unfold mkOp; go_simp; all_goals (with_reducible rfl)) ?_
                      simp only [Act.put, zA, zB, zC]
                      refine lint_pure 49 _ _ (.int .i64 (N : Int)) rfl rfl rfl rfl rfl (fun wx hx => by unfold mkOp; go_simp; all_goals (with_reducible rfl)) ?_
                      simp only [Act.put, zA, zB, zC]
                      refine ⟨?_, ?_⟩
                      · skip
                        refine stp_makeN 48 (.tmp 47) M rfl rfl rfl rfl rfl (by have := HNN.out; omega) ?_
                        intro wq48 v_48 f_48 kk
                        replace f_k := zfb f_k kk
                        replace f_non := zfb f_non kk
                        have Bw3 := zbt HGS Bw2 kk
                        clear Bw2 kk
                        simp only [Act.put, zA, zB, zC]
                        refine stp_makeN 50 (.tmp 49) N rfl rfl rfl rfl rfl (by have := HNN.out; omega) ?_
                        intro wq50 v_50 f_50 kk
                        replace f_k := zfb f_k kk
                        replace f_non := zfb f_non kk
                        replace f_48 := zfb f_48 kk
                        have Bw4 := zbt HGS Bw3 kk
                        clear Bw3 kk
                        simp only [Act.put, zA, zB, zC]
                        refine stp_fn 51 8 _ _ _ (HS.out _ _ _ _ _ f_k f_non f_48 f_50) rfl rfl rfl rfl Try.func8 (by kernel_rfl) (by kernel_rfl) (by go_simp) ?_
                        rintro e wq51 ⟨v_51, rfl, f_51, kk⟩
                        refine ⟨_, rfl, kk, ?_⟩
                        replace f_k := zfb f_k kk
                        replace f_non := zfb f_non kk
                        replace f_48 := zfb f_48 kk
                        replace f_50 := zfb f_50 kk
                        have Bw5 := zbt HGS Bw4 kk
                        clear Bw4 kk
                        simp only [Act.put, zA, zB, zC]
                        refine lint_pure 43 _ _ (.tuple #[v_51, .int .i64 0]) rfl rfl rfl rfl rfl (fun wx hx => by unfold mkOp; go_simp; all_goals (with_reducible rfl)) ?_
                        simp only [Act.put, zA, zB, zC]
                        refine lint_pure 52 _ _ (v_51) rfl rfl rfl rfl rfl (fun wx hx => by unfold mkOp; go_simp; all_goals (with_reducible rfl)) ?_
                        simp only [Act.put, zA, zB, zC]
                        refine lint_pure 53 _ _ (.int .i64 (0 : Int)) rfl rfl rfl rfl rfl (fun wx hx => by unfold mkOp; go_simp; all_goals (with_reducible rfl)) ?_
                        simp only [Act.put, zA, zB, zC]
                        refine lint_pure 6 _ _ (v_51) rfl rfl rfl rfl rfl (fun wx hx => by unfold mkOp; go_simp; all_goals (with_reducible rfl)) ?_
                        simp only [Act.put, zA, zB, zC]
                        refine lint_pure 7 _ _ (.int .i64 (0 : Int)) rfl rfl rfl rfl rfl (fun wx hx => by unfold mkOp; go_simp; all_goals (with_reducible rfl)) ?_
                        simp only [Act.put, zA, zB, zC]
                        refine lint_end ?_
                        clear f_48 f_50 f_non
                        obtain ⟨ad_x, n_x, c_x, rfl, he, hy, hz, _⟩ := f_51.shape
                        have hn : n_x = m := by rw [← he]; exact HXL.out
                        subst hn
                        clear he hy hz f_51
                        go_wp2
                        replace f_k := f_k.drew
                        have Bw6 := Bw5.drew
                        clear Bw5
                        refine wp_region_lint (.rd 0 (.rd 1 (.rd 2 (.rd 3 (.wr 4 (.wr 5 (.wr 6 (.rd 7 (.rd 8 (.rd 9 (.rd 10 (.rd 11 .done)))))))))))) (by kernel_rfl) (by kernel_rfl) (by decide) (by kernel_rfl) (fun d _ _ _ _ h => by cases d <;> exact h) ?_
                        refine lint_pure 61 _ _ (v_k) rfl rfl rfl rfl rfl (fun wx hx => by unfold mkOp; go_simp; all_goals (with_reducible rfl)) ?_
                        simp only [Act.put, zA, zB, zC]
                        refine lint_pure 62 _ _ (v_k) rfl rfl rfl rfl rfl (fun wx hx => by unfold mkOp; go_simp; all_goals (with_reducible rfl)) ?_
                        simp only [Act.put, zA, zB, zC]
                        obtain ⟨v_nom, f_nom, hr63⟩ := takeB f_k 12 (by decide)
                        refine lint_pure 63 _ _ (v_nom) rfl rfl rfl rfl rfl (fun wx hx => by exact hr63 _ _ _ _ _ rfl rfl) ?_
                        clear hr63
                        simp only [Act.put, zA, zB, zC]
                        refine lint_pure 64 _ _ (.int .i64 (N : Int)) rfl rfl rfl rfl rfl (fun wx hx => by unfold mkOp; go_simp; all_goals (with_reducible rfl)) ?_
                        simp only [Act.put, zA, zB, zC]
                        refine stp_fn 65 15 _ _ _ (round32_to _ r _ (by omega) (by have := HNN.out; omega) HRR.out) rfl rfl rfl rfl Try.func15 (by kernel_rfl) (by kernel_rfl) (by go_simp) ?_
                        rintro e wq65 ⟨rfl, kk⟩
                        refine ⟨_, rfl, kk, ?_⟩
                        replace f_k := zfb f_k kk
                        replace f_nom := zfb f_nom kk
                        have Bw7 := zbt HGS Bw6 kk
                        clear Bw6 kk
                        simp only [Act.put, zA, zB, zC]
                        refine stp_makeN 66 (.tmp 65) r rfl rfl rfl rfl rfl (by have := HNN.out; omega) ?_
                        intro wq66 v_66 f_66 kk
                        replace f_k := zfb f_k kk
                        replace f_nom := zfb f_nom kk
                        have Bw8 := zbt HGS Bw7 kk
                        clear Bw7 kk
                        simp only [Act.put, zA, zB, zC]
                        refine stp_fn 67 10 _ _ _ (HO.out _ _ _ _ f_k f_nom f_66) rfl rfl rfl rfl Try.func10 (by kernel_rfl) (by kernel_rfl) (by go_simp) ?_
                        rintro e wq67 ⟨v_67, rfl, f_67, kk⟩
                        refine ⟨_, rfl, kk, ?_⟩
                        replace f_k := zfb f_k kk
                        replace f_nom := zfb f_nom kk
                        replace f_66 := zfb f_66 kk
                        have Bw9 := zbt HGS Bw8 kk
                        clear Bw8 kk
                        simp only [Act.put, zA, zB, zC]
                        refine lint_pure 60 _ _ (.tuple #[v_67, .int .i64 2]) rfl rfl rfl rfl rfl (fun wx hx => by unfold mkOp; go_simp; all_goals (with_reducible rfl)) ?_
                        simp only [Act.put, zA, zB, zC]
                        refine lint_pure 68 _ _ (v_67) rfl rfl rfl rfl rfl (fun wx hx => by unfold mkOp; go_simp; all_goals (with_reducible rfl)) ?_
                        simp only [Act.put, zA, zB, zC]
                        refine lint_pure 69 _ _ (.int .i64 (2 : Int)) rfl rfl rfl rfl rfl (fun wx hx => by unfold mkOp; go_simp; all_goals (with_reducible rfl)) ?_
                        simp only [Act.put, zA, zB, zC]
                        refine lint_pure 9 _ _ (v_67) rfl rfl rfl rfl rfl (fun wx hx => by unfold mkOp; go_simp; all_goals (with_reducible rfl)) ?_
                        simp only [Act.put, zA, zB, zC]
                        refine lint_pure 10 _ _ (.int .i64 (2 : Int)) rfl rfl rfl rfl rfl (fun wx hx => by unfold mkOp; go_simp; all_goals (with_reducible rfl)) ?_
                        simp only [Act.put, zA, zB, zC]
                        refine lint_end ?_
                        go_wp2_with (first
                          | (have hgo := Bw9; clear hgo
                             go_at_call 7
                             refine (awake13_any _).mono ?_
                             rintro e w99 ⟨rfl, kk⟩
                             have Bw99 := zbt HGS Bw9 kk
                             clear Bw9 kk))
                        go_ret
                        exact ⟨rfl, Bw99⟩
                      · skip
                        refine stp_makeN 50 (.tmp 49) N rfl rfl rfl rfl rfl (by have := HNN.out; omega) ?_
                        intro wq50 v_50 f_50 kk
                        replace f_k := zfb f_k kk
                        replace f_non := zfb f_non kk
                        have Bw3 := zbt HGS Bw2 kk
                        clear Bw2 kk
                        simp only [Act.put, zA, zB, zC]
                        refine stp_makeN 48 (.tmp 47) M rfl rfl rfl rfl rfl (by have := HNN.out; omega) ?_
                        intro wq48 v_48 f_48 kk
                        replace f_k := zfb f_k kk
                        replace f_non := zfb f_non kk
                        replace f_50 := zfb f_50 kk
                        have Bw4 := zbt HGS Bw3 kk
                        clear Bw3 kk
                        simp only [Act.put, zA, zB, zC]
                        refine stp_fn 51 8 _ _ _ (HS.out _ _ _ _ _ f_k f_non f_48 f_50) rfl rfl rfl rfl Try.func8 (by kernel_rfl) (by kernel_rfl) (by go_simp) ?_
                        rintro e wq51 ⟨v_51, rfl, f_51, kk⟩
                        refine ⟨_, rfl, kk, ?_⟩
                        replace f_k := zfb f_k kk
                        replace f_non := zfb f_non kk
                        replace f_50 := zfb f_50 kk
                        replace f_48 := zfb f_48 kk
                        have Bw5 := zbt HGS Bw4 kk
                        clear Bw4 kk
                        simp only [Act.put, zA, zB, zC]
                        refine lint_pure 43 _ _ (.tuple #[v_51, .int .i64 0]) rfl rfl rfl rfl rfl (fun wx hx => by unfold mkOp; go_simp; all_goals (with_reducible rfl)) ?_
                        simp only [Act.put, zA, zB, zC]
                        refine lint_pure 52 _ _ (v_51) rfl rfl rfl rfl rfl (fun wx hx => by unfold mkOp; go_simp; all_goals (with_reducible rfl)) ?_
                        simp only [Act.put, zA, zB, zC]
                        refine lint_pure 53 _ _ (.int .i64 (0 : Int)) rfl rfl rfl rfl rfl (fun wx hx => by unfold mkOp; go_simp; all_goals (with_reducible rfl)) ?_
                        simp only [Act.put, zA, zB, zC]
                        refine lint_pure 6 _ _ (v_51) rfl rfl rfl rfl rfl (fun wx hx => by unfold mkOp; go_simp; all_goals (with_reducible rfl)) ?_
                        simp only [Act.put, zA, zB, zC]
                        refine lint_pure 7 _ _ (.int .i64 (0 : Int)) rfl rfl rfl rfl rfl (fun wx hx => by unfold mkOp; go_simp; all_goals (with_reducible rfl)) ?_
                        simp only [Act.put, zA, zB, zC]
                        refine lint_end ?_
                        clear f_48 f_50 f_non
                        obtain ⟨ad_x, n_x, c_x, rfl, he, hy, hz, _⟩ := f_51.shape
                        have hn : n_x = m := by rw [← he]; exact HXL.out
                        subst hn
                        clear he hy hz f_51
                        go_wp2
                        replace f_k := f_k.drew
                        have Bw6 := Bw5.drew
                        clear Bw5
                        refine wp_region_lint (.rd 0 (.rd 1 (.rd 2 (.rd 3 (.wr 4 (.wr 5 (.wr 6 (.rd 7 (.rd 8 (.rd 9 (.rd 10 (.rd 11 .done)))))))))))) (by kernel_rfl) (by kernel_rfl) (by decide) (by kernel_rfl) (fun d _ _ _ _ h => by cases d <;> exact h) ?_
                        refine lint_pure 61 _ _ (v_k) rfl rfl rfl rfl rfl (fun wx hx => by unfold mkOp; go_simp; all_goals (with_reducible rfl)) ?_
                        simp only [Act.put, zA, zB, zC]
                        refine lint_pure 62 _ _ (v_k) rfl rfl rfl rfl rfl (fun wx hx => by unfold mkOp; go_simp; all_goals (with_reducible rfl)) ?_
                        simp only [Act.put, zA, zB, zC]
                        obtain ⟨v_nom, f_nom, hr63⟩ := takeB f_k 12 (by decide)
                        refine lint_pure 63 _ _ (v_nom) rfl rfl rfl rfl rfl (fun wx hx => by exact hr63 _ _ _ _ _ rfl rfl) ?_
                        clear hr63
                        simp only [Act.put, zA, zB, zC]
                        refine lint_pure 64 _ _ (.int .i64 (N : Int)) rfl rfl rfl rfl rfl (fun wx hx => by unfold mkOp; go_simp; all_goals (with_reducible rfl)) ?_
                        simp only [Act.put, zA, zB, zC]
                        refine stp_fn 65 15 _ _ _ (round32_to _ r _ (by omega) (by have := HNN.out; omega) HRR.out) rfl rfl rfl rfl Try.func15 (by kernel_rfl) (by kernel_rfl) (by go_simp) ?_
                        rintro e wq65 ⟨rfl, kk⟩
                        refine ⟨_, rfl, kk, ?_⟩
                        replace f_k := zfb f_k kk
                        replace f_nom := zfb f_nom kk
                        have Bw7 := zbt HGS Bw6 kk
                        clear Bw6 kk
                        simp only [Act.put, zA, zB, zC]
                        refine stp_makeN 66 (.tmp 65) r rfl rfl rfl rfl rfl (by have := HNN.out; omega) ?_
                        intro wq66 v_66 f_66 kk
                        replace f_k := zfb f_k kk
                        replace f_nom := zfb f_nom kk
                        have Bw8 := zbt HGS Bw7 kk
                        clear Bw7 kk
                        simp only [Act.put, zA, zB, zC]
                        refine stp_fn 67 10 _ _ _ (HO.out _ _ _ _ f_k f_nom f_66) rfl rfl rfl rfl Try.func10 (by kernel_rfl) (by kernel_rfl) (by go_simp) ?_
                        rintro e wq67 ⟨v_67, rfl, f_67, kk⟩
                        refine ⟨_, rfl, kk, ?_⟩
                        replace f_k := zfb f_k kk
                        replace f_nom := zfb f_nom kk
                        replace f_66 := zfb f_66 kk
                        have Bw9 := zbt HGS Bw8 kk
                        clear Bw8 kk
                        simp only [Act.put, zA, zB, zC]
                        refine lint_pure 60 _ _ (.tuple #[v_67, .int .i64 2]) rfl rfl rfl rfl rfl (fun wx hx => by unfold mkOp; go_simp; all_goals (with_reducible rfl)) ?_
                        simp only [Act.put, zA, zB, zC]
                        refine lint_pure 68 _ _ (v_67) rfl rfl rfl rfl rfl (fun wx hx => by unfold mkOp; go_simp; all_goals (with_reducible rfl)) ?_
                        simp only [Act.put, zA, zB, zC]
                        refine lint_pure 69 _ _ (.int .i64 (2 : Int)) rfl rfl rfl rfl rfl (fun wx hx => by unfold mkOp; go_simp; all_goals (with_reducible rfl)) ?_
                        simp only [Act.put, zA, zB, zC]
                        refine lint_pure 9 _ _ (v_67) rfl rfl rfl rfl rfl (fun wx hx => by unfold mkOp; go_simp; all_goals (with_reducible rfl)) ?_
                        simp only [Act.put, zA, zB, zC]
                        refine lint_pure 10 _ _ (.int .i64 (2 : Int)) rfl rfl rfl rfl rfl (fun wx hx => by unfold mkOp; go_simp; all_goals (with_reducible rfl)) ?_
                        simp only [Act.put, zA, zB, zC]
                        refine lint_end ?_
                        go_wp2_with (first
                          | (have hgo := Bw9; clear hgo
                             go_at_call 7
                             refine (awake13_any _).mono ?_
                             rintro e w99 ⟨rfl, kk⟩
                             have Bw99 := zbt HGS Bw9 kk
                             clear Bw9 kk))
                        go_ret
                        exact ⟨rfl, Bw99⟩
                    · have q9 : (65536 : Int) < x1 := by omega
                      obtain ⟨N, rfl⟩ := Int.eq_ofNat_of_zero_le (show 0 ≤ x0 by omega)
                      obtain ⟨M, rfl⟩ := Int.eq_ofNat_of_zero_le (show 0 ≤ x1 by omega)
                      obtain ⟨m, hm⟩ := nat_var (N + 32)
                      have hw1 : IntKind.i64.wrap ((N : Int) + 32) = (m : Int) := by rw [IntWalk.i64_in _ (by omega)]; omega
                      obtain ⟨r, hr⟩ := nat_var (N % 32)
                      have HNN : Hid (N ≤ 66000 ∧ M ≤ 66000 ∧ r < 32) := Lib.hid (by omega)
                      have HRR : Hid ((N : Int) % 32 = (r : Int)) := Lib.hid (by omega)
                      obtain ⟨XL, hXL⟩ : ∃ E, E = seL key0 non0 (List.replicate M 0) (List.replicate N 0) := ⟨_, rfl⟩
                      have hz : (List.replicate N (0 : UInt8)).length = N := List.length_replicate
                      have hz2 : (List.replicate M (0 : UInt8)).length = M := List.length_replicate
                      have hk : ¬ okSz 65536 (List.replicate M 0) (List.replicate N 0) := fun g => by
                        have g1 := g.1
                        have g2 := g.2
                        omega
                      have hs := seE_big okK_0 hk
                      have HS : Hid (∀ v0 v1 v2 v3 w, Bs w v0 key0 → Bs w v1 non0 → Bs w v2 (List.replicate M 0) → Bs w v3 (List.replicate N 0) → Calls Try.prog 8 #[v0, v1, v2, v3] w fun e w' => ∃ v, e = .returned (.tuple #[v, .int .i64 11]) ∧ Bs w' v XL ∧ Below w.heap.size w w') := Lib.hid fun v0 v1 v2 v3 w h0 h1 h2 h3 => by
                        rw [← hs.1, hXL]
                        exact pSeal_to v0 _ v1 _ v2 _ v3 _ w h0 h1 h2 h3
                      have hsh := opE_short (l2 := []) (l3 := List.replicate r 0) okK_0 ⟨by rw [List.length_replicate]; omega, by decide⟩ (by rw [List.length_replicate]; omega)
                      have HO : Hid (∀ v0 v1 v3 w, Bs w v0 key0 → Bs w v1 non0 → Bs w v3 (List.replicate r 0) → Calls Try.prog 10 #[v0, v1, .slice none 0 0, v3] w fun e w' => ∃ v, e = .returned (.tuple #[v, .int .i64 2]) ∧ Bs w' v [] ∧ Below w.heap.size w w') := Lib.hid fun v0 v1 v3 w h0 h1 h3 => by
                        have g := pOpen_to v0 _ v1 _ _ [] v3 _ w h0 h1 (Bs.nil _) h3
                        rwa [hsh.1, hsh.2] at g
                      have Bw0 := Below.refl w.heap.size w
                      have HGS : Hid (∀ wq : World, Below w.heap.size w wq → w.heap.size ≤ wq.heap.size) := Lib.hid fun wq h => h.size
                      clear hXL hz hz2 hk hs hsh hm hr w0 w1 d0 d1 d2 d3 d4 d5 d6 d7 d8 d9
                      go_enter Try.func5, Try.ntmps5
                      go_wp2_with (first
                        | (have hgo := Bw0; clear hgo
                           refine wpList_makeO rfl (.const (.int .i64 32)) rfl 32 rfl (by decide) ?_
                           intro v_k w1 f_k kk
                           have Bw1 := zbt HGS Bw0 kk
                           clear Bw0 kk))
                      replace f_k : Bs w1 v_k key0 := f_k
                      replace f_k := f_k.drew
                      have Bw2 := Bw1.drew
                      clear Bw1
                      refine wp_region_lint (.rd 0 (.rd 1 (.rd 2 (.rd 3 (.rd 5 (.br 4 (.wr 6 (.wr 7 (.rd 8 (.rd 9 (.rd 10 (.rd 11 (.rd 12 .done))))))) 6 (.wr 4 (.wr 7 (.rd 8 (.rd 9 (.rd 10 (.rd 11 (.rd 12 .done))))))))))))) (by kernel_rfl) (by kernel_rfl) (by decide) (by kernel_rfl) (fun d _ _ _ _ h => by cases d <;> exact h) ?_
                      refine lint_pure 44 _ _ (v_k) rfl rfl rfl rfl rfl (fun wx hx => by unfold mkOp; go_simp; all_goals (with_reducible rfl)) ?_
                      simp only [Act.put, zA, zB, zC]
                      refine lint_pure 45 _ _ (v_k) rfl rfl rfl rfl rfl (fun wx hx => by unfold mkOp; go_simp; all_goals (with_reducible rfl)) ?_
                      simp only [Act.put, zA, zB, zC]
                      obtain ⟨v_non, f_non, hr46⟩ := takeB f_k 12 (by decide)
                      refine lint_pure 46 _ _ (v_non) rfl rfl rfl rfl rfl (fun wx hx => by exact hr46 _ _ _ _ _ rfl rfl) ?_
                      clear hr46
                      simp only [Act.put, zA, zB, zC]
                      refine lint_pure 47 _ _ (.int .i64 (M : Int)) rfl rfl rfl rfl rfl (fun wx hx => by unfold mkOp; go_simp; all_goals (with_reducible rfl)) ?_
                      simp only [Act.put, zA, zB, zC]
                      refine lint_pure 49 _ _ (.int .i64 (N : Int)) rfl rfl rfl rfl rfl (fun wx hx => by unfold mkOp; go_simp; all_goals (with_reducible rfl)) ?_
                      simp only [Act.put, zA, zB, zC]
                      refine ⟨?_, ?_⟩
                      · skip
                        refine stp_makeN 48 (.tmp 47) M rfl rfl rfl rfl rfl (by have := HNN.out; omega) ?_
                        intro wq48 v_48 f_48 kk
                        replace f_k := zfb f_k kk
                        replace f_non := zfb f_non kk
                        have Bw3 := zbt HGS Bw2 kk
                        clear Bw2 kk
                        simp only [Act.put, zA, zB, zC]
                        refine stp_makeN 50 (.tmp 49) N rfl rfl rfl rfl rfl (by have := HNN.out; omega) ?_
                        intro wq50 v_50 f_50 kk
                        replace f_k := zfb f_k kk
                        replace f_non := zfb f_non kk
                        replace f_48 := zfb f_48 kk
                        have Bw4 := zbt HGS Bw3 kk
                        clear Bw3 kk
                        simp only [Act.put, zA, zB, zC]
                        refine stp_fn 51 8 _ _ _ (HS.out _ _ _ _ _ f_k f_non f_48 f_50) rfl rfl rfl rfl Try.func8 (by kernel_rfl) (by kernel_rfl) (by go_simp) ?_
                        rintro e wq51 ⟨v_51, rfl, f_51, kk⟩
                        refine ⟨_, rfl, kk, ?_⟩
                        replace f_k := zfb f_k kk
                        replace f_non := zfb f_non kk
                        replace f_48 := zfb f_48 kk
                        replace f_50 := zfb f_50 kk
                        have Bw5 := zbt HGS Bw4 kk
                        clear Bw4 kk
                        simp only [Act.put, zA, zB, zC]
                        refine lint_pure 43 _ _ (.tuple #[v_51, .int .i64 11]) rfl rfl rfl rfl rfl (fun wx hx => by unfold mkOp; go_simp; all_goals (with_reducible rfl)) ?_
                        simp only [Act.put, zA, zB, zC]
                        refine lint_pure 52 _ _ (v_51) rfl rfl rfl rfl rfl (fun wx hx => by unfold mkOp; go_simp; all_goals (with_reducible rfl)) ?_
                        simp only [Act.put, zA, zB, zC]
                        refine lint_pure 53 _ _ (.int .i64 (11 : Int)) rfl rfl rfl rfl rfl (fun wx hx => by unfold mkOp; go_simp; all_goals (with_reducible rfl)) ?_
                        simp only [Act.put, zA, zB, zC]
                        refine lint_pure 6 _ _ (v_51) rfl rfl rfl rfl rfl (fun wx hx => by unfold mkOp; go_simp; all_goals (with_reducible rfl)) ?_
                        simp only [Act.put, zA, zB, zC]
                        refine lint_pure 7 _ _ (.int .i64 (11 : Int)) rfl rfl rfl rfl rfl (fun wx hx => by unfold mkOp; go_simp; all_goals (with_reducible rfl)) ?_
                        simp only [Act.put, zA, zB, zC]
                        refine lint_end ?_
                        clear f_48 f_50 f_non
                        clear f_51
                        go_wp2
                        replace f_k := f_k.drew
                        have Bw6 := Bw5.drew
                        clear Bw5
                        refine wp_region_lint (.rd 0 (.rd 1 (.rd 2 (.rd 3 (.wr 4 (.wr 5 (.wr 6 (.rd 7 (.rd 8 (.rd 9 (.rd 10 (.rd 11 .done)))))))))))) (by kernel_rfl) (by kernel_rfl) (by decide) (by kernel_rfl) (fun d _ _ _ _ h => by cases d <;> exact h) ?_
                        refine lint_pure 61 _ _ (v_k) rfl rfl rfl rfl rfl (fun wx hx => by unfold mkOp; go_simp; all_goals (with_reducible rfl)) ?_
                        simp only [Act.put, zA, zB, zC]
                        refine lint_pure 62 _ _ (v_k) rfl rfl rfl rfl rfl (fun wx hx => by unfold mkOp; go_simp; all_goals (with_reducible rfl)) ?_
                        simp only [Act.put, zA, zB, zC]
                        obtain ⟨v_nom, f_nom, hr63⟩ := takeB f_k 12 (by decide)
                        refine lint_pure 63 _ _ (v_nom) rfl rfl rfl rfl rfl (fun wx hx => by exact hr63 _ _ _ _ _ rfl rfl) ?_
                        clear hr63
                        simp only [Act.put, zA, zB, zC]
                        refine lint_pure 64 _ _ (.int .i64 (N : Int)) rfl rfl rfl rfl rfl (fun wx hx => by unfold mkOp; go_simp; all_goals (with_reducible rfl)) ?_
                        simp only [Act.put, zA, zB, zC]
                        refine stp_fn 65 15 _ _ _ (round32_to _ r _ (by omega) (by have := HNN.out; omega) HRR.out) rfl rfl rfl rfl Try.func15 (by kernel_rfl) (by kernel_rfl) (by go_simp) ?_
                        rintro e wq65 ⟨rfl, kk⟩
                        refine ⟨_, rfl, kk, ?_⟩
                        replace f_k := zfb f_k kk
                        replace f_nom := zfb f_nom kk
                        have Bw7 := zbt HGS Bw6 kk
                        clear Bw6 kk
                        simp only [Act.put, zA, zB, zC]
                        refine stp_makeN 66 (.tmp 65) r rfl rfl rfl rfl rfl (by have := HNN.out; omega) ?_
                        intro wq66 v_66 f_66 kk
                        replace f_k := zfb f_k kk
                        replace f_nom := zfb f_nom kk
                        have Bw8 := zbt HGS Bw7 kk
                        clear Bw7 kk
                        simp only [Act.put, zA, zB, zC]
                        refine stp_fn 67 10 _ _ _ (HO.out _ _ _ _ f_k f_nom f_66) rfl rfl rfl rfl Try.func10 (by kernel_rfl) (by kernel_rfl) (by go_simp) ?_
                        rintro e wq67 ⟨v_67, rfl, f_67, kk⟩
                        refine ⟨_, rfl, kk, ?_⟩
                        replace f_k := zfb f_k kk
                        replace f_nom := zfb f_nom kk
                        replace f_66 := zfb f_66 kk
                        have Bw9 := zbt HGS Bw8 kk
                        clear Bw8 kk
                        simp only [Act.put, zA, zB, zC]
                        refine lint_pure 60 _ _ (.tuple #[v_67, .int .i64 2]) rfl rfl rfl rfl rfl (fun wx hx => by unfold mkOp; go_simp; all_goals (with_reducible rfl)) ?_
                        simp only [Act.put, zA, zB, zC]
                        refine lint_pure 68 _ _ (v_67) rfl rfl rfl rfl rfl (fun wx hx => by unfold mkOp; go_simp; all_goals (with_reducible rfl)) ?_
                        simp only [Act.put, zA, zB, zC]
                        refine lint_pure 69 _ _ (.int .i64 (2 : Int)) rfl rfl rfl rfl rfl (fun wx hx => by unfold mkOp; go_simp; all_goals (with_reducible rfl)) ?_
                        simp only [Act.put, zA, zB, zC]
                        refine lint_pure 9 _ _ (v_67) rfl rfl rfl rfl rfl (fun wx hx => by unfold mkOp; go_simp; all_goals (with_reducible rfl)) ?_
                        simp only [Act.put, zA, zB, zC]
                        refine lint_pure 10 _ _ (.int .i64 (2 : Int)) rfl rfl rfl rfl rfl (fun wx hx => by unfold mkOp; go_simp; all_goals (with_reducible rfl)) ?_
                        simp only [Act.put, zA, zB, zC]
                        refine lint_end ?_
                        go_wp2_with (first
                          | (have hgo := Bw9; clear hgo
                             go_at_call 7
                             refine (awake13_any _).mono ?_
                             rintro e w99 ⟨rfl, kk⟩
                             have Bw99 := zbt HGS Bw9 kk
                             clear Bw9 kk))
                        go_ret
                        exact ⟨rfl, Bw99⟩
                      · skip
                        refine stp_makeN 50 (.tmp 49) N rfl rfl rfl rfl rfl (by have := HNN.out; omega) ?_
                        intro wq50 v_50 f_50 kk
                        replace f_k := zfb f_k kk
                        replace f_non := zfb f_non kk
                        have Bw3 := zbt HGS Bw2 kk
                        clear Bw2 kk
                        simp only [Act.put, zA, zB, zC]
                        refine stp_makeN 48 (.tmp 47) M rfl rfl rfl rfl rfl (by have := HNN.out; omega) ?_
                        intro wq48 v_48 f_48 kk
                        replace f_k := zfb f_k kk
                        replace f_non := zfb f_non kk
                        replace f_50 := zfb f_50 kk
                        have Bw4 := zbt HGS Bw3 kk
                        clear Bw3 kk
                        simp only [Act.put, zA, zB, zC]
                        refine stp_fn 51 8 _ _ _ (HS.out _ _ _ _ _ f_k f_non f_48 f_50) rfl rfl rfl rfl Try.func8 (by kernel_rfl) (by kernel_rfl) (by go_simp) ?_
                        rintro e wq51 ⟨v_51, rfl, f_51, kk⟩
                        refine ⟨_, rfl, kk, ?_⟩
                        replace f_k := zfb f_k kk
                        replace f_non := zfb f_non kk
                        replace f_50 := zfb f_50 kk
                        replace f_48 := zfb f_48 kk
                        have Bw5 := zbt HGS Bw4 kk
                        clear Bw4 kk
                        simp only [Act.put, zA, zB, zC]
                        refine lint_pure 43 _ _ (.tuple #[v_51, .int .i64 11]) rfl rfl rfl rfl rfl (fun wx hx => by unfold mkOp; go_simp; all_goals (with_reducible rfl)) ?_
                        simp only [Act.put, zA, zB, zC]
                        refine lint_pure 52 _ _ (v_51) rfl rfl rfl rfl rfl (fun wx hx => by unfold mkOp; go_simp; all_goals (with_reducible rfl)) ?_
                        simp only [Act.put, zA, zB, zC]
                        refine lint_pure 53 _ _ (.int .i64 (11 : Int)) rfl rfl rfl rfl rfl (fun wx hx => by unfold mkOp; go_simp; all_goals (with_reducible rfl)) ?_
                        simp only [Act.put, zA, zB, zC]
                        refine lint_pure 6 _ _ (v_51) rfl rfl rfl rfl rfl (fun wx hx => by unfold mkOp; go_simp; all_goals (with_reducible rfl)) ?_
                        simp only [Act.put, zA, zB, zC]
                        refine lint_pure 7 _ _ (.int .i64 (11 : Int)) rfl rfl rfl rfl rfl (fun wx hx => by unfold mkOp; go_simp; all_goals (with_reducible rfl)) ?_
                        simp only [Act.put, zA, zB, zC]
                        refine lint_end ?_
                        clear f_48 f_50 f_non
                        clear f_51
                        go_wp2
                        replace f_k := f_k.drew
                        have Bw6 := Bw5.drew
                        clear Bw5
                        refine wp_region_lint (.rd 0 (.rd 1 (.rd 2 (.rd 3 (.wr 4 (.wr 5 (.wr 6 (.rd 7 (.rd 8 (.rd 9 (.rd 10 (.rd 11 .done)))))))))))) (by kernel_rfl) (by kernel_rfl) (by decide) (by kernel_rfl) (fun d _ _ _ _ h => by cases d <;> exact h) ?_
                        refine lint_pure 61 _ _ (v_k) rfl rfl rfl rfl rfl (fun wx hx => by unfold mkOp; go_simp; all_goals (with_reducible rfl)) ?_
                        simp only [Act.put, zA, zB, zC]
                        refine lint_pure 62 _ _ (v_k) rfl rfl rfl rfl rfl (fun wx hx => by unfold mkOp; go_simp; all_goals (with_reducible rfl)) ?_
                        simp only [Act.put, zA, zB, zC]
                        obtain ⟨v_nom, f_nom, hr63⟩ := takeB f_k 12 (by decide)
                        refine lint_pure 63 _ _ (v_nom) rfl rfl rfl rfl rfl (fun wx hx => by exact hr63 _ _ _ _ _ rfl rfl) ?_
                        clear hr63
                        simp only [Act.put, zA, zB, zC]
                        refine lint_pure 64 _ _ (.int .i64 (N : Int)) rfl rfl rfl rfl rfl (fun wx hx => by unfold mkOp; go_simp; all_goals (with_reducible rfl)) ?_
                        simp only [Act.put, zA, zB, zC]
                        refine stp_fn 65 15 _ _ _ (round32_to _ r _ (by omega) (by have := HNN.out; omega) HRR.out) rfl rfl rfl rfl Try.func15 (by kernel_rfl) (by kernel_rfl) (by go_simp) ?_
                        rintro e wq65 ⟨rfl, kk⟩
                        refine ⟨_, rfl, kk, ?_⟩
                        replace f_k := zfb f_k kk
                        replace f_nom := zfb f_nom kk
                        have Bw7 := zbt HGS Bw6 kk
                        clear Bw6 kk
                        simp only [Act.put, zA, zB, zC]
                        refine stp_makeN 66 (.tmp 65) r rfl rfl rfl rfl rfl (by have := HNN.out; omega) ?_
                        intro wq66 v_66 f_66 kk
                        replace f_k := zfb f_k kk
                        replace f_nom := zfb f_nom kk
                        have Bw8 := zbt HGS Bw7 kk
                        clear Bw7 kk
                        simp only [Act.put, zA, zB, zC]
                        refine stp_fn 67 10 _ _ _ (HO.out _ _ _ _ f_k f_nom f_66) rfl rfl rfl rfl Try.func10 (by kernel_rfl) (by kernel_rfl) (by go_simp) ?_
                        rintro e wq67 ⟨v_67, rfl, f_67, kk⟩
                        refine ⟨_, rfl, kk, ?_⟩
                        replace f_k := zfb f_k kk
                        replace f_nom := zfb f_nom kk
                        replace f_66 := zfb f_66 kk
                        have Bw9 := zbt HGS Bw8 kk
                        clear Bw8 kk
                        simp only [Act.put, zA, zB, zC]
                        refine lint_pure 60 _ _ (.tuple #[v_67, .int .i64 2]) rfl rfl rfl rfl rfl (fun wx hx => by unfold mkOp; go_simp; all_goals (with_reducible rfl)) ?_
                        simp only [Act.put, zA, zB, zC]
                        refine lint_pure 68 _ _ (v_67) rfl rfl rfl rfl rfl (fun wx hx => by unfold mkOp; go_simp; all_goals (with_reducible rfl)) ?_
                        simp only [Act.put, zA, zB, zC]
                        refine lint_pure 69 _ _ (.int .i64 (2 : Int)) rfl rfl rfl rfl rfl (fun wx hx => by unfold mkOp; go_simp; all_goals (with_reducible rfl)) ?_
                        simp only [Act.put, zA, zB, zC]
                        refine lint_pure 9 _ _ (v_67) rfl rfl rfl rfl rfl (fun wx hx => by unfold mkOp; go_simp; all_goals (with_reducible rfl)) ?_
                        simp only [Act.put, zA, zB, zC]
                        refine lint_pure 10 _ _ (.int .i64 (2 : Int)) rfl rfl rfl rfl rfl (fun wx hx => by unfold mkOp; go_simp; all_goals (with_reducible rfl)) ?_
                        simp only [Act.put, zA, zB, zC]
                        refine lint_end ?_
                        go_wp2_with (first
                          | (have hgo := Bw9; clear hgo
                             go_at_call 7
                             refine (awake13_any _).mono ?_
                             rintro e w99 ⟨rfl, kk⟩
                             have Bw99 := zbt HGS Bw9 kk
                             clear Bw9 kk))
                        go_ret
                        exact ⟨rfl, Bw99⟩
                  · have q8 : (65536 : Int) < x0 := by omega
                    obtain ⟨N, rfl⟩ := Int.eq_ofNat_of_zero_le (show 0 ≤ x0 by omega)
                    obtain ⟨M, rfl⟩ := Int.eq_ofNat_of_zero_le (show 0 ≤ x1 by omega)
                    obtain ⟨m, hm⟩ := nat_var (N + 32)
                    have hw1 : IntKind.i64.wrap ((N : Int) + 32) = (m : Int) := by rw [IntWalk.i64_in _ (by omega)]; omega
                    obtain ⟨r, hr⟩ := nat_var (N % 32)
                    have HNN : Hid (N ≤ 66000 ∧ M ≤ 66000 ∧ r < 32) := Lib.hid (by omega)
                    have HRR : Hid ((N : Int) % 32 = (r : Int)) := Lib.hid (by omega)
                    obtain ⟨XL, hXL⟩ : ∃ E, E = seL key0 non0 (List.replicate M 0) (List.replicate N 0) := ⟨_, rfl⟩
                    have hz : (List.replicate N (0 : UInt8)).length = N := List.length_replicate
                    have hz2 : (List.replicate M (0 : UInt8)).length = M := List.length_replicate
                    have hk : ¬ okSz 65536 (List.replicate M 0) (List.replicate N 0) := fun g => by
                      have g1 := g.1
                      have g2 := g.2
                      omega
                    have hs := seE_big okK_0 hk
                    have HS : Hid (∀ v0 v1 v2 v3 w, Bs w v0 key0 → Bs w v1 non0 → Bs w v2 (List.replicate M 0) → Bs w v3 (List.replicate N 0) → Calls Try.prog 8 #[v0, v1, v2, v3] w fun e w' => ∃ v, e = .returned (.tuple #[v, .int .i64 11]) ∧ Bs w' v XL ∧ Below w.heap.size w w') := Lib.hid fun v0 v1 v2 v3 w h0 h1 h2 h3 => by
                      rw [← hs.1, hXL]
                      exact pSeal_to v0 _ v1 _ v2 _ v3 _ w h0 h1 h2 h3
                    have hsh := opE_short (l2 := []) (l3 := List.replicate r 0) okK_0 ⟨by rw [List.length_replicate]; omega, by decide⟩ (by rw [List.length_replicate]; omega)
                    have HO : Hid (∀ v0 v1 v3 w, Bs w v0 key0 → Bs w v1 non0 → Bs w v3 (List.replicate r 0) → Calls Try.prog 10 #[v0, v1, .slice none 0 0, v3] w fun e w' => ∃ v, e = .returned (.tuple #[v, .int .i64 2]) ∧ Bs w' v [] ∧ Below w.heap.size w w') := Lib.hid fun v0 v1 v3 w h0 h1 h3 => by
                      have g := pOpen_to v0 _ v1 _ _ [] v3 _ w h0 h1 (Bs.nil _) h3
                      rwa [hsh.1, hsh.2] at g
                    have Bw0 := Below.refl w.heap.size w
                    have HGS : Hid (∀ wq : World, Below w.heap.size w wq → w.heap.size ≤ wq.heap.size) := Lib.hid fun wq h => h.size
                    clear hXL hz hz2 hk hs hsh hm hr w0 w1 d0 d1 d2 d3 d4 d5 d6 d7 d8
                    go_enter Try.func5, Try.ntmps5
                    go_wp2_with (first
                      | (have hgo := Bw0; clear hgo
                         refine wpList_makeO rfl (.const (.int .i64 32)) rfl 32 rfl (by decide) ?_
                         intro v_k w1 f_k kk
                         have Bw1 := zbt HGS Bw0 kk
                         clear Bw0 kk))
                    replace f_k : Bs w1 v_k key0 := f_k
                    replace f_k := f_k.drew
                    have Bw2 := Bw1.drew
                    clear Bw1
                    refine wp_region_lint (.rd 0 (.rd 1 (.rd 2 (.rd 3 (.rd 5 (.br 4 (.wr 6 (.wr 7 (.rd 8 (.rd 9 (.rd 10 (.rd 11 (.rd 12 .done))))))) 6 (.wr 4 (.wr 7 (.rd 8 (.rd 9 (.rd 10 (.rd 11 (.rd 12 .done))))))))))))) (by kernel_rfl) (by kernel_rfl) (by decide) (by kernel_rfl) (fun d _ _ _ _ h => by cases d <;> exact h) ?_
                    refine lint_pure 44 _ _ (v_k) rfl rfl rfl rfl rfl (fun wx hx => by unfold mkOp; go_simp; all_goals (with_reducible rfl)) ?_
                    simp only [Act.put, zA, zB, zC]
                    refine lint_pure 45 _ _ (v_k) rfl rfl rfl rfl rfl (fun wx hx => by unfold mkOp; go_simp; all_goals (with_reducible rfl)) ?_
                    simp only [Act.put, zA, zB, zC]
                    obtain ⟨v_non, f_non, hr46⟩ := takeB f_k 12 (by decide)
                    refine lint_pure 46 _ _ (v_non) rfl rfl rfl rfl rfl (fun wx hx => by exact hr46 _ _ _ _ _ rfl rfl) ?_
                    clear hr46
                    simp only [Act.put, zA, zB, zC]
                    refine lint_pure 47 _ _ (.int .i64 (M : Int)) rfl rfl rfl rfl rfl (fun wx hx => by unfold mkOp; go_simp; all_goals (with_reducible rfl)) ?_
                    simp only [Act.put, zA, zB, zC]
                    refine lint_pure 49 _ _ (.int .i64 (N : Int)) rfl rfl rfl rfl rfl (fun wx hx => by unfold mkOp; go_simp; all_goals (with_reducible rfl)) ?_
                    simp only [Act.put, zA, zB, zC]
                    refine ⟨?_, ?_⟩
                    · skip
                      refine stp_makeN 48 (.tmp 47) M rfl rfl rfl rfl rfl (by have := HNN.out; omega) ?_
                      intro wq48 v_48 f_48 kk
                      replace f_k := zfb f_k kk
                      replace f_non := zfb f_non kk
                      have Bw3 := zbt HGS Bw2 kk
                      clear Bw2 kk
                      simp only [Act.put, zA, zB, zC]
                      refine stp_makeN 50 (.tmp 49) N rfl rfl rfl rfl rfl (by have := HNN.out; omega) ?_
                      intro wq50 v_50 f_50 kk
                      replace f_k := zfb f_k kk
                      replace f_non := zfb f_non kk
                      replace f_48 := zfb f_48 kk
                      have Bw4 := zbt HGS Bw3 kk
                      clear Bw3 kk
                      simp only [Act.put, zA, zB, zC]
                      refine stp_fn 51 8 _ _ _ (HS.out _ _ _ _ _ f_k f_non f_48 f_50) rfl rfl rfl rfl Try.func8 (by kernel_rfl) (by kernel_rfl) (by go_simp) ?_
                      rintro e wq51 ⟨v_51, rfl, f_51, kk⟩
                      refine ⟨_, rfl, kk, ?_⟩
                      replace f_k := zfb f_k kk
                      replace f_non := zfb f_non kk
                      replace f_48 := zfb f_48 kk
                      replace f_50 := zfb f_50 kk
                      have Bw5 := zbt HGS Bw4 kk
                      clear Bw4 kk
                      simp only [Act.put, zA, zB, zC]
                      refine lint_pure 43 _ _ (.tuple #[v_51, .int .i64 11]) rfl rfl rfl rfl rfl (fun wx hx => by unfold mkOp; go_simp; all_goals (with_reducible rfl)) ?_
                      simp only [Act.put, zA, zB, zC]
                      refine lint_pure 52 _ _ (v_51) rfl rfl rfl rfl rfl (fun wx hx => by unfold mkOp; go_simp; all_goals (with_reducible rfl)) ?_
                      simp only [Act.put, zA, zB, zC]
                      refine lint_pure 53 _ _ (.int .i64 (11 : Int)) rfl rfl rfl rfl rfl (fun wx hx => by unfold mkOp; go_simp; all_goals (with_reducible rfl)) ?_
                      simp only [Act.put, zA, zB, zC]
                      refine lint_pure 6 _ _ (v_51) rfl rfl rfl rfl rfl (fun wx hx => by unfold mkOp; go_simp; all_goals (with_reducible rfl)) ?_
                      simp only [Act.put, zA, zB, zC]
                      refine lint_pure 7 _ _ (.int .i64 (11 : Int)) rfl rfl rfl rfl rfl (fun wx hx => by unfold mkOp; go_simp; all_goals (with_reducible rfl)) ?_
                      simp only [Act.put, zA, zB, zC]
                      refine lint_end ?_
                      clear f_48 f_50 f_non
                      clear f_51
                      go_wp2
                      replace f_k := f_k.drew
                      have Bw6 := Bw5.drew
                      clear Bw5
                      refine wp_region_lint (.rd 0 (.rd 1 (.rd 2 (.rd 3 (.wr 4 (.wr 5 (.wr 6 (.rd 7 (.rd 8 (.rd 9 (.rd 10 (.rd 11 .done)))))))))))) (by kernel_rfl) (by kernel_rfl) (by decide) (by kernel_rfl) (fun d _ _ _ _ h => by cases d <;> exact h) ?_
                      refine lint_pure 61 _ _ (v_k) rfl rfl rfl rfl rfl (fun wx hx => by unfold mkOp; go_simp; all_goals (with_reducible rfl)) ?_
                      simp only [Act.put, zA, zB, zC]
                      refine lint_pure 62 _ _ (v_k) rfl rfl rfl rfl rfl (fun wx hx => by unfold mkOp; go_simp; all_goals (with_reducible rfl)) ?_
                      simp only [Act.put, zA, zB, zC]
                      obtain ⟨v_nom, f_nom, hr63⟩ := takeB f_k 12 (by decide)
                      refine lint_pure 63 _ _ (v_nom) rfl rfl rfl rfl rfl (fun wx hx => by exact hr63 _ _ _ _ _ rfl rfl) ?_
                      clear hr63
                      simp only [Act.put, zA, zB, zC]
                      refine lint_pure 64 _ _ (.int .i64 (N : Int)) rfl rfl rfl rfl rfl (fun wx hx => by unfold mkOp; go_simp; all_goals (with_reducible rfl)) ?_
                      simp only [Act.put, zA, zB, zC]
                      refine stp_fn 65 15 _ _ _ (round32_to _ r _ (by omega) (by have := HNN.out; omega) HRR.out) rfl rfl rfl rfl Try.func15 (by kernel_rfl) (by kernel_rfl) (by go_simp) ?_
                      rintro e wq65 ⟨rfl, kk⟩
                      refine ⟨_, rfl, kk, ?_⟩
                      replace f_k := zfb f_k kk
                      replace f_nom := zfb f_nom kk
                      have Bw7 := zbt HGS Bw6 kk
                      clear Bw6 kk
                      simp only [Act.put, zA, zB, zC]
                      refine stp_makeN 66 (.tmp 65) r rfl rfl rfl rfl rfl (by have := HNN.out; omega) ?_
                      intro wq66 v_66 f_66 kk
                      replace f_k := zfb f_k kk
                      replace f_nom := zfb f_nom kk
                      have Bw8 := zbt HGS Bw7 kk
                      clear Bw7 kk
                      simp only [Act.put, zA, zB, zC]
                      refine stp_fn 67 10 _ _ _ (HO.out _ _ _ _ f_k f_nom f_66) rfl rfl rfl rfl Try.func10 (by kernel_rfl) (by kernel_rfl) (by go_simp) ?_
                      rintro e wq67 ⟨v_67, rfl, f_67, kk⟩
                      refine ⟨_, rfl, kk, ?_⟩
                      replace f_k := zfb f_k kk
                      replace f_nom := zfb f_nom kk
                      replace f_66 := zfb f_66 kk
                      have Bw9 := zbt HGS Bw8 kk
                      clear Bw8 kk
                      simp only [Act.put, zA, zB, zC]
                      refine lint_pure 60 _ _ (.tuple #[v_67, .int .i64 2]) rfl rfl rfl rfl rfl (fun wx hx => by unfold mkOp; go_simp; all_goals (with_reducible rfl)) ?_
                      simp only [Act.put, zA, zB, zC]
                      refine lint_pure 68 _ _ (v_67) rfl rfl rfl rfl rfl (fun wx hx => by unfold mkOp; go_simp; all_goals (with_reducible rfl)) ?_
                      simp only [Act.put, zA, zB, zC]
                      refine lint_pure 69 _ _ (.int .i64 (2 : Int)) rfl rfl rfl rfl rfl (fun wx hx => by unfold mkOp; go_simp; all_goals (with_reducible rfl)) ?_
                      simp only [Act.put, zA, zB, zC]
                      refine lint_pure 9 _ _ (v_67) rfl rfl rfl rfl rfl (fun wx hx => by unfold mkOp; go_simp; all_goals (with_reducible rfl)) ?_
                      simp only [Act.put, zA, zB, zC]
                      refine lint_pure 10 _ _ (.int .i64 (2 : Int)) rfl rfl rfl rfl rfl (fun wx hx => by unfold mkOp; go_simp; all_goals (with_reducible rfl)) ?_
                      simp only [Act.put, zA, zB, zC]
                      refine lint_end ?_
                      go_wp2_with (first
                        | (have hgo := Bw9; clear hgo
                           go_at_call 7
                           refine (awake13_any _).mono ?_
                           rintro e w99 ⟨rfl, kk⟩
                           have Bw99 := zbt HGS Bw9 kk
                           clear Bw9 kk))
                      go_ret
                      exact ⟨rfl, Bw99⟩
                    · skip
                      refine stp_makeN 50 (.tmp 49) N rfl rfl rfl rfl rfl (by have := HNN.out; omega) ?_
                      intro wq50 v_50 f_50 kk
                      replace f_k := zfb f_k kk
                      replace f_non := zfb f_non kk
                      have Bw3 := zbt HGS Bw2 kk
                      clear Bw2 kk
                      simp only [Act.put, zA, zB, zC]
                      refine stp_makeN 48 (.tmp 47) M rfl rfl rfl rfl rfl (by have := HNN.out; omega) ?_
                      intro wq48 v_48 f_48 kk
                      replace f_k := zfb f_k kk
                      replace f_non := zfb f_non kk
                      replace f_50 := zfb f_50 kk
                      have Bw4 := zbt HGS Bw3 kk
                      clear Bw3 kk
                      simp only [Act.put, zA, zB, zC]
                      refine stp_fn 51 8 _ _ _ (HS.out _ _ _ _ _ f_k f_non f_48 f_50) rfl rfl rfl rfl Try.func8 (by kernel_rfl) (by kernel_rfl) (by go_simp) ?_
                      rintro e wq51 ⟨v_51, rfl, f_51, kk⟩
                      refine ⟨_, rfl, kk, ?_⟩
                      replace f_k := zfb f_k kk
                      replace f_non := zfb f_non kk
                      replace f_50 := zfb f_50 kk
                      replace f_48 := zfb f_48 kk
                      have Bw5 := zbt HGS Bw4 kk
                      clear Bw4 kk
                      simp only [Act.put, zA, zB, zC]
                      refine lint_pure 43 _ _ (.tuple #[v_51, .int .i64 11]) rfl rfl rfl rfl rfl (fun wx hx => by unfold mkOp; go_simp; all_goals (with_reducible rfl)) ?_
                      simp only [Act.put, zA, zB, zC]
                      refine lint_pure 52 _ _ (v_51) rfl rfl rfl rfl rfl (fun wx hx => by unfold mkOp; go_simp; all_goals (with_reducible rfl)) ?_
                      simp only [Act.put, zA, zB, zC]
                      refine lint_pure 53 _ _ (.int .i64 (11 : Int)) rfl rfl rfl rfl rfl (fun wx hx => by unfold mkOp; go_simp; all_goals (with_reducible rfl)) ?_
                      simp only [Act.put, zA, zB, zC]
                      refine lint_pure 6 _ _ (v_51) rfl rfl rfl rfl rfl (fun wx hx => by unfold mkOp; go_simp; all_goals (with_reducible rfl)) ?_
                      simp only [Act.put, zA, zB, zC]
                      refine lint_pure 7 _ _ (.int .i64 (11 : Int)) rfl rfl rfl rfl rfl (fun wx hx => by unfold mkOp; go_simp; all_goals (with_reducible rfl)) ?_
                      simp only [Act.put, zA, zB, zC]
                      refine lint_end ?_
                      clear f_48 f_50 f_non
                      clear f_51
                      go_wp2
                      replace f_k := f_k.drew
                      have Bw6 := Bw5.drew
                      clear Bw5
                      refine wp_region_lint (.rd 0 (.rd 1 (.rd 2 (.rd 3 (.wr 4 (.wr 5 (.wr 6 (.rd 7 (.rd 8 (.rd 9 (.rd 10 (.rd 11 .done)))))))))))) (by kernel_rfl) (by kernel_rfl) (by decide) (by kernel_rfl) (fun d _ _ _ _ h => by cases d <;> exact h) ?_
                      refine lint_pure 61 _ _ (v_k) rfl rfl rfl rfl rfl (fun wx hx => by unfold mkOp; go_simp; all_goals (with_reducible rfl)) ?_
                      simp only [Act.put, zA, zB, zC]
                      refine lint_pure 62 _ _ (v_k) rfl rfl rfl rfl rfl (fun wx hx => by unfold mkOp; go_simp; all_goals (with_reducible rfl)) ?_
                      simp only [Act.put, zA, zB, zC]
                      obtain ⟨v_nom, f_nom, hr63⟩ := takeB f_k 12 (by decide)
                      refine lint_pure 63 _ _ (v_nom) rfl rfl rfl rfl rfl (fun wx hx => by exact hr63 _ _ _ _ _ rfl rfl) ?_
                      clear hr63
                      simp only [Act.put, zA, zB, zC]
                      refine lint_pure 64 _ _ (.int .i64 (N : Int)) rfl rfl rfl rfl rfl (fun wx hx => by unfold mkOp; go_simp; all_goals (with_reducible rfl)) ?_
                      simp only [Act.put, zA, zB, zC]
                      refine stp_fn 65 15 _ _ _ (round32_to _ r _ (by omega) (by have := HNN.out; omega) HRR.out) rfl rfl rfl rfl Try.func15 (by kernel_rfl) (by kernel_rfl) (by go_simp) ?_
                      rintro e wq65 ⟨rfl, kk⟩
                      refine ⟨_, rfl, kk, ?_⟩
                      replace f_k := zfb f_k kk
                      replace f_nom := zfb f_nom kk
                      have Bw7 := zbt HGS Bw6 kk
                      clear Bw6 kk
                      simp only [Act.put, zA, zB, zC]
                      refine stp_makeN 66 (.tmp 65) r rfl rfl rfl rfl rfl (by have := HNN.out; omega) ?_
                      intro wq66 v_66 f_66 kk
                      replace f_k := zfb f_k kk
                      replace f_nom := zfb f_nom kk
                      have Bw8 := zbt HGS Bw7 kk
                      clear Bw7 kk
                      simp only [Act.put, zA, zB, zC]
                      refine stp_fn 67 10 _ _ _ (HO.out _ _ _ _ f_k f_nom f_66) rfl rfl rfl rfl Try.func10 (by kernel_rfl) (by kernel_rfl) (by go_simp) ?_
                      rintro e wq67 ⟨v_67, rfl, f_67, kk⟩
                      refine ⟨_, rfl, kk, ?_⟩
                      replace f_k := zfb f_k kk
                      replace f_nom := zfb f_nom kk
                      replace f_66 := zfb f_66 kk
                      have Bw9 := zbt HGS Bw8 kk
                      clear Bw8 kk
                      simp only [Act.put, zA, zB, zC]
                      refine lint_pure 60 _ _ (.tuple #[v_67, .int .i64 2]) rfl rfl rfl rfl rfl (fun wx hx => by unfold mkOp; go_simp; all_goals (with_reducible rfl)) ?_
                      simp only [Act.put, zA, zB, zC]
                      refine lint_pure 68 _ _ (v_67) rfl rfl rfl rfl rfl (fun wx hx => by unfold mkOp; go_simp; all_goals (with_reducible rfl)) ?_
                      simp only [Act.put, zA, zB, zC]
                      refine lint_pure 69 _ _ (.int .i64 (2 : Int)) rfl rfl rfl rfl rfl (fun wx hx => by unfold mkOp; go_simp; all_goals (with_reducible rfl)) ?_
                      simp only [Act.put, zA, zB, zC]
                      refine lint_pure 9 _ _ (v_67) rfl rfl rfl rfl rfl (fun wx hx => by unfold mkOp; go_simp; all_goals (with_reducible rfl)) ?_
                      simp only [Act.put, zA, zB, zC]
                      refine lint_pure 10 _ _ (.int .i64 (2 : Int)) rfl rfl rfl rfl rfl (fun wx hx => by unfold mkOp; go_simp; all_goals (with_reducible rfl)) ?_
                      simp only [Act.put, zA, zB, zC]
                      refine lint_end ?_
                      go_wp2_with (first
                        | (have hgo := Bw9; clear hgo
                           go_at_call 7
                           refine (awake13_any _).mono ?_
                           rintro e w99 ⟨rfl, kk⟩
                           have Bw99 := zbt HGS Bw9 kk
                           clear Bw9 kk))
                      go_ret
                      exact ⟨rfl, Bw99⟩
        · have q3 : (66000 : Int) < x1 := by omega
          clear w0 w1 d0 d1 d2 d3
          go_enter Try.func5, Try.ntmps5
          go_wp2_with (go_at_call 7; refine (awake13_any _).mono ?_; rintro e w9 ⟨rfl, hb9⟩)
          go_ret
          exact ⟨rfl, hb9⟩
      · have q2 : (66000 : Int) < x0 := by omega
        clear w0 w1 d0 d1 d2
        go_enter Try.func5, Try.ntmps5
        go_wp2_with (go_at_call 7; refine (awake13_any _).mono ?_; rintro e w9 ⟨rfl, hb9⟩)
        go_ret
        exact ⟨rfl, hb9⟩
    · have q1 : x1 < 0 := by omega
      clear w0 w1 d0 d1
      go_enter Try.func5, Try.ntmps5
      go_wp2_with (go_at_call 7; refine (awake13_any _).mono ?_; rintro e w9 ⟨rfl, hb9⟩)
      go_ret
      exact ⟨rfl, hb9⟩
  · have q0 : x0 < 0 := by omega
    clear w0 w1 d0
    go_enter Try.func5, Try.ntmps5
    go_wp2_with (go_at_call 7; refine (awake13_any _).mono ?_; rintro e w9 ⟨rfl, hb9⟩)
    go_ret
    exact ⟨rfl, hb9⟩
end Go.Proofs.Ytclbfbkbmiijnaa
