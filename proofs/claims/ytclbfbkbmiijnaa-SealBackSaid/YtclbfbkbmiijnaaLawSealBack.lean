/- SealBack, walked. -/
import Derived.Test.YtclbfbkbmiijnaaMM3
namespace Go.Proofs.Ytclbfbkbmiijnaa
open Go.RowKit Go.Deep
set_option linter.unusedSimpArgs false
set_option linter.unusedVariables false

theorem newBox_at (v0 : Value) (l0 : List UInt8) (w : World) (h0 : Bs w v0 l0) (hl0 : l0.length = 32) : Calls Try.prog 12 #[v0] w fun e w' => ∃ yb : Nat, e = .returned (.tuple #[.pointer (some ⟨yb, 0, none⟩), .int .i64 0]) ∧ BoxAt w' (.pointer (some ⟨yb, 0, none⟩)) l0 ∧ Below w.heap.size w w' := by
  refine (newBox_yes v0 l0 w h0 hl0).mono ?_
  rintro e w' ⟨v, rfl, h, kk⟩
  obtain ⟨yb, v_a, v_k, rfl, hh⟩ := h
  exact ⟨yb, rfl, ⟨yb, v_a, v_k, rfl, hh⟩, kk⟩
set_option maxHeartbeats 8000000 in
set_option maxRecDepth 100000 in
theorem law_sealBack (w : World) (v0 : Value) (l0 : List UInt8) (h0 : Bs w v0 l0) (v1 : Value) (l1 : List UInt8) (h1 : Bs w v1 l1) (v2 : Value) (l2 : List UInt8) (h2 : Bs w v2 l2) (v3 : Value) (l3 : List UInt8) (h3 : Bs w v3 l3) : Calls Try.prog 4 #[v0, v1, v2, v3] w fun e w' => e = .returned (.bool true) ∧ Below w.heap.size w w' := by
  obtain ⟨ad0, n0, c0, rfl, e0, y0, z0, hB0⟩ := h0.shape
  obtain ⟨ad1, n1, c1, rfl, e1, y1, z1, hB1⟩ := h1.shape
  obtain ⟨ad2, n2, c2, rfl, e2, y2, z2, hB2⟩ := h2.shape
  obtain ⟨ad3, n3, c3, rfl, e3, y3, z3, hB3⟩ := h3.shape
  by_cases d0 : n0 = 32
  · have q0 : (n0 : Int) = 32 := by omega
    by_cases d1 : n1 = 12
    · have q1 : (n1 : Int) = 12 := by omega
      by_cases d2 : n2 ≤ 400
      · have q2 : ¬ (400 : Int) < (n2 : Int) := by omega
        by_cases d3 : n3 ≤ 400
        · have q3 : ¬ (400 : Int) < (n3 : Int) := by omega
          obtain ⟨BX, hBX⟩ : ∃ E, E = boxL l0 l1 l2 l3 := ⟨_, rfl⟩
          have hok : okK l0 l1 := ⟨by omega, by omega⟩
          have hsz : okSz 65536 l2 l3 := ⟨by omega, by omega⟩
          have hs := seE_ok hok hsz
          have ho := op_box l0 l1 l2 l3 hok hsz
          obtain ⟨m, hm⟩ := nat_var (n3 + 32)
          have HXL : Hid (BX.length = m) := Lib.hid (by rw [hBX, boxL_len, hm, e3])
          rw [← hBX] at hs ho
          have hw1 : IntKind.i64.wrap ((n3 : Int) + 32) = (m : Int) := by rw [IntWalk.i64_in _ (by omega)]; omega
          have HS : Hid (∀ v0 v1 v2 v3 w, Bs w v0 l0 → Bs w v1 l1 → Bs w v2 l2 → Bs w v3 l3 → Calls Try.prog 8 #[v0, v1, v2, v3] w fun e w' => ∃ v, e = .returned (.tuple #[v, .int .i64 0]) ∧ Bs w' v BX ∧ Below w.heap.size w w') := Lib.hid fun v0 v1 v2 v3 w h0 h1 h2 h3 => by
            rw [← hs.1, ← hs.2]
            exact pSeal_to v0 l0 v1 l1 v2 l2 v3 l3 w h0 h1 h2 h3
          have HT : Hid (∀ v0 v1 v2 v3 w, BoxAt w v0 l0 → Bs w v1 l1 → Bs w v2 l2 → Bs w v3 l3 → Calls Try.prog 13 #[v0, v1, v2, v3] w fun e w' => ∃ v, e = .returned (.tuple #[v, .int .i64 0]) ∧ Bs w' v BX ∧ Below w.heap.size w w') := Lib.hid fun v0 v1 v2 v3 w h0 h1 h2 h3 => by
            rw [← hs.1, ← hs.2]
            exact boxSeal_to v0 l0 v1 l1 v2 l2 v3 l3 w h0 h1 h2 h3
          have HO : Hid (∀ v0 v1 v2 v3 w, BoxAt w v0 l0 → Bs w v1 l1 → Bs w v2 l2 → Bs w v3 BX → Calls Try.prog 14 #[v0, v1, v2, v3] w fun e w' => ∃ v, e = .returned (.tuple #[v, .int .i64 0]) ∧ Bs w' v l3 ∧ Below w.heap.size w w') := Lib.hid fun v0 v1 v2 v3 w h0 h1 h2 h3 => by
            have g := boxOpen_to v0 l0 v1 l1 v2 l2 v3 BX w h0 h1 h2 h3
            rwa [ho.1, ho.2] at g
          have HP : Hid (∀ v0 v1 v2 v3 w, Bs w v0 l0 → Bs w v1 l1 → Bs w v2 l2 → Bs w v3 BX → Calls Try.prog 10 #[v0, v1, v2, v3] w fun e w' => ∃ v, e = .returned (.tuple #[v, .int .i64 0]) ∧ Bs w' v l3 ∧ Below w.heap.size w w') := Lib.hid fun v0 v1 v2 v3 w h0 h1 h2 h3 => by
            have g := pOpen_to v0 l0 v1 l1 v2 l2 v3 BX w h0 h1 h2 h3
            rwa [ho.1, ho.2] at g
          have H32 : Hid (l0.length = 32) := Lib.hid hok.1
          obtain ⟨v_u, f_u, hru⟩ := takeB hB0 31 (by omega)
          have HRU := Lib.hid hru
          have HUL : Hid (¬ (l0.take 31).length = 32) := Lib.hid (by rw [List.length_take]; omega)
          have Bw0 := Below.refl w.heap.size w
          have HGS : Hid (∀ wq : World, Below w.heap.size w wq → w.heap.size ≤ wq.heap.size) := Lib.hid fun wq h => h.size
          have f_0 := hB0
          have HL0 : Hid (l0.length = n0) := Lib.hid e0
          have f_1 := hB1
          have HL1 : Hid (l1.length = n1) := Lib.hid e1
          have f_2 := hB2
          have HL2 : Hid (l2.length = n2) := Lib.hid e2
          have f_3 := hB3
          have HL3 : Hid (l3.length = n3) := Lib.hid e3
          clear hBX hs ho hok hsz hm hru h0 h1 h2 h3 hB0 hB1 hB2 hB3 e0 e1 e2 e3 d0 d1 d2 d3
          go_enter Try.func4, Try.ntmps4
          go_wp2_with (first
            | (have hgo := Bw0; clear hgo
               go_at_call 8
               refine (HS.out _ _ _ _ _ f_0 f_1 f_2 f_3).mono ?_
               rintro e w1 ⟨v_x, rfl, f_x, kk⟩
               replace f_0 := zfb f_0 kk
               replace f_1 := zfb f_1 kk
               replace f_2 := zfb f_2 kk
               replace f_3 := zfb f_3 kk
               replace f_u := zfb f_u kk
               have Bw1 := zbt HGS Bw0 kk
               clear Bw0 kk
               obtain ⟨ad_x, n_x, c_x, rfl, he, hy, hz, _⟩ := f_x.shape
               have hn : n_x = m := by rw [← he]; exact HXL.out
               subst hn
               clear he hy hz HS)
            | (have hgo := Bw1; clear hgo
               go_at_call 12
               refine (newBox_at _ l0 _ f_0 H32.out).mono ?_
               rintro e w2 ⟨yb, rfl, x_b, kk⟩
               replace f_0 := zfb f_0 kk
               replace f_1 := zfb f_1 kk
               replace f_2 := zfb f_2 kk
               replace f_3 := zfb f_3 kk
               replace f_u := zfb f_u kk
               replace f_x := zfb f_x kk
               have Bw2 := zbt HGS Bw1 kk
               clear Bw1 kk)
            | (have hgo := Bw2; clear hgo
               go_at_call 13
               refine (HT.out _ _ _ _ _ x_b f_1 f_2 f_3).mono ?_
               rintro e w3 ⟨v_c, rfl, f_c, kk⟩
               replace f_0 := zfb f_0 kk
               replace f_1 := zfb f_1 kk
               replace f_2 := zfb f_2 kk
               replace f_3 := zfb f_3 kk
               replace f_u := zfb f_u kk
               replace f_x := zfb f_x kk
               replace x_b := BoxAt.zf x_b kk
               have Bw3 := zbt HGS Bw2 kk
               clear Bw2 kk)
            | (have hgo := Bw3; clear hgo
               go_at_call 14
               refine (HO.out _ _ _ _ _ x_b f_1 f_2 f_x).mono ?_
               rintro e w4 ⟨v_t, rfl, f_t, kk⟩
               replace f_0 := zfb f_0 kk
               replace f_1 := zfb f_1 kk
               replace f_2 := zfb f_2 kk
               replace f_3 := zfb f_3 kk
               replace f_u := zfb f_u kk
               replace f_x := zfb f_x kk
               replace f_c := zfb f_c kk
               have Bw4 := zbt HGS Bw3 kk
               clear Bw3 kk)
            | (have hgo := Bw4; clear hgo
               go_at_call 10
               refine (HP.out _ _ _ _ _ f_0 f_1 f_2 f_c).mono ?_
               rintro e w5 ⟨v_p, rfl, f_p, kk⟩
               replace f_0 := zfb f_0 kk
               replace f_1 := zfb f_1 kk
               replace f_2 := zfb f_2 kk
               replace f_3 := zfb f_3 kk
               replace f_u := zfb f_u kk
               replace f_x := zfb f_x kk
               replace f_c := zfb f_c kk
               replace f_t := zfb f_t kk
               have Bw5 := zbt HGS Bw4 kk
               clear Bw4 kk)
            | (have hgo := Bw5; clear hgo
               go_at_call 13
               refine (boxSeal_nil _ l1 _ l2 _ l3 _).mono ?_
               rintro e w6 ⟨rfl, kk⟩
               replace f_0 := zfb f_0 kk
               replace f_1 := zfb f_1 kk
               replace f_2 := zfb f_2 kk
               replace f_3 := zfb f_3 kk
               replace f_u := zfb f_u kk
               replace f_x := zfb f_x kk
               replace f_c := zfb f_c kk
               replace f_t := zfb f_t kk
               replace f_p := zfb f_p kk
               have Bw6 := zbt HGS Bw5 kk
               clear Bw5 kk)
            | (have hgo := Bw6; clear hgo
               go_at_call 14
               refine (boxOpen_nil _ l1 _ l2 _ BX _).mono ?_
               rintro e w7 ⟨rfl, kk⟩
               replace f_0 := zfb f_0 kk
               replace f_1 := zfb f_1 kk
               replace f_2 := zfb f_2 kk
               replace f_3 := zfb f_3 kk
               replace f_u := zfb f_u kk
               replace f_x := zfb f_x kk
               replace f_c := zfb f_c kk
               replace f_t := zfb f_t kk
               replace f_p := zfb f_p kk
               have Bw7 := zbt HGS Bw6 kk
               clear Bw6 kk)
            | (have hgo := HRU; clear hgo
               refine wpList_value rfl _ (by rw [exec_mkOp]; exact HRU.out _ _ _ _ _ rfl rfl) ?_
               clear HRU)
            | (have hgo := Bw7; clear hgo
               go_at_call 12
               refine (newBox_no _ (l0.take 31) _ f_u HUL.out).mono ?_
               rintro e w8 ⟨rfl, kk⟩
               replace f_3 := zfb f_3 kk
               replace f_x := zfb f_x kk
               replace f_c := zfb f_c kk
               replace f_t := zfb f_t kk
               replace f_p := zfb f_p kk
               have Bw8 := zbt HGS Bw7 kk
               clear Bw7 kk
               clear f_u)
            | (refine wpList_strG rfl rfl f_c rfl ?_)
            | (refine wpList_strG rfl rfl f_x rfl ?_)
            | (refine wpList_strG rfl rfl f_t rfl ?_)
            | (refine wpList_strG rfl rfl f_3 rfl ?_)
            | (refine wpList_strG rfl rfl f_p rfl ?_)
            | (refine wpList_seqG rfl rfl rfl rfl ?_)
            | (have hgo := Bw8; clear hgo
               go_at_call 7
               refine (awake13_any _).mono ?_
               rintro e w9 ⟨rfl, kk⟩
               have Bw9 := zbt HGS Bw8 kk
               clear Bw8 kk))
          go_ret
          exact ⟨rfl, Bw9⟩
        · have q3 : (400 : Int) < (n3 : Int) := by omega
          clear h0 hB0 e0 h1 hB1 e1 h2 hB2 e2 h3 hB3 e3 d0 d1 d2 d3
          go_enter Try.func4, Try.ntmps4
          go_wp2_with (go_at_call 7; refine (awake13_any _).mono ?_; rintro e w9 ⟨rfl, hb9⟩)
          go_ret
          exact ⟨rfl, hb9⟩
      · have q2 : (400 : Int) < (n2 : Int) := by omega
        clear h0 hB0 e0 h1 hB1 e1 h2 hB2 e2 h3 hB3 e3 d0 d1 d2
        go_enter Try.func4, Try.ntmps4
        go_wp2_with (go_at_call 7; refine (awake13_any _).mono ?_; rintro e w9 ⟨rfl, hb9⟩)
        go_ret
        exact ⟨rfl, hb9⟩
    · have q1 : ¬ (n1 : Int) = 12 := by omega
      clear h0 hB0 e0 h1 hB1 e1 h2 hB2 e2 h3 hB3 e3 d0 d1
      go_enter Try.func4, Try.ntmps4
      go_wp2_with (go_at_call 7; refine (awake13_any _).mono ?_; rintro e w9 ⟨rfl, hb9⟩)
      go_ret
      exact ⟨rfl, hb9⟩
  · have q0 : ¬ (n0 : Int) = 32 := by omega
    clear h0 hB0 e0 h1 hB1 e1 h2 hB2 e2 h3 hB3 e3 d0
    go_enter Try.func4, Try.ntmps4
    go_wp2_with (go_at_call 7; refine (awake13_any _).mono ?_; rintro e w9 ⟨rfl, hb9⟩)
    go_ret
    exact ⟨rfl, hb9⟩
end Go.Proofs.Ytclbfbkbmiijnaa
