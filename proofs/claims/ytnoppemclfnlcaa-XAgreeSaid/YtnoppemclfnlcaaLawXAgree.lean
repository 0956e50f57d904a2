/- XAgree, walked. -/
import Derived.Test.YtnoppemclfnlcaaEdW
namespace Go.Proofs.Ytnoppemclfnlcaa
open Go.RowKit Go.Deep
set_option linter.unusedSimpArgs false
set_option linter.unusedVariables false

theorem agree_sh (l0 l1 : List UInt8) (h : l0.length = 32) : shE l0 (litB (ladder 9 (clampN l1)) 32) = 0 ∧ shL l0 (litB (ladder 9 (clampN l1)) 32) = litB (ladder (ladder 9 (clampN l1)) (clampN l0)) 32 := by
  have h1 : shN l0 (litB (ladder 9 (clampN l1)) 32) = ladder (ladder 9 (clampN l1)) (clampN l0) := by
    unfold shN
    rw [ofL_own _ (ladder_lt _ _)]
  have h2 := (lad_agree (clampN_clamped l1) (clampN_clamped l0)).2
  unfold shE shL
  rw [h1, if_pos ⟨h, litB_length _ _⟩, if_neg h2, if_pos ⟨h, litB_length _ _, h2⟩]
  exact ⟨rfl, rfl⟩
theorem agree_two (l0 l1 : List UInt8) : litB (ladder (ladder 9 (clampN l0)) (clampN l1)) 32 = litB (ladder (ladder 9 (clampN l1)) (clampN l0)) 32 := by
  rw [(lad_agree (clampN_clamped l0) (clampN_clamped l1)).1]
theorem sharedB_any (v0 v1 : Value) (l0 l1 : List UInt8) (w : World) (h0 : Bs w v0 l0) (h1 : Bs w v1 (litB (ladder 9 (clampN l1)) 32)) (h : l0.length = 32) (M : List UInt8) (hM : M = litB (ladder (ladder 9 (clampN l1)) (clampN l0)) 32) :
    Calls Try.prog 16 #[v0, v1] w fun e w' => ∃ v, e = .returned (.tuple #[v, .int .i64 0]) ∧ Bs w' v M ∧ Below w.heap.size w w' := by
  have g := shared_any v0 v1 l0 _ w h0 h1
  obtain ⟨h1, h2⟩ := agree_sh l0 l1 h
  rw [h1, h2, ← hM] at g
  exact g
set_option maxHeartbeats 8000000 in
set_option maxRecDepth 100000 in
theorem law_xAgree (w : World) (v0 : Value) (l0 : List UInt8) (h0 : Bs w v0 l0) (v1 : Value) (l1 : List UInt8) (h1 : Bs w v1 l1) : Calls Try.prog 5 #[v0, v1] w fun e w' => e = .returned (.bool true) ∧ Below w.heap.size w w' := by
  obtain ⟨ad0, n0, c0, rfl, e0, y0, z0, hB0⟩ := h0.shape
  obtain ⟨ad1, n1, c1, rfl, e1, y1, z1, hB1⟩ := h1.shape
  by_cases d0 : n0 = 32
  · by_cases d1 : n1 = 32
    · have f_s0 := hB0
      have f_s1 := hB1
      have B0 := Below.refl w.heap.size w
      have HGS : Hid (∀ wq : World, Below w.heap.size w wq → w.heap.size ≤ wq.heap.size) := Lib.hid fun wq h => h.size
      have q0 : (n0 : Int) = 32 := by omega
      have q1 : (n1 : Int) = 32 := by omega
      have HB0 := Lib.hid fun w h => base_any (.slice ad0 n0 c0) l0 w h
      have HB1 := Lib.hid fun w h => base_any (.slice ad1 n1 c1) l1 w h
      obtain ⟨M, hM⟩ : ∃ M, M = litB (ladder (ladder 9 (clampN l1)) (clampN l0)) 32 := ⟨_, rfl⟩
      have HS0 := Lib.hid fun v w h0 h1 => sharedB_any (.slice ad0 n0 c0) v l0 l1 w h0 h1 (by omega) M hM
      have HS1 := Lib.hid fun v w h0 h1 => sharedB_any (.slice ad1 n1 c1) v l1 l0 w h0 h1 (by omega) M (by rw [hM, agree_two])
      have HML : Hid (M.length = 32) := Lib.hid (by rw [hM, litB_length])
      obtain ⟨P0, hP0⟩ : ∃ P, P = litB (ladder 9 (clampN l0)) 32 := ⟨_, rfl⟩
      obtain ⟨P1, hP1⟩ : ∃ P, P = litB (ladder 9 (clampN l1)) 32 := ⟨_, rfl⟩
      rw [← hP0] at HB0 HS1
      rw [← hP1] at HB1 HS0
      clear h0 h1 hB0 hB1 d0 d1 e0 e1 hM hP0 hP1
      go_enter Try.func5, Try.ntmps5
      go_wp2_with (first
        | (go_at_call 14
           first
             | (have hgo := B0; clear hgo; refine (HB1.out _ f_s1).mono ?_; rintro e w1 ⟨v1, rfl, g1, k1⟩
                replace f_s0 := f_s0.below k1 (Nat.le_refl _)
                replace f_s1 := f_s1.below k1 (Nat.le_refl _)
                have p1 := g1.bs
                have B1 := B0.trans (k1.mono (HGS.out _ B0))
                clear B0 k1 g1)
             | (have hgo := B2; clear hgo; refine (HB0.out _ f_s0).mono ?_; rintro e w3 ⟨v3, rfl, g3, k3⟩
                replace f_s1 := f_s1.below k3 (Nat.le_refl _)
                replace g2 := g2.below k3 (Nat.le_refl _)
                have p3 := g3.bs
                have B3 := B2.trans (k3.mono (HGS.out _ B2))
                clear B2 k3 g3 f_s0))
        | (go_at_call 16
           first
             | (have hgo := B1; clear hgo; refine (HS0.out _ _ f_s0 p1).mono ?_; rintro e w2 ⟨v2, rfl, g2, k2⟩
                replace f_s0 := f_s0.below k2 (Nat.le_refl _)
                replace f_s1 := f_s1.below k2 (Nat.le_refl _)
                have B2 := B1.trans (k2.mono (HGS.out _ B1))
                clear B1 k2 p1)
             | (have hgo := B3; clear hgo; refine (HS1.out _ _ f_s1 p3).mono ?_; rintro e w4 ⟨v4, rfl, g4, k4⟩
                replace g2 := g2.below k4 (Nat.le_refl _)
                have B4 := B3.trans (k4.mono (HGS.out _ B3))
                have cv2 := g2.conv
                have cv4 := g4.conv
                obtain ⟨ad, n, c, rfl, e3, y3, z3, h3b⟩ := g2.shape
                have hn : n = 32 := by rw [← e3]; exact HML.out
                subst hn
                clear B3 k4 p3 f_s1 g2 g4 h3b e3 y3 z3))
        | (go_at_call 9; refine (awake6_any _).mono ?_; rintro e w9 ⟨rfl, hb9⟩
           have B9 := B4.trans (hb9.mono (HGS.out _ B4))
           clear B4 hb9))
      go_ret
      exact ⟨rfl, B9⟩
    · have q0 : (n0 : Int) = 32 := by omega
      have q1 : ¬ (n1 : Int) = 32 := by omega
      clear h0 h1 hB0 hB1 d0 d1 e0 e1
      go_enter Try.func5, Try.ntmps5
      go_wp2_with (go_at_call 9; refine (awake6_any _).mono ?_; rintro e w9 ⟨rfl, hb9⟩)
      go_ret
      exact ⟨rfl, hb9⟩
  · have q0 : ¬ (n0 : Int) = 32 := by omega
    clear h0 h1 hB0 hB1 d0 e0 e1
    go_enter Try.func5, Try.ntmps5
    go_wp2_with (go_at_call 9; refine (awake6_any _).mono ?_; rintro e w9 ⟨rfl, hb9⟩)
    go_ret
    exact ⟨rfl, hb9⟩
end Go.Proofs.Ytnoppemclfnlcaa
