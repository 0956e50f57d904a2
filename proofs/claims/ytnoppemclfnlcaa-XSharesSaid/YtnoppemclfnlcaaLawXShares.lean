/- XShares, walked. -/
import Derived.Test.YtnoppemclfnlcaaEdW
namespace Go.Proofs.Ytnoppemclfnlcaa
open Go.RowKit Go.Deep
set_option linter.unusedSimpArgs false
set_option linter.unusedVariables false

set_option maxHeartbeats 8000000 in
set_option maxRecDepth 100000 in
theorem law_xShares (w : World) (v0 : Value) (l0 : List UInt8) (h0 : Bs w v0 l0) (v1 : Value) (l1 : List UInt8) (h1 : Bs w v1 l1) : Calls Try.prog 4 #[v0, v1] w fun e w' => e = .returned (.bool true) ∧ Below w.heap.size w w' := by
  obtain ⟨ad0, n0, c0, rfl, e0, y0, z0, hB0⟩ := h0.shape
  obtain ⟨ad1, n1, c1, rfl, e1, y1, z1, hB1⟩ := h1.shape
  by_cases d0 : n0 ≤ 100
  · by_cases d1 : n1 ≤ 100
    · have f_s0 := hB0
      have f_s1 := hB1
      have B0 := Below.refl w.heap.size w
      have HGS : Hid (∀ wq : World, Below w.heap.size w wq → w.heap.size ≤ wq.heap.size) := Lib.hid fun wq h => h.size
      have q0 : ¬ (100 : Int) < (n0 : Int) := by omega
      have q1 : ¬ (100 : Int) < (n1 : Int) := by omega
      have HA := Lib.hid fun w h0 h1 => shared_any (.slice ad0 n0 c0) (.slice ad1 n1 c1) l0 l1 w h0 h1
      have HR := Lib.hid fun w h0 h1 => refShared_any (.slice ad0 n0 c0) (.slice ad1 n1 c1) l0 l1 w h0 h1
      obtain ⟨E, hE⟩ : ∃ E, E = shE l0 l1 := ⟨_, rfl⟩
      obtain ⟨M, hM⟩ : ∃ M, M = shL l0 l1 := ⟨_, rfl⟩
      rw [← hE, ← hM] at HA HR
      clear h0 h1 hB0 hB1 d0 d1 e0 e1 hE hM
      go_enter Try.func4, Try.ntmps4
      go_wp2_with (first
        | (go_at_call 16; refine (HA.out _ f_s0 f_s1).mono ?_; rintro e w1 ⟨v1, rfl, g1, k1⟩
           replace f_s0 := f_s0.below k1 (Nat.le_refl _)
           replace f_s1 := f_s1.below k1 (Nat.le_refl _)
           have B1 := B0.trans (k1.mono (HGS.out _ B0))
           clear B0 k1 HA)
        | (go_at_call 17; refine (HR.out _ f_s0 f_s1).mono ?_; rintro e w2 ⟨v2, rfl, g2, k2⟩
           replace g1 := g1.below k2 (Nat.le_refl _)
           have B2 := B1.trans (k2.mono (HGS.out _ B1))
           have c1 := g1.conv
           have c2 := g2.conv
           clear B1 k2 HR f_s0 f_s1 g1 g2)
        | (go_at_call 9; refine (awake6_any _).mono ?_; rintro e w9 ⟨rfl, hb9⟩
           have B9 := B2.trans (hb9.mono (HGS.out _ B2))
           clear B2 hb9))
      go_ret
      exact ⟨rfl, B9⟩
    · have q0 : ¬ (100 : Int) < (n0 : Int) := by omega
      have q1 : (100 : Int) < (n1 : Int) := by omega
      clear h0 h1 hB0 hB1 d0 d1 e0 e1
      go_enter Try.func4, Try.ntmps4
      go_wp2_with (go_at_call 9; refine (awake6_any _).mono ?_; rintro e w9 ⟨rfl, hb9⟩)
      go_ret
      exact ⟨rfl, hb9⟩
  · have q0 : (100 : Int) < (n0 : Int) := by omega
    clear h0 h1 hB0 hB1 d0 e0 e1
    go_enter Try.func4, Try.ntmps4
    go_wp2_with (go_at_call 9; refine (awake6_any _).mono ?_; rintro e w9 ⟨rfl, hb9⟩)
    go_ret
    exact ⟨rfl, hb9⟩
end Go.Proofs.Ytnoppemclfnlcaa
