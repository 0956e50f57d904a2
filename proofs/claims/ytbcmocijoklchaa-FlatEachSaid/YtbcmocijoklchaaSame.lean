/- missivealike.Same, of two that read alike. -/
import Derived.Test.YtbcmocijoklchaaOwn
import Derived.BigQuiet
import Derived.Deep.QuietTactic
import Derived.WalkSmall
namespace Go.Proofs.Ytbcmocijoklchaa
open Go.RowKit Go.Deep

theorem Bss.shape {w : World} {v : Value} {L : List (List UInt8)} (h : Bss w v L) : ∃ a n cap, v = .slice a n cap ∧ L.length = n ∧ n ≤ cap ∧ cap ≤ 9223372036854775807 ∧ Bss w (.slice a n cap) L := by
  have h0 := h
  obtain ⟨a, cap, rfl, h1, h2, _⟩ := h
  unfold maxLen at h2
  exact ⟨a, _, cap, rfl, rfl, h1, by omega, h0⟩
theorem Bss.open_n {w : World} {v : Value} {L : List (List UInt8)} {n : Nat} (h : Bss w v L) (hl : L.length = n) (hne : 0 < n) :
    ∃ b off cap, v = .slice (some ⟨b, off, none⟩) n cap ∧ n ≤ cap ∧ cap ≤ maxLen ∧ b < w.heap.size ∧ ∀ i (h : i < L.length), ∃ u, w.cell? ⟨b, off + i, none⟩ = some u ∧ Bs w u L[i] := by
  subst hl; exact h.open_cons hne

set_option maxHeartbeats 1600000 in
theorem same_any (va vb : Value) (L : List (List UInt8)) (w : World) (ha : Bss w va L) (hb : Bss w vb L) :
    Calls Try.prog 32 #[va, vb] w fun e w' => e = .returned (.bool true) ∧ Below w.heap.size w w' := by
  obtain ⟨a1, n, c1, rfl, hn, h1, h2, ha⟩ := ha.shape
  obtain ⟨a2, n2, c2, rfl, hn2, h3, h4, hb⟩ := hb.shape
  obtain rfl : n = n2 := by omega
  have HA := Lib.hid ha
  have HB := Lib.hid hb
  have HN := Lib.hid hn
  clear ha hb hn hn2
  go_enter Try.func32, Try.ntmps32
  go_wp2
  go_loopw [5] (fun i wr => ∃ j : Nat, j ≤ n ∧ i = .int .i64 j ∧ Below w.heap.size w wr) (fun i _ => n - (intOf i).toNat)
  case atStart => exact ⟨0, Nat.zero_le _, rfl, Below.refl _ _⟩
  case round =>
    obtain ⟨j, hj, rfl, hbel⟩ := hrel
    by_cases hlt : j < n
    · have hjl : j < L.length := by rw [HN.out]; exact hlt
      obtain ⟨b1, o1, _, he, _, _, l1, hc1⟩ := HA.out.open_n HN.out (by omega)
      cases he
      obtain ⟨b2, o2, _, he, _, _, l2, hc2⟩ := HB.out.open_n HN.out (by omega)
      cases he
      obtain ⟨u1, g1, k1⟩ := hc1 j hjl
      obtain ⟨u2, g2, k2⟩ := hc2 j hjl
      have hcl1 : wr.cell? ⟨b1, o1 + j, none⟩ = some u1 := (hbel.cell (by exact l1)).trans g1
      have hcl2 : wr.cell? ⟨b2, o2 + j, none⟩ = some u2 := (hbel.cell (by exact l2)).trans g2
      have hk1 := fun nq => (k1.below (below_drewN hbel nq) (Nat.le_refl _)).conv
      have hk2 := fun nq => (k2.below (below_drewN hbel nq) (Nat.le_refl _)).conv
      have hi1 : 0 ≤ (j : Int) ∧ (j : Int) < (n : Int) := by omega
      obtain ⟨x1, y1, z1, rfl, _⟩ := k1.shape
      obtain ⟨x2, y2, z2, rfl, _⟩ := k2.shape
      clear hc1 hc2 g1 g2 k1 k2
      go_wp2
      go_quiet (fail)
      go_wp2
      go_roundw
      case rel => exact ⟨j + 1, by omega, by go_num, below_drewN hbel _⟩
      case measure => simp [intOf]; omega
    · obtain rfl : j = n := by omega
      go_wp2
      go_ret
      exact ⟨rfl, hbel⟩
end Go.Proofs.Ytbcmocijoklchaa
