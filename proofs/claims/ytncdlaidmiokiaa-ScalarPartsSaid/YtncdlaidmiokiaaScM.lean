/- Numbers below L by digits: twice a number and a bit, the difference; the numbers of the document's mod. -/
import Derived.Test.YtncdlaidmiokiaaScB
set_option linter.unusedSimpArgs false
set_option linter.unusedVariables false
namespace Go.Proofs.Ytncdlaidmiokiaa

/-- What is carried into the place p of 2 R + c. -/
def cyD (R c p : Nat) : Nat := (2 * (R % 256 ^ p) + c) / 256 ^ p
theorem cyD_zero (R c : Nat) : cyD R c 0 = c := by simp [cyD, Nat.mod_one]
theorem mod_next (R p : Nat) : R % 256 ^ (p + 1) = R % 256 ^ p + 256 ^ p * byteN R p := by
  unfold byteN
  rw [Nat.pow_succ, Nat.mod_mul]
theorem cyD_step (R c p : Nat) : (cyD R c p + 2 * byteN R p) % 256 = byteN (2 * R + c) p ∧ (cyD R c p + 2 * byteN R p) / 256 = cyD R c (p + 1) := by
  have hp := pow256_pos p
  have h1 : (2 * (R % 256 ^ (p + 1)) + c) / 256 ^ p = cyD R c p + 2 * byteN R p := by
    rw [mod_next]
    unfold cyD
    rw [show 2 * (R % 256 ^ p + 256 ^ p * byteN R p) + c = 2 * (R % 256 ^ p) + c + 256 ^ p * (2 * byteN R p) by rw [Nat.mul_add, Nat.mul_left_comm]; omega, Nat.add_mul_div_left _ _ hp]
  constructor
  · have h2 : 2 * R + c = 2 * (R % 256 ^ (p + 1)) + c + 256 ^ p * (256 * (2 * (R / 256 ^ (p + 1)))) := by
      have h3 := Nat.mod_add_div R (256 ^ (p + 1))
      have e : 256 ^ p * (256 * (2 * (R / 256 ^ (p + 1)))) = 2 * (256 ^ (p + 1) * (R / 256 ^ (p + 1))) := by rw [Nat.pow_succ]; simp only [Nat.mul_assoc, Nat.mul_left_comm]
      rw [e]
      generalize 256 ^ (p + 1) * (R / 256 ^ (p + 1)) = z at *
      omega
    unfold byteN at *
    rw [h2, Nat.add_mul_div_left _ _ hp, Nat.add_mul_mod_self_left, h1]
  · rw [← h1]
    unfold cyD
    rw [Nat.div_div_eq_div_mul, ← Nat.pow_succ]
theorem cyD_le (R c p : Nat) (hc : c ≤ 1) : cyD R c p ≤ 1 := by
  have hp := pow256_pos p
  have h := Nat.mod_lt R hp
  unfold cyD
  have : (2 * (R % 256 ^ p) + c) / 256 ^ p < 2 := by
    rw [Nat.div_lt_iff_lt_mul hp]
    omega
  omega
/-- What is carried into the place p of G + L. -/
def cyA (G L p : Nat) : Nat := (G % 256 ^ p + L % 256 ^ p) / 256 ^ p
theorem cyA_zero (G L : Nat) : cyA G L 0 = 0 := by simp [cyA, Nat.mod_one]
theorem cyA_le (G L p : Nat) : cyA G L p ≤ 1 := by
  have hp := pow256_pos p
  have h1 := Nat.mod_lt G hp
  have h2 := Nat.mod_lt L hp
  unfold cyA
  have : (G % 256 ^ p + L % 256 ^ p) / 256 ^ p < 2 := by
    rw [Nat.div_lt_iff_lt_mul hp]
    omega
  omega
theorem cyA_step (G L p : Nat) : byteN (G + L) p + 256 * cyA G L (p + 1) = byteN G p + byteN L p + cyA G L p := by
  have hp := pow256_pos p
  have h1 : (G % 256 ^ (p + 1) + L % 256 ^ (p + 1)) / 256 ^ p = cyA G L p + (byteN G p + byteN L p) := by
    rw [mod_next, mod_next]
    unfold cyA
    rw [show G % 256 ^ p + 256 ^ p * byteN G p + (L % 256 ^ p + 256 ^ p * byteN L p) = G % 256 ^ p + L % 256 ^ p + 256 ^ p * (byteN G p + byteN L p) by rw [Nat.mul_add]; omega, Nat.add_mul_div_left _ _ hp]
  have h2 : byteN (G + L) p = (cyA G L p + (byteN G p + byteN L p)) % 256 := by
    have h3 := Nat.mod_add_div G (256 ^ (p + 1))
    have h4 := Nat.mod_add_div L (256 ^ (p + 1))
    have e : G + L = G % 256 ^ (p + 1) + L % 256 ^ (p + 1) + 256 ^ p * (256 * (G / 256 ^ (p + 1) + L / 256 ^ (p + 1))) := by
      rw [← Nat.mul_assoc, show 256 ^ p * 256 = 256 ^ (p + 1) from rfl, Nat.mul_add]
      omega
    rw [show byteN (G + L) p = (G + L) / 256 ^ p % 256 from rfl, e, Nat.add_mul_div_left _ _ hp, Nat.add_mul_mod_self_left, h1]
  have h5 : cyA G L (p + 1) = (cyA G L p + (byteN G p + byteN L p)) / 256 := by
    rw [← h1]
    unfold cyA
    rw [Nat.div_div_eq_div_mul, ← Nat.pow_succ]
  omega
theorem double_lt {R c : Nat} (hR : R < ordL) (hc : c ≤ 1) : 2 * R + c < 2 * ordL := by omega
theorem sub_mod_L {D : Nat} (h1 : ordL ≤ D) (h2 : D < 2 * ordL) : D - ordL = D % ordL := by
  rw [Nat.mod_eq_sub_mod h1, Nat.mod_eq_of_lt (by omega)]
theorem double_mod (T c : Nat) : (2 * (T % ordL) + c) % ordL = (2 * T + c) % ordL := by
  rw [Nat.add_mod, Nat.mul_mod, Nat.mod_mod, ← Nat.mul_mod, ← Nat.add_mod]
theorem ordL_pos : 0 < ordL := by decide +kernel
theorem two_L_lt : 2 * ordL < 256 ^ 33 := by decide +kernel
end Go.Proofs.Ytncdlaidmiokiaa
