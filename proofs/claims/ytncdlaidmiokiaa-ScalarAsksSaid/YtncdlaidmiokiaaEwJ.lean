/- The program's numbers below p: Of. -/
import Derived.Test.YtncdlaidmiokiaaEwI
import Derived.Test.YtncdlaidmiokiaaMM1
set_option linter.unusedSimpArgs false
set_option linter.unusedVariables false
namespace Go.Proofs.Ytncdlaidmiokiaa
open Go.RowKit Go.Deep

theorem pow256_W (q : Nat) : (256 : Nat) ^ (8 * q) = 18446744073709551616 ^ q := by rw [Nat.pow_mul]
theorem of_step (V x i j : Nat) (hV : V < 256 ^ i) (hx : x < 256) : wd (V + x * 256 ^ i) j = if j = i / 8 then 2 ^ (8 * (i % 8)) * x + wd V (i / 8) else wd V j := by
  obtain ⟨q, hq⟩ := nat_var (i / 8)
  obtain ⟨s, hs⟩ := nat_var (i % 8)
  have hi : i = 8 * q + s := by omega
  have hs8 : s < 8 := by omega
  rw [← hq, ← hs]
  clear hq hs
  subst hi
  rw [Nat.pow_add, pow256_W] at hV ⊢
  have hsp : (256 : Nat) ^ s * 256 ≤ 18446744073709551616 := by
    have h := Nat.pow_le_pow_right (show 0 < 256 by decide) (show s + 1 ≤ 8 by omega)
    rw [Nat.pow_succ] at h
    exact Nat.le_trans h (by decide)
  have hsh : (2 : Nat) ^ (8 * s) = 256 ^ s := by rw [Nat.pow_mul]
  rw [hsh]
  have hsz : 0 < (256 : Nat) ^ s := Nat.pow_pos (by decide)
  generalize (256 : Nat) ^ s = Z at *
  have hxZ : x * Z ≤ 255 * Z := Nat.mul_le_mul_right _ (by omega)
  unfold wd
  by_cases h1 : j = q
  · subst h1
    rw [if_pos rfl, show x * (18446744073709551616 ^ j * Z) = 18446744073709551616 ^ j * (x * Z) by ac_rfl, Nat.add_mul_div_left _ _ (powW_pos j)]
    have h2 : V / 18446744073709551616 ^ j < Z := Nat.div_lt_of_lt_mul hV
    generalize V / 18446744073709551616 ^ j = y at *
    rw [Nat.mul_comm Z x]
    omega
  · rw [if_neg h1]
    by_cases h2 : j < q
    · obtain ⟨d, rfl⟩ : ∃ d, q = j + 1 + d := ⟨q - (j + 1), by omega⟩
      have e : x * (18446744073709551616 ^ (j + 1 + d) * Z) = 18446744073709551616 ^ j * (18446744073709551616 * (18446744073709551616 ^ d * (x * Z))) := by
        rw [Nat.pow_add, Nat.pow_succ]; ac_rfl
      rw [e, Nat.add_mul_div_left _ _ (powW_pos j), Nat.add_mul_mod_self_left]
    · obtain ⟨d, rfl⟩ : ∃ d, j = q + 1 + d := ⟨j - (q + 1), by omega⟩
      have hup : V + x * (18446744073709551616 ^ q * Z) < 18446744073709551616 ^ (q + 1 + d) := by
        have h3 : x * (18446744073709551616 ^ q * Z) ≤ 255 * (18446744073709551616 ^ q * Z) := Nat.mul_le_mul_right _ (by omega)
        have h4 : 18446744073709551616 ^ q * (Z * 256) ≤ 18446744073709551616 ^ q * 18446744073709551616 := Nat.mul_le_mul_left _ hsp
        rw [← Nat.pow_succ, ← Nat.mul_assoc] at h4
        have h5 : (18446744073709551616 : Nat) ^ (q + 1) ≤ 18446744073709551616 ^ (q + 1 + d) := Nat.pow_le_pow_right (by decide) (by omega)
        omega
      rw [Nat.div_eq_of_lt hup, Nat.div_eq_of_lt (Nat.lt_of_le_of_lt (Nat.le_add_right _ _) hup)]
theorem of_low (V i : Nat) (hV : V < 256 ^ i) : wd V (i / 8) < 2 ^ (8 * (i % 8)) := by
  obtain ⟨q, hq⟩ := nat_var (i / 8)
  obtain ⟨s, hs⟩ := nat_var (i % 8)
  have hi : i = 8 * q + s := by omega
  rw [← hq, ← hs]
  clear hq hs
  subst hi
  rw [Nat.pow_add, pow256_W] at hV
  rw [Nat.pow_mul]
  exact Nat.lt_of_le_of_lt (Nat.mod_le _ _) (Nat.div_lt_of_lt_mul hV)
theorem numL_wanting (l : List UInt8) (k : Nat) (h : l.length ≤ k) : ∀ d, numL l (k + d) = numL l k
  | 0 => rfl
  | d + 1 => by
    show numL l (k + d) + (l.getD (k + d) 0).toNat * 256 ^ (k + d) = _
    rw [numL_wanting l k h d, List.getD_eq_getElem?_getD, List.getElem?_eq_none (by omega)]
    simp
theorem numL_min (l : List UInt8) : numL l (min l.length 32) = numL l 32 := by
  by_cases h : l.length ≤ 32
  · rw [Nat.min_eq_left h]
    have := numL_wanting l l.length (Nat.le_refl _) (32 - l.length)
    rw [show l.length + (32 - l.length) = 32 by omega] at this
    exact this.symm
  · rw [Nat.min_eq_right (by omega)]

end Go.Proofs.Ytncdlaidmiokiaa
