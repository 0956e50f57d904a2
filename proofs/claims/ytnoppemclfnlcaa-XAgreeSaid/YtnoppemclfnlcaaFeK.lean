/- Bytes and numbers, the least byte first: what StrictFe reads is what is below p. -/
import Derived.Test.YtnoppemclfnlcaaFeJ
set_option linter.unusedSimpArgs false
set_option linter.unusedVariables false
namespace Go.Proofs.Ytnoppemclfnlcaa
open Go.RowKit Go.Deep

theorem pow256_pos (k : Nat) : 0 < 256 ^ k := Nat.pow_pos (by decide)
theorem litB_getD (V n i : Nat) (h : i < n) : (litB V n).getD i 0 = UInt8.ofNat (V / 256 ^ i) := by
  unfold litB
  rw [List.getD_eq_getElem?_getD, List.getElem?_map, List.getElem?_range h]
  show UInt8.ofNat (V / 2 ^ (8 * i)) = _
  rw [Nat.pow_mul]
theorem numL_litB (V n : Nat) : ∀ k, k ≤ n → numL (litB V n) k = V % 256 ^ k
  | 0, _ => by rw [Nat.pow_zero, Nat.mod_one]; rfl
  | k + 1, h => by
    rw [numL, numL_litB V n k (by omega), litB_getD V n k (by omega), Nat.pow_succ, Nat.mod_mul]
    simp only [UInt8.toNat_ofNat']
    rw [Nat.mul_comm]
theorem numL_add (l : List UInt8) (i : Nat) : ∀ d, ∃ r, numL l (i + d) = numL l i + 256 ^ i * r
  | 0 => ⟨0, by simp⟩
  | d + 1 => by
    obtain ⟨r, hr⟩ := numL_add l i d
    refine ⟨r + (l.getD (i + d) 0).toNat * 256 ^ d, ?_⟩
    show numL l (i + d) + (l.getD (i + d) 0).toNat * 256 ^ (i + d) = _
    rw [hr, Nat.mul_add, Nat.pow_add]
    have : (l.getD (i + d) 0).toNat * (256 ^ i * 256 ^ d) = 256 ^ i * ((l.getD (i + d) 0).toNat * 256 ^ d) := by ac_rfl
    omega
theorem numL_dig (l : List UInt8) (n i : Nat) (h : i < n) : numL l n / 256 ^ i % 256 = (l.getD i 0).toNat := by
  obtain ⟨r, hr⟩ := numL_add l (i + 1) (n - (i + 1))
  rw [show i + 1 + (n - (i + 1)) = n by omega] at hr
  have h1 := numL_lt l i
  have h2 := UInt8.toNat_lt (l.getD i 0)
  rw [hr, numL, Nat.pow_succ]
  have e : numL l i + (l.getD i 0).toNat * 256 ^ i + 256 ^ i * 256 * r = numL l i + 256 ^ i * ((l.getD i 0).toNat + 256 * r) := by
    rw [Nat.mul_add, Nat.mul_assoc, Nat.mul_comm (l.getD i 0).toNat]; omega
  rw [e, Nat.add_mul_div_left _ _ (pow256_pos i), Nat.div_eq_of_lt h1]
  omega
theorem litB_numL (l : List UInt8) (n : Nat) (h : l.length = n) : litB (numL l n) n = l := by
  refine List.ext_getElem (by rw [litB_length, h]) fun i h1 h2 => ?_
  rw [litB_length] at h1
  have e1 := litB_getD (numL l n) n i h1
  rw [getD_at _ i (by rw [litB_length]; exact h1)] at e1
  rw [e1, ← getD_at l i h2]
  apply UInt8.toNat_inj.1
  simp only [UInt8.toNat_ofNat']
  exact numL_dig l n i h1
theorem p25_lt_top : p25 < top := by decide +kernel
theorem top_le : top ≤ 256 ^ 32 := by decide +kernel
theorem ofL_lt (l : List UInt8) : ofL l < p25 := Nat.mod_lt _ p25_pos
theorem ofL_low (l : List UInt8) (h : numL l 32 < p25) : ofL l = numL l 32 := by
  unfold ofL
  rw [Nat.mod_eq_of_lt (Nat.lt_trans h p25_lt_top), Nat.mod_eq_of_lt h]
/-- What StrictFe reads. -/
theorem strictL_eq (l : List UInt8) : strictL l = if l.length = 32 ∧ numL l 32 < p25 then some (numL l 32) else none := by
  unfold strictL
  by_cases h : l.length = 32 ∧ numL l 32 < p25
  · obtain ⟨h1, h2⟩ := h
    have h3 : (l.getD 31 0).toNat ≤ 127 := by
      have e := numL_dig l 32 31 (by decide)
      have e2 : numL l 32 / 256 ^ 31 < 128 := by
        rw [Nat.div_lt_iff_lt_mul (pow256_pos 31)]
        exact Nat.lt_of_lt_of_le h2 (by decide +kernel)
      omega
    rw [if_pos ⟨h1, h3, by rw [ofL_low l h2]; exact litB_numL l 32 h1⟩, if_pos ⟨h1, h2⟩, ofL_low l h2]
  · rw [if_neg h, if_neg]
    rintro ⟨h1, _, h3⟩
    apply h
    refine ⟨h1, ?_⟩
    have e := numL_litB (ofL l) 32 32 (Nat.le_refl _)
    rw [h3, Nat.mod_eq_of_lt (Nat.lt_of_lt_of_le (Nat.lt_trans (ofL_lt l) p25_lt_top) top_le)] at e
    rw [e]
    exact ofL_lt l
/-- Written and read. -/
theorem numL_own (V : Nat) (h : V < p25) : numL (litB V 32) 32 = V := by
  rw [numL_litB V 32 32 (Nat.le_refl _), Nat.mod_eq_of_lt (Nat.lt_of_lt_of_le (Nat.lt_trans h p25_lt_top) top_le)]
theorem ofL_own (V : Nat) (h : V < p25) : ofL (litB V 32) = V := by
  rw [ofL_low _ (by rw [numL_own V h]; exact h), numL_own V h]
theorem litB_inj {A B : Nat} (hA : A < p25) (hB : B < p25) (h : litB A 32 = litB B 32) : A = B := by
  rw [← numL_own A hA, h, numL_own B hB]
end Go.Proofs.Ytnoppemclfnlcaa
