/- The forms of a number: its bytes with the highest bit set, the bytes of p and a small number; what Strict and Of read of them. -/
import Derived.Test.YtncdlaidmiokiaaEwL
set_option linter.unusedSimpArgs false
set_option linter.unusedVariables false
namespace Go.Proofs.Ytncdlaidmiokiaa
open Go.RowKit Go.Deep

theorem Bs.drew {w : World} {v : Value} {l : List UInt8} (h : Bs w v l) : Bs w.drew v l := h
theorem litB_at (V n i : Nat) (h : i < (litB V n).length) : (litB V n)[i] = UInt8.ofNat (V / 256 ^ i) := by
  rw [← getD_at _ i h]
  exact litB_getD V n i (by rwa [litB_length] at h)
theorem litB_set (V U i : Nat) (hsame : ∀ j, j < 32 → j ≠ i → V / 256 ^ j % 256 = U / 256 ^ j % 256) : (litB V 32).set i (UInt8.ofNat (U / 256 ^ i)) = litB U 32 := by
  refine List.ext_getElem (by simp [litB_length]) fun j h1 h2 => ?_
  rw [List.getElem_set]
  rw [litB_at U 32 j h2]
  split
  · subst j; rfl
  · rw [litB_at]
    apply UInt8.toNat_inj.1
    simp only [UInt8.toNat_ofNat']
    rw [litB_length] at h2
    exact hsame j h2 (by omega)
theorem high_same (A j : Nat) (hj : j < 31) : A / 256 ^ j % 256 = (A + top) / 256 ^ j % 256 := by
  have h1 : (256 : Nat) ^ j * 256 * 256 ^ (30 - j) = 256 ^ 31 := by
    rw [← Nat.pow_succ, ← Nat.pow_add]
    congr 1
    omega
  have h2 : top = 256 ^ j * (256 * (256 ^ (30 - j) * 128)) := by
    have h3 : top = 256 ^ 31 * 128 := by decide +kernel
    rw [h3, ← h1]
    simp only [Nat.mul_assoc]
  rw [h2, Nat.add_mul_div_left _ _ (pow256_pos j), Nat.add_mul_mod_self_left]
/-- The highest bit set. -/
theorem high_set (A : Nat) : (litB A 32).set 31 (UInt8.ofNat ((A + top) / 256 ^ 31)) = litB (A + top) 32 :=
  litB_set A (A + top) 31 fun j h1 h2 => high_same A j (by omega)
theorem high_lt (A : Nat) (h : A < p25) : A / 256 ^ 31 < 128 := by
  rw [Nat.div_lt_iff_lt_mul (pow256_pos 31)]
  exact Nat.lt_of_lt_of_le h (by decide +kernel)
theorem high_byte (A : Nat) : (A + top) / 256 ^ 31 = A / 256 ^ 31 + 128 := by
  have h3 : top = 256 ^ 31 * 128 := by decide +kernel
  rw [h3, Nat.add_mul_div_left _ _ (pow256_pos 31)]
theorem high_old (A : Nat) (h : A < p25) : (UInt8.ofNat (A / 256 ^ 31)).toNat = A / 256 ^ 31 := UInt8.toNat_ofNat_of_lt' (Nat.lt_trans (high_lt A h) (by decide))
theorem high_new (A : Nat) (h : A < p25) : (UInt8.ofNat ((A + top) / 256 ^ 31)).toNat = A / 256 ^ 31 + 128 := by
  rw [high_byte]
  have := high_lt A h
  exact UInt8.toNat_ofNat_of_lt' (Nat.lt_of_lt_of_le (Nat.add_lt_add_right this 128) (by decide))
theorem or_128 (q : Nat) (h : q < 128) : bits .or .u8 (q : Int) 128 = ((q + 128 : Nat) : Int) := by
  have g : ∀ q : Fin 128, bits .or .u8 ((q.val : Nat) : Int) 128 = ((q.val + 128 : Nat) : Int) := by decide +kernel
  exact g ⟨q, h⟩
/-- p and a small number. -/
theorem over_set (r : Nat) (h : r < 19) : (litB (p25 - 1) 32).set 0 (UInt8.ofNat ((p25 + r) / 256 ^ 0)) = litB (p25 + r) 32 :=
  litB_set (p25 - 1) (p25 + r) 0 fun j h1 h2 => by
    obtain ⟨k, rfl⟩ : ∃ k, j = k + 1 := ⟨j - 1, by omega⟩
    have hp : p25 % 256 = 237 := by decide +kernel
    rw [Nat.pow_succ, Nat.mul_comm (256 ^ k), ← Nat.div_div_eq_div_mul, ← Nat.div_div_eq_div_mul]
    generalize p25 = P at hp
    rw [show (P - 1) / 256 = (P + r) / 256 by omega]
theorem over_byte (r : Nat) (h : r < 19) : (UInt8.ofNat ((p25 + r) / 256 ^ 0)).toNat = 237 + r := by
  have hp : p25 % 256 = 237 := by decide +kernel
  rw [UInt8.toNat_ofNat', Nat.pow_zero, Nat.div_one]
  generalize p25 = P at hp
  omega
theorem under_byte : (UInt8.ofNat ((p25 - 1) / 256 ^ 0)).toNat = 236 := by decide +kernel
theorem sub_one : subP p25 0 1 = p25 - 1 := by decide +kernel
theorem top_two : 256 ^ 32 = 2 * top := by decide +kernel
theorem p25_top : p25 + 19 = top := by decide +kernel
theorem numL_lit (V : Nat) (h : V < 2 * top) : numL (litB V 32) 32 = V := by
  rw [numL_litB V 32 32 (Nat.le_refl _), Nat.mod_eq_of_lt (by rw [top_two]; exact h)]
theorem ofL_high (A : Nat) (h : A < p25) : ofL (litB (A + top) 32) = A := by
  have h2 := Nat.lt_trans h p25_lt_top
  unfold ofL
  rw [numL_lit _ (by generalize top = T at *; omega), Nat.add_mod_right, Nat.mod_eq_of_lt h2, Nat.mod_eq_of_lt h]
theorem ofL_over (r : Nat) (h : r < 19) : ofL (litB (p25 + r) 32) = r := by
  have h2 := p25_top
  have h3 : r < p25 := Nat.lt_trans h (by decide +kernel)
  unfold ofL
  rw [numL_lit _ (by generalize top = T at *; generalize p25 = P at *; omega), Nat.mod_eq_of_lt (a := p25 + r) (b := top) (by generalize top = T at *; generalize p25 = P at *; omega), Nat.add_mod_left, Nat.mod_eq_of_lt h3]
theorem strictL_own (A : Nat) (h : A < p25) : strictL (litB A 32) = some A := by
  rw [strictL_eq, if_pos ⟨litB_length A 32, by rw [numL_own A h]; exact h⟩, numL_own A h]
theorem strictL_over (V : Nat) (h : p25 ≤ V) (h2 : V < 2 * top) : strictL (litB V 32) = none := by
  rw [strictL_eq, if_neg]
  rintro ⟨_, h3⟩
  rw [numL_lit V h2] at h3
  exact Nat.not_lt.2 h h3
end Go.Proofs.Ytncdlaidmiokiaa
