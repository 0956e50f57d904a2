/- A scalar's number as clamping makes it; the document's Clamp. -/
import Derived.Test.YtncdlaidmiokiaaEdD
import Derived.Test.YtncdlaidmiokiaaEwN
set_option linter.unusedSimpArgs false
set_option linter.unusedVariables false
namespace Go.Proofs.Ytncdlaidmiokiaa
open Go.RowKit Go.Deep

/-- The number of a clamped scalar. -/
def clampN (l : List UInt8) : Nat := numL l 32 % 2 ^ 254 / 8 * 8 + 2 ^ 254
theorem clampN_clamped (l : List UInt8) : Clamped (clampN l) := by
  unfold clampN
  have h : numL l 32 % 2 ^ 254 < 2 ^ 254 := Nat.mod_lt _ (Nat.pow_pos (by decide))
  generalize numL l 32 % 2 ^ 254 = r at h
  have h8 : (2 : Nat) ^ 254 = 8 * 2 ^ 251 := by decide +kernel
  have h2 : (2 : Nat) ^ 255 = 16 * 2 ^ 251 := by decide +kernel
  generalize (2 : Nat) ^ 251 = t at *
  refine ⟨Nat.le_add_left _ _, by omega, ⟨r / 8 + t, ?_⟩⟩
  omega
def byteN (K i : Nat) : Nat := K / 256 ^ i % 256
theorem byteN_lt (K i : Nat) : byteN K i < 256 := Nat.mod_lt _ (by decide)
theorem byteN_numL (l : List UInt8) (i : Nat) (h : i < 32) : byteN (numL l 32) i = (l.getD i 0).toNat := numL_dig l 32 i h
theorem clamp_low (l : List UInt8) : byteN (clampN l) 0 = (l.getD 0 0).toNat / 8 * 8 := by
  rw [← byteN_numL l 0 (by decide)]
  unfold byteN clampN
  rw [Nat.pow_zero, Nat.div_one, Nat.div_one]
  have h8 : (2 : Nat) ^ 254 = 256 * 2 ^ 246 := by decide +kernel
  rw [h8]
  have h := Nat.mod_mul_right_mod (numL l 32) 256 (2 ^ 246)
  generalize (2 : Nat) ^ 246 = t at *
  generalize numL l 32 = N at *
  generalize N % (256 * t) = r at *
  omega
theorem clamp_mid (l : List UInt8) (i : Nat) (h0 : 0 < i) (h31 : i < 31) : byteN (clampN l) i = (l.getD i 0).toNat := by
  rw [← byteN_numL l i (by omega)]
  unfold byteN clampN
  obtain ⟨j, rfl⟩ : ∃ j, i = j + 1 := ⟨i - 1, by omega⟩
  have e : (2 : Nat) ^ 254 = 256 ^ (j + 1) * (256 * (256 ^ (29 - j) * 64)) := by
    have h1 : (256 : Nat) ^ (j + 1) * 256 * 256 ^ (29 - j) = 256 ^ 31 := by
      rw [← Nat.pow_succ, ← Nat.pow_add]
      congr 1
      omega
    have h3 : (2 : Nat) ^ 254 = 256 ^ 31 * 64 := by decide +kernel
    rw [h3, ← h1]
    simp only [Nat.mul_assoc]
  rw [e]
  generalize 256 ^ (29 - j) * 64 = t
  rw [Nat.add_mul_div_left _ _ (pow256_pos (j + 1)), Nat.add_mul_mod_self_left]
  have h2 : numL l 32 % (256 ^ (j + 1) * (256 * t)) / 8 * 8 / 256 ^ (j + 1) = numL l 32 % (256 ^ (j + 1) * (256 * t)) / 256 ^ (j + 1) := by
    generalize numL l 32 % (256 ^ (j + 1) * (256 * t)) = r
    have hp : (256 : Nat) ^ (j + 1) = 8 * (32 * 256 ^ j) := by rw [Nat.pow_succ]; omega
    rw [hp]
    generalize 32 * 256 ^ j = z
    rw [← Nat.div_div_eq_div_mul, ← Nat.div_div_eq_div_mul, Nat.mul_div_cancel _ (by decide)]
  rw [h2, Nat.mod_mul_right_div_self, Nat.mod_mul_right_mod]
theorem clamp_high (l : List UInt8) : byteN (clampN l) 31 = (l.getD 31 0).toNat % 64 + 64 := by
  rw [← byteN_numL l 31 (by decide)]
  unfold byteN clampN
  have e : (2 : Nat) ^ 254 = 256 ^ 31 * 64 := by decide +kernel
  have hp : (256 : Nat) ^ 31 = 8 * (32 * 256 ^ 30) := by decide +kernel
  have h2 : numL l 32 % (256 ^ 31 * 64) / 8 * 8 / 256 ^ 31 = numL l 32 % (256 ^ 31 * 64) / 256 ^ 31 := by
    generalize numL l 32 % (256 ^ 31 * 64) = r
    rw [hp]
    generalize 32 * 256 ^ 30 = z
    rw [← Nat.div_div_eq_div_mul, ← Nat.div_div_eq_div_mul, Nat.mul_div_cancel _ (by decide)]
  rw [e, Nat.add_mul_div_left _ _ (pow256_pos 31), h2, Nat.mod_mul_right_div_self]
  generalize numL l 32 / 256 ^ 31 = q
  omega
theorem and248N (x : Nat) (h : x < 256) : bits .and .u8 (x : Int) 248 = ((x / 8 * 8 : Nat) : Int) := by
  have g : ∀ q : Fin 256, bits .and .u8 ((q.val : Nat) : Int) 248 = ((q.val / 8 * 8 : Nat) : Int) := by decide +kernel
  exact g ⟨x, h⟩
theorem and127N (x : Nat) (h : x < 256) : bits .and .u8 (x : Int) 127 = ((x % 128 : Nat) : Int) := by
  have g : ∀ q : Fin 256, bits .and .u8 ((q.val : Nat) : Int) 127 = ((q.val % 128 : Nat) : Int) := by decide +kernel
  exact g ⟨x, h⟩
theorem or64N (x : Nat) (h : x < 256) : bits .or .u8 ((x % 128 : Nat) : Int) 64 = ((x % 64 + 64 : Nat) : Int) := by
  have g : ∀ q : Fin 256, bits .or .u8 ((q.val % 128 : Nat) : Int) 64 = ((q.val % 64 + 64 : Nat) : Int) := by decide +kernel
  exact g ⟨x, h⟩
theorem bit_at (K t : Nat) : byteN K (t / 8) / 2 ^ (t % 8) % 2 = K / 2 ^ t % 2 := by
  unfold byteN
  have e : K / 2 ^ t = K / 256 ^ (t / 8) / 2 ^ (t % 8) := by
    rw [Nat.div_div_eq_div_mul, show (256 : Nat) = 2 ^ 8 from rfl, ← Nat.pow_mul, ← Nat.pow_add]
    congr 2
    omega
  rw [e]
  generalize K / 256 ^ (t / 8) = A
  have hr : t % 8 < 8 := Nat.mod_lt _ (by decide)
  generalize t % 8 = r at hr
  rcases (show r = 0 ∨ r = 1 ∨ r = 2 ∨ r = 3 ∨ r = 4 ∨ r = 5 ∨ r = 6 ∨ r = 7 by omega) with rfl | rfl | rfl | rfl | rfl | rfl | rfl | rfl <;> omega
/-- The row of a number's bytes. -/
def kF (K : Nat) : Nat → Value := fun i => .int .u8 ((byteN K i : Nat) : Int)
theorem kF_bs {w : World} {b : Nat} {t : TypeId} {K : Nat} (h : w.rowIs b t 32 (kF K)) : Bs w (.slice (some ⟨b, 0, none⟩) 32 32) (litB K 32) := by
  have g := Bs.of_rowIs h (litB K 32) (by rw [litB_length]; exact Nat.le_refl _) (by unfold maxLen; omega) fun i hi => by
    rw [litB_at]
    unfold kF byteN
    rw [UInt8.toNat_ofNat']
  rwa [litB_length] at g
end Go.Proofs.Ytncdlaidmiokiaa
