/- Sums, differences and products in parts of 16 binary digits; of no world. -/
import Derived.Test.YthapdohblphlgaaLimbs
namespace Go.Proofs.Ythapdohblphlgaa

theorem valL_add (f g : Nat → Nat) : ∀ n, valL (fun j => f j + g j) n = valL f n + valL g n
  | 0 => rfl
  | n + 1 => by rw [valL, valL, valL, valL_add f g n, Nat.add_mul]; omega
theorem valL_mul (c : Nat) (f : Nat → Nat) : ∀ n, valL (fun j => c * f j) n = c * valL f n
  | 0 => rfl
  | n + 1 => by rw [valL, valL, valL_mul c f n, Nat.mul_add, Nat.mul_assoc]
theorem p25_lt_B : p25 < 65536 ^ 16 := by decide +kernel
theorem lt_B {A : Nat} (h : A < p25) : A < 65536 ^ 16 := Nat.lt_trans h p25_lt_B
/-- A sum. -/
theorem valL_sum {A B : Nat} (hA : A < p25) (hB : B < p25) : valL (fun j => dig A j + dig B j) 16 = A + B := by
  rw [valL_add, valL_all _ _ (lt_B hA), valL_all _ _ (lt_B hB)]
/-- A difference, with 4 p laid under. -/
theorem valL_diff {A B : Nat} (hA : A < p25) (hB : B < p25) (f : Nat → Nat) (hf : ∀ j, j < 16 → f j + dig B j = dig A j + 4 * dig p25 j) : valL f 16 + B = A + 4 * p25 := by
  have h1 : valL (fun j => f j + dig B j) 16 = valL (fun j => dig A j + 4 * dig p25 j) 16 := valL_congr 16 hf
  rw [valL_add, valL_add, valL_mul 4 (dig p25), valL_all _ _ (lt_B hA), valL_all _ _ (lt_B hB), valL_all _ _ p25_lt_B] at h1
  exact h1
def subP (p a b : Nat) : Nat := (a + negP p b) % p
theorem diff_mod {A B V : Nat} (hB : B < p25) (h : V + B = A + 4 * p25) : V % p25 = subP p25 A B := by
  unfold subP negP
  rw [Nat.mod_eq_of_lt hB, Nat.add_mod_mod]
  have e : V = A + (p25 - B) + p25 * 3 := by have := p25_pos; omega
  rw [e, Nat.add_mul_mod_self_left]

/-- The part at a place grows. -/
def addAt (f : Nat → Nat) (i x : Nat) : Nat → Nat := fun j => if j = i then f j + x else f j
theorem valL_addAt (f : Nat → Nat) (i x : Nat) : ∀ n, i < n → valL (addAt f i x) n = valL f n + x * 65536 ^ i
  | 0, h => by omega
  | n + 1, h => by
    rw [valL, valL]
    by_cases e : i = n
    · subst e
      have : valL (addAt f i x) i = valL f i := valL_congr i fun j hj => by unfold addAt; rw [if_neg (by omega)]
      rw [this]
      unfold addAt
      rw [if_pos rfl, Nat.add_mul]
      omega
    · rw [valL_addAt f i x n (by omega)]
      have : addAt f i x n = f n := by unfold addAt; rw [if_neg (by omega)]
      rw [this]
      omega
/-- What stands above 2^256 is 38 times itself. -/
theorem valL_split (f : Nat → Nat) (n : Nat) : ∀ m, valL f (n + m) = valL f n + 65536 ^ n * valL (fun j => f (n + j)) m
  | 0 => by simp [valL]
  | m + 1 => by
    show valL f (n + m) + f (n + m) * 65536 ^ (n + m) = _
    rw [valL_split f n m, valL, Nat.mul_add, Nat.pow_add]
    have : f (n + m) * (65536 ^ n * 65536 ^ m) = 65536 ^ n * (f (n + m) * 65536 ^ m) := by ac_rfl
    omega
theorem fold_mod (f : Nat → Nat) : valL (fun j => f j + 38 * f (16 + j)) 16 % p25 = valL f 32 % p25 := by
  rw [valL_add, valL_mul 38 (fun j => f (16 + j)), show 32 = 16 + 16 from rfl, valL_split f 16 16]
  have e : 65536 ^ 16 = 38 + p25 * 2 := by decide +kernel
  rw [e, Nat.add_mul, Nat.mul_assoc]
  generalize valL (fun j => f (16 + j)) 16 = W
  rw [← Nat.add_assoc, Nat.add_mul_mod_self_left]
/-- The row of a product: so many rows, and so many places of the next one. -/
def mulTo (A B i k : Nat) : Nat := valL (dig A) i * B + dig A i * 65536 ^ i * valL (dig B) k
theorem mulTo_step (A B i k : Nat) : mulTo A B i (k + 1) = mulTo A B i k + dig A i * dig B k * 65536 ^ (i + k) := by
  unfold mulTo
  rw [valL, Nat.mul_add, Nat.pow_add]
  have : dig A i * 65536 ^ i * (dig B k * 65536 ^ k) = dig A i * dig B k * (65536 ^ i * 65536 ^ k) := by ac_rfl
  omega
theorem mulTo_row (A B i : Nat) (hB : B < p25) : mulTo A B i 16 = mulTo A B (i + 1) 0 := by
  unfold mulTo
  rw [valL_all _ _ (lt_B hB)]
  show _ = (valL (dig A) i + dig A i * 65536 ^ i) * B + dig A (i + 1) * 65536 ^ (i + 1) * 0
  rw [Nat.add_mul]
  omega
theorem mulTo_zero (A B : Nat) : mulTo A B 0 0 = 0 := by simp [mulTo, valL]
theorem mulTo_all (A B : Nat) (hA : A < p25) : mulTo A B 16 0 = A * B := by
  unfold mulTo
  rw [valL_all _ _ (lt_B hA)]
  show A * B + _ * 0 = _
  omega
end Go.Proofs.Ythapdohblphlgaa
