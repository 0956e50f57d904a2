/- Numbers in words of 64 binary digits: sums, differences, products, what is above 2^255; of no world. -/
import Derived.Test.YtnoppemclfnlcaaFeL
set_option linter.unusedSimpArgs false
set_option linter.unusedVariables false
namespace Go.Proofs.Ytnoppemclfnlcaa

/-- The digit of 64 binary digits at a place; so many parts as a number. -/
def wd (V j : Nat) : Nat := V / 18446744073709551616 ^ j % 18446744073709551616
def valW (f : Nat → Nat) : Nat → Nat
  | 0 => 0
  | j + 1 => valW f j + f j * 18446744073709551616 ^ j
theorem wd_lt (V j : Nat) : wd V j < 18446744073709551616 := Nat.mod_lt _ (by decide)
theorem wd_zero (V : Nat) : wd V 0 = V % 18446744073709551616 := by unfold wd; rw [Nat.pow_zero, Nat.div_one]
theorem powW_pos (j : Nat) : 0 < 18446744073709551616 ^ j := Nat.pow_pos (by decide)
theorem valW_congr {f g : Nat → Nat} : ∀ n, (∀ j, j < n → f j = g j) → valW f n = valW g n
  | 0, _ => rfl
  | n + 1, h => by rw [valW, valW, valW_congr n (fun j hj => h j (by omega)), h n (by omega)]
theorem valW_dig (V : Nat) : ∀ n, valW (wd V) n = V % 18446744073709551616 ^ n
  | 0 => by rw [Nat.pow_zero, Nat.mod_one]; rfl
  | n + 1 => by
    rw [valW, valW_dig V n, Nat.pow_succ, Nat.mod_mul]
    unfold wd
    rw [Nat.mul_comm]
theorem valW_all (V n : Nat) (h : V < 18446744073709551616 ^ n) : valW (wd V) n = V := by rw [valW_dig, Nat.mod_eq_of_lt h]
def addW (D P i : Nat) : Nat := (D % 18446744073709551616 ^ i + P % 18446744073709551616 ^ i) / 18446744073709551616 ^ i
theorem addW_zero (D P : Nat) : addW D P 0 = 0 := by simp [addW, Nat.mod_one]
theorem addW_le (D P i : Nat) : addW D P i ≤ 1 := by
  unfold addW
  have h1 := Nat.mod_lt D (powW_pos i)
  have h2 := Nat.mod_lt P (powW_pos i)
  have : (D % 18446744073709551616 ^ i + P % 18446744073709551616 ^ i) / 18446744073709551616 ^ i < 2 := by rw [Nat.div_lt_iff_lt_mul (powW_pos i)]; omega
  omega
theorem add_wd (D P i : Nat) : wd (D + P) i + 18446744073709551616 * addW D P (i + 1) = wd D i + wd P i + addW D P i := by
  have e1 : (D + P) / 18446744073709551616 ^ i = D / 18446744073709551616 ^ i + P / 18446744073709551616 ^ i + addW D P i := by
    have h1 := Nat.div_add_mod D (18446744073709551616 ^ i)
    have h2 := Nat.div_add_mod P (18446744073709551616 ^ i)
    have e : D + P = (D % 18446744073709551616 ^ i + P % 18446744073709551616 ^ i) + 18446744073709551616 ^ i * (D / 18446744073709551616 ^ i + P / 18446744073709551616 ^ i) := by rw [Nat.mul_add]; omega
    unfold addW
    rw [e, Nat.add_mul_div_left _ _ (powW_pos i)]
    omega
  have e2 : addW D P (i + 1) = (addW D P i + wd D i + wd P i) / 18446744073709551616 := by
    unfold addW wd
    rw [Nat.pow_succ, Nat.mod_mul, Nat.mod_mul, ← Nat.div_div_eq_div_mul]
    have e : D % 18446744073709551616 ^ i + 18446744073709551616 ^ i * (D / 18446744073709551616 ^ i % 18446744073709551616) + (P % 18446744073709551616 ^ i + 18446744073709551616 ^ i * (P / 18446744073709551616 ^ i % 18446744073709551616)) = (D % 18446744073709551616 ^ i + P % 18446744073709551616 ^ i) + 18446744073709551616 ^ i * (D / 18446744073709551616 ^ i % 18446744073709551616 + P / 18446744073709551616 ^ i % 18446744073709551616) := by rw [Nat.mul_add]; omega
    rw [e, Nat.add_mul_div_left _ _ (powW_pos i)]
    omega
  rw [e2]
  unfold wd
  rw [e1]
  omega
theorem valW_add (f g : Nat → Nat) : ∀ n, valW (fun j => f j + g j) n = valW f n + valW g n
  | 0 => rfl
  | n + 1 => by rw [valW, valW, valW, valW_add f g n, Nat.add_mul]; omega
theorem valW_mul (c : Nat) (f : Nat → Nat) : ∀ n, valW (fun j => c * f j) n = c * valW f n
  | 0 => rfl
  | n + 1 => by rw [valW, valW, valW_mul c f n, Nat.mul_add, Nat.mul_assoc]
theorem valW_split (f : Nat → Nat) (n : Nat) : ∀ m, valW f (n + m) = valW f n + 18446744073709551616 ^ n * valW (fun j => f (n + j)) m
  | 0 => by simp [valW]
  | m + 1 => by
    show valW f (n + m) + f (n + m) * 18446744073709551616 ^ (n + m) = _
    rw [valW_split f n m, valW, Nat.mul_add, Nat.pow_add]
    have : f (n + m) * (18446744073709551616 ^ n * 18446744073709551616 ^ m) = 18446744073709551616 ^ n * (f (n + m) * 18446744073709551616 ^ m) := by ac_rfl
    omega
/-- The row of a product: so many rows, and so many places of the next one. -/
def mulW (A B i k : Nat) : Nat := valW (wd A) i * B + wd A i * 18446744073709551616 ^ i * valW (wd B) k
theorem mulW_step (A B i k : Nat) : mulW A B i (k + 1) = mulW A B i k + wd A i * wd B k * 18446744073709551616 ^ (i + k) := by
  unfold mulW
  rw [valW, Nat.mul_add, Nat.pow_add]
  have : wd A i * 18446744073709551616 ^ i * (wd B k * 18446744073709551616 ^ k) = wd A i * wd B k * (18446744073709551616 ^ i * 18446744073709551616 ^ k) := by ac_rfl
  omega

def B4 : Nat := 115792089237316195423570985008687907853269984665640564039457584007913129639936
theorem B4_eq : B4 = 18446744073709551616 ^ 4 := by decide +kernel
theorem B4_pos : 0 < B4 := by decide +kernel
theorem B4_top : B4 = 2 * top := by decide +kernel
theorem p25_B4 : p25 < B4 := by decide +kernel
theorem top_B4 : top < B4 := by decide +kernel
theorem top_W : top = 18446744073709551616 ^ 3 * 9223372036854775808 := by decide +kernel
theorem wd_all (V : Nat) (h : V < B4) : valW (wd V) 4 = V := valW_all V 4 (by rw [← B4_eq]; exact h)
theorem wd_sum (A C j : Nat) : (wd A j + wd C j + addW A C j) % 18446744073709551616 = wd (A + C) j ∧ (wd A j + wd C j + addW A C j) / 18446744073709551616 = addW A C (j + 1) := by
  have h := add_wd A C j
  have h1 := wd_lt (A + C) j
  omega
theorem addW_end (A C : Nat) (hA : A < B4) (hC : C < B4) : addW A C 4 = (A + C) / B4 := by
  unfold addW
  rw [← B4_eq, Nat.mod_eq_of_lt hA, Nat.mod_eq_of_lt hC]
/-- A difference word by word: what is borrowed. -/
theorem wd_sub (D A P j : Nat) (h : P = D + A) : (wd P j + 18446744073709551616 - wd A j - addW D A j) % 18446744073709551616 = wd D j ∧ (if wd P j < wd A j + addW D A j then 1 else 0) = addW D A (j + 1) := by
  subst h
  have h := add_wd D A j
  have h1 := wd_lt D j
  have h2 := wd_lt A j
  have h3 := wd_lt (D + A) j
  have h4 := addW_le D A j
  have h5 := addW_le D A (j + 1)
  generalize wd (D + A) j = p at *
  generalize wd D j = d at *
  generalize wd A j = a at *
  generalize addW D A j = b at *
  generalize addW D A (j + 1) = b' at *
  have h6 : b' = 0 ∨ b' = 1 := by omega
  rcases h6 with rfl | rfl
  · refine ⟨by omega, ?_⟩
    rw [if_neg (by omega)]
  · refine ⟨by omega, ?_⟩
    rw [if_pos (by omega)]
theorem wd_small (x j : Nat) (h : x < 18446744073709551616) : wd x j = if j = 0 then x else 0 := by
  unfold wd
  cases j with
  | zero => rw [Nat.pow_zero, Nat.div_one, if_pos rfl, Nat.mod_eq_of_lt h]
  | succ k =>
    rw [if_neg (by omega), Nat.div_eq_of_lt, Nat.zero_mod]
    exact Nat.lt_of_lt_of_le h (by
      have h := Nat.pow_le_pow_right (show 0 < 18446744073709551616 by decide) (show 1 ≤ k + 1 by omega)
      rwa [Nat.pow_one] at h)
theorem wd_mod_top (V j : Nat) (h : j < 4) : wd (V % top) j = if j = 3 then wd V 3 % 9223372036854775808 else wd V j := by
  unfold wd
  by_cases e : j = 3
  · subst e
    rw [if_pos rfl, top_W, Nat.mod_mul_right_div_self]
    omega
  · rw [if_neg e]
    have e2 : top = 18446744073709551616 ^ j * (18446744073709551616 * (18446744073709551616 ^ (2 - j) * 9223372036854775808)) := by
      rw [top_W, show 3 = j + 1 + (2 - j) by omega, Nat.pow_add, Nat.pow_succ]
      ac_rfl
    rw [e2, Nat.mod_mul_right_div_self, Nat.mod_mul_right_mod]
/-- The word that holds the highest digit. -/
theorem wd_high (V : Nat) (h : V < B4) : wd V 3 / 9223372036854775808 = V / top := by
  have e : wd V 3 = V / 18446744073709551616 ^ 3 := by
    unfold wd
    refine Nat.mod_eq_of_lt ?_
    rw [Nat.div_lt_iff_lt_mul (powW_pos 3)]
    rw [B4_eq] at h
    exact h
  rw [e, Nat.div_div_eq_div_mul, ← top_W]
theorem wd_high_lt (V : Nat) (h : V < B4) : wd V 3 < 9223372036854775808 ↔ V < top := by
  have h1 := wd_high V h
  constructor
  · intro h2
    rw [Nat.div_eq_of_lt h2] at h1
    apply Classical.byContradiction
    intro hn
    have h3 : 0 < V / top := Nat.div_pos (by omega) top_pos
    rw [← h1] at h3
    exact Nat.lt_irrefl 0 h3
  · intro h2
    rw [Nat.div_eq_of_lt h2] at h1
    omega
/-- What stands above 2^255 is 19 times itself, over 2^256 too. -/
theorem over_eq (W t : Nat) : (W + t * B4) / top = 2 * t + W / top := by
  rw [B4_top, show W + t * (2 * top) = W + top * (2 * t) by rw [← Nat.mul_assoc, Nat.mul_comm t 2, Nat.mul_comm]]
  rw [Nat.add_mul_div_left _ _ top_pos, Nat.add_comm]
theorem low_eq (W t : Nat) : (W + t * B4) % top = W % top := by
  rw [B4_top, show W + t * (2 * top) = W + top * (2 * t) by rw [← Nat.mul_assoc, Nat.mul_comm t 2, Nat.mul_comm], Nat.add_mul_mod_self_left]
theorem over_lt (W : Nat) (h : W < B4) : W / top < 2 := by rw [Nat.div_lt_iff_lt_mul top_pos, ← B4_top]; exact h
theorem reduced_mod (W t : Nat) : (W % top + (2 * t + W / top) * 19) % p25 = (W + t * B4) % p25 := by
  have h := passV_mod (W + t * B4)
  unfold passV at h
  rw [over_eq, low_eq] at h
  rw [← h, Nat.mul_comm 19]
theorem reduced_lt (W t : Nat) (hW : W < B4) (ht : t < 2 ^ 58) : W % top + (2 * t + W / top) * 19 + 19 < top + p25 ∧ (2 * t + W / top) * 19 < 18446744073709551616 := by
  have h1 := over_lt W hW
  have h2 := Nat.mod_lt W top_pos
  have h3 : 18446744073709551616 + 19 < p25 := by decide +kernel
  generalize W / top = o at *
  generalize W % top = l at *
  generalize top = T at *
  generalize p25 = q at *
  omega
theorem cut_p (S : Nat) (h : S + 19 < top + p25) : (if S + 19 < top then S else (S + 19) % top) = S % p25 := by
  have e := top_p
  have hp := p25_pos
  have h0 : 19 < p25 := by decide +kernel
  generalize top = T at *
  subst e
  generalize p25 = q at *
  by_cases h1 : S + 19 < q + 19
  · rw [if_pos h1, Nat.mod_eq_of_lt (by omega)]
  · rw [if_neg h1, show S + 19 = (S - q) + (q + 19) by omega, Nat.add_mod_right, Nat.mod_eq_of_lt (show S - q < q + 19 by omega)]
    conv => rhs; rw [show S = (S - q) + q by omega, Nat.add_mod_right, Nat.mod_eq_of_lt (show S - q < q by omega)]
/-- A row of words with one place set. -/
def setAt (f : Nat → Nat) (i x : Nat) : Nat → Nat := fun j => if j = i then x else f j
theorem valW_setAt (f : Nat → Nat) (i x : Nat) : ∀ n, i < n → valW (setAt f i x) n + f i * 18446744073709551616 ^ i = valW f n + x * 18446744073709551616 ^ i
  | 0, h => by omega
  | n + 1, h => by
    rw [valW, valW]
    by_cases e : i = n
    · subst e
      have : valW (setAt f i x) i = valW f i := valW_congr i fun j hj => by unfold setAt; rw [if_neg (by omega)]
      rw [this]
      unfold setAt
      rw [if_pos rfl]
      omega
    · have h2 := valW_setAt f i x n (by omega)
      have : setAt f i x n = f n := by unfold setAt; rw [if_neg (by omega)]
      rw [this]
      omega
theorem mulW_row (A C i : Nat) (hC : C < B4) : mulW A C i 4 = mulW A C (i + 1) 0 := by
  unfold mulW
  rw [wd_all _ hC]
  show _ = (valW (wd A) i + wd A i * 18446744073709551616 ^ i) * C + wd A (i + 1) * 18446744073709551616 ^ (i + 1) * 0
  rw [Nat.add_mul]
  omega
theorem mulW_zero (A C : Nat) : mulW A C 0 0 = 0 := by simp [mulW, valW]
theorem mulW_all (A C : Nat) (hA : A < B4) : mulW A C 4 0 = A * C := by
  unfold mulW
  rw [wd_all _ hA]
  show A * C + _ * 0 = _
  omega
/-- One place of the product: what is written, and what is carried on. -/
theorem mulW_in (A C : Nat) (f : Nat → Nat) (i k c lo hi : Nat) (hik : i + k < 8) (h : valW f 8 + c * 18446744073709551616 ^ (i + k) = mulW A C i k) (hp : wd A i * wd C k + f (i + k) + c = lo + hi * 18446744073709551616) :
    valW (setAt f (i + k) lo) 8 + hi * 18446744073709551616 ^ (i + (k + 1)) = mulW A C i (k + 1) := by
  have h1 := valW_setAt f (i + k) lo 8 hik
  rw [mulW_step, ← h, show i + (k + 1) = i + k + 1 by omega, Nat.pow_succ]
  generalize 18446744073709551616 ^ (i + k) = Z at *
  have h2 : (wd A i * wd C k + f (i + k) + c) * Z = (lo + hi * 18446744073709551616) * Z := by rw [hp]
  rw [Nat.add_mul, Nat.add_mul, Nat.add_mul] at h2
  have h3 : hi * 18446744073709551616 * Z = hi * (Z * 18446744073709551616) := by ac_rfl
  omega
theorem mulW_out (A C : Nat) (f : Nat → Nat) (i c : Nat) (hi : i < 4) (hC : C < B4) (h : valW f 8 + c * 18446744073709551616 ^ (i + 4) = mulW A C i 4) (h0 : f (i + 4) = 0) : valW (setAt f (i + 4) c) 8 = mulW A C (i + 1) 0 := by
  have h1 := valW_setAt f (i + 4) c 8 (by omega)
  rw [h0, Nat.zero_mul, Nat.add_zero] at h1
  rw [h1, h, mulW_row A C i hC]
/-- The upper half comes down to the lower one. -/
def foldW (f : Nat → Nat) (j : Nat) : Nat := valW f j + 38 * valW (fun i => f (i + 4)) j
theorem foldW_step (f : Nat → Nat) (g c lo hi j : Nat) (h : g + c * 18446744073709551616 ^ j = foldW f j) (hp : f (j + 4) * 38 + f j + c = lo + hi * 18446744073709551616) :
    g + lo * 18446744073709551616 ^ j + hi * 18446744073709551616 ^ (j + 1) = foldW f (j + 1) := by
  unfold foldW at *
  rw [valW, valW, Nat.pow_succ, Nat.mul_add]
  generalize 18446744073709551616 ^ j = Z at *
  have h2 : (f (j + 4) * 38 + f j + c) * Z = (lo + hi * 18446744073709551616) * Z := by rw [hp]
  rw [Nat.add_mul, Nat.add_mul, Nat.add_mul] at h2
  have h3 : hi * 18446744073709551616 * Z = hi * (Z * 18446744073709551616) := by ac_rfl
  have h4 : f (j + 4) * 38 * Z = 38 * (f (j + 4) * Z) := by ac_rfl
  omega
theorem foldW_mod (f : Nat → Nat) : foldW f 4 % p25 = valW f 8 % p25 := by
  unfold foldW
  rw [show (8 : Nat) = 4 + 4 from rfl, valW_split f 4 4]
  have e : 18446744073709551616 ^ 4 = 38 + p25 * 2 := by decide +kernel
  have e2 : (fun j => f (4 + j)) = fun i => f (i + 4) := funext fun j => by rw [Nat.add_comm]
  rw [e, e2, Nat.add_mul, Nat.mul_assoc]
  generalize valW (fun i => f (i + 4)) 4 = W
  rw [← Nat.add_assoc, Nat.add_mul_mod_self_left]
end Go.Proofs.Ytnoppemclfnlcaa
