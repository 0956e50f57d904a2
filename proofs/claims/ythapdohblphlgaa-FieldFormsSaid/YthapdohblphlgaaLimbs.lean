/- Numbers in parts of 16 binary digits: what is carried, what is less, what is taken off; of no world. -/
import Derived.Test.YthapdohblphlgaaFieldM
namespace Go.Proofs.Ythapdohblphlgaa

/-- The digit of 16 binary digits at a place; so many parts as a number. -/
def dig (V j : Nat) : Nat := V / 65536 ^ j % 65536
def valL (f : Nat → Nat) : Nat → Nat
  | 0 => 0
  | j + 1 => valL f j + f j * 65536 ^ j
theorem dig_lt (V j : Nat) : dig V j < 65536 := Nat.mod_lt _ (by decide)
theorem dig_zero (V : Nat) : dig V 0 = V % 65536 := by unfold dig; rw [Nat.pow_zero, Nat.div_one]
theorem powB_pos (j : Nat) : 0 < 65536 ^ j := Nat.pow_pos (by decide)
theorem valL_congr {f g : Nat → Nat} : ∀ n, (∀ j, j < n → f j = g j) → valL f n = valL g n
  | 0, _ => rfl
  | n + 1, h => by rw [valL, valL, valL_congr n (fun j hj => h j (by omega)), h n (by omega)]
theorem valL_dig (V : Nat) : ∀ n, valL (dig V) n = V % 65536 ^ n
  | 0 => by rw [Nat.pow_zero, Nat.mod_one]; rfl
  | n + 1 => by
    rw [valL, valL_dig V n, Nat.pow_succ, Nat.mod_mul]
    unfold dig
    rw [Nat.mul_comm]
theorem valL_all (V n : Nat) (h : V < 65536 ^ n) : valL (dig V) n = V := by rw [valL_dig, Nat.mod_eq_of_lt h]
/-- The digit of a sum of parts hangs on the parts up to its place. -/
theorem valL_le_add (f : Nat → Nat) (i : Nat) : ∀ d, ∃ r, valL f (i + d) = valL f i + 65536 ^ i * r
  | 0 => ⟨0, by simp⟩
  | d + 1 => by
    obtain ⟨r, hr⟩ := valL_le_add f i d
    refine ⟨r + f (i + d) * 65536 ^ d, ?_⟩
    show valL f (i + d) + f (i + d) * 65536 ^ (i + d) = _
    rw [hr, Nat.mul_add, Nat.pow_add]
    have : f (i + d) * (65536 ^ i * 65536 ^ d) = 65536 ^ i * (f (i + d) * 65536 ^ d) := by ac_rfl
    omega
theorem dig_valL (f : Nat → Nat) (i n : Nat) (h : i < n) : dig (valL f n) i = (f i + valL f i / 65536 ^ i) % 65536 := by
  obtain ⟨r, hr⟩ := valL_le_add f (i + 1) (n - (i + 1))
  rw [show i + 1 + (n - (i + 1)) = n by omega] at hr
  unfold dig
  rw [hr, valL, Nat.pow_succ]
  have e : valL f i + f i * 65536 ^ i + 65536 ^ i * 65536 * r = valL f i + 65536 ^ i * (f i + 65536 * r) := by
    rw [Nat.mul_add, Nat.mul_assoc, Nat.mul_comm (f i)]; omega
  rw [e, Nat.add_mul_div_left _ _ (powB_pos i)]
  omega
/-- What is carried to a place. -/
theorem carry_step (f : Nat → Nat) (i : Nat) : valL f (i + 1) / 65536 ^ (i + 1) = (f i + valL f i / 65536 ^ i) / 65536 := by
  rw [valL, Nat.pow_succ, ← Nat.div_div_eq_div_mul, Nat.add_mul_div_right _ _ (powB_pos i), Nat.add_comm]
theorem carry_le (f : Nat → Nat) (M : Nat) (hM : ∀ j, f j ≤ M) : ∀ i, valL f i / 65536 ^ i ≤ M
  | 0 => by simp [valL]
  | i + 1 => by
    rw [carry_step]
    have := hM i
    have := carry_le f M hM i
    omega
theorem valL_lt (f : Nat → Nat) (M : Nat) (hM : ∀ j, f j ≤ M) (i : Nat) : valL f i < (M + 1) * 65536 ^ i := by
  have h := carry_le f M hM i
  have h2 := Nat.div_add_mod (valL f i) (65536 ^ i)
  have h3 := Nat.mod_lt (valL f i) (powB_pos i)
  have h4 : 65536 ^ i * (valL f i / 65536 ^ i) ≤ 65536 ^ i * M := Nat.mul_le_mul_left _ h
  rw [Nat.add_mul, Nat.one_mul, Nat.mul_comm M]
  omega

/-! ### 2^255 - 19 -/
def p25 : Nat := 57896044618658097711785492504343953926634992332820282019728792003956564819949
theorem p25_eq : p25 = 2 ^ 255 - 19 := by decide +kernel
def top : Nat := 57896044618658097711785492504343953926634992332820282019728792003956564819968
theorem top_eq : top = 2 ^ 255 := by decide +kernel
theorem top_p : top = p25 + 19 := by decide +kernel
theorem top_B : top = 65536 ^ 15 * 32768 := by decide +kernel
theorem B16 : 65536 ^ 16 = 2 * top := by decide +kernel
theorem p25_pos : 0 < p25 := by decide +kernel
theorem top_pos : 0 < top := by decide +kernel

/-- One pass: what stands above is 19 times itself. -/
def passV (V : Nat) : Nat := V % top + 19 * (V / top)
def passF (V : Nat) : Nat → Nat := fun j => if j = 0 then dig V 0 + 19 * (V / top) else if j = 15 then dig V 15 % 32768 else dig V j
theorem passV_mod (V : Nat) : passV V % p25 = V % p25 := by
  have h := Nat.div_add_mod V top
  have e : V = passV V + p25 * (V / top) := by
    unfold passV
    rw [top_p] at *
    rw [Nat.add_mul] at h
    omega
  conv => rhs; rw [e, Nat.add_mul_mod_self_left]
theorem dig_mod_top (V j : Nat) (h : j < 16) : dig (V % top) j = if j = 15 then dig V 15 % 32768 else dig V j := by
  unfold dig
  by_cases e : j = 15
  · subst e
    rw [if_pos rfl, top_B, Nat.mod_mul_right_div_self]
    omega
  · rw [if_neg e]
    have e2 : top = 65536 ^ j * (65536 * (65536 ^ (14 - j) * 32768)) := by
      rw [top_B, show 15 = j + 1 + (14 - j) by omega, Nat.pow_add, Nat.pow_succ]
      ac_rfl
    rw [e2, Nat.mod_mul_right_div_self, Nat.mod_mul_right_mod]
theorem valL_add0 (f : Nat → Nat) (c : Nat) : ∀ n, valL (fun j => if j = 0 then f 0 + c else f j) (n + 1) = valL f (n + 1) + c
  | 0 => by simp [valL]
  | n + 1 => by
    rw [valL, valL_add0 f c n]
    conv => rhs; rw [valL]
    rw [if_neg (by omega)]
    omega
theorem valL_passF (V : Nat) : valL (passF V) 16 = passV V := by
  have e : valL (passF V) 16 = valL (fun j => if j = 0 then dig (V % top) 0 + 19 * (V / top) else dig (V % top) j) 16 := by
    refine valL_congr 16 fun j hj => ?_
    unfold passF
    by_cases h0 : j = 0
    · subst h0
      rw [if_pos rfl, if_pos rfl, dig_mod_top V 0 (by decide), if_neg (by decide)]
    · rw [if_neg h0, if_neg h0, dig_mod_top V j hj]
  rw [e, valL_add0 (dig (V % top)) _ 15, valL_all _ 16 (by
    have := Nat.mod_lt V top_pos
    have := B16
    omega)]
  rfl
/-- 38 times the carry, and 19 times the highest digit. -/
theorem pass_top (V : Nat) : 38 * (V / 65536 ^ 16) + 19 * (dig V 15 / 32768) = 19 * (V / top) := by
  have h : V / top = V / 65536 ^ 15 / 32768 := by rw [top_B, Nat.div_div_eq_div_mul]
  have h2 : V / 65536 ^ 16 = V / 65536 ^ 15 / 65536 := by rw [Nat.div_div_eq_div_mul]
  rw [h, h2]
  unfold dig
  omega
def thrice (V : Nat) : Nat := passV (passV V)
theorem thrice_lt (V : Nat) (h : V < 2 ^ 46 * top) : passV V < top + 19 * 2 ^ 46 ∧ thrice V < top := by
  have hp := top_pos
  have ht : 19 * 2 ^ 46 + 19 < top := by decide +kernel
  unfold thrice passV
  generalize top = T at *
  have h1 : V / T < 2 ^ 46 := by rw [Nat.div_lt_iff_lt_mul hp]; exact h
  have h2 := Nat.mod_lt V hp
  have h3 : V % T + 19 * (V / T) < T + 19 * 2 ^ 46 := by omega
  refine ⟨h3, ?_⟩
  generalize V % T + 19 * (V / T) = W at *
  by_cases hW : W < T
  · rw [Nat.mod_eq_of_lt hW, Nat.div_eq_of_lt hW]
    omega
  · have e3 := Nat.mod_lt W hp
    have e2 := Nat.div_add_mod W T
    have e4 : W / T < 2 := by rw [Nat.div_lt_iff_lt_mul hp]; omega
    have e5 : 0 < W / T := Nat.div_pos (by omega) hp
    have e1 : W / T = 1 := by omega
    rw [e1, Nat.mul_one] at e2
    rw [e1]
    omega
theorem pass_low (V : Nat) (h : V < top) : passF V 0 = dig V 0 ∧ ∀ j, j < 16 → passF V j = dig V j := by
  have h0 : passF V 0 = dig V 0 := by unfold passF; rw [if_pos rfl, Nat.div_eq_of_lt h]; omega
  refine ⟨h0, fun j hj => ?_⟩
  by_cases e : j = 0
  · subst e; exact h0
  · have := dig_mod_top V j hj
    rw [Nat.mod_eq_of_lt h] at this
    unfold passF
    rw [if_neg e]
    exact this.symm

/-! ### Sums digit by digit -/
def addC (D P i : Nat) : Nat := (D % 65536 ^ i + P % 65536 ^ i) / 65536 ^ i
theorem addC_zero (D P : Nat) : addC D P 0 = 0 := by simp [addC, Nat.mod_one]
theorem addC_le (D P i : Nat) : addC D P i ≤ 1 := by
  unfold addC
  have h1 := Nat.mod_lt D (powB_pos i)
  have h2 := Nat.mod_lt P (powB_pos i)
  have : (D % 65536 ^ i + P % 65536 ^ i) / 65536 ^ i < 2 := by rw [Nat.div_lt_iff_lt_mul (powB_pos i)]; omega
  omega
theorem add_dig (D P i : Nat) : dig (D + P) i + 65536 * addC D P (i + 1) = dig D i + dig P i + addC D P i := by
  have e1 : (D + P) / 65536 ^ i = D / 65536 ^ i + P / 65536 ^ i + addC D P i := by
    have h1 := Nat.div_add_mod D (65536 ^ i)
    have h2 := Nat.div_add_mod P (65536 ^ i)
    have e : D + P = (D % 65536 ^ i + P % 65536 ^ i) + 65536 ^ i * (D / 65536 ^ i + P / 65536 ^ i) := by rw [Nat.mul_add]; omega
    unfold addC
    rw [e, Nat.add_mul_div_left _ _ (powB_pos i)]
    omega
  have e2 : addC D P (i + 1) = (addC D P i + dig D i + dig P i) / 65536 := by
    unfold addC dig
    rw [Nat.pow_succ, Nat.mod_mul, Nat.mod_mul, ← Nat.div_div_eq_div_mul]
    have e : D % 65536 ^ i + 65536 ^ i * (D / 65536 ^ i % 65536) + (P % 65536 ^ i + 65536 ^ i * (P / 65536 ^ i % 65536)) = (D % 65536 ^ i + P % 65536 ^ i) + 65536 ^ i * (D / 65536 ^ i % 65536 + P / 65536 ^ i % 65536) := by rw [Nat.mul_add]; omega
    rw [e, Nat.add_mul_div_left _ _ (powB_pos i)]
    omega
  rw [e2]
  unfold dig
  rw [e1]
  omega
/-- Which is less: by the greatest digit that is not alike. -/
theorem less_at (V P i : Nat) (h : V / 65536 ^ (i + 1) = P / 65536 ^ (i + 1)) (hne : dig V i ≠ dig P i) : dig V i < dig P i ↔ V < P := by
  have e : ∀ X : Nat, X / 65536 ^ i = 65536 * (X / 65536 ^ (i + 1)) + dig X i := fun X => by
    unfold dig
    rw [Nat.pow_succ, ← Nat.div_div_eq_div_mul]
    omega
  have h1 := e V
  have h2 := e P
  rw [h] at h1
  constructor
  · intro hlt
    apply Classical.byContradiction
    intro hn
    have := Nat.div_le_div_right (c := 65536 ^ i) (show P ≤ V by omega)
    omega
  · intro hlt
    have := Nat.div_le_div_right (c := 65536 ^ i) (show V ≤ P by omega)
    omega
theorem same_at (V P i : Nat) (h : V / 65536 ^ (i + 1) = P / 65536 ^ (i + 1)) (he : dig V i = dig P i) : V / 65536 ^ i = P / 65536 ^ i := by
  have e : ∀ X : Nat, X / 65536 ^ i = 65536 * (X / 65536 ^ (i + 1)) + dig X i := fun X => by
    unfold dig
    rw [Nat.pow_succ, ← Nat.div_div_eq_div_mul]
    omega
  rw [e V, e P, h, he]
end Go.Proofs.Ythapdohblphlgaa
