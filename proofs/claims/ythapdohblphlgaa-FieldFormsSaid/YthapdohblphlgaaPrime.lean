/- Primes without a library: Euclid, Fermat (by binomials), Pocklington, powers by the kernel. -/
import Init
namespace Go.Proofs.Ythapdohblphlgaa

def IsPrime (p : Nat) : Prop := 2 ≤ p ∧ ∀ d, d ∣ p → d = 1 ∨ d = p

theorem IsPrime.coprime {p a : Nat} (hp : IsPrime p) (h : ¬ p ∣ a) : Nat.Coprime p a := by
  have hg := hp.2 (Nat.gcd p a) (Nat.gcd_dvd_left p a)
  rcases hg with hg | hg
  · exact hg
  · exact absurd (hg ▸ Nat.gcd_dvd_right p a) h
theorem IsPrime.dvd_mul {p a b : Nat} (hp : IsPrime p) (h : p ∣ a * b) : p ∣ a ∨ p ∣ b := by
  by_cases ha : p ∣ a
  · exact .inl ha
  · exact .inr ((hp.coprime ha).dvd_of_dvd_mul_left h)

theorem exists_prime_dvd : ∀ n : Nat, 2 ≤ n → ∃ p, IsPrime p ∧ p ∣ n := by
  intro n
  induction n using Nat.strongRecOn with
  | _ n ih =>
    intro hn
    by_cases hp : IsPrime n
    · exact ⟨n, hp, Nat.dvd_refl n⟩
    · have : ∃ d, d ∣ n ∧ d ≠ 1 ∧ d ≠ n := by
        apply Classical.byContradiction
        intro hno
        apply hp
        refine ⟨hn, fun d hd => ?_⟩
        apply Classical.byContradiction
        intro h
        exact hno ⟨d, hd, fun e => h (.inl e), fun e => h (.inr e)⟩
      obtain ⟨d, hd, h1, h2⟩ := this
      have hdle := Nat.le_of_dvd (by omega) hd
      have hd0 : d ≠ 0 := by intro e; subst e; have := Nat.eq_zero_of_zero_dvd hd; omega
      obtain ⟨q, hq, hqd⟩ := ih d (by omega) (by omega)
      exact ⟨q, hq, Nat.dvd_trans hqd hd⟩

/-! ### Binomials -/
def choose : Nat → Nat → Nat
  | _, 0 => 1
  | 0, _ + 1 => 0
  | n + 1, k + 1 => choose n k + choose n (k + 1)
theorem choose_zero (n : Nat) : choose n 0 = 1 := by cases n <;> rfl
theorem choose_gt : ∀ n k, n < k → choose n k = 0
  | 0, 0, h => by omega
  | 0, k + 1, _ => rfl
  | n + 1, 0, h => by omega
  | n + 1, k + 1, h => by
    show choose n k + choose n (k + 1) = 0
    rw [choose_gt n k (by omega), choose_gt n (k + 1) (by omega)]
theorem choose_self : ∀ n, choose n n = 1
  | 0 => rfl
  | n + 1 => by
    show choose n n + choose n (n + 1) = 1
    rw [choose_self n, choose_gt n (n + 1) (by omega)]
theorem choose_mul : ∀ n k, (n + 1) * choose n k = choose (n + 1) (k + 1) * (k + 1)
  | 0, 0 => rfl
  | 0, k + 1 => by
    show 1 * 0 = (choose 0 (k + 1) + choose 0 (k + 1 + 1)) * (k + 1 + 1)
    rw [choose_gt 0 (k + 1) (by omega), choose_gt 0 (k + 1 + 1) (by omega)]
    omega
  | n + 1, 0 => by
    have h := choose_mul n 0
    rw [choose_zero] at h ⊢
    show (n + 1 + 1) * 1 = (choose (n + 1) 0 + choose (n + 1) (0 + 1)) * (0 + 1)
    rw [choose_zero]
    omega
  | n + 1, k + 1 => by
    have h1 := choose_mul n k
    have h2 := choose_mul n (k + 1)
    show (n + 1 + 1) * (choose n k + choose n (k + 1)) = (choose (n + 1) (k + 1) + choose (n + 1) (k + 1 + 1)) * (k + 1 + 1)
    have e1 : (choose (n + 1) (k + 1) + choose (n + 1) (k + 1 + 1)) * (k + 1 + 1) = choose (n + 1) (k + 1) * (k + 1) + choose (n + 1) (k + 1) + choose (n + 1) (k + 1 + 1) * (k + 1 + 1) := by
      rw [Nat.add_mul, Nat.mul_succ]
    rw [e1, ← h1, ← h2]
    have e2 : choose (n + 1) (k + 1) = choose n k + choose n (k + 1) := rfl
    rw [e2, Nat.succ_mul (n + 1), Nat.mul_add]
    omega
theorem IsPrime.dvd_choose {p : Nat} (hp : IsPrime p) (k : Nat) (hk : k + 1 < p) : p ∣ choose p (k + 1) := by
  obtain ⟨n, rfl⟩ : ∃ n, p = n + 1 := ⟨p - 1, by omega⟩
  have h := choose_mul n k
  have hd : (n + 1) ∣ choose (n + 1) (k + 1) * (k + 1) := ⟨choose n k, h.symm⟩
  rcases hp.dvd_mul hd with h1 | h1
  · exact h1
  · have := Nat.le_of_dvd (by omega) h1
    omega

/-- C n 0 + C n 1 a + .. : so many terms. -/
def bin (a n : Nat) : Nat → Nat
  | 0 => 0
  | m + 1 => bin a n m + choose n m * a ^ m
theorem bin_succ (a n : Nat) : ∀ m, bin a (n + 1) (m + 1) = bin a n (m + 1) + a * bin a n m
  | 0 => by simp [bin, choose_zero]
  | m + 1 => by
    rw [bin, bin_succ a n m]
    have e1 : choose (n + 1) (m + 1) = choose n m + choose n (m + 1) := rfl
    have e2 : bin a n (m + 1 + 1) = bin a n (m + 1) + choose n (m + 1) * a ^ (m + 1) := rfl
    have e3 : bin a n (m + 1) = bin a n m + choose n m * a ^ m := rfl
    rw [e2]
    conv => rhs; rw [e3]
    have e4 : a * (bin a n m + choose n m * a ^ m) = a * bin a n m + choose n m * a ^ (m + 1) := by
      rw [Nat.mul_add, Nat.pow_succ, ← Nat.mul_assoc, Nat.mul_comm a (choose n m), Nat.mul_assoc, Nat.mul_comm a (a ^ m)]
    rw [e4, e1, Nat.add_mul]
    rw [e3]
    omega
theorem bin_all (a : Nat) : ∀ n, bin a n (n + 1) = (a + 1) ^ n
  | 0 => by simp [bin, choose]
  | n + 1 => by
    rw [bin_succ]
    have e : bin a n (n + 1 + 1) = bin a n (n + 1) := by
      show bin a n (n + 1) + choose n (n + 1) * a ^ (n + 1) = _
      rw [choose_gt n (n + 1) (by omega)]
      omega
    rw [e, bin_all a n, Nat.pow_succ, Nat.mul_add, Nat.mul_comm]
    omega
theorem bin_mod {p : Nat} (hp : IsPrime p) (a : Nat) : ∀ m, m < p → bin a p (m + 1) % p = 1 % p
  | 0, _ => by simp [bin, choose_zero]
  | m + 1, h => by
    show (bin a p (m + 1) + choose p (m + 1) * a ^ (m + 1)) % p = 1 % p
    obtain ⟨c, hc⟩ := hp.dvd_choose m h
    rw [hc, Nat.mul_assoc, Nat.add_mul_mod_self_left]
    exact bin_mod hp a m (by omega)
theorem fermat {p : Nat} (hp : IsPrime p) : ∀ a : Nat, a ^ p % p = a % p
  | 0 => by rw [Nat.zero_pow (by have := hp.1; omega)]
  | a + 1 => by
    have h2 := hp.1
    rw [← bin_all a p]
    show (bin a p p + choose p p * a ^ p) % p = _
    rw [choose_self, Nat.one_mul]
    obtain ⟨m, rfl⟩ : ∃ m, p = m + 1 := ⟨p - 1, by omega⟩
    rw [Nat.add_mod, bin_mod hp a m (by omega), fermat hp a, ← Nat.add_mod, Nat.add_comm 1 a]
theorem fermat1 {p : Nat} (hp : IsPrime p) (a : Nat) (h : ¬ p ∣ a) : a ^ (p - 1) % p = 1 := by
  have h2 := hp.1
  have hf := fermat hp a
  obtain ⟨m, rfl⟩ : ∃ m, p = m + 1 := ⟨p - 1, by omega⟩
  rw [Nat.add_sub_cancel]
  have ha : 0 < a := by
    rcases Nat.eq_zero_or_pos a with e | e
    · subst e; exact absurd (Nat.dvd_zero _) h
    · exact e
  have hpos : 0 < a ^ m := Nat.pow_pos ha
  have hle : a ≤ a ^ (m + 1) := by rw [Nat.pow_succ]; exact Nat.le_mul_of_pos_left a hpos
  have hd : (m + 1) ∣ a ^ (m + 1) - a := Nat.dvd_of_mod_eq_zero (Nat.sub_mod_eq_zero_of_mod_eq hf)
  have e : a ^ (m + 1) - a = (a ^ m - 1) * a := by rw [Nat.sub_mul, Nat.one_mul, Nat.pow_succ]
  rw [e] at hd
  rcases hp.dvd_mul hd with h1 | h1
  · obtain ⟨c, hc⟩ := h1
    have : a ^ m = 1 + (m + 1) * c := by omega
    rw [this, Nat.add_mul_mod_self_left, Nat.mod_eq_of_lt (by omega)]
  · exact absurd h1 h

/-! ### Exponents -/
theorem pow_mod' (a n p : Nat) : (a % p) ^ n % p = a ^ n % p := (Nat.pow_mod a n p).symm
theorem one_of_mul {a x p : Nat} (hp : 2 ≤ p) (h : a ^ x % p = 1) (k : Nat) : a ^ (x * k) % p = 1 := by
  rw [Nat.pow_mul, Nat.pow_mod, h, Nat.one_pow, Nat.mod_eq_of_lt (by omega)]
/-- What two exponents do their greatest common divisor does. -/
theorem one_of_gcd {a p : Nat} (hp : 2 ≤ p) : ∀ (x y : Nat), a ^ x % p = 1 → a ^ y % p = 1 → a ^ (Nat.gcd x y) % p = 1 := by
  intro x
  induction x using Nat.strongRecOn with
  | _ x ih =>
    intro y hx hy
    by_cases h0 : x = 0
    · subst h0; rw [Nat.gcd_zero_left]; exact hy
    · rw [Nat.gcd_rec]
      refine ih (y % x) (Nat.mod_lt _ (by omega)) x ?_ hx
      have e : y = x * (y / x) + y % x := (Nat.div_add_mod y x).symm
      rw [e, Nat.pow_add, Nat.mul_mod, one_of_mul hp hx, Nat.one_mul, Nat.mod_mod] at hy
      exact hy

/-- Pocklington: a prime of N's has q in what is one less. -/
theorem dvd_pred {N q m a r : Nat} (hq : IsPrime q) (hN : N - 1 = q * m) (h1 : a ^ (N - 1) % N = 1) (hg : Nat.gcd (a ^ m % N + N - 1) N = 1) (hN2 : 2 ≤ N) (hr : IsPrime r) (hd : r ∣ N) : q ∣ r - 1 := by
  apply Classical.byContradiction
  intro hno
  have hr2 := hr.1
  have h1r : a ^ (N - 1) % r = 1 := by
    have := congrArg (· % r) h1
    simp only [Nat.mod_mod_of_dvd _ hd] at this
    rw [this, Nat.mod_eq_of_lt (by omega)]
  have hra : ¬ r ∣ a := by
    intro hra
    have : r ∣ a ^ (N - 1) := Nat.dvd_trans hra (by obtain ⟨t, ht⟩ : ∃ t, N - 1 = t + 1 := ⟨N - 2, by omega⟩; rw [ht, Nat.pow_succ]; exact Nat.dvd_mul_left _ _)
    have := Nat.mod_eq_zero_of_dvd this
    omega
  have hf := fermat1 hr a hra
  have hgq : Nat.gcd (q * m) (r - 1) = Nat.gcd m (r - 1) := Nat.Coprime.gcd_mul_left_cancel m (hq.coprime hno)
  have hone := one_of_gcd hr2 _ _ h1r hf
  rw [hN, hgq] at hone
  obtain ⟨c, hc⟩ := Nat.gcd_dvd_left m (r - 1)
  have hm : a ^ m % r = 1 := by
    rw [hc]
    exact one_of_mul hr2 hone c
  -- r divides a^m % N - 1
  have hmN : a ^ m % N % r = 1 := by rw [Nat.mod_mod_of_dvd _ hd]; exact hm
  have hdv : r ∣ a ^ m % N + N - 1 := by
    generalize a ^ m % N = b at *
    obtain ⟨k, hk⟩ := hd
    have hb : b = 1 + r * (b / r) := by have := Nat.div_add_mod b r; omega
    refine ⟨b / r + k, ?_⟩
    rw [Nat.mul_add, ← hk]
    omega
  have := Nat.dvd_gcd hdv hd
  rw [hg] at this
  have := Nat.le_of_dvd (by omega) this
  omega

theorem prime_of_great {N F : Nat} (hN2 : 2 ≤ N) (hF : N < F * F) (h : ∀ r, IsPrime r → r ∣ N → F ≤ r) : IsPrime N := by
  refine ⟨hN2, fun d hd => ?_⟩
  apply Classical.byContradiction
  intro hno
  obtain ⟨e, he⟩ := hd
  have hd0 : d ≠ 0 := by intro h0; subst h0; omega
  have hd1 : d ≠ 1 := fun h1 => hno (.inl h1)
  have he0 : e ≠ 0 := by intro h0; subst h0; omega
  have he1 : e ≠ 1 := by intro h1; subst h1; exact hno (.inr (by omega))
  obtain ⟨r, hr, hrd⟩ := exists_prime_dvd d (by omega)
  obtain ⟨s, hs, hse⟩ := exists_prime_dvd e (by omega)
  have h1 := h r hr (Nat.dvd_trans hrd ⟨e, he⟩)
  have h2 := h s hs (Nat.dvd_trans hse ⟨d, by rw [he, Nat.mul_comm]⟩)
  have h3 := Nat.le_of_dvd (by omega) hrd
  have h4 := Nat.le_of_dvd (by omega) hse
  have : F * F ≤ d * e := Nat.mul_le_mul (by omega) (by omega)
  omega

/-! ### By the kernel -/
def pw (N : Nat) : Nat → Nat → Nat → Nat
  | 0, _, _ => 1 % N
  | f + 1, a, e => if e % 2 = 1 then a * pw N f (a * a % N) (e / 2) % N else pw N f (a * a % N) (e / 2)
theorem pw_eq (N : Nat) : ∀ (f a e : Nat), e < 2 ^ f → pw N f a e = a ^ e % N
  | 0, a, e, h => by
    obtain rfl : e = 0 := by omega
    rfl
  | f + 1, a, e, h => by
    have ih := pw_eq N f (a * a % N) (e / 2) (by rw [Nat.pow_succ] at h; omega)
    have hh : (a * a % N) ^ (e / 2) % N = a ^ (2 * (e / 2)) % N := by
      rw [pow_mod', Nat.pow_mul, Nat.pow_two]
    unfold pw
    rw [ih, hh]
    by_cases ho : e % 2 = 1
    · rw [if_pos ho]
      have e1 : e = 2 * (e / 2) + 1 := by omega
      conv => rhs; rw [e1, Nat.pow_succ]
      rw [Nat.mul_comm (a ^ (2 * (e / 2))) a, Nat.mul_mod, Nat.mod_mod, ← Nat.mul_mod]
    · rw [if_neg ho]
      have e1 : e = 2 * (e / 2) := by omega
      rw [← e1]
/-- No number from 2 to so many divides. -/
def noDiv (n : Nat) : Nat → Bool
  | 0 => true
  | k + 1 => (k + 2 ≥ n || n % (k + 2) != 0) && noDiv n k
theorem noDiv_spec (n : Nat) : ∀ k, noDiv n k = true → ∀ d, 2 ≤ d → d ≤ k + 1 → d < n → ¬ d ∣ n
  | 0, _, d, h1, h2, _ => by omega
  | k + 1, h, d, h1, h2, h3 => by
    simp only [noDiv, Bool.and_eq_true, Bool.or_eq_true, decide_eq_true_eq, bne_iff_ne] at h
    by_cases e : d = k + 2
    · subst e
      rcases h.1 with h4 | h4
      · omega
      · intro hd
        exact h4 (Nat.mod_eq_zero_of_dvd hd)
    · exact noDiv_spec n k h.2 d h1 (by omega) h3
theorem prime_small (n k : Nat) (h2 : 2 ≤ n) (hk : n < (k + 2) * (k + 2)) (h : noDiv n k = true) : IsPrime n := by
  by_cases hs : n ≤ k + 2
  · refine ⟨h2, fun d hd => ?_⟩
    have h3 := Nat.le_of_dvd (by omega) hd
    have h0 : d ≠ 0 := by intro h0; subst h0; have := Nat.eq_zero_of_zero_dvd hd; omega
    apply Classical.byContradiction
    intro hno
    exact noDiv_spec n k h d (by omega) (by omega) (by omega) hd
  · refine prime_of_great (F := k + 2) h2 hk fun r hr hd => ?_
    apply Classical.byContradiction
    intro hlt
    exact noDiv_spec n k h r hr.1 (by omega) (by omega) hd

/-- One prime is enough. -/
theorem prime_by1 {N q m a f : Nat} (hq : IsPrime q) (hN : N - 1 = q * m) (hN2 : 2 ≤ N) (hf : N - 1 < 2 ^ f) (hF : N < (q + 1) * (q + 1)) (h1 : pw N f a (N - 1) = 1) (hg : Nat.gcd (pw N f a m + N - 1) N = 1) : IsPrime N := by
  have hq2 := hq.1
  have hm : m < 2 ^ f := by
    refine Nat.lt_of_le_of_lt ?_ hf
    rw [hN]
    exact Nat.le_mul_of_pos_left m (by omega)
  rw [pw_eq N f a _ hf] at h1
  rw [pw_eq N f a _ hm] at hg
  refine prime_of_great (F := q + 1) hN2 hF fun r hr hd => ?_
  have := dvd_pred hq hN h1 hg hN2 hr hd
  have := Nat.le_of_dvd (by have := hr.1; omega) this
  omega
/-- Two primes. -/
theorem prime_by2 {N q m a f q' m' a' : Nat} (hq : IsPrime q) (hq' : IsPrime q') (hne : q ≠ q') (hN : N - 1 = q * m) (hN' : N - 1 = q' * m') (hN2 : 2 ≤ N) (hf : N - 1 < 2 ^ f) (hF : N < (q * q' + 1) * (q * q' + 1))
    (h1 : pw N f a (N - 1) = 1) (hg : Nat.gcd (pw N f a m + N - 1) N = 1) (h1' : pw N f a' (N - 1) = 1) (hg' : Nat.gcd (pw N f a' m' + N - 1) N = 1) : IsPrime N := by
  have hq2 := hq.1
  have hq2' := hq'.1
  have hm : m < 2 ^ f := by
    refine Nat.lt_of_le_of_lt ?_ hf
    rw [hN]
    exact Nat.le_mul_of_pos_left m (by omega)
  have hm' : m' < 2 ^ f := by
    refine Nat.lt_of_le_of_lt ?_ hf
    rw [hN']
    exact Nat.le_mul_of_pos_left m' (by omega)
  rw [pw_eq N f a _ hf] at h1
  rw [pw_eq N f a _ hm] at hg
  rw [pw_eq N f a' _ hf] at h1'
  rw [pw_eq N f a' _ hm'] at hg'
  refine prime_of_great (F := q * q' + 1) hN2 hF fun r hr hd => ?_
  have d1 := dvd_pred hq hN h1 hg hN2 hr hd
  have d2 := dvd_pred hq' hN' h1' hg' hN2 hr hd
  have hco : Nat.Coprime q q' := hq.coprime (fun h => by
    rcases hq'.2 q h with e | e
    · omega
    · exact hne e)
  have d3 := hco.mul_dvd_of_dvd_of_dvd d1 d2
  have h5 := Nat.le_of_dvd (by have := hr.1; omega) d3
  have h6 := hr.1
  exact Nat.lt_of_le_of_lt h5 (by omega)
end Go.Proofs.Ythapdohblphlgaa
