/- A prime field in words: opposites, inverses, roots; of no world. -/
import Derived.Test.YthapdohblphlgaaPrime
namespace Go.Proofs.Ythapdohblphlgaa

/-- Alike mod p. -/
def Eqm (p a b : Nat) : Prop := a % p = b % p
theorem Eqm.rfl' {p : Nat} (a : Nat) : Eqm p a a := rfl
theorem Eqm.symm {p a b : Nat} (h : Eqm p a b) : Eqm p b a := Eq.symm h
theorem Eqm.trans {p a b c : Nat} (h : Eqm p a b) (k : Eqm p b c) : Eqm p a c := Eq.trans h k
theorem Eqm.add {p a b c d : Nat} (h : Eqm p a b) (k : Eqm p c d) : Eqm p (a + c) (b + d) := by
  unfold Eqm at *; rw [Nat.add_mod, h, k, ← Nat.add_mod]
theorem Eqm.mul {p a b c d : Nat} (h : Eqm p a b) (k : Eqm p c d) : Eqm p (a * c) (b * d) := by
  unfold Eqm at *; rw [Nat.mul_mod, h, k, ← Nat.mul_mod]
theorem Eqm.pow {p a b : Nat} (h : Eqm p a b) (n : Nat) : Eqm p (a ^ n) (b ^ n) := by
  unfold Eqm at *; rw [Nat.pow_mod, h, ← Nat.pow_mod]
theorem Eqm.mod (p a : Nat) : Eqm p (a % p) a := Nat.mod_mod a p
theorem Eqm.of_eq {p a b : Nat} (h : a = b) : Eqm p a b := by subst h; rfl
theorem Eqm.cancel {p a b c : Nat} (h : Eqm p (a + c) (b + c)) : Eqm p a b := by
  unfold Eqm at *
  have h1 := Nat.sub_mod_eq_zero_of_mod_eq h
  have h2 := Nat.sub_mod_eq_zero_of_mod_eq h.symm
  rcases Nat.le_total a b with hab | hab
  · have : b + c - (a + c) = b - a := by omega
    rw [this] at h2
    obtain ⟨k, hk⟩ := Nat.dvd_of_mod_eq_zero h2
    have : b = a + p * k := by omega
    rw [this, Nat.add_mul_mod_self_left]
  · have : a + c - (b + c) = a - b := by omega
    rw [this] at h1
    obtain ⟨k, hk⟩ := Nat.dvd_of_mod_eq_zero h1
    have : a = b + p * k := by omega
    rw [this, Nat.add_mul_mod_self_left]
/-- The opposite. -/
def negP (p a : Nat) : Nat := (p - a % p) % p
theorem negP_add {p : Nat} (hp : 0 < p) (a : Nat) : Eqm p (a + negP p a) 0 := by
  unfold Eqm negP
  have h := Nat.mod_lt a hp
  rw [Nat.add_mod_mod, ← Nat.mod_add_mod]
  rw [show a % p + (p - a % p) = p by omega, Nat.mod_self, Nat.zero_mod]
theorem negP_unique {p a b : Nat} (hp : 0 < p) (h : Eqm p (a + b) 0) : Eqm p b (negP p a) := by
  refine Eqm.cancel (c := a) ?_
  rw [Nat.add_comm b a, Nat.add_comm _ a]
  exact h.trans (negP_add hp a).symm
theorem negP_congr {p a b : Nat} (h : Eqm p a b) : negP p a = negP p b := by
  unfold negP; rw [show a % p = b % p from h]
theorem negP_lt {p : Nat} (hp : 0 < p) (a : Nat) : negP p a < p := Nat.mod_lt _ hp
theorem negP_mul {p : Nat} (hp : 0 < p) (a b : Nat) : Eqm p (negP p a * b) (negP p (a * b)) := by
  refine negP_unique hp ?_
  rw [← Nat.add_mul]
  have := (negP_add hp a).mul (Eqm.rfl' (p := p) b)
  rwa [Nat.zero_mul] at this
theorem negP_neg {p : Nat} (hp : 0 < p) (a : Nat) : Eqm p (negP p (negP p a)) a := by
  refine (negP_unique hp ?_).symm
  rw [Nat.add_comm]
  exact negP_add hp a
theorem negP_sq {p : Nat} (hp : 0 < p) (a : Nat) : Eqm p (negP p a * negP p a) (a * a) := by
  refine (negP_mul hp a _).trans ?_
  rw [Nat.mul_comm, negP_congr (negP_mul hp a a)]
  exact negP_neg hp _

section
variable {p : Nat} (hp : IsPrime p)
include hp
theorem Eqm.zero_mul {a b : Nat} (h : Eqm p (a * b) 0) : Eqm p a 0 ∨ Eqm p b 0 := by
  unfold Eqm at *
  rw [Nat.zero_mod] at *
  rcases hp.dvd_mul (Nat.dvd_of_mod_eq_zero h) with h1 | h1
  · exact .inl (Nat.mod_eq_zero_of_dvd h1)
  · exact .inr (Nat.mod_eq_zero_of_dvd h1)
theorem not_dvd_of {a : Nat} (h : ¬ Eqm p a 0) : ¬ p ∣ a := (fun (_ : IsPrime p) => fun hd => h (by unfold Eqm; rw [Nat.mod_eq_zero_of_dvd hd, Nat.zero_mod])) hp
theorem fermatE {a : Nat} (h : ¬ Eqm p a 0) : Eqm p (a ^ (p - 1)) 1 := by
  unfold Eqm
  rw [fermat1 hp a (not_dvd_of hp h), Nat.mod_eq_of_lt hp.1]
/-- The inverse undoes. -/
theorem inv_mul {a : Nat} (h : ¬ Eqm p a 0) : Eqm p (a ^ (p - 2) * a) 1 := by
  have := fermatE hp h
  have h2 := hp.1
  rwa [show p - 1 = (p - 2) + 1 by omega, Nat.pow_succ] at this
/-- Squares that are alike are of numbers that are, or are opposites. -/
theorem sq_eq {a b : Nat} (h : Eqm p (a * a) (b * b)) : Eqm p a b ∨ Eqm p a (negP p b) := by
  have hp0 : 0 < p := by have := hp.1; omega
  -- (a + (p - b)) (a + b) is nought
  have e : Eqm p ((a + negP p b) * (a + b)) 0 := by
    have e1 : (a + negP p b) * (a + b) = a * a + (a * b + negP p b * a) + negP p b * b := by
      rw [Nat.add_mul, Nat.mul_add, Nat.mul_add]; omega
    rw [e1]
    have e2 : Eqm p (a * b + negP p b * a) 0 := by
      have := (negP_add hp0 b).mul (Eqm.rfl' (p := p) a)
      rw [Nat.zero_mul, Nat.add_mul, Nat.mul_comm b a] at this
      exact this
    have e3 : Eqm p (a * a + negP p b * b) 0 := by
      refine (h.add (negP_mul hp0 b b)).trans ?_
      exact negP_add hp0 _
    have e4 := e3.add e2
    rw [Nat.add_zero] at e4
    have e5 : a * a + (a * b + negP p b * a) + negP p b * b = a * a + negP p b * b + (a * b + negP p b * a) := by omega
    rw [e5]
    exact e4
  rcases Eqm.zero_mul hp e with h1 | h1
  · left
    refine Eqm.cancel (c := negP p b) (h1.trans ?_)
    exact (negP_add hp0 b).symm
  · right
    rw [Nat.add_comm] at h1
    exact negP_unique hp0 h1
theorem sq_one {y : Nat} (h : Eqm p (y * y) 1) : Eqm p y 1 ∨ Eqm p y (negP p 1) := sq_eq hp (b := 1) h
theorem pow_ne {a : Nat} (h : ¬ Eqm p a 0) : ∀ n, ¬ Eqm p (a ^ n) 0
  | 0 => fun h0 => by
    unfold Eqm at h0
    rw [Nat.pow_zero, Nat.zero_mod, Nat.mod_eq_of_lt hp.1] at h0
    cases h0
  | n + 1 => fun h0 => by
    rw [Nat.pow_succ] at h0
    rcases Eqm.zero_mul hp h0 with h1 | h1
    · exact pow_ne h n h1
    · exact h h1
end

/-! ### Roots, where p is 8 t + 5 -/
/-- Of the two the one that is even. -/
def evenOf (p r : Nat) : Nat := if r % 2 = 1 then negP p r else r
def rootC (p t s : Nat) : Nat := if s ^ (t + 1) % p * (s ^ (t + 1) % p) % p = s then s ^ (t + 1) % p else s ^ (t + 1) % p * (2 ^ (2 * t + 1) % p) % p
def rootL (p t s : Nat) : Option Nat := if rootC p t s * rootC p t s % p = s then some (evenOf p (rootC p t s)) else none
theorem rootC_lt {p t s : Nat} (hp : 0 < p) : rootC p t s < p := by unfold rootC; split <;> exact Nat.mod_lt _ hp
theorem evenOf_even {p r : Nat} (ho : p % 2 = 1) (hr : r < p) : evenOf p r % 2 = 0 ∧ evenOf p r < p := by
  unfold evenOf negP
  split
  · rename_i h
    rw [Nat.mod_eq_of_lt hr, Nat.mod_eq_of_lt (show p - r < p by omega)]
    omega
  · omega
theorem evenOf_sq {p r : Nat} (hp : 0 < p) : Eqm p (evenOf p r * evenOf p r) (r * r) := by
  unfold evenOf
  split
  · exact negP_sq hp r
  · exact Eqm.rfl' _
section
variable {p t : Nat} (hp : IsPrime p) (ht : p = 8 * t + 5) (h2 : Eqm p (2 ^ (4 * t + 2)) (negP p 1))
include hp ht
/-- What is a root is one. -/
theorem rootL_some {s r : Nat} (hs : s < p) (h : rootL p t s = some r) : r * r % p = s ∧ r % 2 = 0 ∧ r < p := by
  have hp0 : 0 < p := (fun (_ : IsPrime p) => (by omega : 0 < p)) hp
  unfold rootL at h
  split at h
  · rename_i hc
    cases h
    have h1 := evenOf_even (r := rootC p t s) (p := p) (by omega) (rootC_lt hp0)
    refine ⟨?_, h1.1, h1.2⟩
    have := evenOf_sq (p := p) (r := rootC p t s) hp0
    unfold Eqm at this
    rw [this, hc]
  · cases h
/-- Even roots are one. -/
theorem root_unique {r r' : Nat} (h : Eqm p (r * r) (r' * r')) (e : r % 2 = 0) (e' : r' % 2 = 0) (l : r < p) (l' : r' < p) : r = r' := by
  rcases sq_eq hp h with h1 | h1
  · unfold Eqm at h1
    rwa [Nat.mod_eq_of_lt l, Nat.mod_eq_of_lt l'] at h1
  · unfold Eqm negP at h1
    rw [Nat.mod_eq_of_lt l, Nat.mod_mod, Nat.mod_eq_of_lt l'] at h1
    by_cases h0 : r' = 0
    · subst h0
      rw [Nat.sub_zero, Nat.mod_self] at h1
      exact h1
    · rw [Nat.mod_eq_of_lt (by omega)] at h1
      omega
include h2
/-- A square has one. -/
theorem rootL_square {s x : Nat} (hs : s < p) (hx : x * x % p = s) : ∃ r, rootL p t s = some r := by
  have hp0 : 0 < p := by omega
  have hsx : Eqm p s (x * x) := by unfold Eqm; rw [hx, Nat.mod_eq_of_lt hs]
  suffices hc : rootC p t s * rootC p t s % p = s by
    unfold rootL; rw [if_pos hc]; exact ⟨_, rfl⟩
  by_cases h0 : Eqm p x 0
  · have hs0 : s = 0 := by
      have := hsx.trans (h0.mul h0)
      unfold Eqm at this
      rw [Nat.mod_eq_of_lt hs] at this
      simpa using this
    subst hs0
    unfold rootC
    rw [Nat.zero_pow (by omega), Nat.zero_mod, Nat.zero_mul, Nat.zero_mod, if_pos rfl, Nat.zero_mul, Nat.zero_mod]
  -- y is x to (p - 1) / 2
  have hy : Eqm p (x ^ (4 * t + 2) * x ^ (4 * t + 2)) 1 := by
    have := fermatE hp h0
    rw [ht, show 8 * t + 5 - 1 = (4 * t + 2) + (4 * t + 2) by omega, Nat.pow_add] at this
    rw [← ht] at this
    exact this
  have hr2 : Eqm p (s ^ (t + 1) % p * (s ^ (t + 1) % p)) (x ^ (4 * t + 2) * s) := by
    have e1 : Eqm p (s ^ (t + 1) % p) ((x * x) ^ (t + 1)) := (Eqm.mod p _).trans (hsx.pow _)
    refine (e1.mul e1).trans ?_
    have e2 : (x * x) ^ (t + 1) * (x * x) ^ (t + 1) = x ^ (4 * t + 2) * (x * x) := by
      rw [← Nat.pow_add, show x * x = x ^ 2 from (Nat.pow_two x).symm, ← Nat.pow_mul, ← Nat.pow_add]
      congr 1
      omega
    rw [e2]
    exact (Eqm.rfl' _).mul hsx.symm
  unfold rootC
  by_cases hc : s ^ (t + 1) % p * (s ^ (t + 1) % p) % p = s
  · rw [if_pos hc]; exact hc
  · rw [if_neg hc]
    rcases sq_one hp hy with h1 | h1
    · exfalso
      apply hc
      have := hr2.trans (h1.mul (Eqm.rfl' s))
      rw [Nat.one_mul] at this
      unfold Eqm at this
      rw [this, Nat.mod_eq_of_lt hs]
    · have hm : Eqm p (s ^ (t + 1) % p * (2 ^ (2 * t + 1) % p) % p * (s ^ (t + 1) % p * (2 ^ (2 * t + 1) % p) % p)) s := by
        generalize hR : s ^ (t + 1) % p = R at *
        have e1 : Eqm p (R * (2 ^ (2 * t + 1) % p) % p) (R * 2 ^ (2 * t + 1)) := (Eqm.mod p _).trans ((Eqm.rfl' R).mul (Eqm.mod p _))
        refine (e1.mul e1).trans ?_
        have e2 : R * 2 ^ (2 * t + 1) * (R * 2 ^ (2 * t + 1)) = R * R * 2 ^ (4 * t + 2) := by
          have e3 : 2 ^ (4 * t + 2) = 2 ^ (2 * t + 1) * 2 ^ (2 * t + 1) := by rw [← Nat.pow_add]; congr 1; omega
          rw [e3]
          generalize 2 ^ (2 * t + 1) = T
          ac_rfl
        rw [e2]
        refine ((hr2.trans (h1.mul (Eqm.rfl' s))).mul h2).trans ?_
        rw [Nat.mul_comm, ← Nat.mul_assoc]
        have := (negP_sq hp0 1).mul (Eqm.rfl' (p := p) s)
        rw [Nat.one_mul] at this
        simpa using this
      unfold Eqm at hm
      rw [hm, Nat.mod_eq_of_lt hs]
/-- Twice a square is none. -/
theorem twice_none {x r : Nat} (h0 : ¬ Eqm p x 0) (h : Eqm p (r * r) (x * x + x * x)) : False := by
  have hp0 : 0 < p := by omega
  have e1 : Eqm p (r * r) (2 * (x * x)) := by rw [Nat.two_mul]; exact h
  have hr0 : ¬ Eqm p r 0 := by
    intro hr
    have h3 := (e1.symm.trans (hr.mul hr))
    rw [Nat.mul_zero] at h3
    rcases Eqm.zero_mul hp h3 with h4 | h4
    · unfold Eqm at h4
      rw [Nat.mod_eq_of_lt (by omega), Nat.zero_mod] at h4
      cases h4
    · rcases Eqm.zero_mul hp h4 with h5 | h5 <;> exact h0 h5
  -- to (p - 1) / 2
  have e2 := e1.pow (4 * t + 2)
  have e3 : ∀ z, ¬ Eqm p z 0 → Eqm p ((z * z) ^ (4 * t + 2)) 1 := fun z hz => by
    have := fermatE hp hz
    rw [← Nat.pow_two, ← Nat.pow_mul]
    rwa [show p - 1 = 2 * (4 * t + 2) by omega] at this
  rw [Nat.mul_pow 2] at e2
  have e4 := ((e3 r hr0).symm.trans e2).trans (h2.mul (e3 x h0))
  rw [Nat.mul_one] at e4
  unfold Eqm negP at e4
  rw [Nat.mod_mod, Nat.mod_eq_of_lt (show 1 < p by omega), Nat.mod_eq_of_lt (show p - 1 < p by omega)] at e4
  omega
end
end Go.Proofs.Ythapdohblphlgaa
