/- The laws of the field, of the numbers as the contracts spell them. -/
import Derived.Test.YtnoppemclfnlcaaFeK
set_option linter.unusedSimpArgs false
set_option linter.unusedVariables false
namespace Go.Proofs.Ytnoppemclfnlcaa
open Go.RowKit Go.Deep

def addP (a b : Nat) : Nat := (a + b) % p25
def mulP (a b : Nat) : Nat := a * b % p25
def invP (a : Nat) : Nat := a ^ (p25 - 2) % p25
def oppP (a : Nat) : Nat := subP p25 0 a
theorem eq_of_Eqm {a b : Nat} (h : Eqm p25 a b) (ha : a < p25) (hb : b < p25) : a = b := by
  unfold Eqm at h
  rwa [Nat.mod_eq_of_lt ha, Nat.mod_eq_of_lt hb] at h
theorem addP_lt (a b : Nat) : addP a b < p25 := mod_p_lt _
theorem mulP_lt (a b : Nat) : mulP a b < p25 := mod_p_lt _
theorem invP_lt (a : Nat) : invP a < p25 := mod_p_lt _
theorem subP_lt (a b : Nat) : subP p25 a b < p25 := mod_p_lt _
theorem oppP_lt (a : Nat) : oppP a < p25 := mod_p_lt _
theorem addP_E (a b : Nat) : Eqm p25 (addP a b) (a + b) := Eqm.mod _ _
theorem mulP_E (a b : Nat) : Eqm p25 (mulP a b) (a * b) := Eqm.mod _ _
theorem invP_E (a : Nat) : Eqm p25 (invP a) (a ^ (p25 - 2)) := Eqm.mod _ _
theorem subP_E (a b : Nat) : Eqm p25 (subP p25 a b) (a + negP p25 b) := Eqm.mod _ _
theorem oppP_eq (a : Nat) : oppP a = negP p25 a := by unfold oppP subP; rw [Nat.zero_add, Nat.mod_eq_of_lt (negP_lt p25_pos a)]
theorem oppP_E (a : Nat) : Eqm p25 (a + oppP a) 0 := by rw [oppP_eq]; exact negP_add p25_pos a
/-- Sums and products may be turned and spread. -/
theorem mulP_comm (a b : Nat) : mulP a b = mulP b a := by unfold mulP; rw [Nat.mul_comm]
theorem addP_comm (a b : Nat) : addP a b = addP b a := by unfold addP; rw [Nat.add_comm]
theorem mulP_assoc (a b c : Nat) : mulP (mulP a b) c = mulP a (mulP b c) := by
  refine eq_of_Eqm ?_ (mulP_lt _ _) (mulP_lt _ _)
  refine (mulP_E _ _).trans (((mulP_E a b).mul (Eqm.rfl' c)).trans ?_)
  refine Eqm.symm ((mulP_E _ _).trans (((Eqm.rfl' a).mul (mulP_E b c)).trans ?_))
  exact Eqm.of_eq (Nat.mul_assoc a b c).symm
theorem mulP_add (a b c : Nat) : mulP a (addP b c) = addP (mulP a b) (mulP a c) := by
  refine eq_of_Eqm ?_ (mulP_lt _ _) (addP_lt _ _)
  refine (mulP_E _ _).trans (((Eqm.rfl' a).mul (addP_E b c)).trans ?_)
  refine Eqm.symm ((addP_E _ _).trans (((mulP_E a b).add (mulP_E a c)).trans ?_))
  exact Eqm.of_eq (Nat.mul_add a b c).symm
theorem subP_add (a b : Nat) (ha : a < p25) : addP (subP p25 a b) b = a := by
  refine eq_of_Eqm ?_ (addP_lt _ _) ha
  refine (addP_E _ _).trans (((subP_E a b).add (Eqm.rfl' b)).trans ?_)
  have h := (Eqm.rfl' (p := p25) a).add (negP_add p25_pos b)
  rw [Nat.add_zero] at h
  refine Eqm.trans (Eqm.of_eq ?_) h
  omega
theorem add_oppP (a : Nat) : addP a (oppP a) = 0 := eq_of_Eqm ((addP_E _ _).trans (oppP_E a)) (addP_lt _ _) p25_pos
theorem mulP_one (a : Nat) (ha : a < p25) : mulP a 1 = a := by unfold mulP; rw [Nat.mul_one, Nat.mod_eq_of_lt ha]
theorem not_zero {a : Nat} (ha : a < p25) (h0 : a ≠ 0) : ¬ Eqm p25 a 0 := fun h => h0 (eq_of_Eqm h ha p25_pos)
/-- An inverse undoes; of nothing it is nothing. -/
theorem mul_invP (a : Nat) (ha : a < p25) (h0 : a ≠ 0) : mulP a (invP a) = 1 := by
  refine eq_of_Eqm ?_ (mulP_lt _ _) (by decide +kernel)
  refine (mulP_E _ _).trans (((Eqm.rfl' a).mul (invP_E a)).trans ?_)
  rw [Nat.mul_comm]
  exact inv_mul prime_p25 (not_zero ha h0)
theorem pow_of_zero (a e : Nat) (h : a = 0) (he : 0 < e) : a ^ e % p25 = 0 := by subst h; rw [Nat.zero_pow he, Nat.zero_mod]
theorem p25_two : 2 < p25 := by decide +kernel
theorem invP_of_zero (a : Nat) (h : a = 0) : invP a = 0 := pow_of_zero a (p25 - 2) h (Nat.sub_pos_of_lt p25_two)
theorem invP_zero : invP 0 = 0 := invP_of_zero 0 rfl
theorem invP_mul (a b : Nat) : invP (mulP a b) = mulP (invP a) (invP b) := by
  refine eq_of_Eqm ?_ (invP_lt _) (mulP_lt _ _)
  refine (invP_E _).trans (((mulP_E a b).pow _).trans ?_)
  refine Eqm.symm ((mulP_E _ _).trans (((invP_E a).mul (invP_E b)).trans ?_))
  exact Eqm.of_eq (Nat.mul_pow a b _).symm
theorem mulP_ne {a b : Nat} (ha : a < p25) (hb : b < p25) (h1 : a ≠ 0) (h2 : b ≠ 0) : mulP a b ≠ 0 := fun h => by
  have h3 : Eqm p25 (a * b) 0 := (mulP_E a b).symm.trans (Eqm.of_eq h)
  rcases Eqm.zero_mul prime_p25 h3 with h4 | h4
  · exact not_zero ha h1 h4
  · exact not_zero hb h2 h4
theorem invP_ne {a : Nat} (ha : a < p25) (h0 : a ≠ 0) : invP a ≠ 0 := fun h => by
  have h1 := mul_invP a ha h0
  rw [h] at h1
  unfold mulP at h1
  rw [Nat.mul_zero, Nat.zero_mod] at h1
  cases h1
theorem mulP_cancel {a b c : Nat} (ha : a < p25) (hb : b < p25) (hc : c < p25) (h0 : c ≠ 0) (h : mulP a c = mulP b c) : a = b := by
  have h1 : mulP (mulP a c) (invP c) = mulP (mulP b c) (invP c) := by rw [h]
  rw [mulP_assoc, mulP_assoc, mul_invP c hc h0, mulP_one a ha, mulP_one b hb] at h1
  exact h1
theorem invP_invP (a : Nat) (ha : a < p25) : invP (invP a) = a := by
  by_cases h0 : a = 0
  · subst h0; rw [invP_zero, invP_zero]
  · have hi := invP_lt a
    have hi0 := invP_ne ha h0
    refine mulP_cancel (invP_lt _) ha hi hi0 ?_
    rw [mulP_comm (invP (invP a)), mul_invP _ hi hi0, mul_invP a ha h0]
theorem mul_oppP (a b : Nat) : mulP (oppP a) b = oppP (mulP a b) := by
  refine eq_of_Eqm ?_ (mulP_lt _ _) (oppP_lt _)
  rw [oppP_eq, oppP_eq]
  refine (mulP_E _ _).trans ((negP_mul p25_pos a b).trans ?_)
  rw [negP_congr (mulP_E a b).symm]
  exact Eqm.rfl' _
theorem oppP_oppP (a : Nat) (ha : a < p25) : oppP (oppP a) = a := by
  rw [oppP_eq, oppP_eq]
  exact eq_of_Eqm (negP_neg p25_pos a) (negP_lt p25_pos _) ha
theorem oppP_zero : oppP 0 = 0 := by decide +kernel
theorem oppP_ne {a : Nat} (ha : a < p25) (h0 : a ≠ 0) : oppP a ≠ 0 := fun h => by
  have := oppP_oppP a ha
  rw [h, oppP_zero] at this
  exact h0 this.symm
theorem invP_opp (a : Nat) (ha : a < p25) : invP (oppP a) = oppP (invP a) := by
  by_cases h0 : a = 0
  · subst h0; rw [oppP_zero, invP_zero, oppP_zero]
  · have ho := oppP_lt a
    have ho0 := oppP_ne ha h0
    refine mulP_cancel (invP_lt _) (oppP_lt _) ho ho0 ?_
    rw [mulP_comm (invP (oppP a)), mul_invP _ ho ho0, mul_oppP, mulP_comm (invP a), mul_oppP, mul_invP a ha h0]
    exact (oppP_oppP 1 (by decide +kernel)).symm
/-- A square has a root, even, which squared is it, and is the number or its opposite. -/
theorem root_square (x : Nat) (hx : x < p25) : ∃ r, rootL p25 t25 (mulP x x) = some r ∧ mulP r r = mulP x x ∧ r % 2 = 0 ∧ r < p25 ∧ (r = x ∨ r = oppP x) := by
  obtain ⟨r, hr⟩ := rootL_square prime_p25 t25_eq two_none (s := mulP x x) (x := x) (mulP_lt _ _) rfl
  obtain ⟨h1, h2, h3⟩ := rootL_some prime_p25 t25_eq (mulP_lt _ _) hr
  refine ⟨r, hr, h1, h2, h3, ?_⟩
  have h4 : Eqm p25 (r * r) (x * x) := by
    have := (mulP_E x x)
    unfold Eqm at *
    rw [h1, ← this, Nat.mod_eq_of_lt (mulP_lt _ _)]
  rcases sq_eq prime_p25 h4 with h5 | h5
  · exact .inl (eq_of_Eqm h5 h3 hx)
  · right
    rw [oppP_eq]
    exact eq_of_Eqm h5 h3 (negP_lt p25_pos _)
/-- Twice a square has one just if it is nothing. -/
theorem root_twice (x : Nat) (hx : x < p25) (h0 : mulP x x ≠ 0) : rootL p25 t25 (addP (mulP x x) (mulP x x)) = none := by
  cases h : rootL p25 t25 (addP (mulP x x) (mulP x x)) with
  | none => rfl
  | some r =>
    exfalso
    obtain ⟨h1, _, _⟩ := rootL_some prime_p25 t25_eq (addP_lt _ _) h
    have hx0 : x ≠ 0 := fun e => h0 (by subst e; unfold mulP; rw [Nat.mul_zero, Nat.zero_mod])
    refine twice_none prime_p25 t25_eq two_none (x := x) (r := r) (not_zero hx hx0) ?_
    have h2 : Eqm p25 (r * r) (addP (mulP x x) (mulP x x)) := by
      unfold Eqm
      rw [h1, Nat.mod_eq_of_lt (addP_lt _ _)]
    exact h2.trans ((addP_E _ _).trans ((mulP_E x x).add (mulP_E x x)))
theorem root_zero : rootL p25 t25 0 = some 0 := by
  obtain ⟨r, hr, h1, _, h3, h4⟩ := root_square 0 p25_pos
  have e : mulP 0 0 = 0 := by unfold mulP; rw [Nat.mul_zero, Nat.zero_mod]
  rw [e] at hr
  rcases h4 with h4 | h4
  · rw [hr, h4]
  · rw [hr, h4, oppP_zero]
end Go.Proofs.Ytnoppemclfnlcaa
