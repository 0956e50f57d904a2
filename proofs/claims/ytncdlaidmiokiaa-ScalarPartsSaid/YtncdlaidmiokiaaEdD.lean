/- The base point, its order, which is a prime; two that share one secret. -/
import Derived.Test.YtncdlaidmiokiaaEdC
set_option linter.unusedSimpArgs false
set_option linter.unusedVariables false
namespace Go.Proofs.Ytncdlaidmiokiaa

theorem lp0 : IsPrime 531581 := prime_small 531581 729 (by decide) (by decide) (by decide +kernel)
theorem lp1 : IsPrime 1224481 := prime_small 1224481 1106 (by decide) (by decide) (by decide +kernel)
theorem lp2 : IsPrime 1257559732178653 := prime_by2 (q := 1224481) (m := 1027014492) (a := 2) (f := 51) (q' := 531581) (m' := 2365697292) (a' := 2) lp1 lp0 (by decide +kernel) (by decide +kernel) (by decide +kernel) (by decide +kernel) (by decide +kernel) (by decide +kernel) (by decide +kernel) (by decide +kernel) (by decide +kernel) (by decide +kernel)
theorem lp3 : IsPrime 4434155615661930479 := prime_by1 (q := 1257559732178653) (m := 3526) (a := 2) (f := 62) lp2 (by decide +kernel) (by decide +kernel) (by decide +kernel) (by decide +kernel) (by decide +kernel) (by decide +kernel)
theorem lp4 : IsPrime 172054593956031949258510691 := prime_by1 (q := 4434155615661930479) (m := 38802110) (a := 2) (f := 88) lp3 (by decide +kernel) (by decide +kernel) (by decide +kernel) (by decide +kernel) (by decide +kernel) (by decide +kernel)
theorem lp5 : IsPrime 19757330305831588566944191468367130476339 := prime_by1 (q := 172054593956031949258510691) (m := 114831751082918) (a := 2) (f := 134) lp4 (by decide +kernel) (by decide +kernel) (by decide +kernel) (by decide +kernel) (by decide +kernel) (by decide +kernel)
theorem lp6 : IsPrime 276602624281642239937218680557139826668747 := prime_by1 (q := 19757330305831588566944191468367130476339) (m := 14) (a := 2) (f := 138) lp5 (by decide +kernel) (by decide +kernel) (by decide +kernel) (by decide +kernel) (by decide +kernel) (by decide +kernel)
theorem lp7 : IsPrime 7237005577332262213973186563042994240857116359379907606001950938285454250989 := prime_by1 (q := 276602624281642239937218680557139826668747) (m := 26163907866482859529727157400808004) (a := 2) (f := 253) lp6 (by decide +kernel) (by decide +kernel) (by decide +kernel) (by decide +kernel) (by decide +kernel) (by decide +kernel)

def ordL : Nat := 7237005577332262213973186563042994240857116359379907606001950938285454250989
theorem prime_L : IsPrime ordL := lp7
def ptB : Nat × Nat := (15112221349535400772501151409588531511454012693041857206046113283949847762202, 46316835694926478169428394003475163141307993866256225615783033603165251855960)
theorem ptB_on : onE ptB := by
  refine ⟨by decide +kernel, by decide +kernel, ?_⟩
  have h : Eqm p25 (ptB.1 * ptB.1 * ptB.2 * ptB.2 + cN * (ptB.1 * ptB.1 + 1)) (cN * (ptB.2 * ptB.2)) := by unfold Eqm; decide +kernel
  have h2 := Z_of_Eqm h
  unfold EC cE
  refine h2.lin1 1 ?_
  simp only [Int.natCast_add, Int.natCast_mul]
  generalize (ptB.1 : Int) = x
  generalize (ptB.2 : Int) = y
  generalize (cN : Int) = c
  grind
theorem ptB_nine : Z (((9 : Nat) : Int) * (1 - (ptB.2 : Int)) - (1 + (ptB.2 : Int))) := by
  have h : Eqm p25 (9 : Nat) (1 + ptB.2 + 9 * ptB.2) := by unfold Eqm; decide +kernel
  have h2 := Z_of_Eqm h
  refine h2.lin1 1 ?_
  simp only [Int.natCast_add, Int.natCast_mul]
  generalize (ptB.2 : Int) = y
  grind
theorem ptB_less : ¬ Z (1 - (ptB.2 : Int)) := fun h => by
  have h2 : Z ((ptB.2 : Int) - ((1 : Nat) : Int)) := h.lin1 (-1) (by grind)
  have := Z.eq ptB_on.2.1 (Nat.lt_trans (Nat.lt_succ_self 1) p25_two) h2
  revert this
  decide +kernel
theorem ptB_more : ¬ Z (1 + (ptB.2 : Int)) := fun h => by
  have h1 : Z ((addP 1 ptB.2 : Nat) : Int) := ((Z_addP 1 ptB.2).add h).lin1 1 (by grind)
  have := (Z.nat (addP_lt _ _)).1 h1
  revert this
  decide +kernel
theorem ladL_zero : (ladS 9 ordL 255).1 = 1 ∧ (ladS 9 ordL 255).2.2.2 = 0 := by decide +kernel
/-- Of y = 1 or - 1 the x is 0. -/
theorem x_zero {P : Nat × Nat} (hP : onE P) (h : Z ((1 - (P.2 : Int)) * (1 + (P.2 : Int)))) : P.1 = 0 := by
  have hE := hP.2.2
  unfold EC at hE
  have hc := c_one
  refine (Z.nat hP.1).1 ?_
  generalize (P.1 : Int) = x at *
  generalize (P.2 : Int) = y at *
  generalize cE = c at *
  have h2 : Z (x * x) := Z.cancel (a := c + 1) (Z.lin2 1 (x * x - c) hE h (by grind)) hc
  exact h2.sq
theorem is_zero {P : Nat × Nat} (hP : onE P) (h : Z (1 - (P.2 : Int))) : P = ptO := by
  refine Prod.ext (x_zero hP (h.lin1 (1 + (P.2 : Int)) (by grind))) ?_
  refine Z.eq hP.2.1 (Nat.lt_trans (Nat.lt_succ_self 1) p25_two) (h.lin1 (-1) (by unfold ptO; grind))
theorem twice_zero {P : Nat × Nat} (hP : onE P) (h : Z ((1 - (P.2 : Int)) * (1 + (P.2 : Int)))) : addE P P = ptO := by
  have h0 := x_zero hP h
  refine addE_eq hP hP ptO_on.1 ptO_on.2.1 ?_ ?_
  · rw [h0]
    exact Z.zero.lin1 1 (by unfold ptO; grind)
  · rw [h0]
    unfold ptO
    generalize (P.2 : Int) = y at *
    generalize cE = c at *
    exact h.lin1 c (by grind)
theorem ordL_zero : mulE ordL ptB = ptO := by
  have h := ladS_rep ptB_on (K := ordL) ptB_less ptB_more ptB_nine (by decide +kernel) 255 (Nat.le_refl _)
  rw [Nat.sub_self, Nat.pow_zero, Nat.div_one] at h
  obtain ⟨k1, k2⟩ := ladL_zero
  rcases h with ⟨hs, _⟩ | ⟨_, _, ⟨l, hl, _, h2⟩⟩
  · rw [k1] at hs
    cases hs
  · rw [k2] at h2
    have h3 : Z (1 - ((mulE ordL ptB).2 : Int)) := Z.cancel (a := l) (h2.lin1 (-1) (by grind)) hl
    exact is_zero (mulE_on ptB_on _) h3
theorem mulE_mod {P : Nat × Nat} (hP : onE P) {m : Nat} (hm : mulE m P = ptO) (n : Nat) : mulE (n % m) P = mulE n P := by
  have h : mulE n P = mulE (m * (n / m) + n % m) P := by rw [Nat.div_add_mod]
  rw [h, mulE_add hP, mulE_mul hP, hm, mulE_zero, addE_comm, addE_zero (mulE_on hP _)]
theorem mulE_gcd {P : Nat × Nat} (hP : onE P) : ∀ m n : Nat, mulE m P = ptO → mulE n P = ptO → mulE (Nat.gcd m n) P = ptO := by
  intro m n
  induction m, n using Nat.gcd.induction with
  | H0 n => intro _ h; rw [Nat.gcd_zero_left]; exact h
  | H1 m n hm ih =>
    intro h1 h2
    rw [Nat.gcd_rec]
    exact ih (by rw [mulE_mod hP h1, h2]) h1
theorem ptB_ne : ptB ≠ ptO := by decide +kernel
/-- What is nothing is so many times the order. -/
theorem ord_dvd {n : Nat} (h : mulE n ptB = ptO) : ordL ∣ n := by
  refine Classical.byContradiction fun hd => ?_
  have h1 := IsPrime.coprime prime_L hd
  have h2 := mulE_gcd ptB_on _ _ h ordL_zero
  rw [show Nat.gcd n ordL = 1 from Nat.Coprime.symm h1 |> fun h => h, mulE_one ptB_on] at h2
  exact ptB_ne h2
theorem ord_two : ¬ ordL ∣ 2 := by decide +kernel
/-- Not nothing, nor of order two. -/
theorem good_mul {n : Nat} (h : ¬ ordL ∣ n) : ¬ Z (1 - ((mulE n ptB).2 : Int)) ∧ ¬ Z (1 + ((mulE n ptB).2 : Int)) := by
  have hon := mulE_on ptB_on n
  have key : ¬ Z ((1 - ((mulE n ptB).2 : Int)) * (1 + ((mulE n ptB).2 : Int))) := fun hz => by
    have h2 := twice_zero hon hz
    rw [← mulE_add ptB_on, ← Nat.two_mul] at h2
    rcases prime_L.dvd_mul (ord_dvd h2) with h3 | h3
    · exact ord_two h3
    · exact h h3
  exact ⟨fun hz => key (hz.lin1 (1 + ((mulE n ptB).2 : Int)) (by grind)), fun hz => key (hz.lin1 (1 - ((mulE n ptB).2 : Int)) (by grind))⟩
theorem fracE_Z {P : Nat × Nat} (h : ¬ Z (1 - (P.2 : Int))) : Z ((fracE P : Int) * (1 - (P.2 : Int)) - (1 + (P.2 : Int))) := quot_Z _ h
theorem fracE_ne {P : Nat × Nat} (h1 : ¬ Z (1 - (P.2 : Int))) (h2 : ¬ Z (1 + (P.2 : Int))) : fracE P ≠ 0 := fun h => h2 (by
  have h3 := fracE_Z h1
  rw [h] at h3
  exact h3.lin1 (-1) (by grind))
/-- A scalar as clamping makes it. -/
def Clamped (a : Nat) : Prop := 2 ^ 254 ≤ a ∧ a < 2 ^ 255 ∧ 8 ∣ a
theorem ord_great : 2 ^ 255 < 8 * ordL := by decide +kernel
theorem ord_odd : ¬ ordL ∣ 8 := by decide +kernel
theorem Clamped.ne {a : Nat} (h : Clamped a) : ¬ ordL ∣ a := fun hd => by
  obtain ⟨h1, h2, k, rfl⟩ := h
  rcases prime_L.dvd_mul hd with h3 | h3
  · exact ord_odd h3
  · have h4 := ord_great
    have h5 : k = 0 := Nat.eq_zero_of_dvd_of_lt h3 (by omega)
    subst h5
    have : 0 < 2 ^ 254 := Nat.pow_pos (by decide)
    omega
theorem lad_base {a : Nat} (h : a < 2 ^ 255) : ladder 9 a = fracE (mulE a ptB) := ladder_rep ptB_on (Nat.lt_trans (by decide) (show 100 < p25 by decide +kernel)) ptB_less ptB_more ptB_nine h
theorem lad_two {a b : Nat} (ha : Clamped a) (hb : b < 2 ^ 255) : ladder (ladder 9 a) b = fracE (mulE (a * b) ptB) := by
  obtain ⟨k1, k2⟩ := good_mul ha.ne
  rw [lad_base ha.2.1, mulE_mul ptB_on]
  exact ladder_rep (mulE_on ptB_on a) (quot_lt _ _) k1 k2 (fracE_Z k1) hb
/-- Two share one secret, and it is not nothing. -/
theorem lad_agree {a b : Nat} (ha : Clamped a) (hb : Clamped b) : ladder (ladder 9 a) b = ladder (ladder 9 b) a ∧ ladder (ladder 9 a) b ≠ 0 := by
  refine ⟨by rw [lad_two ha hb.2.1, lad_two hb ha.2.1, Nat.mul_comm], ?_⟩
  rw [lad_two ha hb.2.1]
  have h : ¬ ordL ∣ a * b := fun hd => by
    rcases prime_L.dvd_mul hd with h | h
    · exact ha.ne h
    · exact hb.ne h
  obtain ⟨k1, k2⟩ := good_mul h
  exact fracE_ne k1 k2
end Go.Proofs.Ytncdlaidmiokiaa
