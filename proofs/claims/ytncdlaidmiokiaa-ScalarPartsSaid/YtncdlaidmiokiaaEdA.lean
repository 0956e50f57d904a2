/- The curve -x^2 + y^2 = 1 + d x^2 y^2 mod p, in the form x^2 y^2 = c (y^2 - x^2 - 1), c the inverse of d: sums of points, which are a group. -/
import Derived.Test.YtncdlaidmiokiaaMM1
set_option linter.unusedSimpArgs false
set_option linter.unusedVariables false
namespace Go.Proofs.Ytncdlaidmiokiaa

/-! ### Multiples of p -/
def Z (a : Int) : Prop := ((p25 : Nat) : Int) ∣ a
theorem Z.zero : Z 0 := ⟨0, by simp⟩
theorem Z.add {a b : Int} (h : Z a) (k : Z b) : Z (a + b) := Int.dvd_add h k
theorem Z.sub {a b : Int} (h : Z a) (k : Z b) : Z (a - b) := Int.dvd_sub h k
theorem Z.mul {a : Int} (k : Int) (h : Z a) : Z (k * a) := by
  obtain ⟨r, rfl⟩ := h
  exact ⟨k * r, by rw [Int.mul_left_comm]⟩
theorem Z.lin1 {a t : Int} (k : Int) (ha : Z a) (h : t = k * a) : Z t := h ▸ ha.mul k
theorem Z.lin2 {a b t : Int} (k l : Int) (ha : Z a) (hb : Z b) (h : t = k * a + l * b) : Z t := h ▸ (ha.mul k).add (hb.mul l)
theorem Z.lin3 {a b c t : Int} (k l m : Int) (ha : Z a) (hb : Z b) (hc : Z c) (h : t = k * a + l * b + m * c) : Z t := h ▸ ((ha.mul k).add (hb.mul l)).add (hc.mul m)
theorem Z.lin4 {a b c d t : Int} (k l m n : Int) (ha : Z a) (hb : Z b) (hc : Z c) (hd : Z d) (h : t = k * a + l * b + m * c + n * d) : Z t := h ▸ (((ha.mul k).add (hb.mul l)).add (hc.mul m)).add (hd.mul n)
theorem Z.prime {a b : Int} (h : Z (a * b)) : Z a ∨ Z b := by
  have h2 : p25 ∣ a.natAbs * b.natAbs := by
    rw [← Int.natAbs_mul]
    exact Int.ofNat_dvd_left.1 h
  rcases IsPrime.dvd_mul prime_p25 h2 with h3 | h3
  · exact .inl (Int.ofNat_dvd_left.2 h3)
  · exact .inr (Int.ofNat_dvd_left.2 h3)
theorem Z.cancel {a b : Int} (h : Z (a * b)) (ha : ¬ Z a) : Z b := h.prime.resolve_left ha
theorem Z.not_mul {a b : Int} (ha : ¬ Z a) (hb : ¬ Z b) : ¬ Z (a * b) := fun h => hb (h.cancel ha)
theorem Z.nat {a : Nat} (ha : a < p25) : Z (a : Int) ↔ a = 0 := by
  constructor
  · intro h
    exact Nat.eq_zero_of_dvd_of_lt (Int.natCast_dvd_natCast.1 h) ha
  · rintro rfl
    exact Z.zero
theorem Z.one : ¬ Z 1 := fun h => by
  have := (Z.nat (a := 1) (Nat.lt_trans (by decide) p25_two)).1 h
  cases this
theorem Z.eq {a b : Nat} (ha : a < p25) (hb : b < p25) (h : Z ((a : Int) - (b : Int))) : a = b := by
  obtain ⟨k, hk⟩ := h
  have h2 : (a : Int) % ((p25 : Nat) : Int) = (b : Int) % ((p25 : Nat) : Int) := by
    rw [show (a : Int) = (b : Int) + ((p25 : Nat) : Int) * k by omega, Int.add_mul_emod_self_left]
  rw [← Int.natCast_emod, ← Int.natCast_emod, Nat.mod_eq_of_lt ha, Nat.mod_eq_of_lt hb] at h2
  exact Int.ofNat.inj h2
/-- The number of a whole number. -/
def numZ (a : Int) : Nat := (a % ((p25 : Nat) : Int)).toNat
theorem p25_posZ : (0 : Int) < ((p25 : Nat) : Int) := Int.natCast_pos.2 p25_pos
theorem numZ_cast (a : Int) : ((numZ a : Nat) : Int) = a % ((p25 : Nat) : Int) := Int.toNat_of_nonneg (Int.emod_nonneg _ (Int.ne_of_gt p25_posZ))
theorem numZ_lt (a : Int) : numZ a < p25 := by
  have h := Int.emod_lt_of_pos a p25_posZ
  rw [← numZ_cast] at h
  exact Int.ofNat_lt.1 h
theorem numZ_Z (a : Int) : Z (((numZ a : Nat) : Int) - a) := by
  rw [numZ_cast]
  refine ⟨-(a / ((p25 : Nat) : Int)), ?_⟩
  have := Int.mul_ediv_add_emod a ((p25 : Nat) : Int)
  rw [Int.mul_neg]
  omega
theorem numZ_eq {a : Nat} {b : Int} (ha : a < p25) (h : Z ((a : Int) - b)) : a = numZ b :=
  Z.eq ha (numZ_lt b) ((h.sub (numZ_Z b)).lin1 1 (by omega))
theorem Z_mod (a : Nat) : Z (((a % p25 : Nat) : Int) - (a : Int)) := by
  refine ⟨-((a / p25 : Nat) : Int), ?_⟩
  have h := Nat.div_add_mod a p25
  rw [Int.mul_neg, ← Int.natCast_mul]
  omega
theorem Z_addP (a b : Nat) : Z (((addP a b : Nat) : Int) - ((a : Int) + (b : Int))) := by
  have h := Z_mod (a + b)
  rwa [Int.natCast_add] at h
theorem Z_mulP (a b : Nat) : Z (((mulP a b : Nat) : Int) - (a : Int) * (b : Int)) := by
  have h := Z_mod (a * b)
  rwa [Int.natCast_mul] at h
theorem Z_of_Eqm {a b : Nat} (h : Eqm p25 a b) : Z ((a : Int) - (b : Int)) := by
  have h1 := Z_mod a
  have h2 := Z_mod b
  rw [show a % p25 = b % p25 from h] at h1
  exact (h2.sub h1).lin1 1 (by omega)
theorem Z_subP (a b : Nat) : Z (((subP p25 a b : Nat) : Int) - ((a : Int) - (b : Int))) := by
  have h1 := Z_of_Eqm (subP_E a b)
  have h2 := Z_of_Eqm (negP_add p25_pos b)
  exact (h1.add h2).lin1 1 (by omega)
theorem Z_oppP (a : Nat) : Z (((oppP a : Nat) : Int) + (a : Int)) := by
  have h := Z_of_Eqm (oppP_E a)
  exact h.lin1 1 (by omega)
theorem Z_invP {a : Nat} (ha : a < p25) (h : ¬ Z (a : Int)) : Z ((a : Int) * ((invP a : Nat) : Int) - 1) := by
  have h1 := mul_invP a ha (fun h0 => h ((Z.nat ha).2 h0))
  have h2 := Z_mulP a (invP a)
  rw [h1] at h2
  exact h2.lin1 (-1) (by omega)
theorem Z.inv {a : Int} (h : ¬ Z a) : ∃ b : Int, Z (a * b - 1) := by
  have h1 := numZ_Z a
  have h2 : ¬ Z ((numZ a : Nat) : Int) := fun h3 => h ((h3.sub h1).lin1 1 (by omega))
  have h3 := Z_invP (numZ_lt a) h2
  refine ⟨(invP (numZ a) : Nat), ?_⟩
  generalize ((invP (numZ a) : Nat) : Int) = b at h3
  generalize ((numZ a : Nat) : Int) = n at h1 h3
  exact h3.lin2 1 (-b) h1 (by grind)
/-- A quotient. -/
def quot (a b : Int) : Nat := mulP (numZ a) (invP (numZ b))
theorem quot_lt (a b : Int) : quot a b < p25 := mulP_lt _ _
theorem quot_Z (a : Int) {b : Int} (h : ¬ Z b) : Z (((quot a b : Nat) : Int) * b - a) := by
  have h1 := numZ_Z a
  have h2 := numZ_Z b
  have h4 : ¬ Z ((numZ b : Nat) : Int) := fun h3 => h ((h3.sub h2).lin1 1 (by omega))
  have h3 := Z_invP (numZ_lt b) h4
  have h5 := Z_mulP (numZ a) (invP (numZ b))
  unfold quot
  generalize ((mulP (numZ a) (invP (numZ b)) : Nat) : Int) = q at *
  generalize ((invP (numZ b) : Nat) : Int) = i at *
  generalize ((numZ a : Nat) : Int) = m at *
  generalize ((numZ b : Nat) : Int) = n at *
  exact Z.lin4 b (-(m * i)) m 1 h5 h2 h3 h1 (by grind)
theorem quot_eq {x : Nat} {a b : Int} (hx : x < p25) (h : ¬ Z b) (e : Z ((x : Int) * b - a)) : x = quot a b := by
  refine Z.eq hx (quot_lt a b) ?_
  have h1 := quot_Z a h
  generalize ((quot a b : Nat) : Int) = q at *
  exact Z.cancel (a := b) (e.lin2 1 (-1) h1 (by grind)) h

/-! ### The curve -/
def cN : Nat := 29203323570479832313932222820853031755424015489030106335172286495629888845891
def cE : Int := (cN : Int)
def iN : Nat := 19681161376707505956807079304988542015446066515923890162744021073123829784752
theorem c_lt : cN < p25 := by decide +kernel
theorem c_ne : ¬ Z cE := fun h => by
  have := (Z.nat c_lt).1 h
  revert this
  decide +kernel
theorem i_sq : Z ((iN : Int) * (iN : Int) + 1) := by
  have h : Eqm p25 (iN * iN + 1) 0 := by unfold Eqm; decide +kernel
  have h2 := Z_of_Eqm h
  rw [Int.natCast_add, Int.natCast_mul] at h2
  exact h2.lin1 1 (by omega)
theorem half_eq : p25 - 1 = 2 * ((p25 - 1) / 2) := by decide +kernel
theorem c_pow : cN ^ ((p25 - 1) / 2) % p25 ≠ 1 := by
  rw [← pw_eq p25 255 cN _ (by decide +kernel)]
  decide +kernel
/-- c is no square. -/
theorem c_none {a b : Int} (h : Z (cE * (a * a) - b * b)) : Z a := by
  refine Classical.byContradiction fun ha => ?_
  have h1 := quot_Z b ha
  have h2 : Z (((quot b a : Nat) : Int) * ((quot b a : Nat) : Int) - cE) := by
    generalize ((quot b a : Nat) : Int) = q at *
    refine Z.cancel (a := a * a) ?_ (Z.not_mul ha ha)
    exact Z.lin2 (q * a + b) (-1) h1 h (by grind)
  have hq := quot_lt b a
  generalize quot b a = q at h1 h2 hq
  have h3 : Eqm p25 (q * q) cN := by
    have e1 : ((q * q % p25 : Nat) : Int) = ((q * q : Nat) : Int) % ((p25 : Nat) : Int) := Int.natCast_emod _ _
    have h5 := Z_mod (q * q)
    rw [Int.natCast_mul] at h5
    unfold Eqm
    rw [Nat.mod_eq_of_lt c_lt]
    exact Z.eq (Nat.mod_lt _ p25_pos) c_lt ((h5.add h2).lin1 1 (by unfold cE; omega))
  have hq0 : ¬ p25 ∣ q := fun hd => by
    have h6 : Z (q : Int) := Int.natCast_dvd_natCast.2 hd
    refine c_ne ((h2.sub (h6.mul q)).lin1 (-1) (by omega))
  have h4 := fermat1 prime_p25 q hq0
  have h7 := h3.pow ((p25 - 1) / 2)
  unfold Eqm at h7
  rw [← Nat.pow_two, ← Nat.pow_mul, ← half_eq, h4] at h7
  exact c_pow h7.symm
def EC (x y : Int) : Prop := Z (x * x * y * y - cE * (y * y - x * x - 1))
theorem c_sq (x : Int) : ¬ Z (cE - x * x) := fun h => Z.one (c_none (a := 1) (b := x) (h.lin1 1 (by grind)))
theorem c_sqn (y : Int) : ¬ Z (cE + y * y) := fun h => Z.one (c_none (a := 1) (b := (iN : Int) * y) (by
  have hi := i_sq
  generalize ((iN : Nat) : Int) = i at *
  exact Z.lin2 1 (-(y * y)) h hi (by grind)))
/-- The sums' divisors are not nothing. -/
theorem no_zero {x1 y1 x2 y2 e : Int} (he : e * e = 1) (h1 : EC x1 y1) (h2 : EC x2 y2) : ¬ Z (cE - e * (x1 * x2 * y1 * y2)) := fun h => by
  have hi := i_sq
  have hc := c_ne
  unfold EC at h1 h2
  have hn := @c_none
  generalize ((iN : Nat) : Int) = i at *
  generalize cE = c at *
  have key : ∀ j : Int, Z (j * j + 1) → Z (x1 * y1 * (j * x2 + y2)) := fun j hj => by
    have h3 : Z (c * ((j * x1 + e * y1) * (j * x1 + e * y1)) - (x1 * y1 * (j * x2 + y2)) * (x1 * y1 * (j * x2 + y2))) := by
      refine Z.cancel (a := c) ?_ hc
      exact Z.lin4 (-c) (x1*x1*y1*y1) (c + e*(x1*x2*y1*y2) + 2*j*e*c*x1*y1) (c*c*x1*x1 - c*(x1*x1*y1*y1*x2*x2)) h1 h2 h hj (by grind)
    have h4 := hn h3
    have h5 : Z ((x1 * y1 * (j * x2 + y2)) * (x1 * y1 * (j * x2 + y2))) := Z.lin2 (-1) (c * (j * x1 + e * y1)) h3 h4 (by grind)
    rcases h5.prime with h6 | h6 <;> exact h6
  have k1 := key i hi
  have k2 := key (-i) (hi.lin1 1 (by grind))
  have k3 : Z (2 * (x1 * y1 * y2)) := Z.lin2 1 1 k1 k2 (by grind)
  have k4 : Z (x1 * y1 * y2) := k3.cancel fun h => by
    have := (Z.nat (a := 2) p25_two).1 h
    cases this
  exact hc (Z.lin2 1 (e * x2) h k4 (by grind))
theorem plus_ne {x1 y1 x2 y2 : Int} (h1 : EC x1 y1) (h2 : EC x2 y2) : ¬ Z (cE + x1 * x2 * y1 * y2) := fun h => no_zero (e := -1) (by decide) h1 h2 (h.lin1 1 (by grind))
theorem minus_ne {x1 y1 x2 y2 : Int} (h1 : EC x1 y1) (h2 : EC x2 y2) : ¬ Z (cE - x1 * x2 * y1 * y2) := fun h => no_zero (e := 1) (by decide) h1 h2 (h.lin1 1 (by grind))

/-! ### The identities -/
theorem poly_x (x1 y1 x2 y2 x3 y3 c : Int) (h1 : Z (x1*x1*y1*y1 - c*(y1*y1 - x1*x1 - 1))) (h2 : Z (x2*x2*y2*y2 - c*(y2*y2 - x2*x2 - 1))) (h3 : Z (x3*x3*y3*y3 - c*(y3*y3 - x3*x3 - 1))) :
    Z (((x1*y2+y1*x2)*y3*(c - x1*x2*y1*y2) + (y1*y2+x1*x2)*x3*(c + x1*x2*y1*y2)) * ((c + x2*x3*y2*y3)*(c - x2*x3*y2*y3) + c*(x2*y3+y2*x3)*(y2*y3+x2*x3)*x1*y1) - (x1*(y2*y3+x2*x3)*(c + x2*x3*y2*y3) + y1*(x2*y3+y2*x3)*(c - x2*x3*y2*y3)) * ((c + x1*x2*y1*y2)*(c - x1*x2*y1*y2) + c*(x1*y2+y1*x2)*(y1*y2+x1*x2)*x3*y3)) :=
  Z.lin3 (y1*x2*y2*y2*y2*y2*x3*x3*y3*c + y1*x2*x2*y2*y2*y2*x3*c + y1*x2*x2*y2*y2*y2*x3*x3*x3*c + y1*x2*x2*x2*y2*y2*y3*c - y1*x2*x2*x2*y2*y2*y3*y3*y3*c - y1*x2*x2*x2*y2*y2*y2*y2*x3*x3*y3 - y1*x2*x2*x2*x2*y2*x3*y3*y3*c - y1*x2*x2*x2*x2*y2*y2*y2*x3*y3*y3 - x1*x2*y2*y2*y2*y2*x3*y3*y3*c + x1*x2*x2*y2*y2*y2*y3*c - x1*x2*x2*y2*y2*y2*y3*y3*y3*c + x1*x2*x2*x2*y2*y2*x3*c + x1*x2*x2*x2*y2*y2*x3*x3*x3*c + x1*x2*x2*x2*y2*y2*y2*y2*x3*y3*y3 + x1*x2*x2*x2*x2*y2*x3*x3*y3*c + x1*x2*x2*x2*x2*y2*y2*y2*x3*x3*y3)
    (-y1*y2*x3*c*c + y1*y2*x3*y3*y3*c*c - y1*y2*x3*x3*x3*c*c - y1*y2*x3*x3*x3*y3*y3*c - y1*x2*y3*c*c + y1*x2*y3*y3*y3*c*c - y1*x2*x3*x3*y3*c*c - y1*x2*x3*x3*y3*y3*y3*c + y1*x2*y2*y2*x3*x3*y3*c + y1*x2*x2*y2*x3*y3*y3*c + y1*y1*y1*y2*x3*c*c - y1*y1*y1*y2*x3*y3*y3*c*c + y1*y1*y1*y2*x3*x3*x3*c*c + y1*y1*y1*y2*x3*x3*x3*y3*y3*c + y1*y1*y1*x2*y3*c*c - y1*y1*y1*x2*y3*y3*y3*c*c + y1*y1*y1*x2*x3*x3*y3*c*c + y1*y1*y1*x2*x3*x3*y3*y3*y3*c - y1*y1*y1*x2*y2*y2*x3*x3*y3*c - y1*y1*y1*x2*x2*y2*x3*y3*y3*c - x1*y2*y3*c*c + x1*y2*y3*y3*y3*c*c - x1*y2*x3*x3*y3*c*c - x1*y2*x3*x3*y3*y3*y3*c - x1*x2*x3*c*c + x1*x2*x3*y3*y3*c*c - x1*x2*x3*x3*x3*c*c - x1*x2*x3*x3*x3*y3*y3*c - x1*x2*y2*y2*x3*y3*y3*c - x1*x2*x2*y2*x3*x3*y3*c + x1*y1*y1*y2*y3*c*c - x1*y1*y1*y2*y3*y3*y3*c*c + x1*y1*y1*y2*x3*x3*y3*c*c + x1*y1*y1*y2*x3*x3*y3*y3*y3*c + x1*y1*y1*x2*x3*c*c - x1*y1*y1*x2*x3*y3*y3*c*c + x1*y1*y1*x2*x3*x3*x3*c*c + x1*y1*y1*x2*x3*x3*x3*y3*y3*c + x1*y1*y1*x2*y2*y2*x3*y3*y3*c - x1*y1*y1*x2*y2*y2*x3*x3*x3*y3*y3 + x1*y1*y1*x2*x2*y2*x3*x3*y3*c + x1*y1*y1*x2*x2*y2*x3*x3*y3*y3*y3 - x1*x1*y1*y2*x3*c*c + x1*x1*y1*y2*x3*y3*y3*c*c - x1*x1*y1*y2*x3*x3*x3*c*c - x1*x1*y1*y2*x3*x3*x3*y3*y3*c - x1*x1*y1*x2*y3*c*c + x1*x1*y1*x2*y3*y3*y3*c*c - x1*x1*y1*x2*x3*x3*y3*c*c - x1*x1*y1*x2*x3*x3*y3*y3*y3*c + x1*x1*y1*x2*y2*y2*x3*x3*y3*c + x1*x1*y1*x2*y2*y2*x3*x3*y3*y3*y3 + x1*x1*y1*x2*x2*y2*x3*y3*y3*c - x1*x1*y1*x2*x2*y2*x3*x3*x3*y3*y3 - x1*x1*x1*y2*y3*c*c + x1*x1*x1*y2*y3*y3*y3*c*c - x1*x1*x1*y2*x3*x3*y3*c*c - x1*x1*x1*y2*x3*x3*y3*y3*y3*c - x1*x1*x1*x2*x3*c*c + x1*x1*x1*x2*x3*y3*y3*c*c - x1*x1*x1*x2*x3*x3*x3*c*c - x1*x1*x1*x2*x3*x3*x3*y3*y3*c - x1*x1*x1*x2*y2*y2*x3*y3*y3*c - x1*x1*x1*x2*x2*y2*x3*x3*y3*c)
    (y1*y2*x3*c*c - y1*y2*y2*y2*x3*c*c + y1*x2*y3*c*c - y1*x2*y2*y2*y3*c*c + y1*x2*x2*y2*x3*c*c + y1*x2*x2*x2*y3*c*c - y1*y1*y1*y2*x3*c*c + y1*y1*y1*y2*y2*y2*x3*c*c - y1*y1*y1*x2*y3*c*c + y1*y1*y1*x2*y2*y2*y3*c*c - y1*y1*y1*x2*x2*y2*x3*c*c - y1*y1*y1*x2*x2*x2*y3*c*c + x1*y2*y3*c*c - x1*y2*y2*y2*y3*c*c + x1*x2*x3*c*c - x1*x2*y2*y2*x3*c*c + x1*x2*x2*y2*y3*c*c + x1*x2*x2*x2*x3*c*c - x1*y1*y1*y2*y3*c*c + x1*y1*y1*y2*y2*y2*y3*c*c - x1*y1*y1*x2*x3*c*c + x1*y1*y1*x2*y2*y2*x3*c + x1*y1*y1*x2*y2*y2*x3*c*c - x1*y1*y1*x2*x2*y2*y3*c - x1*y1*y1*x2*x2*y2*y3*c*c - x1*y1*y1*x2*x2*x2*x3*c*c + x1*x1*y1*y2*x3*c*c - x1*x1*y1*y2*y2*y2*x3*c*c + x1*x1*y1*x2*y3*c*c - x1*x1*y1*x2*y2*y2*y3*c - x1*x1*y1*x2*y2*y2*y3*c*c + x1*x1*y1*x2*x2*y2*x3*c + x1*x1*y1*x2*x2*y2*x3*c*c + x1*x1*y1*x2*x2*x2*y3*c*c + x1*x1*x1*y2*y3*c*c - x1*x1*x1*y2*y2*y2*y3*c*c + x1*x1*x1*x2*x3*c*c - x1*x1*x1*x2*y2*y2*x3*c*c + x1*x1*x1*x2*x2*y2*y3*c*c + x1*x1*x1*x2*x2*x2*x3*c*c) h1 h2 h3 (by grind)
theorem poly_y (x1 y1 x2 y2 x3 y3 c : Int) (h1 : Z (x1*x1*y1*y1 - c*(y1*y1 - x1*x1 - 1))) (h2 : Z (x2*x2*y2*y2 - c*(y2*y2 - x2*x2 - 1))) (h3 : Z (x3*x3*y3*y3 - c*(y3*y3 - x3*x3 - 1))) :
    Z (((y1*y2+x1*x2)*y3*(c + x1*x2*y1*y2) + (x1*y2+y1*x2)*x3*(c - x1*x2*y1*y2)) * ((c + x2*x3*y2*y3)*(c - x2*x3*y2*y3) - c*(x2*y3+y2*x3)*(y2*y3+x2*x3)*x1*y1) - (y1*(y2*y3+x2*x3)*(c + x2*x3*y2*y3) + x1*(x2*y3+y2*x3)*(c - x2*x3*y2*y3)) * ((c + x1*x2*y1*y2)*(c - x1*x2*y1*y2) - c*(x1*y2+y1*x2)*(y1*y2+x1*x2)*x3*y3)) :=
  Z.lin3 (-y1*x2*y2*y2*y2*y2*x3*y3*y3*c + y1*x2*x2*y2*y2*y2*y3*c - y1*x2*x2*y2*y2*y2*y3*y3*y3*c + y1*x2*x2*x2*y2*y2*x3*c + y1*x2*x2*x2*y2*y2*x3*x3*x3*c + y1*x2*x2*x2*y2*y2*y2*y2*x3*y3*y3 + y1*x2*x2*x2*x2*y2*x3*x3*y3*c + y1*x2*x2*x2*x2*y2*y2*y2*x3*x3*y3 + x1*x2*y2*y2*y2*y2*x3*x3*y3*c + x1*x2*x2*y2*y2*y2*x3*c + x1*x2*x2*y2*y2*y2*x3*x3*x3*c + x1*x2*x2*x2*y2*y2*y3*c - x1*x2*x2*x2*y2*y2*y3*y3*y3*c - x1*x2*x2*x2*y2*y2*y2*y2*x3*x3*y3 - x1*x2*x2*x2*x2*y2*x3*y3*y3*c - x1*x2*x2*x2*x2*y2*y2*y2*x3*y3*y3)
    (-y1*y2*y3*c*c + y1*y2*y3*y3*y3*c*c - y1*y2*x3*x3*y3*c*c - y1*y2*x3*x3*y3*y3*y3*c - y1*x2*x3*c*c + y1*x2*x3*y3*y3*c*c - y1*x2*x3*x3*x3*c*c - y1*x2*x3*x3*x3*y3*y3*c - y1*x2*y2*y2*x3*y3*y3*c - y1*x2*x2*y2*x3*x3*y3*c + y1*y1*y1*y2*y3*c*c - y1*y1*y1*y2*y3*y3*y3*c*c + y1*y1*y1*y2*x3*x3*y3*c*c + y1*y1*y1*y2*x3*x3*y3*y3*y3*c + y1*y1*y1*x2*x3*c*c - y1*y1*y1*x2*x3*y3*y3*c*c + y1*y1*y1*x2*x3*x3*x3*c*c + y1*y1*y1*x2*x3*x3*x3*y3*y3*c + y1*y1*y1*x2*y2*y2*x3*y3*y3*c + y1*y1*y1*x2*x2*y2*x3*x3*y3*c - x1*y2*x3*c*c + x1*y2*x3*y3*y3*c*c - x1*y2*x3*x3*x3*c*c - x1*y2*x3*x3*x3*y3*y3*c - x1*x2*y3*c*c + x1*x2*y3*y3*y3*c*c - x1*x2*x3*x3*y3*c*c - x1*x2*x3*x3*y3*y3*y3*c + x1*x2*y2*y2*x3*x3*y3*c + x1*x2*x2*y2*x3*y3*y3*c + x1*y1*y1*y2*x3*c*c - x1*y1*y1*y2*x3*y3*y3*c*c + x1*y1*y1*y2*x3*x3*x3*c*c + x1*y1*y1*y2*x3*x3*x3*y3*y3*c + x1*y1*y1*x2*y3*c*c - x1*y1*y1*x2*y3*y3*y3*c*c + x1*y1*y1*x2*x3*x3*y3*c*c + x1*y1*y1*x2*x3*x3*y3*y3*y3*c - x1*y1*y1*x2*y2*y2*x3*x3*y3*c - x1*y1*y1*x2*y2*y2*x3*x3*y3*y3*y3 - x1*y1*y1*x2*x2*y2*x3*y3*y3*c + x1*y1*y1*x2*x2*y2*x3*x3*x3*y3*y3 - x1*x1*y1*y2*y3*c*c + x1*x1*y1*y2*y3*y3*y3*c*c - x1*x1*y1*y2*x3*x3*y3*c*c - x1*x1*y1*y2*x3*x3*y3*y3*y3*c - x1*x1*y1*x2*x3*c*c + x1*x1*y1*x2*x3*y3*y3*c*c - x1*x1*y1*x2*x3*x3*x3*c*c - x1*x1*y1*x2*x3*x3*x3*y3*y3*c - x1*x1*y1*x2*y2*y2*x3*y3*y3*c + x1*x1*y1*x2*y2*y2*x3*x3*x3*y3*y3 - x1*x1*y1*x2*x2*y2*x3*x3*y3*c - x1*x1*y1*x2*x2*y2*x3*x3*y3*y3*y3 - x1*x1*x1*y2*x3*c*c + x1*x1*x1*y2*x3*y3*y3*c*c - x1*x1*x1*y2*x3*x3*x3*c*c - x1*x1*x1*y2*x3*x3*x3*y3*y3*c - x1*x1*x1*x2*y3*c*c + x1*x1*x1*x2*y3*y3*y3*c*c - x1*x1*x1*x2*x3*x3*y3*c*c - x1*x1*x1*x2*x3*x3*y3*y3*y3*c + x1*x1*x1*x2*y2*y2*x3*x3*y3*c + x1*x1*x1*x2*x2*y2*x3*y3*y3*c)
    (y1*y2*y3*c*c - y1*y2*y2*y2*y3*c*c + y1*x2*x3*c*c - y1*x2*y2*y2*x3*c*c + y1*x2*x2*y2*y3*c*c + y1*x2*x2*x2*x3*c*c - y1*y1*y1*y2*y3*c*c + y1*y1*y1*y2*y2*y2*y3*c*c - y1*y1*y1*x2*x3*c*c + y1*y1*y1*x2*y2*y2*x3*c*c - y1*y1*y1*x2*x2*y2*y3*c*c - y1*y1*y1*x2*x2*x2*x3*c*c + x1*y2*x3*c*c - x1*y2*y2*y2*x3*c*c + x1*x2*y3*c*c - x1*x2*y2*y2*y3*c*c + x1*x2*x2*y2*x3*c*c + x1*x2*x2*x2*y3*c*c - x1*y1*y1*y2*x3*c*c + x1*y1*y1*y2*y2*y2*x3*c*c - x1*y1*y1*x2*y3*c*c + x1*y1*y1*x2*y2*y2*y3*c + x1*y1*y1*x2*y2*y2*y3*c*c - x1*y1*y1*x2*x2*y2*x3*c - x1*y1*y1*x2*x2*y2*x3*c*c - x1*y1*y1*x2*x2*x2*y3*c*c + x1*x1*y1*y2*y3*c*c - x1*x1*y1*y2*y2*y2*y3*c*c + x1*x1*y1*x2*x3*c*c - x1*x1*y1*x2*y2*y2*x3*c - x1*x1*y1*x2*y2*y2*x3*c*c + x1*x1*y1*x2*x2*y2*y3*c + x1*x1*y1*x2*x2*y2*y3*c*c + x1*x1*y1*x2*x2*x2*x3*c*c + x1*x1*x1*y2*x3*c*c - x1*x1*x1*y2*y2*y2*x3*c*c + x1*x1*x1*x2*y3*c*c - x1*x1*x1*x2*y2*y2*y3*c*c + x1*x1*x1*x2*x2*y2*x3*c*c + x1*x1*x1*x2*x2*x2*y3*c*c) h1 h2 h3 (by grind)
theorem poly_on (x1 y1 x2 y2 c : Int) (h1 : Z (x1*x1*y1*y1 - c*(y1*y1 - x1*x1 - 1))) (h2 : Z (x2*x2*y2*y2 - c*(y2*y2 - x2*x2 - 1))) :
    Z (c*c*c*(x1*y2+y1*x2)*(x1*y2+y1*x2)*(y1*y2+x1*x2)*(y1*y2+x1*x2) - (c*c*(y1*y2+x1*x2)*(y1*y2+x1*x2)*(c + x1*x2*y1*y2)*(c + x1*x2*y1*y2) - c*c*(x1*y2+y1*x2)*(x1*y2+y1*x2)*(c - x1*x2*y1*y2)*(c - x1*x2*y1*y2) - (c + x1*x2*y1*y2)*(c + x1*x2*y1*y2)*(c - x1*x2*y1*y2)*(c - x1*x2*y1*y2))) :=
  Z.lin2 (y2*y2*y2*y2*c*c*c - 2*x2*x2*y2*y2*c*c - 4*x2*x2*y2*y2*c*c*c + 2*x2*x2*y2*y2*y2*y2*c*c*c + x2*x2*x2*x2*c*c*c - 2*x2*x2*x2*x2*y2*y2*c*c*c - x2*x2*x2*x2*y2*y2*y2*y2*c - 2*x2*x2*x2*x2*y2*y2*y2*y2*c*c - y1*y1*x2*x2*y2*y2*y2*y2*c*c + y1*y1*x2*x2*x2*x2*y2*y2*c*c + y1*y1*x2*x2*x2*x2*y2*y2*y2*y2*c + x1*x1*x2*x2*y2*y2*y2*y2*c*c - x1*x1*x2*x2*x2*x2*y2*y2*c*c - x1*x1*x2*x2*x2*x2*y2*y2*y2*y2*c + x1*x1*y1*y1*x2*x2*x2*x2*y2*y2*y2*y2)
    (c*c*c + y2*y2*c*c*c - x2*x2*c*c*c + x2*x2*y2*y2*c*c + 2*x2*x2*y2*y2*c*c*c - y1*y1*y2*y2*c*c*c + y1*y1*x2*x2*c*c*c - 2*y1*y1*x2*x2*y2*y2*c*c - 2*y1*y1*x2*x2*y2*y2*c*c*c + y1*y1*y1*y1*x2*x2*y2*y2*c*c + x1*x1*y2*y2*c*c*c - x1*x1*x2*x2*c*c*c + 2*x1*x1*x2*x2*y2*y2*c*c + 2*x1*x1*x2*x2*y2*y2*c*c*c + x1*x1*x1*x1*x2*x2*y2*y2*c*c) h1 h2 (by grind)
theorem poly_on2 (X Y u v P M c : Int) (ha : Z (X * P - c * u)) (hb : Z (Y * M - c * v)) (hh : Z (c*c*c*u*u*v*v - (c*c*v*v*P*P - c*c*u*u*M*M - P*P*M*M))) (hP : ¬ Z P) (hM : ¬ Z M) :
    Z (X * X * Y * Y - c * (Y * Y - X * X - 1)) := by
  refine Z.cancel (a := (P * P) * (M * M)) ?_ (Z.not_mul (Z.not_mul hP hP) (Z.not_mul hM hM))
  exact Z.lin3 ((X * P + c * u) * ((Y * M) * (Y * M) + c * M * M)) ((Y * M + c * v) * (c * c * u * u - c * P * P)) c ha hb hh (by grind)
theorem poly_three_x (X Y u v P M c x3 y3 s : Int) (hc : ¬ Z c) (ha : Z (X * P - c * u)) (hb : Z (Y * M - c * v)) (hs : Z (s * (c + X * x3 * Y * y3) - c * (X * y3 + Y * x3))) :
    Z (s * (P * M + c * u * v * x3 * y3) - c * (u * y3 * M + v * x3 * P)) := by
  refine Z.cancel (a := c) ?_ hc
  exact Z.lin3 (P * M) (c * M * y3 - s * x3 * y3 * Y * M) (c * P * x3 - s * x3 * y3 * c * u) hs ha hb (by grind)
theorem poly_three_y (X Y u v P M c x3 y3 s : Int) (hc : ¬ Z c) (ha : Z (X * P - c * u)) (hb : Z (Y * M - c * v)) (hs : Z (s * (c - X * x3 * Y * y3) - c * (Y * y3 + X * x3))) :
    Z (s * (P * M - c * u * v * x3 * y3) - c * (v * y3 * P + u * x3 * M)) := by
  refine Z.cancel (a := c) ?_ hc
  exact Z.lin3 (P * M) (c * M * x3 + s * x3 * y3 * Y * M) (c * P * y3 + s * x3 * y3 * c * u) hs ha hb (by grind)
theorem poly_ne_x (X Y u v P M c x3 y3 : Int) (ha : Z (X * P - c * u)) (hb : Z (Y * M - c * v)) (hP : ¬ Z P) (hM : ¬ Z M) (h : ¬ Z (c + X * x3 * Y * y3)) : ¬ Z (P * M + c * u * v * x3 * y3) := fun hd =>
  h (Z.cancel (a := P * M) (Z.lin3 c (x3 * y3 * Y * M) (x3 * y3 * c * u) hd ha hb (by grind)) (Z.not_mul hP hM))
theorem poly_ne_y (X Y u v P M c x3 y3 : Int) (ha : Z (X * P - c * u)) (hb : Z (Y * M - c * v)) (hP : ¬ Z P) (hM : ¬ Z M) (h : ¬ Z (c - X * x3 * Y * y3)) : ¬ Z (P * M - c * u * v * x3 * y3) := fun hd =>
  h (Z.cancel (a := P * M) (Z.lin3 c (-(x3 * y3 * Y * M)) (-(x3 * y3 * c * u)) hd ha hb (by grind)) (Z.not_mul hP hM))
theorem poly_same (s s' N D N2 D2 c : Int) (h1 : Z (s * D - c * N)) (h2 : Z (s' * D2 - c * N2)) (h3 : Z (N * D2 - N2 * D)) (hD : ¬ Z D) (hD2 : ¬ Z D2) : Z (s - s') := by
  refine Z.cancel (a := D * D2) ?_ (Z.not_mul hD hD2)
  exact Z.lin3 D2 (-D) c h1 h2 h3 (by grind)

/-! ### The group -/
def onE (P : Nat × Nat) : Prop := P.1 < p25 ∧ P.2 < p25 ∧ EC (P.1 : Int) (P.2 : Int)
def addE (P Q : Nat × Nat) : Nat × Nat :=
  (quot (cE * ((P.1 : Int) * (Q.2 : Int) + (P.2 : Int) * (Q.1 : Int))) (cE + (P.1 : Int) * (Q.1 : Int) * (P.2 : Int) * (Q.2 : Int)),
   quot (cE * ((P.2 : Int) * (Q.2 : Int) + (P.1 : Int) * (Q.1 : Int))) (cE - (P.1 : Int) * (Q.1 : Int) * (P.2 : Int) * (Q.2 : Int)))
theorem addE_Z {P Q : Nat × Nat} (hP : onE P) (hQ : onE Q) :
    Z (((addE P Q).1 : Int) * (cE + (P.1 : Int) * (Q.1 : Int) * (P.2 : Int) * (Q.2 : Int)) - cE * ((P.1 : Int) * (Q.2 : Int) + (P.2 : Int) * (Q.1 : Int))) ∧
    Z (((addE P Q).2 : Int) * (cE - (P.1 : Int) * (Q.1 : Int) * (P.2 : Int) * (Q.2 : Int)) - cE * ((P.2 : Int) * (Q.2 : Int) + (P.1 : Int) * (Q.1 : Int))) :=
  ⟨quot_Z _ (plus_ne hP.2.2 hQ.2.2), quot_Z _ (minus_ne hP.2.2 hQ.2.2)⟩
theorem addE_on {P Q : Nat × Nat} (hP : onE P) (hQ : onE Q) : onE (addE P Q) := by
  obtain ⟨h1, h2⟩ := addE_Z hP hQ
  refine ⟨quot_lt _ _, quot_lt _ _, ?_⟩
  unfold EC
  exact poly_on2 _ _ _ _ _ _ cE h1 h2 (poly_on _ _ _ _ cE hP.2.2 hQ.2.2) (plus_ne hP.2.2 hQ.2.2) (minus_ne hP.2.2 hQ.2.2)
/-- What stands in the sum's place is the sum. -/
theorem addE_eq {P Q R : Nat × Nat} (hP : onE P) (hQ : onE Q) (h1 : R.1 < p25) (h2 : R.2 < p25)
    (k1 : Z ((R.1 : Int) * (cE + (P.1 : Int) * (Q.1 : Int) * (P.2 : Int) * (Q.2 : Int)) - cE * ((P.1 : Int) * (Q.2 : Int) + (P.2 : Int) * (Q.1 : Int))))
    (k2 : Z ((R.2 : Int) * (cE - (P.1 : Int) * (Q.1 : Int) * (P.2 : Int) * (Q.2 : Int)) - cE * ((P.2 : Int) * (Q.2 : Int) + (P.1 : Int) * (Q.1 : Int)))) : addE P Q = R :=
  Prod.ext (quot_eq h1 (plus_ne hP.2.2 hQ.2.2) k1).symm (quot_eq h2 (minus_ne hP.2.2 hQ.2.2) k2).symm
theorem addE_comm (P Q : Nat × Nat) : addE P Q = addE Q P := by
  unfold addE
  rw [show (P.1 : Int) * (Q.2 : Int) + (P.2 : Int) * (Q.1 : Int) = (Q.1 : Int) * (P.2 : Int) + (Q.2 : Int) * (P.1 : Int) by grind,
    show (P.2 : Int) * (Q.2 : Int) + (P.1 : Int) * (Q.1 : Int) = (Q.2 : Int) * (P.2 : Int) + (Q.1 : Int) * (P.1 : Int) by grind,
    show (P.1 : Int) * (Q.1 : Int) * (P.2 : Int) * (Q.2 : Int) = (Q.1 : Int) * (P.1 : Int) * (Q.2 : Int) * (P.2 : Int) by grind]
theorem three_x {P Q R : Nat × Nat} (hP : onE P) (hQ : onE Q) (hR : onE R) {x1 y1 x2 y2 x3 y3 : Int} (e1 : x1 = P.1) (e2 : y1 = P.2) (e3 : x2 = Q.1) (e4 : y2 = Q.2) (e5 : x3 = R.1) (e6 : y3 = R.2) :
    Z (((addE (addE P Q) R).1 : Int) * ((cE + x1*x2*y1*y2) * (cE - x1*x2*y1*y2) + cE * (x1*y2+y1*x2) * (y1*y2+x1*x2) * x3 * y3) - cE * ((x1*y2+y1*x2)*y3*(cE - x1*x2*y1*y2) + (y1*y2+x1*x2)*x3*(cE + x1*x2*y1*y2))) ∧
    ¬ Z ((cE + x1*x2*y1*y2) * (cE - x1*x2*y1*y2) + cE * (x1*y2+y1*x2) * (y1*y2+x1*x2) * x3 * y3) := by
  subst e1; subst e2; subst e3; subst e4; subst e5; subst e6
  obtain ⟨h1, h2⟩ := addE_Z hP hQ
  have hS := addE_on hP hQ
  obtain ⟨h3, _⟩ := addE_Z hS hR
  exact ⟨poly_three_x _ _ _ _ _ _ cE _ _ _ c_ne h1 h2 h3, poly_ne_x _ _ _ _ _ _ cE _ _ h1 h2 (plus_ne hP.2.2 hQ.2.2) (minus_ne hP.2.2 hQ.2.2) (plus_ne hS.2.2 hR.2.2)⟩
theorem three_y {P Q R : Nat × Nat} (hP : onE P) (hQ : onE Q) (hR : onE R) {x1 y1 x2 y2 x3 y3 : Int} (e1 : x1 = P.1) (e2 : y1 = P.2) (e3 : x2 = Q.1) (e4 : y2 = Q.2) (e5 : x3 = R.1) (e6 : y3 = R.2) :
    Z (((addE (addE P Q) R).2 : Int) * ((cE + x1*x2*y1*y2) * (cE - x1*x2*y1*y2) - cE * (x1*y2+y1*x2) * (y1*y2+x1*x2) * x3 * y3) - cE * ((y1*y2+x1*x2)*y3*(cE + x1*x2*y1*y2) + (x1*y2+y1*x2)*x3*(cE - x1*x2*y1*y2))) ∧
    ¬ Z ((cE + x1*x2*y1*y2) * (cE - x1*x2*y1*y2) - cE * (x1*y2+y1*x2) * (y1*y2+x1*x2) * x3 * y3) := by
  subst e1; subst e2; subst e3; subst e4; subst e5; subst e6
  obtain ⟨h1, h2⟩ := addE_Z hP hQ
  have hS := addE_on hP hQ
  obtain ⟨_, h3⟩ := addE_Z hS hR
  exact ⟨poly_three_y _ _ _ _ _ _ cE _ _ _ c_ne h1 h2 h3, poly_ne_y _ _ _ _ _ _ cE _ _ h1 h2 (plus_ne hP.2.2 hQ.2.2) (minus_ne hP.2.2 hQ.2.2) (minus_ne hS.2.2 hR.2.2)⟩
theorem addE_assoc {P Q R : Nat × Nat} (hP : onE P) (hQ : onE Q) (hR : onE R) : addE (addE P Q) R = addE P (addE Q R) := by
  rw [addE_comm P (addE Q R)]
  obtain ⟨x1, e1⟩ : ∃ x : Int, x = P.1 := ⟨_, rfl⟩
  obtain ⟨y1, e2⟩ : ∃ x : Int, x = P.2 := ⟨_, rfl⟩
  obtain ⟨x2, e3⟩ : ∃ x : Int, x = Q.1 := ⟨_, rfl⟩
  obtain ⟨y2, e4⟩ : ∃ x : Int, x = Q.2 := ⟨_, rfl⟩
  obtain ⟨x3, e5⟩ : ∃ x : Int, x = R.1 := ⟨_, rfl⟩
  obtain ⟨y3, e6⟩ : ∃ x : Int, x = R.2 := ⟨_, rfl⟩
  have kP := hP.2.2
  have kQ := hQ.2.2
  have kR := hR.2.2
  rw [← e1, ← e2] at kP
  rw [← e3, ← e4] at kQ
  rw [← e5, ← e6] at kR
  obtain ⟨a1, a2⟩ := three_x hP hQ hR e1 e2 e3 e4 e5 e6
  obtain ⟨b1, b2⟩ := three_y hP hQ hR e1 e2 e3 e4 e5 e6
  obtain ⟨c1, c2⟩ := three_x hQ hR hP e3 e4 e5 e6 e1 e2
  obtain ⟨d1, d2⟩ := three_y hQ hR hP e3 e4 e5 e6 e1 e2
  have px := poly_x x1 y1 x2 y2 x3 y3 cE kP kQ kR
  have py := poly_y x1 y1 x2 y2 x3 y3 cE kP kQ kR
  refine Prod.ext (Z.eq (quot_lt _ _) (quot_lt _ _) ?_) (Z.eq (quot_lt _ _) (quot_lt _ _) ?_)
  · exact poly_same _ _ _ _ _ _ cE a1 c1 (px.lin1 1 (by grind)) a2 c2
  · exact poly_same _ _ _ _ _ _ cE b1 d1 (py.lin1 1 (by grind)) b2 d2
def ptO : Nat × Nat := (0, 1)
def negE (P : Nat × Nat) : Nat × Nat := (oppP P.1, P.2)
theorem ptO_on : onE ptO := ⟨p25_pos, Nat.lt_trans (by decide) p25_two, Z.zero.lin1 1 (by unfold ptO; grind)⟩
theorem negE_on {P : Nat × Nat} (hP : onE P) : onE (negE P) := by
  obtain ⟨h1, h2, h3⟩ := hP
  refine ⟨oppP_lt _, h2, ?_⟩
  have ho := Z_oppP P.1
  unfold EC at *
  show Z (((oppP P.1 : Nat) : Int) * ((oppP P.1 : Nat) : Int) * (P.2 : Int) * (P.2 : Int) - cE * ((P.2 : Int) * (P.2 : Int) - ((oppP P.1 : Nat) : Int) * ((oppP P.1 : Nat) : Int) - 1))
  generalize ((oppP P.1 : Nat) : Int) = o at *
  generalize (P.1 : Int) = x at *
  generalize (P.2 : Int) = y at *
  exact Z.lin2 1 ((o - x) * (y * y + cE)) h3 ho (by grind)
theorem addE_zero {P : Nat × Nat} (hP : onE P) : addE P ptO = P := by
  refine addE_eq hP ptO_on hP.1 hP.2.1 (Z.zero.lin1 1 ?_) (Z.zero.lin1 1 ?_) <;> unfold ptO <;> grind
theorem addE_neg {P : Nat × Nat} (hP : onE P) : addE P (negE P) = ptO := by
  refine addE_eq hP (negE_on hP) ptO_on.1 ptO_on.2.1 ?_ ?_
  · have ho := Z_oppP P.1
    unfold ptO negE
    show Z (((0 : Nat) : Int) * (cE + (P.1 : Int) * ((oppP P.1 : Nat) : Int) * (P.2 : Int) * (P.2 : Int)) - cE * ((P.1 : Int) * (P.2 : Int) + (P.2 : Int) * ((oppP P.1 : Nat) : Int)))
    generalize ((oppP P.1 : Nat) : Int) = o at *
    generalize (P.1 : Int) = x at *
    generalize (P.2 : Int) = y at *
    exact Z.lin1 (-(cE * y)) ho (by grind)
  · have ho := Z_oppP P.1
    have h3 := hP.2.2
    unfold EC at h3
    unfold ptO negE
    show Z (((1 : Nat) : Int) * (cE - (P.1 : Int) * ((oppP P.1 : Nat) : Int) * (P.2 : Int) * (P.2 : Int)) - cE * ((P.2 : Int) * (P.2 : Int) + (P.1 : Int) * ((oppP P.1 : Nat) : Int)))
    generalize ((oppP P.1 : Nat) : Int) = o at *
    generalize (P.1 : Int) = x at *
    generalize (P.2 : Int) = y at *
    exact Z.lin2 1 (-(x * y * y) - cE * x) h3 ho (by grind)
/-- Times. -/
def mulE : Nat → Nat × Nat → Nat × Nat
  | 0, _ => ptO
  | n + 1, P => addE (mulE n P) P
theorem mulE_on {P : Nat × Nat} (hP : onE P) : ∀ n, onE (mulE n P)
  | 0 => ptO_on
  | n + 1 => addE_on (mulE_on hP n) hP
theorem mulE_one {P : Nat × Nat} (hP : onE P) : mulE 1 P = P := by
  show addE ptO P = P
  rw [addE_comm, addE_zero hP]
theorem mulE_add {P : Nat × Nat} (hP : onE P) (m : Nat) : ∀ n, mulE (m + n) P = addE (mulE m P) (mulE n P)
  | 0 => (addE_zero (mulE_on hP m)).symm
  | n + 1 => by
    show addE (mulE (m + n) P) P = addE (mulE m P) (addE (mulE n P) P)
    rw [mulE_add hP m n, addE_assoc (mulE_on hP m) (mulE_on hP n) hP]
theorem mulE_mul {P : Nat × Nat} (hP : onE P) (m : Nat) : ∀ n, mulE (m * n) P = mulE n (mulE m P)
  | 0 => rfl
  | n + 1 => by
    rw [Nat.mul_succ, mulE_add hP, mulE_mul hP m n]
    rfl
theorem mulE_zero : ∀ n, mulE n ptO = ptO
  | 0 => rfl
  | n + 1 => by
    show addE (mulE n ptO) ptO = ptO
    rw [mulE_zero n, addE_zero ptO_on]
theorem addE_cancel {P Q R : Nat × Nat} (hP : onE P) (hQ : onE Q) (hR : onE R) (h : addE P R = addE Q R) : P = Q := by
  have h1 : addE (addE P R) (negE R) = addE (addE Q R) (negE R) := by rw [h]
  rwa [addE_assoc hP hR (negE_on hR), addE_assoc hQ hR (negE_on hR), addE_neg hR, addE_zero hP, addE_zero hQ] at h1
end Go.Proofs.Ytncdlaidmiokiaa
