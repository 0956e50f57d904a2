/- The ladder in numbers: of a point of the curve the fraction (1 + y) / (1 - y) alone; doubled, and added where the difference is known. -/
import Derived.Test.YtncdlaidmiokiaaEdA
set_option linter.unusedSimpArgs false
set_option linter.unusedVariables false
namespace Go.Proofs.Ytncdlaidmiokiaa

theorem Z.mulc {a a' b b' : Int} (h : Z (a - a')) (k : Z (b - b')) : Z (a * b - a' * b') := Z.lin2 b a' h k (by grind)
theorem Z.addc {a a' b b' : Int} (h : Z (a - a')) (k : Z (b - b')) : Z (a + b - (a' + b')) := Z.lin2 1 1 h k (by grind)
theorem Z.subc {a a' b b' : Int} (h : Z (a - a')) (k : Z (b - b')) : Z (a - b - (a' - b')) := Z.lin2 1 (-1) h k (by grind)
theorem Z.trans {a b c : Int} (h : Z (a - b)) (k : Z (b - c)) : Z (a - c) := Z.lin2 1 1 h k (by grind)
theorem Z.symm {a b : Int} (h : Z (a - b)) : Z (b - a) := h.lin1 (-1) (by grind)
theorem Z.rfl' (a : Int) : Z (a - a) := Z.zero.lin1 1 (by grind)
theorem Z.two : ¬ Z 2 := fun h => by
  have := (Z.nat (a := 2) p25_two).1 h
  cases this
theorem Z.sq {a : Int} (h : Z (a * a)) : Z a := by rcases h.prime with h | h <;> exact h
theorem a24_c : Z (121665 * cE + 121666) := by
  have h : Eqm p25 (121665 * cN + 121666) 0 := by unfold Eqm; decide +kernel
  have h2 := Z_of_Eqm h
  rw [Int.natCast_add, Int.natCast_mul] at h2
  exact h2.lin1 1 (by unfold cE; omega)
theorem c_one : ¬ Z (cE + 1) := fun h => by
  have h2 := a24_c
  generalize cE = c at *
  exact Z.one (Z.lin2 1 (-121665) h2 h (by grind))
/-- (X : W) is the point's fraction. -/
def Rep (P : Nat × Nat) (X W : Int) : Prop := ∃ l : Int, ¬ Z l ∧ Z (X - l * (1 + (P.2 : Int))) ∧ Z (W - l * (1 - (P.2 : Int)))

theorem poly_dbl (x y c r X W X' W' l h g : Int) (hc : Z (c * h - 1)) (hc1 : ¬ Z (c + 1)) (ha : Z (121665 * c + 121666)) (hg : g = 1 + 121665 * (1 - y * y)) (hP : Z (x * x * y * y - c * (y * y - x * x - 1)))
    (hr : Z (r * (c - x * x * y * y) - c * (y * y + x * x))) (h1 : Z (X - l * (1 + y))) (h2 : Z (W - l * (1 - y)))
    (hX : Z (X' - ((X + W) * (X + W)) * ((X - W) * (X - W)))) (hW : Z (W' - ((X + W) * (X + W) - (X - W) * (X - W)) * ((X + W) * (X + W) + 121665 * ((X + W) * (X + W) - (X - W) * (X - W))))) :
    Z (X' - (8 * (l * l) * (l * l) * g * (c - x * x * y * y) * h) * (1 + r)) ∧ Z (W' - (8 * (l * l) * (l * l) * g * (c - x * x * y * y) * h) * (1 - r)) := by
  have hA : Z (X + W - 2 * l) := Z.lin2 1 1 h1 h2 (by grind)
  have hB : Z (X - W - 2 * l * y) := Z.lin2 1 (-1) h1 h2 (by grind)
  have hAA := hA.mulc hA
  have hBB := hB.mulc hB
  have hE := hAA.subc hBB
  have hX2 := hX.trans (hAA.mulc hBB)
  have hW2 := hW.trans (hE.mulc (hAA.addc ((Z.rfl' 121665).mulc hE)))
  clear hX hW hAA hBB hE hA hB h1 h2
  have kg : Z (y * y - g * (1 + x * x)) := by
    refine Z.cancel (a := c + 1) ?_ hc1
    exact Z.lin2 (-1) (-((1 - y * y) * (1 + x * x))) hP ha (by grind)
  have kr : Z ((c - x * x * y * y) * (1 + r) - 2 * c * (1 + x * x)) := Z.lin2 1 (-1) hr hP (by grind)
  have ks : Z ((c - x * x * y * y) * (1 - r) - 2 * c * (1 - y * y)) := Z.lin2 (-1) (-1) hr hP (by grind)
  constructor
  · refine hX2.trans ?_
    exact Z.lin3 (16 * (l * l) * (l * l)) (-(8 * (l * l) * (l * l) * g * h)) (-(16 * (l * l) * (l * l) * g * (1 + x * x))) kg kr hc (by grind)
  · refine hW2.trans ?_
    exact Z.lin2 (-(8 * (l * l) * (l * l) * g * h)) (-(16 * (l * l) * (l * l) * g * (1 - y * y))) ks hc (by grind)
/-- Doubled. -/
theorem rep_dbl {P : Nat × Nat} (hP : onE P) {X W X' W' : Int} (hR : Rep P X W)
    (hX : Z (X' - ((X + W) * (X + W)) * ((X - W) * (X - W)))) (hW : Z (W' - ((X + W) * (X + W) - (X - W) * (X - W)) * ((X + W) * (X + W) + 121665 * ((X + W) * (X + W) - (X - W) * (X - W))))) :
    Rep (addE P P) X' W' := by
  obtain ⟨l, hl, h1, h2⟩ := hR
  obtain ⟨h, hh⟩ := Z.inv c_ne
  obtain ⟨_, hr⟩ := addE_Z hP hP
  have hne := minus_ne hP.2.2 hP.2.2
  have hcy := c_sqn (P.2 : Int)
  have ha := a24_c
  have hE := hP.2.2
  unfold EC at hE
  have hc1 := c_one
  have hc := c_ne
  unfold Rep
  generalize ((addE P P).2 : Int) = r at *
  generalize (P.1 : Int) = x at *
  generalize (P.2 : Int) = y at *
  generalize cE = c at *
  obtain ⟨g, hg⟩ : ∃ g, g = 1 + 121665 * (1 - y * y) := ⟨_, rfl⟩
  refine ⟨_, ?_, poly_dbl x y c r X W X' W' l h g hh hc1 ha hg hE (hr.lin1 1 (by grind)) h1 h2 hX hW⟩
  have hgz : ¬ Z g := fun hz => hcy (Z.lin2 (c + 1) (-(1 - y * y)) hz ha (by grind))
  have hhz : ¬ Z h := fun hz => Z.one (Z.lin2 c (-1) hz hh (by grind))
  have h8 : ¬ Z 8 := fun hz => by
    have h3 : Z (2 * (2 * 2)) := hz
    rcases h3.prime with h4 | h4
    · exact Z.two h4
    · exact Z.two h4.sq
  exact Z.not_mul (Z.not_mul (Z.not_mul (Z.not_mul (Z.not_mul h8 (Z.not_mul hl hl)) (Z.not_mul hl hl)) hgz) (fun hz => hne (hz.lin1 1 (by grind)))) hhz

theorem poly_diff (x1 y1 x2 y2 c s d w : Int) (hw : w = x1 * x2 * y1 * y2) (hP : Z (x1 * x1 * y1 * y1 - c * (y1 * y1 - x1 * x1 - 1))) (hQ : Z (x2 * x2 * y2 * y2 - c * (y2 * y2 - x2 * x2 - 1)))
    (hs : Z (s * (c - w) - c * (y1 * y2 + x1 * x2))) (hd : Z (d * (c + w) - c * (y1 * y2 - x1 * x2))) (hm : ¬ Z (c - w)) (hp : ¬ Z (c + w)) :
    Z ((1 + s) * (1 + d) * ((y2 - y1) * (y2 - y1)) - (1 - s) * (1 - d) * ((y1 + y2) * (y1 + y2))) := by
  refine Z.cancel (a := (c - w) * (c + w)) ?_ (Z.not_mul hm hp)
  exact Z.lin4 (4*y1*x2*x2*y2*c + 4*y1*x2*x2*y2*y2*y2) (-4*y1*y2*c + 4*y1*y1*y1*y2*c)
    ((y2 - y1) * (y2 - y1) * (c + w) * (1 + d) + (y1 + y2) * (y1 + y2) * (c + w) * (1 - d))
    ((y2 - y1) * (y2 - y1) * (c - w + c * (y1 * y2 + x1 * x2)) + (y1 + y2) * (y1 + y2) * (c - w - c * (y1 * y2 + x1 * x2))) hP hQ hs hd (by grind)
theorem poly_end (x1 y1 x2 y2 c d w : Int) (hc : ¬ Z c) (hw : w = x1 * x2 * y1 * y2) (hP : Z (x1 * x1 * y1 * y1 - c * (y1 * y1 - x1 * x1 - 1))) (hQ : Z (x2 * x2 * y2 * y2 - c * (y2 * y2 - x2 * x2 - 1)))
    (hd : Z (d * (c + w) - c * (y1 * y2 - x1 * x2))) (h1 : Z y1) (h2 : Z y2) : Z ((1 - d) * (1 + d)) := by
  have k1 : Z (x1 * x1 + 1) := Z.cancel (a := c) (Z.lin2 1 (c * y1 - x1 * x1 * y1) hP h1 (by grind)) hc
  have k2 : Z (x2 * x2 + 1) := Z.cancel (a := c) (Z.lin2 1 (c * y2 - x2 * x2 * y2) hQ h2 (by grind)) hc
  have k3 : Z (d + x1 * x2) := Z.cancel (a := c) (Z.lin2 1 (c * y2 - d * (x1 * x2 * y2)) hd h1 (by grind)) hc
  exact Z.lin3 (-(d - x1 * x2)) (-(x2 * x2)) 1 k3 k1 k2 (by grind)
/-- The sum, of two whose difference is known. -/
theorem rep_add {P Q : Nat × Nat} (hP : onE P) (hQ : onE Q) {X W X3 W3 X' W' u d : Int} (hRP : Rep P X W) (hRQ : Rep Q X3 W3)
    (hd : Z (d * (cE + (P.1 : Int) * (Q.1 : Int) * (P.2 : Int) * (Q.2 : Int)) - cE * ((P.2 : Int) * (Q.2 : Int) - (P.1 : Int) * (Q.1 : Int))))
    (hu : Z (u * (1 - d) - (1 + d))) (hd1 : ¬ Z (1 - d)) (hd2 : ¬ Z (1 + d))
    (hX : Z (X' - ((X3 - W3) * (X + W) + (X3 + W3) * (X - W)) * ((X3 - W3) * (X + W) + (X3 + W3) * (X - W))))
    (hW : Z (W' - u * (((X3 - W3) * (X + W) - (X3 + W3) * (X - W)) * ((X3 - W3) * (X + W) - (X3 + W3) * (X - W))))) :
    Rep (addE P Q) X' W' := by
  obtain ⟨l, hl, h1, h2⟩ := hRP
  obtain ⟨m, hm, h3, h4⟩ := hRQ
  obtain ⟨h, hh⟩ := Z.inv Z.two
  obtain ⟨_, hs⟩ := addE_Z hP hQ
  have hmi := minus_ne hP.2.2 hQ.2.2
  have hpl := plus_ne hP.2.2 hQ.2.2
  have hEP := hP.2.2
  have hEQ := hQ.2.2
  unfold EC at hEP hEQ
  have hc := c_ne
  unfold Rep
  generalize ((addE P Q).2 : Int) = s at *
  generalize (P.1 : Int) = x1 at *
  generalize (P.2 : Int) = y1 at *
  generalize (Q.1 : Int) = x2 at *
  generalize (Q.2 : Int) = y2 at *
  generalize cE = c at *
  have hA : Z (X + W - 2 * l) := Z.lin2 1 1 h1 h2 (by grind)
  have hB : Z (X - W - 2 * l * y1) := Z.lin2 1 (-1) h1 h2 (by grind)
  have hC : Z (X3 + W3 - 2 * m) := Z.lin2 1 1 h3 h4 (by grind)
  have hD : Z (X3 - W3 - 2 * m * y2) := Z.lin2 1 (-1) h3 h4 (by grind)
  have hDA := hD.mulc hA
  have hCB := hC.mulc hB
  have hp := hDA.addc hCB
  have hq := hDA.subc hCB
  have hX2 := hX.trans (hp.mulc hp)
  have hW2 := hW.trans ((Z.rfl' u).mulc (hq.mulc hq))
  clear hX hW hA hB hC hD hDA hCB hp hq h1 h2 h3 h4
  have key := poly_diff x1 y1 x2 y2 c s d _ rfl hEP hEQ hs hd hmi hpl
  obtain ⟨k, hk⟩ : ∃ k, k = 16 * (l * l) * (m * m) := ⟨_, rfl⟩
  obtain ⟨M, hM⟩ : ∃ M, M = (y1 + y2) * (y1 + y2) := ⟨_, rfl⟩
  obtain ⟨N, hN⟩ : ∃ N, N = (y2 - y1) * (y2 - y1) := ⟨_, rfl⟩
  have hX3 : Z (X' - k * M) := hX2.lin1 1 (by grind)
  have hW3 : Z (W' - u * k * N) := hW2.lin1 1 (by grind)
  have uk : Z ((1 + s) * u * N - (1 - s) * M) := by
    refine Z.cancel (a := 1 - d) ?_ hd1
    exact Z.lin2 1 ((1 + s) * N) key hu (by grind)
  clear hX2 hW2 key
  have huz : ¬ Z u := fun hz => hd2 (Z.lin2 (1 - d) (-1) hz hu (by grind))
  have hkz : ¬ Z k := by
    rw [hk]
    refine Z.not_mul (Z.not_mul (fun hz => ?_) (Z.not_mul hl hl)) (Z.not_mul hm hm)
    have h3 : Z ((2 * 2) * (2 * 2)) := hz
    exact Z.two h3.sq.sq
  have hhz : ¬ Z h := fun hz => Z.one (Z.lin2 2 (-1) hz hh (by grind))
  refine ⟨k * (M + u * N) * h, ?_, Z.lin3 1 (-(k * M)) (-(k * h)) hX3 hh uk (by grind), Z.lin3 1 (-(k * u * N)) (k * h) hW3 hh uk (by grind)⟩
  refine Z.not_mul (Z.not_mul hkz fun hz => ?_) hhz
  have hM0 : Z M := Z.cancel (a := 2) (Z.lin2 (1 + s) (-1) hz uk (by grind)) Z.two
  have hN0 : Z N := Z.cancel (a := u) (Z.lin2 1 (-1) hz hM0 (by grind)) huz
  rw [hM] at hM0
  rw [hN] at hN0
  have j1 := hM0.sq
  have j2 := hN0.sq
  have i1 : Z y1 := Z.cancel (a := 2) (Z.lin2 1 (-1) j1 j2 (by grind)) Z.two
  have i2 : Z y2 := Z.cancel (a := 2) (Z.lin2 1 1 j1 j2 (by grind)) Z.two
  exact Z.not_mul hd1 hd2 (poly_end x1 y1 x2 y2 c d _ hc rfl hEP hEQ hd i1 i2)
theorem rep_zero : Rep ptO 1 0 := by
  obtain ⟨h, hh⟩ := Z.inv Z.two
  refine ⟨h, fun hz => Z.one (Z.lin2 2 (-1) hz hh (by grind)), ?_, ?_⟩
  · unfold ptO
    exact hh.lin1 (-1) (by grind)
  · unfold ptO
    exact Z.zero.lin1 1 (by grind)
theorem rep_one {P : Nat × Nat} {u : Int} (h1 : ¬ Z (1 - (P.2 : Int))) (hu : Z (u * (1 - (P.2 : Int)) - (1 + (P.2 : Int)))) : Rep P u 1 := by
  obtain ⟨h, hh⟩ := Z.inv h1
  unfold Rep
  generalize (P.2 : Int) = y at *
  refine ⟨h, fun hz => Z.one (Z.lin2 (1 - y) (-1) hz hh (by grind)), ?_, hh.lin1 (-1) (by grind)⟩
  exact Z.lin2 h (-u) hu hh (by grind)
/-- The fraction itself; of the zero point it is 0. -/
def fracE (P : Nat × Nat) : Nat := quot (1 + (P.2 : Int)) (1 - (P.2 : Int))
theorem quot_zero (a : Int) {b : Int} (h : Z b) : quot a b = 0 := by
  have h1 : numZ b = 0 := (Z.nat (numZ_lt b)).1 ((h.add (numZ_Z b)).lin1 1 (by omega))
  unfold quot
  rw [h1, invP_zero]
  unfold mulP
  rw [Nat.mul_zero, Nat.zero_mod]
theorem rep_out {P : Nat × Nat} {X W : Nat} (hW : W < p25) (h : Rep P (X : Int) (W : Int)) : mulP X (invP W) = fracE P := by
  obtain ⟨l, hl, h1, h2⟩ := h
  unfold fracE
  by_cases hz : Z (1 - (P.2 : Int))
  · rw [quot_zero _ hz]
    have h3 : W = 0 := (Z.nat hW).1 (Z.lin2 1 l h2 hz (by grind))
    rw [h3, invP_zero]
    unfold mulP
    rw [Nat.mul_zero, Nat.zero_mod]
  · refine quot_eq (mulP_lt _ _) hz ?_
    have hWz : ¬ Z (W : Int) := fun h3 => Z.not_mul hl hz (Z.lin2 1 (-1) h3 h2 (by grind))
    have h3 := Z_invP hW hWz
    have h4 := Z_mulP X (invP W)
    generalize ((mulP X (invP W) : Nat) : Int) = q at *
    generalize ((invP W : Nat) : Int) = i at *
    generalize (X : Int) = x at *
    generalize (W : Int) = w at *
    generalize (P.2 : Int) = y at *
    refine Z.cancel (a := l) ?_ hl
    exact Z.lin4 (l * (1 - y)) (-(x * i)) x 1 h4 h2 h3 h1 (by grind)
end Go.Proofs.Ytncdlaidmiokiaa
