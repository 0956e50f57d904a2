/- Texts joined: what they are for stands ahead of each. -/
import Derived.Test.YtonhpmaiagbheaaMM1
import Derived.Shelf.Spec.BitsCarry
import Derived.Lib.Mul64
import Derived.Shelf.Bits.Mul64
set_option linter.unusedSimpArgs false
set_option linter.unusedVariables false

/- The ladder in numbers: of a point of the curve the fraction (1 + y) / (1 - y) alone; doubled, and added where the difference is known. -/
set_option linter.unusedSimpArgs false
set_option linter.unusedVariables false
namespace Go.Proofs.Ytonhpmaiagbheaa

theorem Z.mulc {a a' b b' : Int} (h : Z (a - a')) (k : Z (b - b')) : Z (a * b - a' * b') := Z.lin2 b a' h k (by grind)
theorem Z.addc {a a' b b' : Int} (h : Z (a - a')) (k : Z (b - b')) : Z (a + b - (a' + b')) := Z.lin2 1 1 h k (by grind)
theorem Z.subc {a a' b b' : Int} (h : Z (a - a')) (k : Z (b - b')) : Z (a - b - (a' - b')) := Z.lin2 1 (-1) h k (by grind)
theorem Z.trans {a b c : Int} (h : Z (a - b)) (k : Z (b - c)) : Z (a - c) := Z.lin2 1 1 h k (by grind)
theorem Z.symm {a b : Int} (h : Z (a - b)) : Z (b - a) := h.lin1 (-1) (by grind)
theorem Z.rfl' (a : Int) : Z (a - a) := Z.zero.lin1 1 (by grind)
theorem Z.two : ¬ Z 2 := fun h => by
  have := (Z.nat (a := 2) p25_two).1 h
  cases this
theorem Z.sq {a : Int} (h : Z (a * a)) : Z a := by rcases h.prime with h | h <;> exact h
theorem a24_c : Z (121665 * cE + 121666) := by
  have h : Eqm p25 (121665 * cN + 121666) 0 := by unfold Eqm; decide +kernel
  have h2 := Z_of_Eqm h
  rw [Int.natCast_add, Int.natCast_mul] at h2
  exact h2.lin1 1 (by unfold cE; omega)
theorem c_one : ¬ Z (cE + 1) := fun h => by
  have h2 := a24_c
  generalize cE = c at *
  exact Z.one (Z.lin2 1 (-121665) h2 h (by grind))
/-- (X : W) is the point's fraction. -/
def Rep (P : Nat × Nat) (X W : Int) : Prop := ∃ l : Int, ¬ Z l ∧ Z (X - l * (1 + (P.2 : Int))) ∧ Z (W - l * (1 - (P.2 : Int)))

theorem poly_dbl (x y c r X W X' W' l h g : Int) (hc : Z (c * h - 1)) (hc1 : ¬ Z (c + 1)) (ha : Z (121665 * c + 121666)) (hg : g = 1 + 121665 * (1 - y * y)) (hP : Z (x * x * y * y - c * (y * y - x * x - 1)))
    (hr : Z (r * (c - x * x * y * y) - c * (y * y + x * x))) (h1 : Z (X - l * (1 + y))) (h2 : Z (W - l * (1 - y)))
    (hX : Z (X' - ((X + W) * (X + W)) * ((X - W) * (X - W)))) (hW : Z (W' - ((X + W) * (X + W) - (X - W) * (X - W)) * ((X + W) * (X + W) + 121665 * ((X + W) * (X + W) - (X - W) * (X - W))))) :
    Z (X' - (8 * (l * l) * (l * l) * g * (c - x * x * y * y) * h) * (1 + r)) ∧ Z (W' - (8 * (l * l) * (l * l) * g * (c - x * x * y * y) * h) * (1 - r)) := by
  have hA : Z (X + W - 2 * l) := Z.lin2 1 1 h1 h2 (by grind)
  have hB : Z (X - W - 2 * l * y) := Z.lin2 1 (-1) h1 h2 (by grind)
  have hAA := hA.mulc hA
  have hBB := hB.mulc hB
  have hE := hAA.subc hBB
  have hX2 := hX.trans (hAA.mulc hBB)
  have hW2 := hW.trans (hE.mulc (hAA.addc ((Z.rfl' 121665).mulc hE)))
  clear hX hW hAA hBB hE hA hB h1 h2
  have kg : Z (y * y - g * (1 + x * x)) := by
    refine Z.cancel (a := c + 1) ?_ hc1
    exact Z.lin2 (-1) (-((1 - y * y) * (1 + x * x))) hP ha (by grind)
  have kr : Z ((c - x * x * y * y) * (1 + r) - 2 * c * (1 + x * x)) := Z.lin2 1 (-1) hr hP (by grind)
  have ks : Z ((c - x * x * y * y) * (1 - r) - 2 * c * (1 - y * y)) := Z.lin2 (-1) (-1) hr hP (by grind)
  constructor
  · refine hX2.trans ?_
    exact Z.lin3 (16 * (l * l) * (l * l)) (-(8 * (l * l) * (l * l) * g * h)) (-(16 * (l * l) * (l * l) * g * (1 + x * x))) kg kr hc (by grind)
  · refine hW2.trans ?_
    exact Z.lin2 (-(8 * (l * l) * (l * l) * g * h)) (-(16 * (l * l) * (l * l) * g * (1 - y * y))) ks hc (by grind)
/-- Doubled. -/
theorem rep_dbl {P : Nat × Nat} (hP : onE P) {X W X' W' : Int} (hR : Rep P X W)
    (hX : Z (X' - ((X + W) * (X + W)) * ((X - W) * (X - W)))) (hW : Z (W' - ((X + W) * (X + W) - (X - W) * (X - W)) * ((X + W) * (X + W) + 121665 * ((X + W) * (X + W) - (X - W) * (X - W))))) :
    Rep (addE P P) X' W' := by
  obtain ⟨l, hl, h1, h2⟩ := hR
  obtain ⟨h, hh⟩ := Z.inv c_ne
  obtain ⟨_, hr⟩ := addE_Z hP hP
  have hne := minus_ne hP.2.2 hP.2.2
  have hcy := c_sqn (P.2 : Int)
  have ha := a24_c
  have hE := hP.2.2
  unfold EC at hE
  have hc1 := c_one
  have hc := c_ne
  unfold Rep
  generalize ((addE P P).2 : Int) = r at *
  generalize (P.1 : Int) = x at *
  generalize (P.2 : Int) = y at *
  generalize cE = c at *
  obtain ⟨g, hg⟩ : ∃ g, g = 1 + 121665 * (1 - y * y) := ⟨_, rfl⟩
  refine ⟨_, ?_, poly_dbl x y c r X W X' W' l h g hh hc1 ha hg hE (hr.lin1 1 (by grind)) h1 h2 hX hW⟩
  have hgz : ¬ Z g := fun hz => hcy (Z.lin2 (c + 1) (-(1 - y * y)) hz ha (by grind))
  have hhz : ¬ Z h := fun hz => Z.one (Z.lin2 c (-1) hz hh (by grind))
  have h8 : ¬ Z 8 := fun hz => by
    have h3 : Z (2 * (2 * 2)) := hz
    rcases h3.prime with h4 | h4
    · exact Z.two h4
    · exact Z.two h4.sq
  exact Z.not_mul (Z.not_mul (Z.not_mul (Z.not_mul (Z.not_mul h8 (Z.not_mul hl hl)) (Z.not_mul hl hl)) hgz) (fun hz => hne (hz.lin1 1 (by grind)))) hhz

theorem poly_diff (x1 y1 x2 y2 c s d w : Int) (hw : w = x1 * x2 * y1 * y2) (hP : Z (x1 * x1 * y1 * y1 - c * (y1 * y1 - x1 * x1 - 1))) (hQ : Z (x2 * x2 * y2 * y2 - c * (y2 * y2 - x2 * x2 - 1)))
    (hs : Z (s * (c - w) - c * (y1 * y2 + x1 * x2))) (hd : Z (d * (c + w) - c * (y1 * y2 - x1 * x2))) (hm : ¬ Z (c - w)) (hp : ¬ Z (c + w)) :
    Z ((1 + s) * (1 + d) * ((y2 - y1) * (y2 - y1)) - (1 - s) * (1 - d) * ((y1 + y2) * (y1 + y2))) := by
  refine Z.cancel (a := (c - w) * (c + w)) ?_ (Z.not_mul hm hp)
  exact Z.lin4 (4*y1*x2*x2*y2*c + 4*y1*x2*x2*y2*y2*y2) (-4*y1*y2*c + 4*y1*y1*y1*y2*c)
    ((y2 - y1) * (y2 - y1) * (c + w) * (1 + d) + (y1 + y2) * (y1 + y2) * (c + w) * (1 - d))
    ((y2 - y1) * (y2 - y1) * (c - w + c * (y1 * y2 + x1 * x2)) + (y1 + y2) * (y1 + y2) * (c - w - c * (y1 * y2 + x1 * x2))) hP hQ hs hd (by grind)
theorem poly_end (x1 y1 x2 y2 c d w : Int) (hc : ¬ Z c) (hw : w = x1 * x2 * y1 * y2) (hP : Z (x1 * x1 * y1 * y1 - c * (y1 * y1 - x1 * x1 - 1))) (hQ : Z (x2 * x2 * y2 * y2 - c * (y2 * y2 - x2 * x2 - 1)))
    (hd : Z (d * (c + w) - c * (y1 * y2 - x1 * x2))) (h1 : Z y1) (h2 : Z y2) : Z ((1 - d) * (1 + d)) := by
  have k1 : Z (x1 * x1 + 1) := Z.cancel (a := c) (Z.lin2 1 (c * y1 - x1 * x1 * y1) hP h1 (by grind)) hc
  have k2 : Z (x2 * x2 + 1) := Z.cancel (a := c) (Z.lin2 1 (c * y2 - x2 * x2 * y2) hQ h2 (by grind)) hc
  have k3 : Z (d + x1 * x2) := Z.cancel (a := c) (Z.lin2 1 (c * y2 - d * (x1 * x2 * y2)) hd h1 (by grind)) hc
  exact Z.lin3 (-(d - x1 * x2)) (-(x2 * x2)) 1 k3 k1 k2 (by grind)
/-- The sum, of two whose difference is known. -/
theorem rep_add {P Q : Nat × Nat} (hP : onE P) (hQ : onE Q) {X W X3 W3 X' W' u d : Int} (hRP : Rep P X W) (hRQ : Rep Q X3 W3)
    (hd : Z (d * (cE + (P.1 : Int) * (Q.1 : Int) * (P.2 : Int) * (Q.2 : Int)) - cE * ((P.2 : Int) * (Q.2 : Int) - (P.1 : Int) * (Q.1 : Int))))
    (hu : Z (u * (1 - d) - (1 + d))) (hd1 : ¬ Z (1 - d)) (hd2 : ¬ Z (1 + d))
    (hX : Z (X' - ((X3 - W3) * (X + W) + (X3 + W3) * (X - W)) * ((X3 - W3) * (X + W) + (X3 + W3) * (X - W))))
    (hW : Z (W' - u * (((X3 - W3) * (X + W) - (X3 + W3) * (X - W)) * ((X3 - W3) * (X + W) - (X3 + W3) * (X - W))))) :
    Rep (addE P Q) X' W' := by
  obtain ⟨l, hl, h1, h2⟩ := hRP
  obtain ⟨m, hm, h3, h4⟩ := hRQ
  obtain ⟨h, hh⟩ := Z.inv Z.two
  obtain ⟨_, hs⟩ := addE_Z hP hQ
  have hmi := minus_ne hP.2.2 hQ.2.2
  have hpl := plus_ne hP.2.2 hQ.2.2
  have hEP := hP.2.2
  have hEQ := hQ.2.2
  unfold EC at hEP hEQ
  have hc := c_ne
  unfold Rep
  generalize ((addE P Q).2 : Int) = s at *
  generalize (P.1 : Int) = x1 at *
  generalize (P.2 : Int) = y1 at *
  generalize (Q.1 : Int) = x2 at *
  generalize (Q.2 : Int) = y2 at *
  generalize cE = c at *
  have hA : Z (X + W - 2 * l) := Z.lin2 1 1 h1 h2 (by grind)
  have hB : Z (X - W - 2 * l * y1) := Z.lin2 1 (-1) h1 h2 (by grind)
  have hC : Z (X3 + W3 - 2 * m) := Z.lin2 1 1 h3 h4 (by grind)
  have hD : Z (X3 - W3 - 2 * m * y2) := Z.lin2 1 (-1) h3 h4 (by grind)
  have hDA := hD.mulc hA
  have hCB := hC.mulc hB
  have hp := hDA.addc hCB
  have hq := hDA.subc hCB
  have hX2 := hX.trans (hp.mulc hp)
  have hW2 := hW.trans ((Z.rfl' u).mulc (hq.mulc hq))
  clear hX hW hA hB hC hD hDA hCB hp hq h1 h2 h3 h4
  have key := poly_diff x1 y1 x2 y2 c s d _ rfl hEP hEQ hs hd hmi hpl
  obtain ⟨k, hk⟩ : ∃ k, k = 16 * (l * l) * (m * m) := ⟨_, rfl⟩
  obtain ⟨M, hM⟩ : ∃ M, M = (y1 + y2) * (y1 + y2) := ⟨_, rfl⟩
  obtain ⟨N, hN⟩ : ∃ N, N = (y2 - y1) * (y2 - y1) := ⟨_, rfl⟩
  have hX3 : Z (X' - k * M) := hX2.lin1 1 (by grind)
  have hW3 : Z (W' - u * k * N) := hW2.lin1 1 (by grind)
  have uk : Z ((1 + s) * u * N - (1 - s) * M) := by
    refine Z.cancel (a := 1 - d) ?_ hd1
    exact Z.lin2 1 ((1 + s) * N) key hu (by grind)
  clear hX2 hW2 key
  have huz : ¬ Z u := fun hz => hd2 (Z.lin2 (1 - d) (-1) hz hu (by grind))
  have hkz : ¬ Z k := by
    rw [hk]
    refine Z.not_mul (Z.not_mul (fun hz => ?_) (Z.not_mul hl hl)) (Z.not_mul hm hm)
    have h3 : Z ((2 * 2) * (2 * 2)) := hz
    exact Z.two h3.sq.sq
  have hhz : ¬ Z h := fun hz => Z.one (Z.lin2 2 (-1) hz hh (by grind))
  refine ⟨k * (M + u * N) * h, ?_, Z.lin3 1 (-(k * M)) (-(k * h)) hX3 hh uk (by grind), Z.lin3 1 (-(k * u * N)) (k * h) hW3 hh uk (by grind)⟩
  refine Z.not_mul (Z.not_mul hkz fun hz => ?_) hhz
  have hM0 : Z M := Z.cancel (a := 2) (Z.lin2 (1 + s) (-1) hz uk (by grind)) Z.two
  have hN0 : Z N := Z.cancel (a := u) (Z.lin2 1 (-1) hz hM0 (by grind)) huz
  rw [hM] at hM0
  rw [hN] at hN0
  have j1 := hM0.sq
  have j2 := hN0.sq
  have i1 : Z y1 := Z.cancel (a := 2) (Z.lin2 1 (-1) j1 j2 (by grind)) Z.two
  have i2 : Z y2 := Z.cancel (a := 2) (Z.lin2 1 1 j1 j2 (by grind)) Z.two
  exact Z.not_mul hd1 hd2 (poly_end x1 y1 x2 y2 c d _ hc rfl hEP hEQ hd i1 i2)
theorem rep_zero : Rep ptO 1 0 := by
  obtain ⟨h, hh⟩ := Z.inv Z.two
  refine ⟨h, fun hz => Z.one (Z.lin2 2 (-1) hz hh (by grind)), ?_, ?_⟩
  · unfold ptO
    exact hh.lin1 (-1) (by grind)
  · unfold ptO
    exact Z.zero.lin1 1 (by grind)
theorem rep_one {P : Nat × Nat} {u : Int} (h1 : ¬ Z (1 - (P.2 : Int))) (hu : Z (u * (1 - (P.2 : Int)) - (1 + (P.2 : Int)))) : Rep P u 1 := by
  obtain ⟨h, hh⟩ := Z.inv h1
  unfold Rep
  generalize (P.2 : Int) = y at *
  refine ⟨h, fun hz => Z.one (Z.lin2 (1 - y) (-1) hz hh (by grind)), ?_, hh.lin1 (-1) (by grind)⟩
  exact Z.lin2 h (-u) hu hh (by grind)
end Go.Proofs.Ytonhpmaiagbheaa

/- The ladder's steps as a function of numbers, and what it tells: the fraction of so many times the point. -/
set_option linter.unusedSimpArgs false
set_option linter.unusedVariables false
namespace Go.Proofs.Ytonhpmaiagbheaa

def lAA (x z : Nat) : Nat := mulP (addP x z) (addP x z)
def lBB (x z : Nat) : Nat := mulP (subP p25 x z) (subP p25 x z)
def lEE (x z : Nat) : Nat := subP p25 (lAA x z) (lBB x z)
def lx2 (x z : Nat) : Nat := mulP (lAA x z) (lBB x z)
def lz2 (x z : Nat) : Nat := mulP (lEE x z) (addP (lAA x z) (mulP 121665 (lEE x z)))
def lDA (x2 z2 x3 z3 : Nat) : Nat := mulP (subP p25 x3 z3) (addP x2 z2)
def lCB (x2 z2 x3 z3 : Nat) : Nat := mulP (addP x3 z3) (subP p25 x2 z2)
def lx3 (x2 z2 x3 z3 : Nat) : Nat := mulP (addP (lDA x2 z2 x3 z3) (lCB x2 z2 x3 z3)) (addP (lDA x2 z2 x3 z3) (lCB x2 z2 x3 z3))
def lz3 (u x2 z2 x3 z3 : Nat) : Nat := mulP u (mulP (subP p25 (lDA x2 z2 x3 z3) (lCB x2 z2 x3 z3)) (subP p25 (lDA x2 z2 x3 z3) (lCB x2 z2 x3 z3)))

theorem Z_lAA (x z : Nat) : Z ((lAA x z : Int) - ((x : Int) + z) * ((x : Int) + z)) := (Z_mulP _ _).trans ((Z_addP x z).mulc (Z_addP x z))
theorem Z_lBB (x z : Nat) : Z ((lBB x z : Int) - ((x : Int) - z) * ((x : Int) - z)) := (Z_mulP _ _).trans ((Z_subP x z).mulc (Z_subP x z))
theorem Z_lEE (x z : Nat) : Z ((lEE x z : Int) - (((x : Int) + z) * ((x : Int) + z) - ((x : Int) - z) * ((x : Int) - z))) := (Z_subP _ _).trans ((Z_lAA x z).subc (Z_lBB x z))
theorem Z_lx2 (x z : Nat) : Z ((lx2 x z : Int) - (((x : Int) + z) * ((x : Int) + z)) * (((x : Int) - z) * ((x : Int) - z))) := (Z_mulP _ _).trans ((Z_lAA x z).mulc (Z_lBB x z))
theorem Z_lz2 (x z : Nat) : Z ((lz2 x z : Int) - (((x : Int) + z) * ((x : Int) + z) - ((x : Int) - z) * ((x : Int) - z)) * (((x : Int) + z) * ((x : Int) + z) + 121665 * (((x : Int) + z) * ((x : Int) + z) - ((x : Int) - z) * ((x : Int) - z)))) :=
  (Z_mulP _ _).trans ((Z_lEE x z).mulc ((Z_addP _ _).trans ((Z_lAA x z).addc ((Z_mulP 121665 (lEE x z)).trans ((Z.rfl' 121665).mulc (Z_lEE x z))))))
theorem Z_lDA (x2 z2 x3 z3 : Nat) : Z ((lDA x2 z2 x3 z3 : Int) - ((x3 : Int) - z3) * ((x2 : Int) + z2)) := (Z_mulP _ _).trans ((Z_subP x3 z3).mulc (Z_addP x2 z2))
theorem Z_lCB (x2 z2 x3 z3 : Nat) : Z ((lCB x2 z2 x3 z3 : Int) - ((x3 : Int) + z3) * ((x2 : Int) - z2)) := (Z_mulP _ _).trans ((Z_addP x3 z3).mulc (Z_subP x2 z2))
theorem Z_lx3 (x2 z2 x3 z3 : Nat) : Z ((lx3 x2 z2 x3 z3 : Int) - (((x3 : Int) - z3) * ((x2 : Int) + z2) + ((x3 : Int) + z3) * ((x2 : Int) - z2)) * (((x3 : Int) - z3) * ((x2 : Int) + z2) + ((x3 : Int) + z3) * ((x2 : Int) - z2))) := by
  have h := (Z_addP _ _).trans ((Z_lDA x2 z2 x3 z3).addc (Z_lCB x2 z2 x3 z3))
  exact (Z_mulP _ _).trans (h.mulc h)
theorem Z_lz3 (u x2 z2 x3 z3 : Nat) : Z ((lz3 u x2 z2 x3 z3 : Int) - (u : Int) * ((((x3 : Int) - z3) * ((x2 : Int) + z2) - ((x3 : Int) + z3) * ((x2 : Int) - z2)) * (((x3 : Int) - z3) * ((x2 : Int) + z2) - ((x3 : Int) + z3) * ((x2 : Int) - z2)))) := by
  have h := (Z_subP _ _).trans ((Z_lDA x2 z2 x3 z3).subc (Z_lCB x2 z2 x3 z3))
  exact (Z_mulP _ _).trans ((Z.rfl' (u : Int)).mulc ((Z_mulP _ _).trans (h.mulc h)))
theorem rep_dblN {P : Nat × Nat} (hP : onE P) {x z : Nat} (h : Rep P x z) : Rep (addE P P) (lx2 x z) (lz2 x z) := rep_dbl hP h (Z_lx2 x z) (Z_lz2 x z)
theorem rep_addN {P Q : Nat × Nat} (hP : onE P) (hQ : onE Q) {x2 z2 x3 z3 u : Nat} {d : Int} (h1 : Rep P x2 z2) (h2 : Rep Q x3 z3)
    (hd : Z (d * (cE + (P.1 : Int) * (Q.1 : Int) * (P.2 : Int) * (Q.2 : Int)) - cE * ((P.2 : Int) * (Q.2 : Int) - (P.1 : Int) * (Q.1 : Int))))
    (hu : Z ((u : Int) * (1 - d) - (1 + d))) (hd1 : ¬ Z (1 - d)) (hd2 : ¬ Z (1 + d)) : Rep (addE P Q) (lx3 x2 z2 x3 z3) (lz3 u x2 z2 x3 z3) :=
  rep_add hP hQ h1 h2 hd hu hd1 hd2 (Z_lx3 x2 z2 x3 z3) (Z_lz3 u x2 z2 x3 z3)

/-- One step with the bit b: the two turned where the bit has changed. -/
def ladStep (u b : Nat) (s : Nat × (Nat × Nat) × (Nat × Nat)) : Nat × (Nat × Nat) × (Nat × Nat) :=
  let f := if s.1 = b then s.2.1 else s.2.2
  let g := if s.1 = b then s.2.2 else s.2.1
  (b, (lx2 f.1 f.2, lz2 f.1 f.2), (lx3 f.1 f.2 g.1 g.2, lz3 u f.1 f.2 g.1 g.2))
/-- Of i steps. -/
def ladS (u K : Nat) : Nat → Nat × (Nat × Nat) × (Nat × Nat)
  | 0 => (0, (1, 0), (u, 1))
  | i + 1 => ladStep u (K / 2 ^ (254 - i) % 2) (ladS u K i)
def ladEnd (s : Nat × (Nat × Nat) × (Nat × Nat)) : Nat := let f := if s.1 = 1 then s.2.2 else s.2.1; mulP f.1 (invP f.2)
def ladder (u K : Nat) : Nat := ladEnd (ladS u K 255)
/-- What holds of the two after the number n. -/
def LadI (P : Nat × Nat) (n : Nat) (s : Nat × (Nat × Nat) × (Nat × Nat)) : Prop :=
  (s.1 = 0 ∧ Rep (mulE n P) s.2.1.1 s.2.1.2 ∧ Rep (mulE (n + 1) P) s.2.2.1 s.2.2.2) ∨ (s.1 = 1 ∧ Rep (mulE (n + 1) P) s.2.1.1 s.2.1.2 ∧ Rep (mulE n P) s.2.2.1 s.2.2.2)
theorem diff_n {P : Nat × Nat} (hP : onE P) (n : Nat) :
    Z ((P.2 : Int) * (cE + ((mulE n P).1 : Int) * ((mulE (n + 1) P).1 : Int) * ((mulE n P).2 : Int) * ((mulE (n + 1) P).2 : Int)) - cE * (((mulE n P).2 : Int) * ((mulE (n + 1) P).2 : Int) - ((mulE n P).1 : Int) * ((mulE (n + 1) P).1 : Int))) := by
  have hn := mulE_on hP n
  have h1 : addE (mulE (n + 1) P) (negE (mulE n P)) = P := by
    show addE (addE (mulE n P) P) (negE (mulE n P)) = P
    rw [addE_comm (mulE n P) P, addE_assoc hP hn (negE_on hn), addE_neg hn, addE_zero hP]
  obtain ⟨_, h2⟩ := addE_Z (mulE_on hP (n + 1)) (negE_on hn)
  rw [h1] at h2
  have ho := Z_oppP (mulE n P).1
  have e1 : (negE (mulE n P)).1 = oppP (mulE n P).1 := rfl
  have e2 : (negE (mulE n P)).2 = (mulE n P).2 := rfl
  rw [e1, e2] at h2
  generalize ((oppP (mulE n P).1 : Nat) : Int) = o at *
  generalize ((mulE (n + 1) P).1 : Int) = x2 at *
  generalize ((mulE (n + 1) P).2 : Int) = y2 at *
  generalize ((mulE n P).1 : Int) = x1 at *
  generalize ((mulE n P).2 : Int) = y1 at *
  generalize (P.2 : Int) = d at *
  generalize cE = c at *
  exact Z.lin2 1 (c * x2 + d * x2 * y2 * y1) h2 ho (by grind)
theorem LadI.step {P : Nat × Nat} (hP : onE P) {u : Nat} (h1 : ¬ Z (1 - (P.2 : Int))) (h2 : ¬ Z (1 + (P.2 : Int))) (hu : Z ((u : Int) * (1 - (P.2 : Int)) - (1 + (P.2 : Int)))) {n b : Nat} (hb : b < 2)
    {s : Nat × (Nat × Nat) × (Nat × Nat)} (h : LadI P n s) : LadI P (2 * n + b) (ladStep u b s) := by
  have hn := mulE_on hP n
  have hn1 := mulE_on hP (n + 1)
  have hd := diff_n hP n
  have e0 : addE (mulE n P) (mulE n P) = mulE (2 * n) P := by rw [← mulE_add hP, Nat.two_mul]
  have e1 : addE (mulE n P) (mulE (n + 1) P) = mulE (2 * n + 1) P := by rw [← mulE_add hP]; congr 1; omega
  have e2 : addE (mulE (n + 1) P) (mulE (n + 1) P) = mulE (2 * n + 1 + 1) P := by rw [← mulE_add hP]; congr 1; omega
  have key : ∃ f g : Nat × Nat, ladStep u b s = (b, (lx2 f.1 f.2, lz2 f.1 f.2), (lx3 f.1 f.2 g.1 g.2, lz3 u f.1 f.2 g.1 g.2)) ∧
      (b = 0 → Rep (mulE n P) f.1 f.2 ∧ Rep (mulE (n + 1) P) g.1 g.2) ∧ (b = 1 → Rep (mulE (n + 1) P) f.1 f.2 ∧ Rep (mulE n P) g.1 g.2) := by
    refine ⟨_, _, rfl, fun h0 => ?_, fun h0 => ?_⟩ <;> rcases h with ⟨hs, k1, k2⟩ | ⟨hs, k1, k2⟩ <;> rw [h0, hs]
    · exact ⟨k1, k2⟩
    · exact ⟨k2, k1⟩
    · exact ⟨k2, k1⟩
    · exact ⟨k1, k2⟩
  obtain ⟨f, g, hs, k0, k1⟩ := key
  rw [hs]
  rcases (show b = 0 ∨ b = 1 by omega) with h0 | h0
  · obtain ⟨r1, r2⟩ := k0 h0
    left
    subst h0
    refine ⟨rfl, ?_, ?_⟩
    · rw [Nat.add_zero, ← e0]
      exact rep_dblN hn r1
    · rw [Nat.add_zero, ← e1]
      exact rep_addN hn hn1 r1 r2 hd hu h1 h2
  · obtain ⟨r1, r2⟩ := k1 h0
    right
    subst h0
    refine ⟨rfl, ?_, ?_⟩
    · rw [← e2]
      exact rep_dblN hn1 r1
    · rw [← e1, addE_comm]
      refine rep_addN hn1 hn r1 r2 (hd.lin1 1 ?_) hu h1 h2
      grind
theorem ladS_rep {P : Nat × Nat} (hP : onE P) {u K : Nat} (h1 : ¬ Z (1 - (P.2 : Int))) (h2 : ¬ Z (1 + (P.2 : Int))) (hu : Z ((u : Int) * (1 - (P.2 : Int)) - (1 + (P.2 : Int)))) (hK : K < 2 ^ 255) :
    ∀ i, i ≤ 255 → LadI P (K / 2 ^ (255 - i)) (ladS u K i)
  | 0, _ => by
    left
    rw [Nat.sub_zero, Nat.div_eq_of_lt hK]
    refine ⟨rfl, rep_zero, ?_⟩
    rw [Nat.zero_add, mulE_one hP]
    exact rep_one h1 hu
  | i + 1, hi => by
    have h := (ladS_rep hP h1 h2 hu hK i (by omega)).step hP h1 h2 hu (b := K / 2 ^ (254 - i) % 2) (Nat.mod_lt _ (by decide))
    have e : 2 * (K / 2 ^ (255 - i)) + K / 2 ^ (254 - i) % 2 = K / 2 ^ (255 - (i + 1)) := by
      rw [show 255 - i = (254 - i) + 1 by omega, Nat.pow_succ, ← Nat.div_div_eq_div_mul, show 255 - (i + 1) = 254 - i by omega]
      omega
    rw [e] at h
    exact h
end Go.Proofs.Ytonhpmaiagbheaa

/- The base point, its order, which is a prime; two that share one secret. -/
set_option linter.unusedSimpArgs false
set_option linter.unusedVariables false
namespace Go.Proofs.Ytonhpmaiagbheaa

theorem lp0 : IsPrime 531581 := prime_small 531581 729 (by decide) (by decide) (by decide +kernel)
theorem lp1 : IsPrime 1224481 := prime_small 1224481 1106 (by decide) (by decide) (by decide +kernel)
theorem lp2 : IsPrime 1257559732178653 := prime_by2 (q := 1224481) (m := 1027014492) (a := 2) (f := 51) (q' := 531581) (m' := 2365697292) (a' := 2) lp1 lp0 (by decide +kernel) (by decide +kernel) (by decide +kernel) (by decide +kernel) (by decide +kernel) (by decide +kernel) (by decide +kernel) (by decide +kernel) (by decide +kernel) (by decide +kernel)
theorem lp3 : IsPrime 4434155615661930479 := prime_by1 (q := 1257559732178653) (m := 3526) (a := 2) (f := 62) lp2 (by decide +kernel) (by decide +kernel) (by decide +kernel) (by decide +kernel) (by decide +kernel) (by decide +kernel)
theorem lp4 : IsPrime 172054593956031949258510691 := prime_by1 (q := 4434155615661930479) (m := 38802110) (a := 2) (f := 88) lp3 (by decide +kernel) (by decide +kernel) (by decide +kernel) (by decide +kernel) (by decide +kernel) (by decide +kernel)
theorem lp5 : IsPrime 19757330305831588566944191468367130476339 := prime_by1 (q := 172054593956031949258510691) (m := 114831751082918) (a := 2) (f := 134) lp4 (by decide +kernel) (by decide +kernel) (by decide +kernel) (by decide +kernel) (by decide +kernel) (by decide +kernel)
theorem lp6 : IsPrime 276602624281642239937218680557139826668747 := prime_by1 (q := 19757330305831588566944191468367130476339) (m := 14) (a := 2) (f := 138) lp5 (by decide +kernel) (by decide +kernel) (by decide +kernel) (by decide +kernel) (by decide +kernel) (by decide +kernel)
theorem lp7 : IsPrime 7237005577332262213973186563042994240857116359379907606001950938285454250989 := prime_by1 (q := 276602624281642239937218680557139826668747) (m := 26163907866482859529727157400808004) (a := 2) (f := 253) lp6 (by decide +kernel) (by decide +kernel) (by decide +kernel) (by decide +kernel) (by decide +kernel) (by decide +kernel)

def ordL : Nat := 7237005577332262213973186563042994240857116359379907606001950938285454250989
theorem prime_L : IsPrime ordL := lp7
def ptB : Nat × Nat := (15112221349535400772501151409588531511454012693041857206046113283949847762202, 46316835694926478169428394003475163141307993866256225615783033603165251855960)
theorem ptB_on : onE ptB := by
  refine ⟨by decide +kernel, by decide +kernel, ?_⟩
  have h : Eqm p25 (ptB.1 * ptB.1 * ptB.2 * ptB.2 + cN * (ptB.1 * ptB.1 + 1)) (cN * (ptB.2 * ptB.2)) := by unfold Eqm; decide +kernel
  have h2 := Z_of_Eqm h
  unfold EC cE
  refine h2.lin1 1 ?_
  simp only [Int.natCast_add, Int.natCast_mul]
  generalize (ptB.1 : Int) = x
  generalize (ptB.2 : Int) = y
  generalize (cN : Int) = c
  grind
theorem ptB_nine : Z (((9 : Nat) : Int) * (1 - (ptB.2 : Int)) - (1 + (ptB.2 : Int))) := by
  have h : Eqm p25 (9 : Nat) (1 + ptB.2 + 9 * ptB.2) := by unfold Eqm; decide +kernel
  have h2 := Z_of_Eqm h
  refine h2.lin1 1 ?_
  simp only [Int.natCast_add, Int.natCast_mul]
  generalize (ptB.2 : Int) = y
  grind
theorem ptB_less : ¬ Z (1 - (ptB.2 : Int)) := fun h => by
  have h2 : Z ((ptB.2 : Int) - ((1 : Nat) : Int)) := h.lin1 (-1) (by grind)
  have := Z.eq ptB_on.2.1 (Nat.lt_trans (Nat.lt_succ_self 1) p25_two) h2
  revert this
  decide +kernel
theorem ptB_more : ¬ Z (1 + (ptB.2 : Int)) := fun h => by
  have h1 : Z ((addP 1 ptB.2 : Nat) : Int) := ((Z_addP 1 ptB.2).add h).lin1 1 (by grind)
  have := (Z.nat (addP_lt _ _)).1 h1
  revert this
  decide +kernel
theorem ladL_zero : (ladS 9 ordL 255).1 = 1 ∧ (ladS 9 ordL 255).2.2.2 = 0 := by decide +kernel
/-- Of y = 1 or - 1 the x is 0. -/
theorem x_zero {P : Nat × Nat} (hP : onE P) (h : Z ((1 - (P.2 : Int)) * (1 + (P.2 : Int)))) : P.1 = 0 := by
  have hE := hP.2.2
  unfold EC at hE
  have hc := c_one
  refine (Z.nat hP.1).1 ?_
  generalize (P.1 : Int) = x at *
  generalize (P.2 : Int) = y at *
  generalize cE = c at *
  have h2 : Z (x * x) := Z.cancel (a := c + 1) (Z.lin2 1 (x * x - c) hE h (by grind)) hc
  exact h2.sq
theorem is_zero {P : Nat × Nat} (hP : onE P) (h : Z (1 - (P.2 : Int))) : P = ptO := by
  refine Prod.ext (x_zero hP (h.lin1 (1 + (P.2 : Int)) (by grind))) ?_
  refine Z.eq hP.2.1 (Nat.lt_trans (Nat.lt_succ_self 1) p25_two) (h.lin1 (-1) (by unfold ptO; grind))
theorem twice_zero {P : Nat × Nat} (hP : onE P) (h : Z ((1 - (P.2 : Int)) * (1 + (P.2 : Int)))) : addE P P = ptO := by
  have h0 := x_zero hP h
  refine addE_eq hP hP ptO_on.1 ptO_on.2.1 ?_ ?_
  · rw [h0]
    exact Z.zero.lin1 1 (by unfold ptO; grind)
  · rw [h0]
    unfold ptO
    generalize (P.2 : Int) = y at *
    generalize cE = c at *
    exact h.lin1 c (by grind)
theorem ordL_zero : mulE ordL ptB = ptO := by
  have h := ladS_rep ptB_on (K := ordL) ptB_less ptB_more ptB_nine (by decide +kernel) 255 (Nat.le_refl _)
  rw [Nat.sub_self, Nat.pow_zero, Nat.div_one] at h
  obtain ⟨k1, k2⟩ := ladL_zero
  rcases h with ⟨hs, _⟩ | ⟨_, _, ⟨l, hl, _, h2⟩⟩
  · rw [k1] at hs
    cases hs
  · rw [k2] at h2
    have h3 : Z (1 - ((mulE ordL ptB).2 : Int)) := Z.cancel (a := l) (h2.lin1 (-1) (by grind)) hl
    exact is_zero (mulE_on ptB_on _) h3
theorem mulE_mod {P : Nat × Nat} (hP : onE P) {m : Nat} (hm : mulE m P = ptO) (n : Nat) : mulE (n % m) P = mulE n P := by
  have h : mulE n P = mulE (m * (n / m) + n % m) P := by rw [Nat.div_add_mod]
  rw [h, mulE_add hP, mulE_mul hP, hm, mulE_zero, addE_comm, addE_zero (mulE_on hP _)]
theorem mulE_gcd {P : Nat × Nat} (hP : onE P) : ∀ m n : Nat, mulE m P = ptO → mulE n P = ptO → mulE (Nat.gcd m n) P = ptO := by
  intro m n
  induction m, n using Nat.gcd.induction with
  | H0 n => intro _ h; rw [Nat.gcd_zero_left]; exact h
  | H1 m n hm ih =>
    intro h1 h2
    rw [Nat.gcd_rec]
    exact ih (by rw [mulE_mod hP h1, h2]) h1
theorem ptB_ne : ptB ≠ ptO := by decide +kernel
/-- What is nothing is so many times the order. -/
theorem ord_dvd {n : Nat} (h : mulE n ptB = ptO) : ordL ∣ n := by
  refine Classical.byContradiction fun hd => ?_
  have h1 := IsPrime.coprime prime_L hd
  have h2 := mulE_gcd ptB_on _ _ h ordL_zero
  rw [show Nat.gcd n ordL = 1 from Nat.Coprime.symm h1 |> fun h => h, mulE_one ptB_on] at h2
  exact ptB_ne h2
/-- A scalar as clamping makes it. -/
def Clamped (a : Nat) : Prop := 2 ^ 254 ≤ a ∧ a < 2 ^ 255 ∧ 8 ∣ a
theorem ord_great : 2 ^ 255 < 8 * ordL := by decide +kernel
theorem ord_odd : ¬ ordL ∣ 8 := by decide +kernel
theorem Clamped.ne {a : Nat} (h : Clamped a) : ¬ ordL ∣ a := fun hd => by
  obtain ⟨h1, h2, k, rfl⟩ := h
  rcases prime_L.dvd_mul hd with h3 | h3
  · exact ord_odd h3
  · have h4 := ord_great
    have h5 : k = 0 := Nat.eq_zero_of_dvd_of_lt h3 (by omega)
    subst h5
    have : 0 < 2 ^ 254 := Nat.pow_pos (by decide)
    omega
end Go.Proofs.Ytonhpmaiagbheaa

/- Points of the curve with a divisor: (X : Y : W) stands for (X / W, Y / W); the document's sum of them. -/
set_option linter.unusedSimpArgs false
set_option linter.unusedVariables false
namespace Go.Proofs.Ytonhpmaiagbheaa

/-- d. -/
def dP : Nat := mulP (oppP 121665) (invP 121666)
theorem small_ne (n : Nat) (h : n < 1000000) (h0 : n ≠ 0) : ¬ Z (n : Int) := fun hz => h0 ((Z.nat (Nat.lt_trans h (by decide +kernel))).1 hz)
theorem d_c : Z (cE * (dP : Int) - 1) := by
  have h1 := Z_oppP 121665
  have hne := small_ne 121666 (by decide) (by decide)
  have h2 := Z_invP (a := 121666) (Nat.lt_trans (show 121666 < 1000000 by decide) (by decide +kernel)) hne
  have h3 := Z_mulP (oppP 121665) (invP 121666)
  have h4 := a24_c
  have e : (mulP (oppP 121665) (invP 121666) : Nat) = dP := rfl
  rw [e] at h3
  generalize ((oppP 121665 : Nat) : Int) = o at *
  generalize ((invP 121666 : Nat) : Int) = i at *
  generalize ((dP : Nat) : Int) = d at *
  generalize cE = c at *
  refine Z.cancel (a := ((121666 : Nat) : Int)) ?_ hne
  exact Z.lin4 (121666 * c) (c * 121666 * i) (-(121665 * c)) (-1) h3 h1 h2 h4 (by grind)
def RepP (P : Nat × Nat) (X Y W : Int) : Prop := ¬ Z W ∧ Z (X - (P.1 : Int) * W) ∧ Z (Y - (P.2 : Int) * W)
theorem poly_padd (x1 y1 x2 y2 c d r s X1 Y1 W1 X2 Y2 W2 z e f g h X3 Y3 W3 : Int) (hc : ¬ Z c) (hcd : Z (c * d - 1))
    (hr : Z (r * (c + x1 * x2 * y1 * y2) - c * (x1 * y2 + y1 * x2))) (hs : Z (s * (c - x1 * x2 * y1 * y2) - c * (y1 * y2 + x1 * x2)))
    (a1 : Z (X1 - x1 * W1)) (b1 : Z (Y1 - y1 * W1)) (a2 : Z (X2 - x2 * W2)) (b2 : Z (Y2 - y2 * W2))
    (hz : Z (z - W1 * W2)) (he : Z (e - d * ((X1 * X2) * (Y1 * Y2)))) (hf : Z (f - (z * z - e))) (hg : Z (g - (z * z + e))) (hh : Z (h - (X1 * Y2 + X2 * Y1)))
    (hX : Z (X3 - z * f * h)) (hY : Z (Y3 - z * g * (Y1 * Y2 + X1 * X2))) (hW : Z (W3 - f * g)) :
    Z (c * f - z * z * (c - x1 * x2 * y1 * y2)) ∧ Z (c * g - z * z * (c + x1 * x2 * y1 * y2)) ∧ Z (X3 - r * W3) ∧ Z (Y3 - s * W3) := by
  have kx : Z (X1 * X2 - x1 * x2 * (W1 * W2)) := (a1.mulc a2).trans (Z.zero.lin1 1 (by grind))
  have ky : Z (Y1 * Y2 - y1 * y2 * (W1 * W2)) := (b1.mulc b2).trans (Z.zero.lin1 1 (by grind))
  have kxz : Z (X1 * X2 - x1 * x2 * z) := Z.lin2 1 (-(x1 * x2)) kx hz (by grind)
  have kyz : Z (Y1 * Y2 - y1 * y2 * z) := Z.lin2 1 (-(y1 * y2)) ky hz (by grind)
  have ke : Z (e - d * ((x1 * x2 * z) * (y1 * y2 * z))) := he.trans ((Z.rfl' d).mulc (kxz.mulc kyz))
  have kh : Z (h - (x1 * y2 + y1 * x2) * z) := Z.lin3 1 1 (-(x1 * y2 + y1 * x2)) hh (((a1.mulc b2).addc (a2.mulc b1)) : Z (X1 * Y2 + X2 * Y1 - (x1 * W1 * (y2 * W2) + x2 * W2 * (y1 * W1)))) hz (by grind)
  have kf : Z (c * f - z * z * (c - x1 * x2 * y1 * y2)) := Z.lin3 c (-c) (-(x1 * x2 * y1 * y2 * z * z)) hf ke hcd (by grind)
  have kg : Z (c * g - z * z * (c + x1 * x2 * y1 * y2)) := Z.lin3 c c (x1 * x2 * y1 * y2 * z * z) hg ke hcd (by grind)
  have krg : Z (r * g - z * z * (x1 * y2 + y1 * x2)) := Z.cancel (a := c) (Z.lin2 r (z * z) kg hr (by grind)) hc
  have ksf : Z (s * f - z * z * (y1 * y2 + x1 * x2)) := Z.cancel (a := c) (Z.lin2 s (z * z) kf hs (by grind)) hc
  refine ⟨kf, kg, ?_, ?_⟩
  · exact Z.lin4 1 (z * f) (-f) (-r) hX kh krg hW (by grind)
  · have kv : Z (Y1 * Y2 + X1 * X2 - (y1 * y2 + x1 * x2) * z) := Z.lin2 1 1 kyz kxz (by grind)
    exact Z.lin4 1 (z * g) (-g) (-s) hY kv ksf hW (by grind)
/-- The sum. -/
theorem rep_padd {P Q : Nat × Nat} (hP : onE P) (hQ : onE Q) {d X1 Y1 W1 X2 Y2 W2 z e f g h X3 Y3 W3 : Int} (hcd : Z (cE * d - 1)) (h1 : RepP P X1 Y1 W1) (h2 : RepP Q X2 Y2 W2)
    (hz : Z (z - W1 * W2)) (he : Z (e - d * ((X1 * X2) * (Y1 * Y2)))) (hf : Z (f - (z * z - e))) (hg : Z (g - (z * z + e))) (hh : Z (h - (X1 * Y2 + X2 * Y1)))
    (hX : Z (X3 - z * f * h)) (hY : Z (Y3 - z * g * (Y1 * Y2 + X1 * X2))) (hW : Z (W3 - f * g)) : RepP (addE P Q) X3 Y3 W3 := by
  obtain ⟨n1, a1, b1⟩ := h1
  obtain ⟨n2, a2, b2⟩ := h2
  obtain ⟨hr, hs⟩ := addE_Z hP hQ
  have hp := plus_ne hP.2.2 hQ.2.2
  have hm := minus_ne hP.2.2 hQ.2.2
  obtain ⟨kf, kg, k3, k4⟩ := poly_padd _ _ _ _ cE d _ _ X1 Y1 W1 X2 Y2 W2 z e f g h X3 Y3 W3 c_ne hcd hr hs a1 b1 a2 b2 hz he hf hg hh hX hY hW
  refine ⟨fun hw => ?_, k3, k4⟩
  have nz : ¬ Z z := fun h => Z.not_mul n1 n2 (Z.lin2 1 (-1) h hz (by grind))
  have nzz := Z.not_mul nz nz
  have nf : ¬ Z f := fun h => Z.not_mul nzz hm (Z.lin2 cE (-1) h kf (by grind))
  have ng : ¬ Z g := fun h => Z.not_mul nzz hp (Z.lin2 cE (-1) h kg (by grind))
  exact Z.not_mul nf ng (Z.lin2 1 (-1) hw hW (by grind))
theorem repP_zero : RepP ptO 0 1 1 := ⟨Z.one, Z.zero.lin1 1 (by unfold ptO; grind), Z.zero.lin1 1 (by unfold ptO; grind)⟩
theorem repP_aff (P : Nat × Nat) : RepP P P.1 P.2 1 := ⟨Z.one, Z.zero.lin1 1 (by grind), Z.zero.lin1 1 (by grind)⟩
/-- The same just if crosswise. -/
theorem repP_same {P Q : Nat × Nat} (hP : onE P) (hQ : onE Q) {X1 Y1 W1 X2 Y2 W2 : Int} (h1 : RepP P X1 Y1 W1) (h2 : RepP Q X2 Y2 W2) : P = Q ↔ Z (X1 * W2 - X2 * W1) ∧ Z (Y1 * W2 - Y2 * W1) := by
  obtain ⟨n1, a1, b1⟩ := h1
  obtain ⟨n2, a2, b2⟩ := h2
  constructor
  · intro e
    subst e
    generalize (P.1 : Int) = x at *
    generalize (P.2 : Int) = y at *
    exact ⟨Z.lin2 W2 (-W1) a1 a2 (by grind), Z.lin2 W2 (-W1) b1 b2 (by grind)⟩
  · rintro ⟨kx, ky⟩
    have nw := Z.not_mul n1 n2
    refine Prod.ext (Z.eq hP.1 hQ.1 ?_) (Z.eq hP.2.1 hQ.2.1 ?_)
    · exact Z.cancel (a := W1 * W2) (Z.lin3 1 (-W2) W1 kx a1 a2 (by grind)) nw
    · exact Z.cancel (a := W1 * W2) (Z.lin3 1 (-W2) W1 ky b1 b2 (by grind)) nw
/-- The sum as the document reckons it, of numbers. -/
def pZ (a b : Nat × Nat × Nat) : Nat := mulP a.2.2 b.2.2
def pE (d : Nat) (a b : Nat × Nat × Nat) : Nat := mulP d (mulP (mulP a.1 b.1) (mulP a.2.1 b.2.1))
def pF (d : Nat) (a b : Nat × Nat × Nat) : Nat := subP p25 (mulP (pZ a b) (pZ a b)) (pE d a b)
def pG (d : Nat) (a b : Nat × Nat × Nat) : Nat := addP (mulP (pZ a b) (pZ a b)) (pE d a b)
def pH (a b : Nat × Nat × Nat) : Nat := addP (mulP a.1 b.2.1) (mulP b.1 a.2.1)
def padd (d : Nat) (a b : Nat × Nat × Nat) : Nat × Nat × Nat :=
  (mulP (mulP (pZ a b) (pF d a b)) (pH a b), mulP (mulP (pZ a b) (pG d a b)) (addP (mulP a.2.1 b.2.1) (mulP a.1 b.1)), mulP (pF d a b) (pG d a b))
def RepN (P : Nat × Nat) (a : Nat × Nat × Nat) : Prop := RepP P a.1 a.2.1 a.2.2
theorem repN_add {P Q : Nat × Nat} (hP : onE P) (hQ : onE Q) {a b : Nat × Nat × Nat} (h1 : RepN P a) (h2 : RepN Q b) : RepN (addE P Q) (padd dP a b) := by
  have kz := Z_mulP a.2.2 b.2.2
  have ke := (Z_mulP dP (mulP (mulP a.1 b.1) (mulP a.2.1 b.2.1))).trans ((Z.rfl' (dP : Int)).mulc ((Z_mulP (mulP a.1 b.1) (mulP a.2.1 b.2.1)).trans ((Z_mulP a.1 b.1).mulc (Z_mulP a.2.1 b.2.1))))
  have kf := (Z_subP (mulP (pZ a b) (pZ a b)) (pE dP a b)).trans ((Z_mulP (pZ a b) (pZ a b)).subc (Z.rfl' _))
  have kg := (Z_addP (mulP (pZ a b) (pZ a b)) (pE dP a b)).trans ((Z_mulP (pZ a b) (pZ a b)).addc (Z.rfl' _))
  have kh := (Z_addP (mulP a.1 b.2.1) (mulP b.1 a.2.1)).trans ((Z_mulP a.1 b.2.1).addc (Z_mulP b.1 a.2.1))
  have kX := (Z_mulP (mulP (pZ a b) (pF dP a b)) (pH a b)).trans ((Z_mulP (pZ a b) (pF dP a b)).mulc (Z.rfl' _))
  have kY := (Z_mulP (mulP (pZ a b) (pG dP a b)) (addP (mulP a.2.1 b.2.1) (mulP a.1 b.1))).trans ((Z_mulP (pZ a b) (pG dP a b)).mulc ((Z_addP (mulP a.2.1 b.2.1) (mulP a.1 b.1)).trans ((Z_mulP a.2.1 b.2.1).addc (Z_mulP a.1 b.1))))
  exact rep_padd hP hQ d_c h1 h2 kz ke kf kg kh kX kY (Z_mulP (pF dP a b) (pG dP a b))
theorem padd_lt (d : Nat) (a b : Nat × Nat × Nat) : (padd d a b).1 < p25 ∧ (padd d a b).2.1 < p25 ∧ (padd d a b).2.2 < p25 := ⟨mulP_lt _ _, mulP_lt _ _, mulP_lt _ _⟩
/-- Times, digit by digit from the highest, as the document goes. -/
def pmulS (d : Nat) (a : Nat × Nat × Nat) (K : Nat) : Nat → Nat × Nat × Nat
  | 0 => (0, 1, 1)
  | i + 1 => if K / 2 ^ (255 - i) % 2 = 1 then padd d (padd d (pmulS d a K i) (pmulS d a K i)) a else padd d (pmulS d a K i) (pmulS d a K i)
def pmul (d : Nat) (a : Nat × Nat × Nat) (K : Nat) : Nat × Nat × Nat := pmulS d a K 256
theorem repN_mulS {P : Nat × Nat} (hP : onE P) {a : Nat × Nat × Nat} (h : RepN P a) {K : Nat} (hK : K < 2 ^ 256) : ∀ i, i ≤ 256 → RepN (mulE (K / 2 ^ (256 - i)) P) (pmulS dP a K i)
  | 0, _ => by
    rw [Nat.sub_zero, Nat.div_eq_of_lt hK]
    exact repP_zero
  | i + 1, hi => by
    have ih := repN_mulS hP h hK i (by omega)
    have hn := mulE_on hP (K / 2 ^ (256 - i))
    have hd := repN_add hn hn ih ih
    rw [← mulE_add hP] at hd
    have e : K / 2 ^ (256 - (i + 1)) = K / 2 ^ (256 - i) + K / 2 ^ (256 - i) + K / 2 ^ (255 - i) % 2 := by
      rw [show 256 - i = (255 - i) + 1 by omega, Nat.pow_succ, ← Nat.div_div_eq_div_mul, show 256 - (i + 1) = 255 - i by omega]
      omega
    rw [e]
    unfold pmulS
    by_cases hb : K / 2 ^ (255 - i) % 2 = 1
    · rw [if_pos hb, hb]
      exact repN_add (mulE_on hP _) hP hd h
    · rw [if_neg hb, show K / 2 ^ (255 - i) % 2 = 0 by omega, Nat.add_zero]
      exact hd
theorem repN_mul {P : Nat × Nat} (hP : onE P) {a : Nat × Nat × Nat} (h : RepN P a) {K : Nat} (hK : K < 2 ^ 256) : RepN (mulE K P) (pmul dP a K) := by
  have h2 := repN_mulS hP h hK 256 (Nat.le_refl _)
  rwa [Nat.sub_self, Nat.pow_zero, Nat.div_one] at h2
theorem cross_Z (a b c d : Nat) : mulP a b = mulP c d ↔ Z ((a : Int) * b - (c : Int) * d) := by
  have h1 := Z_mulP a b
  have h2 := Z_mulP c d
  constructor
  · intro e
    rw [e] at h1
    exact Z.lin2 (-1) 1 h1 h2 (by grind)
  · intro h
    exact Z.eq (mulP_lt _ _) (mulP_lt _ _) (Z.lin3 1 (-1) 1 h1 h2 h (by grind))
theorem repN_same {P Q : Nat × Nat} (hP : onE P) (hQ : onE Q) {a b : Nat × Nat × Nat} (h1 : RepN P a) (h2 : RepN Q b) : P = Q ↔ mulP a.1 b.2.2 = mulP b.1 a.2.2 ∧ mulP a.2.1 b.2.2 = mulP b.2.1 a.2.2 := by
  rw [repP_same hP hQ h1 h2, cross_Z, cross_Z]
theorem repN_aff {P : Nat × Nat} (hP : onE P) {a : Nat × Nat × Nat} (ha : a.2.2 < p25) (h : RepN P a) : mulP a.1 (invP a.2.2) = P.1 ∧ mulP a.2.1 (invP a.2.2) = P.2 := by
  obtain ⟨n, k1, k2⟩ := h
  have hi := Z_invP ha n
  have m1 := Z_mulP a.1 (invP a.2.2)
  have m2 := Z_mulP a.2.1 (invP a.2.2)
  constructor
  · refine Z.eq (mulP_lt _ _) hP.1 ?_
    generalize ((mulP a.1 (invP a.2.2) : Nat) : Int) = q at *
    generalize ((invP a.2.2 : Nat) : Int) = i at *
    exact Z.lin3 1 i (P.1 : Int) m1 k1 hi (by grind)
  · refine Z.eq (mulP_lt _ _) hP.2.1 ?_
    generalize ((mulP a.2.1 (invP a.2.2) : Nat) : Int) = q at *
    generalize ((invP a.2.2 : Nat) : Int) = i at *
    exact Z.lin3 1 i (P.2 : Int) m2 k2 hi (by grind)
end Go.Proofs.Ytonhpmaiagbheaa

/- Numbers in words of 64 binary digits: sums, differences, products, what is above 2^255; of no world. -/
set_option linter.unusedSimpArgs false
set_option linter.unusedVariables false
namespace Go.Proofs.Ytonhpmaiagbheaa

/-- The digit of 64 binary digits at a place; so many parts as a number. -/
def wd (V j : Nat) : Nat := V / 18446744073709551616 ^ j % 18446744073709551616
def valW (f : Nat → Nat) : Nat → Nat
  | 0 => 0
  | j + 1 => valW f j + f j * 18446744073709551616 ^ j
theorem wd_lt (V j : Nat) : wd V j < 18446744073709551616 := Nat.mod_lt _ (by decide)
theorem wd_zero (V : Nat) : wd V 0 = V % 18446744073709551616 := by unfold wd; rw [Nat.pow_zero, Nat.div_one]
theorem powW_pos (j : Nat) : 0 < 18446744073709551616 ^ j := Nat.pow_pos (by decide)
theorem valW_congr {f g : Nat → Nat} : ∀ n, (∀ j, j < n → f j = g j) → valW f n = valW g n
  | 0, _ => rfl
  | n + 1, h => by rw [valW, valW, valW_congr n (fun j hj => h j (by omega)), h n (by omega)]
theorem valW_dig (V : Nat) : ∀ n, valW (wd V) n = V % 18446744073709551616 ^ n
  | 0 => by rw [Nat.pow_zero, Nat.mod_one]; rfl
  | n + 1 => by
    rw [valW, valW_dig V n, Nat.pow_succ, Nat.mod_mul]
    unfold wd
    rw [Nat.mul_comm]
theorem valW_all (V n : Nat) (h : V < 18446744073709551616 ^ n) : valW (wd V) n = V := by rw [valW_dig, Nat.mod_eq_of_lt h]
def addW (D P i : Nat) : Nat := (D % 18446744073709551616 ^ i + P % 18446744073709551616 ^ i) / 18446744073709551616 ^ i
theorem addW_zero (D P : Nat) : addW D P 0 = 0 := by simp [addW, Nat.mod_one]
theorem addW_le (D P i : Nat) : addW D P i ≤ 1 := by
  unfold addW
  have h1 := Nat.mod_lt D (powW_pos i)
  have h2 := Nat.mod_lt P (powW_pos i)
  have : (D % 18446744073709551616 ^ i + P % 18446744073709551616 ^ i) / 18446744073709551616 ^ i < 2 := by rw [Nat.div_lt_iff_lt_mul (powW_pos i)]; omega
  omega
theorem add_wd (D P i : Nat) : wd (D + P) i + 18446744073709551616 * addW D P (i + 1) = wd D i + wd P i + addW D P i := by
  have e1 : (D + P) / 18446744073709551616 ^ i = D / 18446744073709551616 ^ i + P / 18446744073709551616 ^ i + addW D P i := by
    have h1 := Nat.div_add_mod D (18446744073709551616 ^ i)
    have h2 := Nat.div_add_mod P (18446744073709551616 ^ i)
    have e : D + P = (D % 18446744073709551616 ^ i + P % 18446744073709551616 ^ i) + 18446744073709551616 ^ i * (D / 18446744073709551616 ^ i + P / 18446744073709551616 ^ i) := by rw [Nat.mul_add]; omega
    unfold addW
    rw [e, Nat.add_mul_div_left _ _ (powW_pos i)]
    omega
  have e2 : addW D P (i + 1) = (addW D P i + wd D i + wd P i) / 18446744073709551616 := by
    unfold addW wd
    rw [Nat.pow_succ, Nat.mod_mul, Nat.mod_mul, ← Nat.div_div_eq_div_mul]
    have e : D % 18446744073709551616 ^ i + 18446744073709551616 ^ i * (D / 18446744073709551616 ^ i % 18446744073709551616) + (P % 18446744073709551616 ^ i + 18446744073709551616 ^ i * (P / 18446744073709551616 ^ i % 18446744073709551616)) = (D % 18446744073709551616 ^ i + P % 18446744073709551616 ^ i) + 18446744073709551616 ^ i * (D / 18446744073709551616 ^ i % 18446744073709551616 + P / 18446744073709551616 ^ i % 18446744073709551616) := by rw [Nat.mul_add]; omega
    rw [e, Nat.add_mul_div_left _ _ (powW_pos i)]
    omega
  rw [e2]
  unfold wd
  rw [e1]
  omega
theorem valW_split (f : Nat → Nat) (n : Nat) : ∀ m, valW f (n + m) = valW f n + 18446744073709551616 ^ n * valW (fun j => f (n + j)) m
  | 0 => by simp [valW]
  | m + 1 => by
    show valW f (n + m) + f (n + m) * 18446744073709551616 ^ (n + m) = _
    rw [valW_split f n m, valW, Nat.mul_add, Nat.pow_add]
    have : f (n + m) * (18446744073709551616 ^ n * 18446744073709551616 ^ m) = 18446744073709551616 ^ n * (f (n + m) * 18446744073709551616 ^ m) := by ac_rfl
    omega
/-- The row of a product: so many rows, and so many places of the next one. -/
def mulW (A B i k : Nat) : Nat := valW (wd A) i * B + wd A i * 18446744073709551616 ^ i * valW (wd B) k
theorem mulW_step (A B i k : Nat) : mulW A B i (k + 1) = mulW A B i k + wd A i * wd B k * 18446744073709551616 ^ (i + k) := by
  unfold mulW
  rw [valW, Nat.mul_add, Nat.pow_add]
  have : wd A i * 18446744073709551616 ^ i * (wd B k * 18446744073709551616 ^ k) = wd A i * wd B k * (18446744073709551616 ^ i * 18446744073709551616 ^ k) := by ac_rfl
  omega

def B4 : Nat := 115792089237316195423570985008687907853269984665640564039457584007913129639936
theorem B4_eq : B4 = 18446744073709551616 ^ 4 := by decide +kernel
theorem B4_pos : 0 < B4 := by decide +kernel
theorem B4_top : B4 = 2 * top := by decide +kernel
theorem p25_B4 : p25 < B4 := by decide +kernel
theorem top_B4 : top < B4 := by decide +kernel
theorem top_W : top = 18446744073709551616 ^ 3 * 9223372036854775808 := by decide +kernel
theorem wd_all (V : Nat) (h : V < B4) : valW (wd V) 4 = V := valW_all V 4 (by rw [← B4_eq]; exact h)
theorem wd_sum (A C j : Nat) : (wd A j + wd C j + addW A C j) % 18446744073709551616 = wd (A + C) j ∧ (wd A j + wd C j + addW A C j) / 18446744073709551616 = addW A C (j + 1) := by
  have h := add_wd A C j
  have h1 := wd_lt (A + C) j
  omega
theorem addW_end (A C : Nat) (hA : A < B4) (hC : C < B4) : addW A C 4 = (A + C) / B4 := by
  unfold addW
  rw [← B4_eq, Nat.mod_eq_of_lt hA, Nat.mod_eq_of_lt hC]
/-- A difference word by word: what is borrowed. -/
theorem wd_sub (D A P j : Nat) (h : P = D + A) : (wd P j + 18446744073709551616 - wd A j - addW D A j) % 18446744073709551616 = wd D j ∧ (if wd P j < wd A j + addW D A j then 1 else 0) = addW D A (j + 1) := by
  subst h
  have h := add_wd D A j
  have h1 := wd_lt D j
  have h2 := wd_lt A j
  have h3 := wd_lt (D + A) j
  have h4 := addW_le D A j
  have h5 := addW_le D A (j + 1)
  generalize wd (D + A) j = p at *
  generalize wd D j = d at *
  generalize wd A j = a at *
  generalize addW D A j = b at *
  generalize addW D A (j + 1) = b' at *
  have h6 : b' = 0 ∨ b' = 1 := by omega
  rcases h6 with rfl | rfl
  · refine ⟨by omega, ?_⟩
    rw [if_neg (by omega)]
  · refine ⟨by omega, ?_⟩
    rw [if_pos (by omega)]
theorem wd_small (x j : Nat) (h : x < 18446744073709551616) : wd x j = if j = 0 then x else 0 := by
  unfold wd
  cases j with
  | zero => rw [Nat.pow_zero, Nat.div_one, if_pos rfl, Nat.mod_eq_of_lt h]
  | succ k =>
    rw [if_neg (by omega), Nat.div_eq_of_lt, Nat.zero_mod]
    exact Nat.lt_of_lt_of_le h (by
      have h := Nat.pow_le_pow_right (show 0 < 18446744073709551616 by decide) (show 1 ≤ k + 1 by omega)
      rwa [Nat.pow_one] at h)
theorem wd_mod_top (V j : Nat) (h : j < 4) : wd (V % top) j = if j = 3 then wd V 3 % 9223372036854775808 else wd V j := by
  unfold wd
  by_cases e : j = 3
  · subst e
    rw [if_pos rfl, top_W, Nat.mod_mul_right_div_self]
    omega
  · rw [if_neg e]
    have e2 : top = 18446744073709551616 ^ j * (18446744073709551616 * (18446744073709551616 ^ (2 - j) * 9223372036854775808)) := by
      rw [top_W, show 3 = j + 1 + (2 - j) by omega, Nat.pow_add, Nat.pow_succ]
      ac_rfl
    rw [e2, Nat.mod_mul_right_div_self, Nat.mod_mul_right_mod]
/-- The word that holds the highest digit. -/
theorem wd_high (V : Nat) (h : V < B4) : wd V 3 / 9223372036854775808 = V / top := by
  have e : wd V 3 = V / 18446744073709551616 ^ 3 := by
    unfold wd
    refine Nat.mod_eq_of_lt ?_
    rw [Nat.div_lt_iff_lt_mul (powW_pos 3)]
    rw [B4_eq] at h
    exact h
  rw [e, Nat.div_div_eq_div_mul, ← top_W]
/-- What stands above 2^255 is 19 times itself, over 2^256 too. -/
theorem over_eq (W t : Nat) : (W + t * B4) / top = 2 * t + W / top := by
  rw [B4_top, show W + t * (2 * top) = W + top * (2 * t) by rw [← Nat.mul_assoc, Nat.mul_comm t 2, Nat.mul_comm]]
  rw [Nat.add_mul_div_left _ _ top_pos, Nat.add_comm]
theorem low_eq (W t : Nat) : (W + t * B4) % top = W % top := by
  rw [B4_top, show W + t * (2 * top) = W + top * (2 * t) by rw [← Nat.mul_assoc, Nat.mul_comm t 2, Nat.mul_comm], Nat.add_mul_mod_self_left]
theorem over_lt (W : Nat) (h : W < B4) : W / top < 2 := by rw [Nat.div_lt_iff_lt_mul top_pos, ← B4_top]; exact h
theorem reduced_mod (W t : Nat) : (W % top + (2 * t + W / top) * 19) % p25 = (W + t * B4) % p25 := by
  have h := passV_mod (W + t * B4)
  unfold passV at h
  rw [over_eq, low_eq] at h
  rw [← h, Nat.mul_comm 19]
theorem reduced_lt (W t : Nat) (hW : W < B4) (ht : t < 2 ^ 58) : W % top + (2 * t + W / top) * 19 + 19 < top + p25 ∧ (2 * t + W / top) * 19 < 18446744073709551616 := by
  have h1 := over_lt W hW
  have h2 := Nat.mod_lt W top_pos
  have h3 : 18446744073709551616 + 19 < p25 := by decide +kernel
  generalize W / top = o at *
  generalize W % top = l at *
  generalize top = T at *
  generalize p25 = q at *
  omega
theorem cut_p (S : Nat) (h : S + 19 < top + p25) : (if S + 19 < top then S else (S + 19) % top) = S % p25 := by
  have e := top_p
  have hp := p25_pos
  have h0 : 19 < p25 := by decide +kernel
  generalize top = T at *
  subst e
  generalize p25 = q at *
  by_cases h1 : S + 19 < q + 19
  · rw [if_pos h1, Nat.mod_eq_of_lt (by omega)]
  · rw [if_neg h1, show S + 19 = (S - q) + (q + 19) by omega, Nat.add_mod_right, Nat.mod_eq_of_lt (show S - q < q + 19 by omega)]
    conv => rhs; rw [show S = (S - q) + q by omega, Nat.add_mod_right, Nat.mod_eq_of_lt (show S - q < q by omega)]
/-- A row of words with one place set. -/
def setAt (f : Nat → Nat) (i x : Nat) : Nat → Nat := fun j => if j = i then x else f j
theorem valW_setAt (f : Nat → Nat) (i x : Nat) : ∀ n, i < n → valW (setAt f i x) n + f i * 18446744073709551616 ^ i = valW f n + x * 18446744073709551616 ^ i
  | 0, h => by omega
  | n + 1, h => by
    rw [valW, valW]
    by_cases e : i = n
    · subst e
      have : valW (setAt f i x) i = valW f i := valW_congr i fun j hj => by unfold setAt; rw [if_neg (by omega)]
      rw [this]
      unfold setAt
      rw [if_pos rfl]
      omega
    · have h2 := valW_setAt f i x n (by omega)
      have : setAt f i x n = f n := by unfold setAt; rw [if_neg (by omega)]
      rw [this]
      omega
theorem mulW_row (A C i : Nat) (hC : C < B4) : mulW A C i 4 = mulW A C (i + 1) 0 := by
  unfold mulW
  rw [wd_all _ hC]
  show _ = (valW (wd A) i + wd A i * 18446744073709551616 ^ i) * C + wd A (i + 1) * 18446744073709551616 ^ (i + 1) * 0
  rw [Nat.add_mul]
  omega
theorem mulW_zero (A C : Nat) : mulW A C 0 0 = 0 := by simp [mulW, valW]
theorem mulW_all (A C : Nat) (hA : A < B4) : mulW A C 4 0 = A * C := by
  unfold mulW
  rw [wd_all _ hA]
  show A * C + _ * 0 = _
  omega
/-- One place of the product: what is written, and what is carried on. -/
theorem mulW_in (A C : Nat) (f : Nat → Nat) (i k c lo hi : Nat) (hik : i + k < 8) (h : valW f 8 + c * 18446744073709551616 ^ (i + k) = mulW A C i k) (hp : wd A i * wd C k + f (i + k) + c = lo + hi * 18446744073709551616) :
    valW (setAt f (i + k) lo) 8 + hi * 18446744073709551616 ^ (i + (k + 1)) = mulW A C i (k + 1) := by
  have h1 := valW_setAt f (i + k) lo 8 hik
  rw [mulW_step, ← h, show i + (k + 1) = i + k + 1 by omega, Nat.pow_succ]
  generalize 18446744073709551616 ^ (i + k) = Z at *
  have h2 : (wd A i * wd C k + f (i + k) + c) * Z = (lo + hi * 18446744073709551616) * Z := by rw [hp]
  rw [Nat.add_mul, Nat.add_mul, Nat.add_mul] at h2
  have h3 : hi * 18446744073709551616 * Z = hi * (Z * 18446744073709551616) := by ac_rfl
  omega
theorem mulW_out (A C : Nat) (f : Nat → Nat) (i c : Nat) (hi : i < 4) (hC : C < B4) (h : valW f 8 + c * 18446744073709551616 ^ (i + 4) = mulW A C i 4) (h0 : f (i + 4) = 0) : valW (setAt f (i + 4) c) 8 = mulW A C (i + 1) 0 := by
  have h1 := valW_setAt f (i + 4) c 8 (by omega)
  rw [h0, Nat.zero_mul, Nat.add_zero] at h1
  rw [h1, h, mulW_row A C i hC]
/-- The upper half comes down to the lower one. -/
def foldW (f : Nat → Nat) (j : Nat) : Nat := valW f j + 38 * valW (fun i => f (i + 4)) j
theorem foldW_step (f : Nat → Nat) (g c lo hi j : Nat) (h : g + c * 18446744073709551616 ^ j = foldW f j) (hp : f (j + 4) * 38 + f j + c = lo + hi * 18446744073709551616) :
    g + lo * 18446744073709551616 ^ j + hi * 18446744073709551616 ^ (j + 1) = foldW f (j + 1) := by
  unfold foldW at *
  rw [valW, valW, Nat.pow_succ, Nat.mul_add]
  generalize 18446744073709551616 ^ j = Z at *
  have h2 : (f (j + 4) * 38 + f j + c) * Z = (lo + hi * 18446744073709551616) * Z := by rw [hp]
  rw [Nat.add_mul, Nat.add_mul, Nat.add_mul] at h2
  have h3 : hi * 18446744073709551616 * Z = hi * (Z * 18446744073709551616) := by ac_rfl
  have h4 : f (j + 4) * 38 * Z = 38 * (f (j + 4) * Z) := by ac_rfl
  omega
theorem foldW_mod (f : Nat → Nat) : foldW f 4 % p25 = valW f 8 % p25 := by
  unfold foldW
  rw [show (8 : Nat) = 4 + 4 from rfl, valW_split f 4 4]
  have e : 18446744073709551616 ^ 4 = 38 + p25 * 2 := by decide +kernel
  have e2 : (fun j => f (4 + j)) = fun i => f (i + 4) := funext fun j => by rw [Nat.add_comm]
  rw [e, e2, Nat.add_mul, Nat.mul_assoc]
  generalize valW (fun i => f (i + 4)) 4 = W
  rw [← Nat.add_assoc, Nat.add_mul_mod_self_left]
end Go.Proofs.Ytonhpmaiagbheaa

/- The program's numbers below p: sums of words, products of words, what is reduced. -/
set_option linter.unusedSimpArgs false
set_option linter.unusedVariables false
namespace Go.Proofs.Ytonhpmaiagbheaa
open Go.RowKit Go.Deep

def ewF (V : Nat) : Nat → Value := u64f (wd V)
theorem arrE : IsArr Try.prog 50 4 := ⟨by kernel_rfl, by kernel_rfl⟩
theorem arrW : IsArr Try.prog 48 4 := ⟨by kernel_rfl, by kernel_rfl⟩
theorem arrW8 : IsArr Try.prog 84 8 := ⟨by kernel_rfl, by kernel_rfl⟩
theorem zeroE : (Try.prog.info? 50).map (fun i => i.zero) = some (some (.agg (arrOf 4 (u64f fun _ => 0)))) := by kernel_rfl
theorem zeroW : (Try.prog.info? 48).map (fun i => i.zero) = some (some (.agg (arrOf 4 (u64f fun _ => 0)))) := by kernel_rfl
theorem zeroW8 : (Try.prog.info? 84).map (fun i => i.zero) = some (some (.agg (arrOf 8 (u64f fun _ => 0)))) := by kernel_rfl

/-- So many rows on the spot. -/
theorem rowsW3 (w : World) (F G : Nat → Value) (t : TypeId) : ∃ w3, w3 = ((w.alloc (.cells (arrOf 4 F) t)).alloc (.cells (arrOf 4 G) t)).alloc (.cells (arrOf 4 (u64f fun _ => 0)) t) ∧
    w3.rowIs w.heap.size t 4 F ∧ w3.rowIs (w.heap.size + 1) t 4 G ∧ w3.rowIs (w.heap.size + 1 + 1) t 4 (u64f fun _ => 0) ∧ Below w.heap.size w w3 ∧ w3.heap.size = w.heap.size + 1 + 1 + 1 := by
  refine ⟨_, rfl, ((rowIs_arr w 4 F t).alloc _).alloc _, ?_, ?_, (((Below.refl _ _).alloc (Nat.le_refl _) _).alloc (by simp) _).alloc (by simp; omega) _, by simp only [World.size_alloc]⟩
  · have h := (rowIs_arr (w.alloc (.cells (arrOf 4 F) t)) 4 G t).alloc (.cells (arrOf 4 (u64f fun _ => 0)) t)
    rwa [World.size_alloc] at h
  · have h := rowIs_arr ((w.alloc (.cells (arrOf 4 F) t)).alloc (.cells (arrOf 4 G) t)) 4 (u64f fun _ => 0) t
    rwa [World.size_alloc, World.size_alloc] at h
theorem rowsW2 (w : World) (F : Nat → Value) (t t' : TypeId) : ∃ w3, w3 = (w.alloc (.cells (arrOf 4 F) t)).alloc (.cells (arrOf 4 (u64f fun _ => 0)) t') ∧
    w3.rowIs w.heap.size t 4 F ∧ w3.rowIs (w.heap.size + 1) t' 4 (u64f fun _ => 0) ∧ Below w.heap.size w w3 ∧ w3.heap.size = w.heap.size + 1 + 1 := by
  refine ⟨_, rfl, (rowIs_arr w 4 F t).alloc _, ?_, ((Below.refl _ _).alloc (Nat.le_refl _) _).alloc (by simp) _, by simp only [World.size_alloc]⟩
  have h := rowIs_arr (w.alloc (.cells (arrOf 4 F) t)) 4 (u64f fun _ => 0) t'
  rwa [World.size_alloc] at h
theorem agg_putW (F G : Nat → Value) : arrOf 4 (fun i => putN F 0 4 G (0 + i)) = arrOf 4 G := arrOf_congr fun i hi => by
  unfold putN
  rw [if_pos (by omega)]
  simp only [Nat.zero_add, Nat.sub_zero]

/-- Add64 and Sub64: the model's own entries. -/
theorem add64_run (x y c : Nat) (hc : c ≤ 1) (w : World) : (callFunc 63 #[.int .u64 (x : Int), .int .u64 (y : Int), .int .u64 (c : Int)]).run Try.prog w =
    .ok (.value (.tuple #[.int .u64 (((x + y + c) % 18446744073709551616 : Nat) : Int), .int .u64 (((x + y + c) / 18446744073709551616 : Nat) : Int)])) w := by
  rw [run_callFunc_extern Try.func63 (by kernel_rfl) (by kernel_rfl) (by kernel_rfl) (e := add64Entry) (by kernel_rfl), run_add64 x y c (by omega) (by omega) (by omega) (by omega)]
  simp only [Result.andThen]
  congr 5 <;> omega
theorem sub64_run (x y b : Nat) (hb : b ≤ 1) (w : World) : (callFunc 69 #[.int .u64 (x : Int), .int .u64 (y : Int), .int .u64 (b : Int)]).run Try.prog w =
    .ok (.value (.tuple #[.int .u64 (((x + 18446744073709551616 - y - b) % 18446744073709551616 : Nat) : Int), .int .u64 ((if x < y + b then 1 else 0 : Nat) : Int)])) w := by
  rw [run_callFunc_extern Try.func69 (by kernel_rfl) (by kernel_rfl) (by kernel_rfl) (e := sub64Entry) (by kernel_rfl), run_sub64 x y b hb]
  rfl
/-- A call of an entry of the model's, its run known. -/
theorem exec_entry {P : Program} (ρ : Operand → Value) (f : Nat) (xs : Array Operand) (ts : Array TypeId) (t : TypeId) (args : Array Value) (v : Value) (w : World) (hρ : ρ (.func f) = .func (.func f) #[] #[]) (hargs : xs.map ρ = args) (h : (callFunc f args).run P w = .ok (.value v) w) :
    (execOp ρ (mkOp (.call { callee := .value (.func f), args := xs, argTypes := ts }) t)).run P w = .ok (.value v) w := by
  simp [execOp, mkOp, resolve, hρ, Deferred.ofValue, invoke, hargs, h]

theorem wrap_nat (n : Nat) (h : n < 18446744073709551616) : IntKind.u64.wrap (n : Int) = (n : Int) := IntWalk.u64_in _ ⟨by omega, by omega⟩
set_option maxHeartbeats 1000000 in
theorem mul64_any (x y : Nat) (hx : x < 18446744073709551616) (hy : y < 18446744073709551616) (w : World) :
    Calls Try.prog 87 #[.int .u64 (x : Int), .int .u64 (y : Int)] w fun e w' => e = .returned (.tuple #[.int .u64 ((x * y / 18446744073709551616 : Nat) : Int), .int .u64 ((x * y % 18446744073709551616 : Nat) : Int)]) ∧ w' = w := by
  obtain ⟨b1, b2, b3, hhi⟩ := Lib.mul64_hi x y hx hy
  have k1 := Lib.half_mul_le (a := x / 4294967296) (b := y / 4294967296) (by omega) (by omega)
  have k2 := Lib.half_mul_le (a := x / 4294967296) (b := y % 4294967296) (by omega) (by omega)
  have k3 := Lib.half_mul_le (a := x % 4294967296) (b := y / 4294967296) (by omega) (by omega)
  have mx := mask64 x 32 hx (by decide) 4294967295 rfl
  have my := mask64 y 32 hy (by decide) 4294967295 rfl
  rw [show (2 : Nat) ^ 32 = 4294967296 from rfl] at mx my
  have dx : (x : Int) / 4294967296 = ((x / 4294967296 : Nat) : Int) := by omega
  have dy : (y : Int) / 4294967296 = ((y / 4294967296 : Nat) : Int) := by omega
  have hlo : IntKind.u64.wrap ((x : Int) * (y : Int)) = ((x * y % 18446744073709551616 : Nat) : Int) := by
    rw [← Int.natCast_mul, IntKind.wrap_u64]
    omega
  rw [← hhi]
  clear hhi hx hy
  generalize x * y % 18446744073709551616 = low at *
  generalize x % 4294967296 = x0 at *
  generalize x / 4294967296 = x1 at *
  generalize y % 4294967296 = y0 at *
  generalize y / 4294967296 = y1 at *
  have p1 : IntKind.u64.wrap ((x0 : Int) * (y0 : Int)) = ((x0 * y0 : Nat) : Int) := by rw [← Int.natCast_mul, wrap_nat _ b1]
  have p2 : IntKind.u64.wrap ((x1 : Int) * (y0 : Int)) = ((x1 * y0 : Nat) : Int) := by rw [← Int.natCast_mul, wrap_nat _ (by omega)]
  have p3 : IntKind.u64.wrap ((x0 : Int) * (y1 : Int)) = ((x0 * y1 : Nat) : Int) := by rw [← Int.natCast_mul, wrap_nat _ (by omega)]
  have p4 : IntKind.u64.wrap ((x1 : Int) * (y1 : Int)) = ((x1 * y1 : Nat) : Int) := by rw [← Int.natCast_mul, wrap_nat _ (by omega)]
  generalize x0 * y0 = q1 at *
  generalize x1 * y0 = q2 at *
  generalize x0 * y1 = q3 at *
  generalize x1 * y1 = q4 at *
  have d1 : (q1 : Int) / 4294967296 = ((q1 / 4294967296 : Nat) : Int) := by omega
  generalize q1 / 4294967296 = v1 at *
  have s1 : IntKind.u64.wrap ((q2 : Int) + (v1 : Int)) = ((q2 + v1 : Nat) : Int) := by rw [← Int.natCast_add, wrap_nat _ b2]
  have m1 := mask64 (q2 + v1) 32 b2 (by decide) 4294967295 rfl
  rw [show (2 : Nat) ^ 32 = 4294967296 from rfl] at m1
  generalize q2 + v1 = t at *
  have d2 : (t : Int) / 4294967296 = ((t / 4294967296 : Nat) : Int) := by omega
  have s2 : IntKind.u64.wrap (((t % 4294967296 : Nat) : Int) + (q3 : Int)) = ((t % 4294967296 + q3 : Nat) : Int) := by rw [← Int.natCast_add, wrap_nat _ b3]
  generalize hw1 : t % 4294967296 + q3 = w1 at *
  generalize ht0 : t % 4294967296 = t0 at *
  have d3 : (w1 : Int) / 4294967296 = ((w1 / 4294967296 : Nat) : Int) := by omega
  have s3 : IntKind.u64.wrap ((q4 : Int) + ((t / 4294967296 : Nat) : Int)) = ((q4 + t / 4294967296 : Nat) : Int) := by rw [← Int.natCast_add, wrap_nat _ (by omega)]
  have s4 : IntKind.u64.wrap (((q4 + t / 4294967296 : Nat) : Int) + ((w1 / 4294967296 : Nat) : Int)) = ((q4 + t / 4294967296 + w1 / 4294967296 : Nat) : Int) := by rw [← Int.natCast_add, wrap_nat _ (by omega)]
  generalize q4 + t / 4294967296 + w1 / 4294967296 = h2 at *
  generalize q4 + t / 4294967296 = h1 at *
  generalize t / 4294967296 = t1 at *
  generalize w1 / 4294967296 = v3 at *
  clear b1 b2 b3 k1 k2 k3 hw1 ht0
  go_enter Try.func87, Try.ntmps87
  go_wp2
  go_ret2
  exact ⟨rfl, rfl⟩

/-- x times y, with a and b added. -/
theorem product_le (x y a b : Nat) (hx : x < 18446744073709551616) (hy : y < 18446744073709551616) (ha : a < 18446744073709551616) (hb : b < 18446744073709551616) : x * y + a + b < 18446744073709551616 * 18446744073709551616 := by
  have h : x * y ≤ 18446744073709551615 * 18446744073709551615 := Nat.mul_le_mul (by omega) (by omega)
  omega
set_option maxHeartbeats 1000000 in
theorem product_any (x y a b : Nat) (hx : x < 18446744073709551616) (hy : y < 18446744073709551616) (ha : a < 18446744073709551616) (hb : b < 18446744073709551616) (w : World) :
    Calls Try.prog 73 #[.int .u64 (x : Int), .int .u64 (y : Int), .int .u64 (a : Int), .int .u64 (b : Int)] w fun e w' => e = .returned (.tuple #[.int .u64 (((x * y + a + b) % 18446744073709551616 : Nat) : Int), .int .u64 (((x * y + a + b) / 18446744073709551616 : Nat) : Int)]) ∧ w' = w := by
  have hall := product_le x y a b hx hy ha hb
  have hm := mul64_any x y hx hy
  generalize x * y = z at *
  obtain ⟨hi, hhi⟩ : ∃ hi, hi = z / 18446744073709551616 := ⟨_, rfl⟩
  obtain ⟨lo, hlo⟩ : ∃ lo, lo = z % 18446744073709551616 := ⟨_, rfl⟩
  rw [← hhi, ← hlo] at hm
  obtain ⟨l1, hl1⟩ : ∃ l1, l1 = (lo + a) % 18446744073709551616 := ⟨_, rfl⟩
  obtain ⟨c1, hc1⟩ : ∃ c1, c1 = (lo + a) / 18446744073709551616 := ⟨_, rfl⟩
  obtain ⟨l2, hl2⟩ : ∃ l2, l2 = (l1 + b) % 18446744073709551616 := ⟨_, rfl⟩
  obtain ⟨c2, hc2⟩ : ∃ c2, c2 = (l1 + b) / 18446744073709551616 := ⟨_, rfl⟩
  have r1 := add64_run lo a 0 (by omega)
  have r2 := add64_run l1 b 0 (by omega)
  rw [Nat.add_zero, ← hl1, ← hc1, show ((0 : Nat) : Int) = 0 from rfl] at r1
  rw [Nat.add_zero, ← hl2, ← hc2, show ((0 : Nat) : Int) = 0 from rfl] at r2
  have w1 : IntKind.u64.wrap ((hi : Int) + (c1 : Int)) = ((hi + c1 : Nat) : Int) := by rw [IntWalk.u64_in _ ⟨by omega, by omega⟩]; omega
  have w2 : IntKind.u64.wrap (((hi + c1 : Nat) : Int) + (c2 : Int)) = ((hi + c1 + c2 : Nat) : Int) := by rw [IntWalk.u64_in _ ⟨by omega, by omega⟩]; omega
  have e1 : (z + a + b) % 18446744073709551616 = l2 := by omega
  have e2 : (z + a + b) / 18446744073709551616 = hi + c1 + c2 := by omega
  rw [e1, e2]
  generalize hi + c1 + c2 = h2 at *
  generalize hi + c1 = h1 at *
  clear e1 e2 hhi hlo hl1 hc1 hl2 hc2 hall hx hy ha hb
  go_enter Try.func73, Try.ntmps73
  go_wp2_with (first
    | (go_at_call 87; refine (hm _).mono ?_; rintro e w' ⟨rfl, rfl⟩)
    | simp only [r1]
    | simp only [r2])
  go_ret2
  exact ⟨rfl, rfl⟩
end Go.Proofs.Ytonhpmaiagbheaa

/- The program's numbers below p: sum, reduced. -/
set_option linter.unusedSimpArgs false
set_option linter.unusedVariables false
namespace Go.Proofs.Ytonhpmaiagbheaa
open Go.RowKit Go.Deep

set_option maxHeartbeats 2000000 in
theorem wsum_any (A C : Nat) (w : World) (hA : A < B4) (hC : C < B4) : Calls Try.prog 74 #[.agg (arrOf 4 (ewF A)), .agg (arrOf 4 (ewF C))] w fun e w' => e = .returned (.tuple #[.agg (arrOf 4 (ewF (A + C))), .int .u64 (((A + C) / B4 : Nat) : Int)]) ∧ Below w.heap.size w w' := by
  obtain ⟨w3, hw3, hrA, hrC, hrR, hbel, hsz⟩ := rowsW3 w (ewF A) (ewF C) 48
  have HEND := Lib.hid (addW_end A C hA hC)
  clear hA hC
  go_enter Try.func74, Try.ntmps74
  go_wp2_with (refine wpList_alloc_arr rfl 48 rfl (arrOf 4 (u64f fun _ => 0)) zeroW ?_)
  rw [← hw3]
  clear hw3
  generalize hg0 : w.heap.size = g0 at *
  generalize hg2 : g0 + 1 + 1 = g2 at *
  generalize hg1 : g0 + 1 = g1 at *
  have n02 : g0 ≠ g2 := by omega
  have n12 : g1 ≠ g2 := by omega
  have l2 : g0 ≤ g2 := by omega
  have HG := Lib.hid hg0
  clear hg1 hg2 hg0 hsz
  go_loopw [5, 7] (fun cv i wr => ∃ j : Nat, j ≤ 4 ∧ i = .int .i64 j ∧ cv = .int .u64 ((addW A C j : Nat) : Int) ∧ wr.rowIs g0 48 4 (ewF A) ∧ wr.rowIs g1 48 4 (ewF C) ∧ wr.rowIs g2 48 4 (u64f fun i => if i < j then wd (A + C) i else 0) ∧ Below g0 w wr) (fun _ i _ => 4 - (intOf i).toNat)
  case atStart => exact ⟨0, Nat.zero_le _, rfl, by rw [addW_zero]; rfl, hrA, hrC, hrR.congr fun i _ => rfl, hbel⟩
  case round =>
    clear hrA hrC hrR hbel
    obtain ⟨j, hj, rfl, rfl, hA, hC, hR, hbel⟩ := hrel
    by_cases hlt : j < 4
    · have HXA : Hid (∀ w' : World, w'.rowIs g0 48 4 (ewF A) → w'.cell? ⟨g0, j, none⟩ = some (.int .u64 ((wd A j : Nat) : Int))) := Lib.hid fun w' h => h.cell hlt
      have HYC : Hid (∀ w' : World, w'.rowIs g1 48 4 (ewF C) → w'.cell? ⟨g1, j, none⟩ = some (.int .u64 ((wd C j : Nat) : Int))) := Lib.hid fun w' h => h.cell hlt
      have hstep := wd_sum A C j
      have hfr := hR.drew.frozen j
      have hcR := hR.drew.cell (i := j) hlt
      have hjI : 0 ≤ (j : Int) ∧ (j : Int) < 4 := by omega
      have hset : (wr.drew.setCell ⟨g2, j, none⟩ (.int .u64 ((wd (A + C) j : Nat) : Int))).rowIs g2 48 4 (u64f fun i => if i < j + 1 then wd (A + C) i else 0) := row_set_drew hR _ _ _ (fun i hi => by
        by_cases e : i = j
        · subst e; rw [if_pos (Nat.lt_succ_self i), if_pos rfl]
        · rw [if_neg e]
          by_cases h2 : i < j
          · rw [if_pos h2, if_pos (by omega)]
          · rw [if_neg h2, if_neg (by omega)])
      have HSET := Lib.hid hset
      have hrun := add64_run (wd A j) (wd C j) (addW A C j) (addW_le A C j)
      rw [hstep.1, hstep.2] at hrun
      have HRUN := Lib.hid hrun
      generalize wd (A + C) j = s at *
      generalize hc2 : addW A C (j + 1) = c2 at *
      have HC2 := Lib.hid hc2
      generalize addW A C j = c at *
      generalize wd A j = x at *
      generalize wd C j = y at *
      clear hset hstep hrun hlt hc2
      replace hA := hA.drew
      replace hC := hC.drew
      go_wp2
      refine wp_region_lins [(0, some [13]), (1, some [13]), (2, some [13]), (3, some [8, 13]), (4, some [13]), (5, some [13]), (6, some [8, 13]), (7, some [8, 13]), (8, none), (9, some [13]), (10, some [13]), (11, some []), (12, some [13]), (13, none), (14, some [])] (fun c w' => c = 8 → w'.rowIs g0 48 4 (ewF A) ∧ w'.rowIs g1 48 4 (ewF C)) (by kernel_rfl) (by kernel_rfl) (by decide) (by kernel_rfl) (fun d _ _ _ _ h => by cases d <;> exact h) (fun c hc _ => ⟨hA, hC⟩) ?_
      refine lins_read 11 (Op.move (Operand.tmp 6)) 3 _ rfl rfl rfl rfl rfl (fun w0 hw0 => by unfold mkOp; go_simp; all_goals (with_reducible rfl)) ?_
      simp only [Act.put, List.setIfInBounds_toArray, List.set_cons_zero, List.set_cons_succ]
      refine lins_read 12 (Op.move (Operand.tmp 6)) 3 _ rfl rfl rfl rfl rfl (fun w0 hw0 => by unfold mkOp; go_simp; all_goals (with_reducible rfl)) ?_
      simp only [Act.put, List.setIfInBounds_toArray, List.set_cons_zero, List.set_cons_succ]
      refine lins_read 13 (Op.indexAddr 48 (Operand.tmp 2) (Operand.tmp 12)) 0 _ rfl rfl rfl rfl rfl (fun w0 hw0 => by unfold mkOp; go_simp; all_goals (with_reducible rfl)) ?_
      simp only [Act.put, List.setIfInBounds_toArray, List.set_cons_zero, List.set_cons_succ]
      refine lins_read 14 (Op.load 47 (Operand.tmp 13)) 47 (.int .u64 (x : Int)) rfl rfl rfl rfl rfl (fun w0 hw0 => by have hc0 := HXA.out w0 (hw0 8 (by simp) rfl).1; unfold mkOp; go_simp; all_goals (with_reducible rfl)) ?_
      simp only [Act.put, List.setIfInBounds_toArray, List.set_cons_zero, List.set_cons_succ]
      refine lins_read 15 (Op.move (Operand.tmp 6)) 3 _ rfl rfl rfl rfl rfl (fun w0 hw0 => by unfold mkOp; go_simp; all_goals (with_reducible rfl)) ?_
      simp only [Act.put, List.setIfInBounds_toArray, List.set_cons_zero, List.set_cons_succ]
      refine lins_read 16 (Op.indexAddr 48 (Operand.tmp 3) (Operand.tmp 15)) 0 _ rfl rfl rfl rfl rfl (fun w0 hw0 => by unfold mkOp; go_simp; all_goals (with_reducible rfl)) ?_
      simp only [Act.put, List.setIfInBounds_toArray, List.set_cons_zero, List.set_cons_succ]
      refine lins_read 17 (Op.load 47 (Operand.tmp 16)) 47 (.int .u64 (y : Int)) rfl rfl rfl rfl rfl (fun w0 hw0 => by have hc0 := HYC.out w0 (hw0 8 (by simp) rfl).2; unfold mkOp; go_simp; all_goals (with_reducible rfl)) ?_
      simp only [Act.put, List.setIfInBounds_toArray, List.set_cons_zero, List.set_cons_succ]
      refine lins_read 18 (Op.move (Operand.tmp 5)) 47 _ rfl rfl rfl rfl rfl (fun w0 hw0 => by unfold mkOp; go_simp; all_goals (with_reducible rfl)) ?_
      simp only [Act.put, List.setIfInBounds_toArray, List.set_cons_zero, List.set_cons_succ]
      refine lins_made (some 19) (Op.call { callee := Callee.value (Operand.func 63), args := #[Operand.tmp 14, Operand.tmp 17, Operand.tmp 18], argTypes := #[47, 47, 47] }) 91 (.tuple #[.int .u64 (s : Int), .int .u64 (c2 : Int)]) (_) rfl rfl rfl rfl rfl (by exact exec_entry _ _ _ _ _ _ _ _ rfl (by go_simp) (HRUN.out _)) (fun _ _ => True) (fun c hc => ⟨trivial, fun w7 _ h => by subst h; simp [writers] at hc⟩) ?_
      simp only [Act.put, List.setIfInBounds_toArray, List.set_cons_zero, List.set_cons_succ]
      refine lins_read 10 (Op.move (Operand.tmp 19)) 91 _ rfl rfl rfl rfl rfl (fun w0 hw0 => by unfold mkOp; go_simp; all_goals (with_reducible rfl)) ?_
      simp only [Act.put, List.setIfInBounds_toArray, List.set_cons_zero, List.set_cons_succ]
      refine lins_read 20 (Op.extract (Operand.tmp 10) 0) 47 _ rfl rfl rfl rfl rfl (fun w0 hw0 => by unfold mkOp; go_simp; all_goals (with_reducible rfl)) ?_
      simp only [Act.put, List.setIfInBounds_toArray, List.set_cons_zero, List.set_cons_succ]
      refine lins_read 21 (Op.extract (Operand.tmp 10) 1) 47 _ rfl rfl rfl rfl rfl (fun w0 hw0 => by unfold mkOp; go_simp; all_goals (with_reducible rfl)) ?_
      simp only [Act.put, List.setIfInBounds_toArray, List.set_cons_zero, List.set_cons_succ]
      refine lins_read 22 (Op.indexAddr 48 (Operand.tmp 4) (Operand.tmp 11)) 0 _ rfl rfl rfl rfl rfl (fun w0 hw0 => by unfold mkOp; go_simp; all_goals (with_reducible rfl)) ?_
      simp only [Act.put, List.setIfInBounds_toArray, List.set_cons_zero, List.set_cons_succ]
      refine lins_store (Op.store 47 (Operand.tmp 22) (Operand.tmp 20)) 0 (_) rfl rfl rfl rfl rfl (by unfold mkOp; go_simp; all_goals (with_reducible rfl)) (fun _ _ => True) (fun c hc => by cases hc) ?_
      try simp only [Act.put, List.setIfInBounds_toArray, List.set_cons_zero, List.set_cons_succ]
      refine lins_read 5 (Op.assign (Operand.tmp 21)) 47 _ rfl rfl rfl rfl rfl (fun w0 hw0 => by unfold mkOp; go_simp; all_goals (with_reducible rfl)) ?_
      simp only [Act.put, List.setIfInBounds_toArray, List.set_cons_zero, List.set_cons_succ]
      refine lins_end ?_
      go_wp2
      go_roundw
      case rel => exact ⟨j + 1, by omega, by go_num, by rw [HC2.out], hA.setOther n02 _, hC.setOther n12 _, HSET.out, hbel.drew.setCell (show g0 ≤ (⟨g2, j, none⟩ : Addr).block from l2) _⟩
      case measure => simp [intOf]; omega
    · obtain rfl : j = 4 := by omega
      rw [HEND.out]
      have hR' : wr.rowIs g2 48 4 (ewF (A + C)) := hR.congr fun i hi => by dsimp only [ewF, u64f]; rw [if_pos hi]
      have hgs : g0 ≤ wr.heap.size := by rw [← HG.out]; exact hbel.size
      clear hR
      go_wp2_with (first
        | (refine wpList_load_arr rfl 48 (.tmp 4) rfl 4 arrW hR' rfl (by omega) ?_; simp only [Nat.zero_add])
        | (refine wpList_store_arr rfl 48 (.tmp 4) (.tmp 24) rfl 4 arrW hR' rfl rfl (by omega) (fun _ _ => rfl) ?_; intro w6 hr6 hg6 hs6))
      refine ret_cell_arr_tmp rfl arrW hr6 rfl rfl (by omega) rfl ⟨?_, by rw [HG.out]; exact hbel.grown hg6 hgs (by intro k hk; cases hk; exact l2)⟩
      rw [agg_putW]
      rfl
theorem andnot_top (x : Nat) (hx : x < 18446744073709551616) : bits .andNot .u64 (x : Int) 9223372036854775808 = ((x % 9223372036854775808 : Nat) : Int) := by
  have h := bits_go64 .andNot (fun a b => a &&& ~~~b) (BitVec.ofNat 64 x) (BitVec.ofNat 64 9223372036854775808) rfl
  rw [ofNat64 x hx, ofNat64 _ (by decide)] at h
  refine h.trans ?_
  rw [BitVec.toNat_and, BitVec.toNat_ofNat, Nat.mod_eq_of_lt (show x < 2 ^ 64 by omega), show (~~~(BitVec.ofNat 64 9223372036854775808)).toNat = 2 ^ 63 - 1 by decide, Nat.and_two_pow_sub_one_eq_mod]
theorem and_top (x : Nat) (hx : x < 18446744073709551616) : bits .and .u64 (x : Int) 9223372036854775808 = ((x / 9223372036854775808 * 9223372036854775808 : Nat) : Int) := by
  have h := and64 (BitVec.ofNat 64 x) (BitVec.ofNat 64 9223372036854775808)
  rw [ofNat64 x hx, ofNat64 _ (by decide)] at h
  refine h.trans ?_
  rw [BitVec.toNat_and, BitVec.toNat_ofNat, BitVec.toNat_ofNat, Nat.mod_eq_of_lt (show x < 2 ^ 64 by omega), show 9223372036854775808 % 2 ^ 64 = 2 ^ 63 by decide]
  refine congrArg Int.ofNat (Nat.eq_of_testBit_eq fun i => ?_)
  rw [Nat.testBit_and, Nat.testBit_two_pow]
  by_cases e : x < 9223372036854775808
  · rw [Nat.div_eq_of_lt e, Nat.zero_mul, Nat.zero_testBit]
    by_cases h63 : 63 = i
    · subst h63
      rw [Nat.testBit_lt_two_pow (show x < 2 ^ 63 by omega)]
      rfl
    · rw [decide_eq_false h63, Bool.and_false]
  · rw [show x / 9223372036854775808 = 1 by omega, show 1 * 9223372036854775808 = 2 ^ 63 by decide, Nat.testBit_two_pow]
    by_cases h63 : 63 = i
    · subst h63
      rw [Nat.testBit_eq_decide_div_mod_eq, show (2 : Nat) ^ 63 = 9223372036854775808 by decide, show x / 9223372036854775808 = 1 by omega]
      rfl
    · rw [decide_eq_false h63, Bool.and_false]
theorem or_add64 (k a b : Nat) (hb : b < 2 ^ k) (h : 2 ^ k * a + b < 18446744073709551616) : bits .or .u64 ((2 ^ k * a : Nat) : Int) (b : Int) = ((2 ^ k * a + b : Nat) : Int) := by
  have g := or64 (BitVec.ofNat 64 (2 ^ k * a)) (BitVec.ofNat 64 b)
  rw [ofNat64 _ (by omega), ofNat64 b (by omega)] at g
  refine g.trans ?_
  rw [BitVec.toNat_or, BitVec.toNat_ofNat, BitVec.toNat_ofNat, Nat.mod_eq_of_lt (show 2 ^ k * a < 2 ^ 64 by omega), Nat.mod_eq_of_lt (show b < 2 ^ 64 by omega), ← Nat.two_pow_add_eq_or_of_lt hb]
theorem or_add64' (k a b : Nat) (hb : b < 2 ^ k) (h : 2 ^ k * a + b < 18446744073709551616) : bits .or .u64 (b : Int) ((2 ^ k * a : Nat) : Int) = ((2 ^ k * a + b : Nat) : Int) := by
  have g := or64 (BitVec.ofNat 64 b) (BitVec.ofNat 64 (2 ^ k * a))
  rw [ofNat64 _ (by omega), ofNat64 (2 ^ k * a) (by omega)] at g
  refine g.trans ?_
  rw [BitVec.toNat_or, BitVec.toNat_ofNat, BitVec.toNat_ofNat, Nat.mod_eq_of_lt (show 2 ^ k * a < 2 ^ 64 by omega), Nat.mod_eq_of_lt (show b < 2 ^ 64 by omega), Nat.or_comm, ← Nat.two_pow_add_eq_or_of_lt hb]
theorem cells4_small (x : Nat) (h : x < 18446744073709551616) : (#[.int .u64 (x : Int), .int .u64 0, .int .u64 0, .int .u64 0] : Array Value) = arrOf 4 (ewF x) := by
  have e : arrOf 4 (ewF x) = arrOf 4 (fun i => .int .u64 ((if i = 0 then x else 0 : Nat) : Int)) := arrOf_congr fun i _ => by
    unfold ewF u64f
    rw [wd_small x i h]
  rw [e]
  rfl
theorem builtE (F : Nat → Value) : Try.prog.built 50 [(0, .agg (arrOf 4 F))] = some (arrOf 4 F) := by kernel_rfl
theorem wpList_buildE {ops : Array Oper} {rest : List Oper} {o : Oper} {a : Act} {w : World} {Q : Exit → Act → World → Prop} {F : Nat → Value} (hgd : o.guard = none) (x : Operand) (ho : o.op = .build 50 #[(0, x)]) (hx : a.eval x = .agg (arrOf 4 F))
    (h : wpList Try.prog ops Q rest (a.put o.dst (.agg (arrOf 4 F))) w) : wpList Try.prog ops Q (o :: rest) a w :=
  wpList_build_arr hgd 50 #[(0, x)] ho (arrOf 4 F) (by simp only [List.map_toArray, List.map_cons, List.map_nil, hx]; exact builtE F) h
theorem row_top {w : World} {b : Nat} {t : TypeId} {W : Nat} (h : w.rowIs b t 4 (ewF W)) : (w.setCell ⟨b, 3, none⟩ (.int .u64 ((wd W 3 % 9223372036854775808 : Nat) : Int))).rowIs b t 4 (ewF (W % top)) := row_set h 3 _ _ (fun i hi => wd_mod_top W i hi)

set_option maxHeartbeats 2000000 in
theorem reduced_any (W t : Nat) (w : World) (hW : W < B4) (ht : t < 2 ^ 58) : Calls Try.prog 70 #[.agg (arrOf 4 (ewF W)), .int .u64 (t : Int)] w fun e w' => e = .returned (.agg (arrOf 4 (ewF ((W + t * B4) % p25)))) ∧ Below w.heap.size w w' := by
  obtain ⟨w3, hw3, hrW, hrR, hbel, hsz⟩ := rowsW2 w (ewF W) 48 50
  obtain ⟨hS, hX⟩ := reduced_lt W t hW ht
  have hmod := reduced_mod W t
  have hcut := cut_p _ hS
  rw [hmod] at hcut
  have HCUT := Lib.hid hcut
  have ho := over_lt W hW
  have hhigh := wd_high W hW
  have hWt : W % top < B4 := Nat.lt_trans (Nat.mod_lt _ top_pos) top_B4
  have hXB : (2 * t + W / top) * 19 < B4 := Nat.lt_trans hX (by decide +kernel)
  have hSB : W % top + (2 * t + W / top) * 19 < B4 := by
    have h2 : top + p25 < B4 := by decide +kernel
    exact Nat.lt_trans (Nat.lt_of_le_of_lt (Nat.le_add_right _ 19) hS) h2
  have hLB : W % top + (2 * t + W / top) * 19 + 19 < B4 := by
    have h2 : top + p25 < B4 := by decide +kernel
    exact Nat.lt_trans hS h2
  have hb1 := cells4_small _ hX
  have hb2 := cells4_small 19 (by decide)
  have hs1 := wsum_any (W % top) ((2 * t + W / top) * 19)
  have hs2 := wsum_any (W % top + (2 * t + W / top) * 19) 19
  rw [Nat.div_eq_of_lt hSB] at hs1
  rw [Nat.div_eq_of_lt hLB] at hs2
  have HS1 := Lib.hid fun w => hs1 w hWt hXB
  have HS2 := Lib.hid fun w => hs2 w hSB (by decide +kernel)
  have hx3 := wd_lt W 3
  have hor := or_add64 1 t (W / top) (by omega) (by omega)
  have hwr1 : IntKind.u64.wrap ((t : Int) * 2) = ((2 ^ 1 * t : Nat) : Int) := by rw [IntWalk.u64_in _ ⟨by omega, by omega⟩]; omega
  have hwr1' : IntKind.u64.wrap ((t : Int) * 2 ^ 1) = ((2 ^ 1 * t : Nat) : Int) := by rw [IntWalk.u64_in _ ⟨by omega, by omega⟩]; omega
  rw [show (2 : Nat) ^ 1 * t + W / top = 2 * t + W / top from rfl] at hor
  have hdv : ((wd W 3 : Nat) : Int) / 9223372036854775808 = ((W / top : Nat) : Int) := by rw [← hhigh]; omega
  have hmul : IntKind.u64.wrap (((2 * t + W / top : Nat) : Int) * 19) = (((2 * t + W / top) * 19 : Nat) : Int) := by rw [IntWalk.u64_in _ ⟨by omega, by omega⟩]; omega
  have hand := andnot_top (wd W 3) hx3
  have hc3 : w3.cell? ⟨w.heap.size, 3, none⟩ = some (.int .u64 ((wd W 3 : Nat) : Int)) := hrW.cell (i := 3) (by omega)
  have hf3 := hrW.frozen 3
  have hrT := row_top hrW
  have hbT := hbel.setCell (p := ⟨w.heap.size, 3, none⟩) (Nat.le_refl _) (.int .u64 ((wd W 3 % 9223372036854775808 : Nat) : Int))
  have hrRT := hrR.setOther (show w.heap.size + 1 ≠ (⟨w.heap.size, 3, none⟩ : Addr).block by show w.heap.size + 1 ≠ w.heap.size; omega) (.int .u64 ((wd W 3 % 9223372036854775808 : Nat) : Int))
  generalize W % top + (2 * t + W / top) * 19 = S at *
  generalize (2 * t + W / top) * 19 = X at *
  generalize 2 * t + W / top = ov at *
  generalize W / top = o at *
  generalize 2 ^ 1 * t = t2 at *
  generalize hlow : wd W 3 % 9223372036854775808 = low at *
  clear hS hX hmod hcut ho hhigh hWt hXB hs1 hs2 hlow ht hW hrW hrR hx3
  have hl3 := wd_lt (S + 19) 3
  have hand2 := and_top (wd (S + 19) 3) hl3
  rw [wd_high _ hLB] at hand2
  have hand3 := andnot_top (wd (S + 19) 3) hl3
  have hL2 : (S + 19) / top < 2 := over_lt _ hLB
  have hq0 : (S + 19) / top = 0 ↔ S + 19 < top := by
    constructor
    · intro h
      apply Classical.byContradiction
      intro hn
      have h3 : 0 < (S + 19) / top := Nat.div_pos (Nat.le_of_not_lt hn) top_pos
      rw [h] at h3
      exact Nat.lt_irrefl 0 h3
    · exact Nat.div_eq_of_lt
  have HY : Hid (∀ (w' : World) b t, w'.rowIs b t 4 (ewF (S + 19)) → w'.cell? ⟨b, 3, none⟩ = some (.int .u64 ((wd (S + 19) 3 : Nat) : Int))) := Lib.hid fun w' b t h => h.cell (i := 3) (by omega)
  have HT : Hid (∀ (w' : World) b t, w'.rowIs b t 4 (ewF (S + 19)) → (w'.setCell ⟨b, 3, none⟩ (.int .u64 ((wd (S + 19) 3 % 9223372036854775808 : Nat) : Int))).rowIs b t 4 (ewF ((S + 19) % top))) := Lib.hid fun w' b t h => row_top h
  obtain ⟨q, hq⟩ := nat_var ((S + 19) / top)
  rw [← hq] at hand2 hL2 hq0
  have HQ0 := Lib.hid hq0
  rw [show ((19 : Nat) : Int) = 19 from rfl] at hb2
  generalize wd (S + 19) 3 % 9223372036854775808 = z3 at *
  generalize wd (S + 19) 3 = y3 at *
  generalize wd W 3 = x3 at *
  have HB1 := Lib.hid hb1
  have HB2 := Lib.hid hb2
  clear hLB hSB hq hq0 hl3 hb1 hb2
  generalize hg0 : w.heap.size = g0 at *
  generalize hg1 : g0 + 1 = g1 at *
  have n10 : g1 ≠ g0 := by omega
  have l1 : g0 ≤ g1 := by omega
  have HG := Lib.hid hg0
  have HG1 := Lib.hid hg1
  have HGS : Hid (∀ wq : World, Below g0 w wq → g0 ≤ wq.heap.size) := Lib.hid fun wq h => by rw [← HG.out]; exact h.size
  have hlt0 := hrT.lt
  have hlt1 := hrRT.lt
  clear hg0 hg1 hsz
  by_cases hq1 : q = 0
  · have hS19 := HQ0.out.1 hq1
    have hres := HCUT.out
    rw [if_pos hS19] at hres
    have HRES := Lib.hid hres
    subst hq1
    rw [show ((0 * 9223372036854775808 : Nat) : Int) = 0 from rfl] at hand2
    clear hS19 hres HCUT HQ0 HT
    go_enter Try.func70, Try.ntmps70
    go_wp2_with (first
      | (refine wpList_alloc_arr rfl 50 rfl (arrOf 4 (u64f fun _ => 0)) zeroE ?_; simp only [World.size_alloc, HG.out, HG1.out]; rw [← hw3]; clear hw3)
      | (refine wpList_load_arr rfl 48 (.tmp 2) rfl 4 arrW hrT rfl (by omega) ?_; simp only [Nat.zero_add])
      | (go_at_call 74; rw [HB1.out]; refine (HS1.out _).mono ?_; rintro e w5 ⟨rfl, hb5⟩
         have hr5 := hrT.of_block (hb5.block _ hlt0)
         have hR5 := hrRT.of_block (hb5.block _ hlt1)
         have hB5 := hbT.trans (hb5.mono (HGS.out _ hbT))
         have hlt5 := hr5.lt
         have hlt15 := hR5.lt
         clear hrT hrRT hbT hb5 HS1 HB1)
      | (refine wpList_store_arr rfl 48 (.tmp 2) (.tmp 24) rfl 4 arrW hr5 rfl rfl (by omega) (fun _ _ => rfl) ?_; intro w6 hr6 hg6 hs6
         have hr7 : w6.rowIs g0 48 4 (ewF S) := hr6.congr fun i hi => by unfold putN; rw [if_pos (by omega), Nat.sub_zero]
         have hR7 := gb_rowIs hR5 hg6 n10
         have hB7 := hB5.grown hg6 (HGS.out _ hB5) (by intro k hk; cases hk; exact Nat.le_refl _)
         rw [← hs6] at hlt5 hlt15
         clear hr5 hR5 hB5 hr6 hg6 hs6)
      | (refine wpList_load_arr rfl 48 (.tmp 2) rfl 4 arrW hr7 rfl (by omega) ?_; simp only [Nat.zero_add])
      | (go_at_call 74; rw [HB2.out]; refine (HS2.out _).mono ?_; rintro e w8 ⟨rfl, hb8⟩
         have hr8 := (hr7.of_block (hb8.block _ hlt5)).alloc (.cells (arrOf 4 (u64f fun _ => 0)) 48)
         have hR8 := (hR7.of_block (hb8.block _ hlt15)).alloc (.cells (arrOf 4 (u64f fun _ => 0)) 48)
         have hB8' := hB7.trans (hb8.mono (HGS.out _ hB7))
         have hB8 := hB8'.alloc (HGS.out _ hB8') (.cells (arrOf 4 (u64f fun _ => 0)) 48)
         have hl8 := Nat.lt_of_lt_of_le hlt5 hb8.size
         have hl18 := Nat.lt_of_lt_of_le hlt15 hb8.size
         have hL8 := rowIs_arr w8 4 (u64f fun _ => 0) 48
         clear hr7 hR7 hB7 hb8 HS2 hB8' hlt5 hlt15)
      | refine wpList_alloc_arr rfl 48 rfl (arrOf 4 (u64f fun _ => 0)) zeroW ?_
      | (refine wpList_store_arr rfl 48 (.tmp 6) (.tmp 30) rfl 4 arrW hL8 rfl rfl (by omega) (fun _ _ => rfl) ?_; intro w9 hr9 hg9 hs9
         have hL9 : w9.rowIs w8.heap.size 48 4 (ewF (S + 19)) := hr9.congr fun i hi => by unfold putN; rw [if_pos (by omega), Nat.sub_zero]
         have hR9 := gb_rowIs hR8 hg9 (Nat.ne_of_lt hl18)
         have hr99 := gb_rowIs hr8 hg9 (Nat.ne_of_lt hl8)
         have hB9 := hB8.grown hg9 (HGS.out _ hB8) (by intro k hk; cases hk; omega)
         have hcy := HY.out _ _ _ hL9
         have hfy := hL9.frozen 3
         clear hr8 hR8 hB8 hr9 hg9 hs9 hL8)
      | (refine wpList_load_arr rfl 48 (.tmp 2) rfl 4 arrW hr99 rfl (by omega) ?_; simp only [Nat.zero_add])
      | refine wpList_buildE (F := ewF S) rfl (.tmp 36) rfl rfl ?_
      | (refine wpList_store_arr rfl 50 (.tmp 4) (.tmp 37) rfl 4 arrE hR9 rfl rfl (by omega) (fun _ _ => rfl) ?_; intro wa hra hga hsa)
      | fail)
    refine ret_cell_arr rfl arrE hra rfl (by omega) rfl ⟨?_, by exact hB9.grown hga (HGS.out _ hB9) (by intro k hk; cases hk; exact l1)⟩
    rw [agg_putW, ← HRES.out]
  · have hS19 : ¬ S + 19 < top := fun h => hq1 (HQ0.out.2 h)
    have hres := HCUT.out
    rw [if_neg hS19] at hres
    have HRES := Lib.hid hres
    have hq2 : q = 1 := by omega
    subst hq2
    rw [show ((1 * 9223372036854775808 : Nat) : Int) = 9223372036854775808 from rfl] at hand2
    clear hS19 hres HCUT HQ0 hq1
    go_enter Try.func70, Try.ntmps70
    go_wp2_with (first
      | (refine wpList_alloc_arr rfl 50 rfl (arrOf 4 (u64f fun _ => 0)) zeroE ?_; simp only [World.size_alloc, HG.out, HG1.out]; rw [← hw3]; clear hw3)
      | (refine wpList_load_arr rfl 48 (.tmp 2) rfl 4 arrW hrT rfl (by omega) ?_; simp only [Nat.zero_add])
      | (go_at_call 74; rw [HB1.out]; refine (HS1.out _).mono ?_; rintro e w5 ⟨rfl, hb5⟩
         have hr5 := hrT.of_block (hb5.block _ hlt0)
         have hR5 := hrRT.of_block (hb5.block _ hlt1)
         have hB5 := hbT.trans (hb5.mono (HGS.out _ hbT))
         have hlt5 := hr5.lt
         have hlt15 := hR5.lt
         clear hrT hrRT hbT hb5 HS1 HB1)
      | (refine wpList_store_arr rfl 48 (.tmp 2) (.tmp 24) rfl 4 arrW hr5 rfl rfl (by omega) (fun _ _ => rfl) ?_; intro w6 hr6 hg6 hs6
         have hr7 : w6.rowIs g0 48 4 (ewF S) := hr6.congr fun i hi => by unfold putN; rw [if_pos (by omega), Nat.sub_zero]
         have hR7 := gb_rowIs hR5 hg6 n10
         have hB7 := hB5.grown hg6 (HGS.out _ hB5) (by intro k hk; cases hk; exact Nat.le_refl _)
         rw [← hs6] at hlt5 hlt15
         clear hr5 hR5 hB5 hr6 hg6 hs6)
      | (refine wpList_load_arr rfl 48 (.tmp 2) rfl 4 arrW hr7 rfl (by omega) ?_; simp only [Nat.zero_add])
      | (go_at_call 74; rw [HB2.out]; refine (HS2.out _).mono ?_; rintro e w8 ⟨rfl, hb8⟩
         have hr8 := (hr7.of_block (hb8.block _ hlt5)).alloc (.cells (arrOf 4 (u64f fun _ => 0)) 48)
         have hR8 := (hR7.of_block (hb8.block _ hlt15)).alloc (.cells (arrOf 4 (u64f fun _ => 0)) 48)
         have hB8' := hB7.trans (hb8.mono (HGS.out _ hB7))
         have hB8 := hB8'.alloc (HGS.out _ hB8') (.cells (arrOf 4 (u64f fun _ => 0)) 48)
         have hl8 := Nat.lt_of_lt_of_le hlt5 hb8.size
         have hl18 := Nat.lt_of_lt_of_le hlt15 hb8.size
         have hL8 := rowIs_arr w8 4 (u64f fun _ => 0) 48
         clear hr7 hR7 hB7 hb8 HS2 hB8' hlt5 hlt15)
      | refine wpList_alloc_arr rfl 48 rfl (arrOf 4 (u64f fun _ => 0)) zeroW ?_
      | (refine wpList_store_arr rfl 48 (.tmp 6) (.tmp 30) rfl 4 arrW hL8 rfl rfl (by omega) (fun _ _ => rfl) ?_; intro w9 hr9 hg9 hs9
         have hL9 : w9.rowIs w8.heap.size 48 4 (ewF (S + 19)) := hr9.congr fun i hi => by unfold putN; rw [if_pos (by omega), Nat.sub_zero]
         have hR9 := gb_rowIs hR8 hg9 (Nat.ne_of_lt hl18)
         have hr99 := gb_rowIs hr8 hg9 (Nat.ne_of_lt hl8)
         have hB9 := hB8.grown hg9 (HGS.out _ hB8) (by intro k hk; cases hk; omega)
         have hcy := HY.out _ _ _ hL9
         have hfy := hL9.frozen 3
         have hLt := HT.out _ _ _ hL9
         have hRt := hR9.setOther (show g1 ≠ (⟨w8.heap.size, 3, none⟩ : Addr).block from Nat.ne_of_lt hl18) (.int .u64 (z3 : Int))
         have hBt := hB9.setCell (show g0 ≤ (⟨w8.heap.size, 3, none⟩ : Addr).block from Nat.le_of_lt hl8) (.int .u64 (z3 : Int))
         clear hr8 hR8 hB8 hr9 hg9 hs9 hL8)
      | (refine wpList_load_arr rfl 48 (.tmp 6) rfl 4 arrW hLt rfl (by omega) ?_; simp only [Nat.zero_add])
      | refine wpList_buildE (F := ewF ((S + 19) % top)) rfl (.tmp 42) rfl rfl ?_
      | (refine wpList_store_arr rfl 50 (.tmp 4) (.tmp 43) rfl 4 arrE hRt rfl rfl (by omega) (fun _ _ => rfl) ?_; intro wa hra hga hsa)
      | fail)
    refine ret_cell_arr rfl arrE hra rfl (by omega) rfl ⟨?_, by exact hBt.grown hga (HGS.out _ hBt) (by intro k hk; cases hk; exact l1)⟩
    rw [agg_putW, ← HRES.out]
end Go.Proofs.Ytonhpmaiagbheaa

/- The program's numbers below p: Mul. -/
set_option linter.unusedSimpArgs false
set_option linter.unusedVariables false
namespace Go.Proofs.Ytonhpmaiagbheaa
open Go.RowKit Go.Deep

theorem wpList_indexW {ops : Array Oper} {rest : List Oper} {o : Oper} {a : Act} {w : World} {Q : Exit → Act → World → Prop} (hgd : o.guard = none) (x y : Operand) (ho : o.op = .index 48 x y) (F : Nat → Nat) {j : Nat} (v : Nat) (hv : F j = v)
    (hx : a.eval x = .agg (arrOf 4 (u64f F))) (hy : a.eval y = .int .i64 (j : Int)) (hj : j < 4) (h : wpList Try.prog ops Q rest (a.put o.dst (.int .u64 (v : Int))) w) : wpList Try.prog ops Q (o :: rest) a w := by
  subst hv
  exact wpList_index_arr hgd 48 47 x y ho 4 Try.underlying48 _ Try.underlying47 rfl (by kernel_rfl) hx hy hj h
theorem valW_put (g : Nat → Nat) (j x : Nat) : valW (setAt g j x) (j + 1) = valW g j + x * 18446744073709551616 ^ j := by
  rw [valW]
  have : valW (setAt g j x) j = valW g j := valW_congr j fun i hi => by unfold setAt; rw [if_neg (by omega)]
  rw [this]
  unfold setAt
  rw [if_pos rfl]
theorem valW_lt (g : Nat → Nat) (hg : ∀ j, g j < 18446744073709551616) : ∀ n, valW g n < 18446744073709551616 ^ n
  | 0 => by simp [valW]
  | n + 1 => by
    rw [valW, Nat.pow_succ]
    have h1 := valW_lt g hg n
    have h2 : g n * 18446744073709551616 ^ n ≤ 18446744073709551615 * 18446744073709551616 ^ n := Nat.mul_le_mul_right _ (by have := hg n; omega)
    omega
theorem valW_more (g : Nat → Nat) (i : Nat) : ∀ d, ∃ r, valW g (i + d) = valW g i + 18446744073709551616 ^ i * r
  | 0 => ⟨0, by simp⟩
  | d + 1 => by
    obtain ⟨r, hr⟩ := valW_more g i d
    refine ⟨r + g (i + d) * 18446744073709551616 ^ d, ?_⟩
    show valW g (i + d) + g (i + d) * 18446744073709551616 ^ (i + d) = _
    rw [hr, Nat.mul_add, Nat.pow_add]
    have : g (i + d) * (18446744073709551616 ^ i * 18446744073709551616 ^ d) = 18446744073709551616 ^ i * (g (i + d) * 18446744073709551616 ^ d) := by ac_rfl
    omega
/-- The words of a row of words. -/
theorem wd_valW (g : Nat → Nat) (hg : ∀ j, g j < 18446744073709551616) (i n : Nat) (h : i < n) : wd (valW g n) i = g i := by
  obtain ⟨r, hr⟩ := valW_more g (i + 1) (n - (i + 1))
  rw [show i + 1 + (n - (i + 1)) = n by omega] at hr
  have h1 := valW_lt g hg i
  have h2 := hg i
  unfold wd
  rw [hr, valW, Nat.pow_succ]
  have e : valW g i + g i * 18446744073709551616 ^ i + 18446744073709551616 ^ i * 18446744073709551616 * r = valW g i + 18446744073709551616 ^ i * (g i + 18446744073709551616 * r) := by
    rw [Nat.mul_add, Nat.mul_assoc, Nat.mul_comm (g i)]; omega
  rw [e, Nat.add_mul_div_left _ _ (powW_pos i), Nat.div_eq_of_lt h1]
  omega
theorem setAt_lt (f : Nat → Nat) (i x : Nat) (hf : ∀ j, f j < 18446744073709551616) (hx : x < 18446744073709551616) (j : Nat) : setAt f i x j < 18446744073709551616 := by
  unfold setAt
  split
  · exact hx
  · exact hf j
theorem setAt_zero (f : Nat → Nat) (i x n m : Nat) (hf : ∀ j, n ≤ j → f j = 0) (h : n ≤ m) (hi : i < m) (j : Nat) (hj : m ≤ j) : setAt f i x j = 0 := by
  unfold setAt
  rw [if_neg (by omega)]
  exact hf j (by omega)

set_option maxHeartbeats 4000000 in
theorem mul_any (A C : Nat) (w : World) (hA : A < p25) (hC : C < p25) : Calls Try.prog 51 #[.agg (arrOf 4 (ewF A)), .agg (arrOf 4 (ewF C))] w fun e w' => e = .returned (.agg (arrOf 4 (ewF (mulP A C)))) ∧ Below w.heap.size w w' := by
  obtain ⟨w3, hw3, hrA0, hrC0, hrR0, hbel0, hsz⟩ := rowsW3 w (ewF A) (ewF C) 50
  have hrA := hrA0.alloc (.cells (arrOf 8 (u64f fun _ => 0)) 84)
  have hrC := hrC0.alloc (.cells (arrOf 8 (u64f fun _ => 0)) 84)
  have hrR := hrR0.alloc (.cells (arrOf 8 (u64f fun _ => 0)) 84)
  have hrW := rowIs_arr w3 8 (u64f fun _ => 0) 84
  have hbel := hbel0.alloc hbel0.size (.cells (arrOf 8 (u64f fun _ => 0)) 84)
  rw [hsz] at hrW
  have HCB := Lib.hid (Nat.lt_trans hC p25_B4)
  have HALL := Lib.hid (mulW_all A C (Nat.lt_trans hA p25_B4))
  clear hrA0 hrC0 hrR0 hbel0 hA hC
  subst hw3
  go_enter Try.func51, Try.ntmps51
  go_wp2_with (first
    | refine wpList_alloc_arr rfl 50 rfl (arrOf 4 (u64f fun _ => 0)) zeroE ?_
    | (refine wpList_alloc_arr rfl 84 rfl (arrOf 8 (u64f fun _ => 0)) zeroW8 ?_)
    | (refine wpList_load_arr rfl 48 (.tmp 14) rfl 4 arrW hrA rfl (by omega) ?_; simp only [Nat.zero_add]))
  generalize (((w.alloc (.cells (arrOf 4 (ewF A)) 50)).alloc (.cells (arrOf 4 (ewF C)) 50)).alloc (.cells (arrOf 4 (u64f fun _ => 0)) 50)).alloc (.cells (arrOf 8 (u64f fun _ => 0)) 84) = w4 at *
  generalize hg0 : w.heap.size = g0 at *
  generalize hg3 : g0 + 1 + 1 + 1 = g3 at *
  generalize hg2 : g0 + 1 + 1 = g2 at *
  generalize hg1 : g0 + 1 = g1 at *
  have n03 : g0 ≠ g3 := by omega
  have n13 : g1 ≠ g3 := by omega
  have n23 : g2 ≠ g3 := by omega
  have l2 : g0 ≤ g2 := by omega
  have l3 : g0 ≤ g3 := by omega
  have HG := Lib.hid hg0
  have HGS : Hid (∀ wq : World, Below g0 w wq → g0 ≤ wq.heap.size) := Lib.hid fun wq h => by rw [← HG.out]; exact h.size
  clear hg1 hg2 hg0 hg3 hsz
  go_loopw [16] (fun ii wr => ∃ (i : Nat) (f : Nat → Nat), i ≤ 4 ∧ ii = .int .i64 i ∧ wr.rowIs g3 84 8 (u64f f) ∧ Hid (valW f 8 = mulW A C i 0) ∧ Hid (∀ j, f j < 18446744073709551616) ∧ Hid (∀ j, i + 4 ≤ j → f j = 0) ∧ wr.rowIs g1 50 4 (ewF C) ∧ wr.rowIs g2 50 4 (u64f fun _ => 0) ∧ Below g0 w wr) (fun ii _ => 4 - (intOf ii).toNat)
  case atStart => exact ⟨0, fun _ => 0, Nat.zero_le _, rfl, hrW, Lib.hid (by rw [mulW_zero]; decide), Lib.hid (fun _ => (by decide : (0 : Nat) < 18446744073709551616)), Lib.hid (fun j _ => rfl), hrC, hrR, hbel⟩
  case round =>
    clear hrA hrC hrR hrW hbel
    obtain ⟨i, f, hi, rfl, hW, HV, HBD, HZ, hC, hR, hbel⟩ := hrel
    by_cases hlt : i < 4
    · have hiI : 0 ≤ (i : Int) ∧ (i : Int) < 4 := by omega
      obtain ⟨x, hx⟩ := nat_var (wd A i)
      have hxl := wd_lt A i
      rw [← hx] at hxl
      have HX := Lib.hid hx.symm
      have HXL := Lib.hid hxl
      clear hx hxl
      go_wp2_with (first
        | refine wpList_indexW rfl (.tmp 15) (.tmp 16) rfl (wd A) x HX.out rfl rfl hlt ?_
        | (refine wpList_load_arr rfl 48 (.tmp 20) rfl 4 arrW hC rfl (by omega) ?_; simp only [Nat.zero_add]))
      go_loopw [8, 22] (fun cv kk wq => ∃ (k c : Nat) (f : Nat → Nat), k ≤ 4 ∧ kk = .int .i64 k ∧ cv = .int .u64 c ∧ Hid (c < 18446744073709551616) ∧ wq.rowIs g3 84 8 (u64f f) ∧ Hid (valW f 8 + c * 18446744073709551616 ^ (i + k) = mulW A C i k) ∧ Hid (∀ j, f j < 18446744073709551616) ∧ Hid (∀ j, i + 4 ≤ j → f j = 0) ∧ wq.rowIs g1 50 4 (ewF C) ∧ wq.rowIs g2 50 4 (u64f fun _ => 0) ∧ Below g0 w wq) (fun _ kk _ => 4 - (intOf kk).toNat)
      case atStart => exact ⟨0, 0, f, Nat.zero_le _, rfl, rfl, Lib.hid (by decide), hW, Lib.hid (by rw [Nat.zero_mul, Nat.add_zero]; exact HV.out), HBD, HZ, hC, hR, hbel⟩
      case round =>
        clear hW HV HBD HZ hC hR hbel
        obtain ⟨k, c, f, hk, rfl, rfl, HCL, hW, HV, HBD, HZ, hC, hR, hbel⟩ := hrel
        by_cases hlk : k < 4
        · have hkI : 0 ≤ (k : Int) ∧ (k : Int) < 4 := by omega
          have hik : i + k < 8 := by omega
          obtain ⟨y, hy⟩ := nat_var (wd C k)
          have hyl := wd_lt C k
          rw [← hy] at hyl
          have HY := Lib.hid hy.symm
          have hcW : wr.cell? ⟨g3, i + k, none⟩ = some (.int .u64 ((f (i + k) : Nat) : Int)) := hW.cell hik
          have hfr := hW.frozen (i + k)
          have hm := product_any x y (f (i + k)) c HXL.out hyl (HBD.out _) HCL.out
          have hall := product_le x y (f (i + k)) c HXL.out hyl (HBD.out _) HCL.out
          have hset := fun lo : Nat => row_set hW (i + k) lo (setAt f (i + k) lo) (fun _ _ => rfl)
          have hin := fun lo hi => mulW_in A C f i k c lo hi hik HV.out
          rw [HX.out, HY.out] at hin
          have hw1 : IntKind.i64.wrap ((i : Int) + (k : Int)) = ((i + k : Nat) : Int) := by rw [IntWalk.i64_in _ (by omega)]; omega
          have hikI : 0 ≤ ((i + k : Nat) : Int) ∧ ((i + k : Nat) : Int) < 8 := by omega
          have hbd := fun lo (h : lo < 18446744073709551616) => setAt_lt f (i + k) lo HBD.out h
          have hz := fun lo => setAt_zero f (i + k) lo (i + 4) (i + 4) HZ.out (Nat.le_refl _) (by omega)
          generalize f (i + k) = u at *
          generalize x * y = xy at *
          obtain ⟨lo, hlo⟩ := nat_var ((xy + u + c) % 18446744073709551616)
          obtain ⟨hi, hhi⟩ := nat_var ((xy + u + c) / 18446744073709551616)
          rw [← hlo, ← hhi] at hm
          have hHI : hi < 18446744073709551616 := by omega
          have hLO : lo < 18446744073709551616 := by omega
          have HIN := Lib.hid (hin lo hi (by omega))
          have HSET := Lib.hid (hset lo)
          have HBD2 := Lib.hid (hbd lo hLO)
          have HZ2 := Lib.hid (hz lo)
          have HHI := Lib.hid hHI
          have HM := Lib.hid hm
          generalize setAt f (i + k) lo = fn at *
          generalize hik2 : i + k = ik at *
          have HIK := Lib.hid hik2
          clear hin hset hbd hz hm hlo hhi hHI hLO hall hyl hy hik hik2 HV HBD HZ
          go_wp2_with (first
            | refine wpList_indexW rfl (.tmp 21) (.tmp 22) rfl (wd C) y HY.out rfl rfl hlk ?_
            | (go_at_call 73; refine (HM.out _).mono ?_; rintro e w' ⟨rfl, rfl⟩))
          go_roundw
          case rel => exact ⟨k + 1, hi, fn, by omega, by go_num, rfl, HHI, HSET.out, HIN, HBD2, HZ2, hC.setOther n13 _, hR.setOther n23 _, hbel.setCell (show g0 ≤ (⟨g3, ik, none⟩ : Addr).block from l3) _⟩
          case measure => simp [intOf]; omega
        · obtain rfl : k = 4 := by omega
          have hcW : wr.cell? ⟨g3, i + 4, none⟩ = some (.int .u64 ((f (i + 4) : Nat) : Int)) := hW.cell (by omega)
          have hfr := hW.frozen (i + 4)
          have HSET := Lib.hid (row_set hW (i + 4) c (setAt f (i + 4) c) (fun _ _ => rfl))
          have HOUT := Lib.hid (mulW_out A C f i c hlt HCB.out HV.out (HZ.out _ (Nat.le_refl _)))
          have HBD2 := Lib.hid (setAt_lt f (i + 4) c HBD.out HCL.out)
          have HZ2 := Lib.hid (setAt_zero f (i + 4) c (i + 4) (i + 1 + 4) HZ.out (by omega) (by omega))
          have hw1 : IntKind.i64.wrap ((i : Int) + 4) = ((i + 4 : Nat) : Int) := by rw [IntWalk.i64_in _ (by omega)]; omega
          have hikI : 0 ≤ ((i + 4 : Nat) : Int) ∧ ((i + 4 : Nat) : Int) < 8 := by omega
          generalize setAt f (i + 4) c = fn at *
          generalize f (i + 4) = u at *
          generalize i + 4 = i4 at *
          clear HV HBD HZ
          go_wp2
          go_roundw
          case rel => exact ⟨i + 1, fn, by omega, by go_num, HSET.out, HOUT, HBD2, HZ2, hC.setOther n13 _, hR.setOther n23 _, hbel.setCell (show g0 ≤ (⟨g3, i4, none⟩ : Addr).block from l3) _⟩
          case measure => simp [intOf]; omega
    · obtain rfl : i = 4 := by omega
      have hgs := HGS.out _ hbel
      have hW1 := hW.alloc (.cells (arrOf 4 (u64f fun _ => 0)) 48)
      have hR1 := hR.alloc (.cells (arrOf 4 (u64f fun _ => 0)) 48)
      have hF1 := rowIs_arr wr 4 (u64f fun _ => 0) 48
      have hb1 := hbel.alloc hgs (.cells (arrOf 4 (u64f fun _ => 0)) 48)
      have hlW := hW.lt
      have hlR := hR.lt
      have hval : valW f 8 = A * C := HV.out.trans HALL.out
      have HVAL := Lib.hid hval
      clear hW hR hbel hC hval HV HZ
      go_wp2_with (refine wpList_alloc_arr rfl 48 rfl (arrOf 4 (u64f fun _ => 0)) zeroW ?_)
      generalize hwf : wr.alloc (.cells (arrOf 4 (u64f fun _ => 0)) 48) = wf at *
      generalize hg5 : wr.heap.size = g5 at *
      have n53 : g3 ≠ g5 := by omega
      have n52 : g2 ≠ g5 := by omega
      have l5 : g0 ≤ g5 := by omega
      clear hwf hg5 hlW hlR hgs
      go_loopw [12, 48] (fun cv ii wq => ∃ (j c : Nat) (g : Nat → Nat), j ≤ 4 ∧ ii = .int .i64 j ∧ cv = .int .u64 c ∧ Hid (c ≤ 39) ∧ wq.rowIs g5 48 4 (u64f g) ∧ Hid (valW g j + c * 18446744073709551616 ^ j = foldW f j) ∧ Hid (∀ j, g j < 18446744073709551616) ∧ wq.rowIs g3 84 8 (u64f f) ∧ wq.rowIs g2 50 4 (u64f fun _ => 0) ∧ Below g0 w wq) (fun _ ii _ => 4 - (intOf ii).toNat)
      case atStart => exact ⟨0, 0, fun _ => 0, Nat.zero_le _, rfl, rfl, Lib.hid (by decide), hF1, Lib.hid (by simp [valW, foldW]), Lib.hid (fun _ => (by decide : (0 : Nat) < 18446744073709551616)), hW1, hR1, hb1⟩
      case round =>
        clear hF1 hW1 hR1 hb1
        obtain ⟨j, c, g, hj, rfl, rfl, HCL, hF, HV, HBG, hW, hR, hbel⟩ := hrel
        by_cases hlj : j < 4
        · have hjI : 0 ≤ (j : Int) ∧ (j : Int) < 4 := by omega
          have HXA : Hid (∀ w' : World, w'.rowIs g3 84 8 (u64f f) → w'.cell? ⟨g3, j + 4, none⟩ = some (.int .u64 ((f (j + 4) : Nat) : Int))) := Lib.hid fun w' h => h.cell (by omega)
          have HYC : Hid (∀ w' : World, w'.rowIs g3 84 8 (u64f f) → w'.cell? ⟨g3, j, none⟩ = some (.int .u64 ((f j : Nat) : Int))) := Lib.hid fun w' h => h.cell (by omega)
          have hcF := hF.drew.cell (i := j) hlj
          have hfr := hF.drew.frozen j
          have hcl := HCL.out
          have hm := product_any (f (j + 4)) 38 (f j) c (HBD.out _) (by decide) (HBD.out _) (by omega)
          have hx1 := HBD.out (j + 4)
          have hy1 := HBD.out j
          have hset := fun lo : Nat => row_set_drew hF j lo (setAt g j lo) (fun _ _ => rfl)
          have hstep := fun lo hi => foldW_step f (valW g j) c lo hi j HV.out
          have hbd := fun lo (h : lo < 18446744073709551616) => setAt_lt g j lo HBG.out h
          have hput := fun lo => valW_put g j lo
          have hw1 : IntKind.i64.wrap ((j : Int) + 4) = ((j + 4 : Nat) : Int) := by rw [IntWalk.i64_in _ (by omega)]; omega
          have hj3I : (j : Int) < 8 := by omega
          have hj2I : 0 ≤ ((j + 4 : Nat) : Int) ∧ ((j + 4 : Nat) : Int) < 8 := by omega
          generalize f (j + 4) = x at *
          generalize f j = y at *
          obtain ⟨lo, hlo⟩ := nat_var ((x * 38 + y + c) % 18446744073709551616)
          obtain ⟨hi, hhi⟩ := nat_var ((x * 38 + y + c) / 18446744073709551616)
          rw [← hlo, ← hhi, show ((38 : Nat) : Int) = 38 from rfl] at hm
          have hHI : hi ≤ 39 := by omega
          have hLO : lo < 18446744073709551616 := by omega
          have hst2 := hstep lo hi (by omega)
          rw [← hput lo] at hst2
          have HST := Lib.hid hst2
          have HSET := Lib.hid (hset lo)
          have HBG2 := Lib.hid (hbd lo hLO)
          have HHI := Lib.hid hHI
          have HM := Lib.hid hm
          generalize setAt g j lo = gn at *
          generalize j + 4 = j4 at *
          clear hstep hput hset hbd hm hlo hhi hHI hLO hst2 hx1 hy1 hcl HCL HV HBG
          replace hW := hW.drew
          go_wp2
          refine wp_region_lins [(0, some [14]), (1, some [14]), (2, some [14]), (3, some [14]), (4, some [9, 14]), (5, some [14]), (6, some [14]), (7, some [9, 14]), (8, some [9, 14]), (9, none), (10, some [14]), (11, some [14]), (12, some []), (13, some [14]), (14, none), (15, some [])] (fun c w' => c = 9 → w'.rowIs g3 84 8 (u64f f)) (by kernel_rfl) (by kernel_rfl) (by decide) (by kernel_rfl) (fun d _ _ _ _ h => by cases d <;> exact h) (fun c hc _ => hW) ?_
          refine lins_read 52 (Op.move (Operand.tmp 13)) 3 _ rfl rfl rfl rfl rfl (fun w0 hw0 => by unfold mkOp; go_simp; all_goals (with_reducible rfl)) ?_
          simp only [Act.put, List.setIfInBounds_toArray, List.set_cons_zero, List.set_cons_succ]
          refine lins_read 53 (Op.move (Operand.tmp 13)) 3 _ rfl rfl rfl rfl rfl (fun w0 hw0 => by unfold mkOp; go_simp; all_goals (with_reducible rfl)) ?_
          simp only [Act.put, List.setIfInBounds_toArray, List.set_cons_zero, List.set_cons_succ]
          refine lins_read 54 (Op.binOp BinOp.add 3 (Operand.tmp 53) (Operand.const (Value.int IntKind.i64 4)) 3) 3 (.int .i64 (j4 : Int)) rfl rfl rfl rfl rfl (fun w0 hw0 => by unfold mkOp; go_simp; all_goals (with_reducible rfl)) ?_
          simp only [Act.put, List.setIfInBounds_toArray, List.set_cons_zero, List.set_cons_succ]
          refine lins_read 55 (Op.indexAddr 84 (Operand.tmp 5) (Operand.tmp 54)) 0 _ rfl rfl rfl rfl rfl (fun w0 hw0 => by unfold mkOp; go_simp; all_goals (with_reducible rfl)) ?_
          simp only [Act.put, List.setIfInBounds_toArray, List.set_cons_zero, List.set_cons_succ]
          refine lins_read 56 (Op.load 47 (Operand.tmp 55)) 47 (.int .u64 (x : Int)) rfl rfl rfl rfl rfl (fun w0 hw0 => by have hc0 := HXA.out w0 (hw0 9 (by simp) rfl); unfold mkOp; go_simp; all_goals (with_reducible rfl)) ?_
          simp only [Act.put, List.setIfInBounds_toArray, List.set_cons_zero, List.set_cons_succ]
          refine lins_read 57 (Op.move (Operand.tmp 13)) 3 _ rfl rfl rfl rfl rfl (fun w0 hw0 => by unfold mkOp; go_simp; all_goals (with_reducible rfl)) ?_
          simp only [Act.put, List.setIfInBounds_toArray, List.set_cons_zero, List.set_cons_succ]
          refine lins_read 58 (Op.indexAddr 84 (Operand.tmp 5) (Operand.tmp 57)) 0 _ rfl rfl rfl rfl rfl (fun w0 hw0 => by unfold mkOp; go_simp; all_goals (with_reducible rfl)) ?_
          simp only [Act.put, List.setIfInBounds_toArray, List.set_cons_zero, List.set_cons_succ]
          refine lins_read 59 (Op.load 47 (Operand.tmp 58)) 47 (.int .u64 (y : Int)) rfl rfl rfl rfl rfl (fun w0 hw0 => by have hc0 := HYC.out w0 (hw0 9 (by simp) rfl); unfold mkOp; go_simp; all_goals (with_reducible rfl)) ?_
          simp only [Act.put, List.setIfInBounds_toArray, List.set_cons_zero, List.set_cons_succ]
          refine lins_read 60 (Op.move (Operand.tmp 12)) 47 _ rfl rfl rfl rfl rfl (fun w0 hw0 => by unfold mkOp; go_simp; all_goals (with_reducible rfl)) ?_
          simp only [Act.put, List.setIfInBounds_toArray, List.set_cons_zero, List.set_cons_succ]
          refine lins_fn (some 61) 73 #[Operand.tmp 56, Operand.const (Value.int IntKind.u64 38), Operand.tmp 59, Operand.tmp 60] #[47, 47, 47, 47] _ (HM.out _) rfl rfl rfl rfl Try.func73 (by kernel_rfl) (by kernel_rfl) (by go_simp) ?_
          rintro e wm ⟨rfl, rfl⟩
          refine ⟨_, rfl, fun _ _ => True, fun c hc => ⟨trivial, fun w7 _ h => by subst h; simp [writers] at hc⟩, ?_⟩
          simp only [Act.put, List.setIfInBounds_toArray, List.set_cons_zero, List.set_cons_succ]
          refine lins_read 51 (Op.move (Operand.tmp 61)) 91 _ rfl rfl rfl rfl rfl (fun w0 hw0 => by unfold mkOp; go_simp; all_goals (with_reducible rfl)) ?_
          simp only [Act.put, List.setIfInBounds_toArray, List.set_cons_zero, List.set_cons_succ]
          refine lins_read 62 (Op.extract (Operand.tmp 51) 0) 47 _ rfl rfl rfl rfl rfl (fun w0 hw0 => by unfold mkOp; go_simp; all_goals (with_reducible rfl)) ?_
          simp only [Act.put, List.setIfInBounds_toArray, List.set_cons_zero, List.set_cons_succ]
          refine lins_read 63 (Op.extract (Operand.tmp 51) 1) 47 _ rfl rfl rfl rfl rfl (fun w0 hw0 => by unfold mkOp; go_simp; all_goals (with_reducible rfl)) ?_
          simp only [Act.put, List.setIfInBounds_toArray, List.set_cons_zero, List.set_cons_succ]
          refine lins_read 64 (Op.indexAddr 48 (Operand.tmp 11) (Operand.tmp 52)) 0 _ rfl rfl rfl rfl rfl (fun w0 hw0 => by unfold mkOp; go_simp; all_goals (with_reducible rfl)) ?_
          simp only [Act.put, List.setIfInBounds_toArray, List.set_cons_zero, List.set_cons_succ]
          refine lins_store (Op.store 47 (Operand.tmp 64) (Operand.tmp 62)) 0 (_) rfl rfl rfl rfl rfl (by unfold mkOp; go_simp; all_goals (with_reducible rfl)) (fun _ _ => True) (fun c hc => by cases hc) ?_
          try simp only [Act.put, List.setIfInBounds_toArray, List.set_cons_zero, List.set_cons_succ]
          refine lins_read 12 (Op.assign (Operand.tmp 63)) 47 _ rfl rfl rfl rfl rfl (fun w0 hw0 => by unfold mkOp; go_simp; all_goals (with_reducible rfl)) ?_
          simp only [Act.put, List.setIfInBounds_toArray, List.set_cons_zero, List.set_cons_succ]
          refine lins_end ?_
          go_wp2
          go_roundw
          case rel => exact ⟨j + 1, hi, gn, by omega, by go_num, rfl, HHI, HSET.out, HST, HBG2, hW.setOther n53 _, hR.drew.setOther n52 _, hbel.drew.setCell (show g0 ≤ (⟨g5, j, none⟩ : Addr).block from l5) _⟩
          case measure => simp [intOf]; omega
        · obtain rfl : j = 4 := by omega
          have hF' : wr.rowIs g5 48 4 (ewF (valW g 4)) := hF.congr fun i hi => by unfold ewF u64f; rw [wd_valW g HBG.out i 4 hi]
          have hres : (valW g 4 + c * B4) % p25 = mulP A C := by
            rw [B4_eq, HV.out, foldW_mod, HVAL.out]
            rfl
          have HRES := Lib.hid hres
          have hcl := HCL.out
          have HRED := Lib.hid (fun w => reduced_any (valW g 4) c w (by rw [B4_eq]; exact valW_lt g HBG.out 4) (by omega))
          have hgs2 := HGS.out _ hbel
          clear hF hres hcl hW
          go_wp2_with (first
            | (refine wpList_load_arr rfl 48 (.tmp 11) rfl 4 arrW hF' rfl (by omega) ?_; simp only [Nat.zero_add])
            | (go_at_call 70; refine (HRED.out _).mono ?_; rintro e w5 ⟨rfl, hb5⟩
               have hR5 := hR.of_block (hb5.block _ hR.lt)
               have hB5 := hbel.trans (hb5.mono hgs2)
               have hgs5 := Nat.le_trans hgs2 hb5.size
               clear hF' hR hb5)
            | (refine wpList_store_arr rfl 50 (.tmp 4) (.tmp 68) rfl 4 arrE hR5 rfl rfl (by omega) (fun _ _ => rfl) ?_; intro w6 hr6 hg6 hs6))
          refine ret_cell_arr rfl arrE hr6 rfl (by omega) rfl ⟨?_, by rw [HG.out]; exact hB5.grown hg6 hgs5 (by intro k hk; cases hk; exact l2)⟩
          rw [agg_putW, HRES.out]
end Go.Proofs.Ytonhpmaiagbheaa

/- The program's numbers below p: Small, Add, Neg. -/
set_option linter.unusedSimpArgs false
set_option linter.unusedVariables false
namespace Go.Proofs.Ytonhpmaiagbheaa
open Go.RowKit Go.Deep

set_option maxHeartbeats 1000000 in
theorem small_any (n : Nat) (w : World) (hn : n < 18446744073709551616) : Calls Try.prog 43 #[.int .u64 (n : Int)] w fun e w' => e = .returned (.agg (arrOf 4 (ewF n))) ∧ Below w.heap.size w w' := by
  have hr := rowIs_arr w 4 (u64f fun _ => 0) 50
  have hb := (Below.refl w.heap.size w).alloc (Nat.le_refl _) (.cells (arrOf 4 (u64f fun _ => 0)) 50)
  have hgs := hb.size
  have HB := Lib.hid (congrArg Value.agg (cells4_small n hn))
  clear hn
  go_enter Try.func43, Try.ntmps43
  go_wp2_with (first
    | refine wpList_alloc_arr rfl 50 rfl (arrOf 4 (u64f fun _ => 0)) zeroE ?_
    | (refine wpList_store_arr rfl 50 (.tmp 2) (.tmp 5) rfl 4 arrE hr rfl HB.out (by omega) (fun _ _ => rfl) ?_; intro w6 hr6 hg6 hs6))
  refine ret_cell_arr rfl arrE hr6 rfl (by omega) rfl ⟨?_, hb.grown hg6 hgs (by intro k hk; cases hk; exact Nat.le_refl _)⟩
  rw [agg_putW]

set_option maxHeartbeats 2000000 in
theorem add_any (A C : Nat) (w : World) (hA : A < p25) (hC : C < p25) : Calls Try.prog 52 #[.agg (arrOf 4 (ewF A)), .agg (arrOf 4 (ewF C))] w fun e w' => e = .returned (.agg (arrOf 4 (ewF (addP A C)))) ∧ Below w.heap.size w w' := by
  obtain ⟨w3, hw3, hrA, hrC, hrR, hbel, hsz⟩ := rowsW3 w (ewF A) (ewF C) 50
  have hAB : A < B4 := Nat.lt_trans hA p25_B4
  have hCB : C < B4 := Nat.lt_trans hC p25_B4
  have hS : A + C < B4 := by
    have h2 : p25 + p25 < B4 := by decide +kernel
    exact Nat.lt_trans (Nat.add_lt_add hA hC) h2
  have hs := wsum_any A C
  rw [Nat.div_eq_of_lt hS] at hs
  have HS := Lib.hid fun w => hs w hAB hCB
  have HR := Lib.hid fun w => reduced_any (A + C) 0 w hS (by decide)
  have HRES := Lib.hid (show (A + C) % p25 = addP A C from rfl)
  have HGS : Hid (∀ wq : World, Below w.heap.size w wq → w.heap.size ≤ wq.heap.size) := Lib.hid fun wq h => h.size
  have l2 : w.heap.size ≤ w.heap.size + 1 + 1 := by omega
  generalize addP A C = T at *
  generalize A + C = V at *
  clear hA hC hAB hCB hS hs hsz
  subst hw3
  go_enter Try.func52, Try.ntmps52
  go_wp2_with (first
    | refine wpList_alloc_arr rfl 50 rfl (arrOf 4 (u64f fun _ => 0)) zeroE ?_
    | (refine wpList_load_arr rfl 48 (.tmp 8) rfl 4 arrW hrA rfl (by omega) ?_; simp only [Nat.zero_add])
    | (refine wpList_load_arr rfl 48 (.tmp 10) rfl 4 arrW hrC rfl (by omega) ?_; simp only [Nat.zero_add])
    | (go_at_call 74; refine (HS.out _).mono ?_; rintro e w5 ⟨rfl, hb5⟩
       have hR5 := hrR.of_block (hb5.block _ hrR.lt)
       have hB5 := hbel.trans (hb5.mono (HGS.out _ hbel))
       have hl5 := hR5.lt
       have hR8 := hR5.alloc (.cells (arrOf 4 (u64f fun _ => 0)) 48)
       have hB8 := hB5.alloc (HGS.out _ hB5) (.cells (arrOf 4 (u64f fun _ => 0)) 48)
       have hL8 := rowIs_arr w5 4 (u64f fun _ => 0) 48
       clear hrA hrC hrR hbel hb5 hR5 hB5 HS)
    | refine wpList_alloc_arr rfl 48 rfl (arrOf 4 (u64f fun _ => 0)) zeroW ?_
    | (refine wpList_store_arr rfl 48 (.tmp 5) (.tmp 13) rfl 4 arrW hL8 rfl rfl (by omega) (fun _ _ => rfl) ?_; intro w9 hr9 hg9 hs9
       have hL9 : w9.rowIs w5.heap.size 48 4 (ewF V) := hr9.congr fun i hi => by unfold putN; rw [if_pos (by omega), Nat.sub_zero]
       have hR9 := gb_rowIs hR8 hg9 (Nat.ne_of_lt hl5)
       have hB9 := hB8.grown hg9 (HGS.out _ hB8) (by intro k hk; cases hk; omega)
       clear hR8 hB8 hr9 hg9 hs9 hL8)
    | (refine wpList_load_arr rfl 48 (.tmp 5) rfl 4 arrW hL9 rfl (by omega) ?_; simp only [Nat.zero_add])
    | (go_at_call 70; refine (HR.out _).mono ?_; rintro e wa ⟨rfl, hba⟩
       have hRa := hR9.of_block (hba.block _ hR9.lt)
       have hBa := hB9.trans (hba.mono (HGS.out _ hB9))
       clear hR9 hB9 hba hL9 HR)
    | (refine wpList_store_arr rfl 50 (.tmp 4) (.tmp 17) rfl 4 arrE hRa rfl rfl (by omega) (fun _ _ => rfl) ?_; intro wb hrb hgb hsb))
  refine ret_cell_arr rfl arrE hrb rfl (by omega) rfl ⟨?_, hBa.grown hgb (HGS.out _ hBa) (by intro k hk; cases hk; exact l2)⟩
  rw [agg_putW, HRES.out]

set_option maxHeartbeats 2000000 in
theorem neg_any (A : Nat) (w : World) (hA : A < p25) : Calls Try.prog 42 #[.agg (arrOf 4 (ewF A))] w fun e w' => e = .returned (.agg (arrOf 4 (ewF (oppP A)))) ∧ Below w.heap.size w w' := by
  obtain ⟨w2, hw2, hrA0, hrR0, hbel0, hsz⟩ := rowsW2 w (ewF A) 50 50
  obtain ⟨D, hD⟩ : ∃ D, p25 = D + A := ⟨p25 - A, (Nat.sub_add_cancel (Nat.le_of_lt hA)).symm⟩
  have hDB : D < B4 := Nat.lt_of_le_of_lt (by rw [hD]; exact Nat.le_add_right _ _) p25_B4
  have HR := Lib.hid fun w => reduced_any D 0 w hDB (by decide)
  have hres : D % p25 = oppP A := by
    rw [oppP_eq]
    unfold negP
    rw [Nat.mod_eq_of_lt hA]
    have h2 : p25 - A = D := by rw [hD]; exact Nat.add_sub_cancel _ _
    rw [h2]
  have HRES := Lib.hid hres
  have HSUB := Lib.hid fun j => wd_sub D A p25 j hD
  have hrR := hrR0.alloc (.cells (arrOf 4 (u64f fun _ => 0)) 48)
  have hrL := rowIs_arr w2 4 (u64f fun _ => 0) 48
  have hbel := hbel0.alloc hbel0.size (.cells (arrOf 4 (u64f fun _ => 0)) 48)
  rw [hsz] at hrL
  have HGS : Hid (∀ wq : World, Below w.heap.size w wq → w.heap.size ≤ wq.heap.size) := Lib.hid fun wq h => h.size
  have n12 : w.heap.size + 1 ≠ w.heap.size + 1 + 1 := by omega
  have l2 : w.heap.size ≤ w.heap.size + 1 + 1 := by omega
  have l1 : w.heap.size ≤ w.heap.size + 1 := by omega
  have HP : Hid (Value.agg #[.int .u64 18446744073709551597, .int .u64 18446744073709551615, .int .u64 18446744073709551615, .int .u64 9223372036854775807] = .agg (arrOf 4 (ewF p25))) := Lib.hid (by kernel_rfl)
  generalize oppP A = T at *
  clear hDB hres hrR0 hbel0 hsz hD hA
  have hrB := hrA0
  clear hrA0
  have hrA := hrB.alloc (.cells (arrOf 4 (u64f fun _ => 0)) 48)
  clear hrB
  subst hw2
  go_enter Try.func42, Try.ntmps42
  go_wp2_with (first
    | refine wpList_alloc_arr rfl 50 rfl (arrOf 4 (u64f fun _ => 0)) zeroE ?_
    | (refine wpList_alloc_arr rfl 48 rfl (arrOf 4 (u64f fun _ => 0)) zeroW ?_; simp only [World.size_alloc])
    | (refine wpList_store_arr rfl 48 (.tmp 3) (.tmp 7) rfl 4 arrW hrL rfl HP.out (by omega) (fun _ _ => rfl) ?_; intro w9 hr9 hg9 hs9
       have hL9 : w9.rowIs (w.heap.size + 1 + 1) 48 4 (ewF p25) := hr9.congr fun i hi => by unfold putN; rw [if_pos (by omega), Nat.sub_zero]
       have hA9 := gb_rowIs hrA hg9 (by omega)
       have hR9 := gb_rowIs hrR hg9 n12
       have hB9 := hbel.grown hg9 (HGS.out _ hbel) (by intro k hk; cases hk; exact l2)
       clear hrR hbel hr9 hg9 hs9 hrL hrA)
    | (refine wpList_load_arr rfl 48 (.tmp 8) rfl 4 arrW hA9 rfl (by omega) ?_; simp only [Nat.zero_add]))
  generalize hg0 : w.heap.size = g0 at *
  generalize hg2 : g0 + 1 + 1 = g2 at *
  generalize hg1 : g0 + 1 = g1 at *
  have HG := Lib.hid hg0
  clear hg0 hg1 hg2 hA9
  go_loopw [4, 10] (fun cv i wr => ∃ j : Nat, j ≤ 4 ∧ i = .int .i64 j ∧ cv = .int .u64 ((addW D A j : Nat) : Int) ∧ wr.rowIs g2 48 4 (u64f fun i => if i < j then wd D i else wd p25 i) ∧ wr.rowIs g1 50 4 (u64f fun _ => 0) ∧ Below g0 w wr) (fun _ i _ => 4 - (intOf i).toNat)
  case atStart => exact ⟨0, Nat.zero_le _, rfl, by rw [addW_zero]; rfl, hL9.congr fun i _ => rfl, hR9, hB9⟩
  case round =>
    clear hL9 hR9 hB9
    obtain ⟨j, hj, rfl, rfl, hL, hR, hbel⟩ := hrel
    by_cases hlt : j < 4
    · have hjI : 0 ≤ (j : Int) ∧ (j : Int) < 4 := by omega
      obtain ⟨x, hx⟩ := nat_var (wd A j)
      have HX := Lib.hid hx.symm
      have hstep := HSUB.out j
      have hfr := hL.frozen j
      have hcL0 := hL.cell (i := j) hlt
      have hcL : wr.cell? ⟨g2, j, none⟩ = some (.int .u64 ((wd p25 j : Nat) : Int)) := by
        rw [hcL0]
        show some (Value.int .u64 (((if j < j then wd D j else wd p25 j) : Nat) : Int)) = _
        rw [if_neg (Nat.lt_irrefl j)]
      have hset : (wr.setCell ⟨g2, j, none⟩ (.int .u64 ((wd D j : Nat) : Int))).rowIs g2 48 4 (u64f fun i => if i < j + 1 then wd D i else wd p25 i) := row_set hL _ _ _ (fun i hi => by
        by_cases e : i = j
        · subst e; rw [if_pos (Nat.lt_succ_self i), if_pos rfl]
        · rw [if_neg e]
          by_cases h2 : i < j
          · rw [if_pos h2, if_pos (by omega)]
          · rw [if_neg h2, if_neg (by omega)])
      have HSET := Lib.hid hset
      have hrun := sub64_run (wd p25 j) (wd A j) (addW D A j) (addW_le D A j)
      rw [hstep.1, hstep.2, ← hx] at hrun
      generalize hc2 : addW D A (j + 1) = c2 at *
      have HC2 := Lib.hid hc2
      generalize wd D j = s at *
      generalize addW D A j = c at *
      generalize wd p25 j = y at *
      clear hset hstep hcL0 hc2 hx hL
      go_wp2_with (first
        | refine wpList_indexW rfl (.tmp 9) (.tmp 10) rfl (wd A) x HX.out rfl rfl hlt ?_
        | simp only [hrun])
      go_roundw
      case rel => exact ⟨j + 1, by omega, by go_num, by rw [HC2.out], HSET.out, hR.setOther (show g1 ≠ (⟨g2, j, none⟩ : Addr).block from n12) _, hbel.setCell (show g0 ≤ (⟨g2, j, none⟩ : Addr).block from l2) _⟩
      case measure => simp [intOf]; omega
    · obtain rfl : j = 4 := by omega
      have hR' : wr.rowIs g2 48 4 (ewF D) := hL.congr fun i hi => by dsimp only [ewF, u64f]; rw [if_pos hi]
      clear hL
      go_wp2_with (first
        | (refine wpList_load_arr rfl 48 (.tmp 3) rfl 4 arrW hR' rfl (by omega) ?_; simp only [Nat.zero_add])
        | (go_at_call 70; refine (HR.out _).mono ?_; rintro e wa ⟨rfl, hba⟩
           have hRa := hR.of_block (hba.block _ hR.lt)
           have hBa := hbel.trans (hba.mono (HGS.out _ hbel))
           clear hR hbel hba hR' HR)
        | (refine wpList_store_arr rfl 50 (.tmp 2) (.tmp 27) rfl 4 arrE hRa rfl rfl (by omega) (fun _ _ => rfl) ?_; intro wb hrb hgb hsb))
      refine ret_cell_arr rfl arrE hrb rfl (by omega) rfl ⟨?_, by rw [HG.out]; exact hBa.grown hgb (HGS.out _ hBa) (by intro k hk; cases hk; exact l1)⟩
      rw [agg_putW, HRES.out]
end Go.Proofs.Ytonhpmaiagbheaa

/- The program's numbers below p: Sub, Same, Odd, Pick. -/
set_option linter.unusedSimpArgs false
set_option linter.unusedVariables false
namespace Go.Proofs.Ytonhpmaiagbheaa
open Go.RowKit Go.Deep

theorem sub_opp (A C : Nat) : addP A (oppP C) = subP p25 A C := by
  rw [oppP_eq]
  rfl
set_option maxHeartbeats 1000000 in
theorem sub_any (A C : Nat) (w : World) (hA : A < p25) (hC : C < p25) : Calls Try.prog 53 #[.agg (arrOf 4 (ewF A)), .agg (arrOf 4 (ewF C))] w fun e w' => e = .returned (.agg (arrOf 4 (ewF (subP p25 A C)))) ∧ Below w.heap.size w w' := by
  obtain ⟨w3, hw3, hrA0, hrC0, hrR0, hbel0, hsz⟩ := rowsW3 w (ewF A) (ewF C) 50
  have hrA := hrA0.drew
  have hrC := hrC0.drew
  have hrR := hrR0.drew
  have hbel := hbel0.drew
  have HGS : Hid (∀ wq : World, Below w.heap.size w wq → w.heap.size ≤ wq.heap.size) := Lib.hid fun wq h => h.size
  have l2 : w.heap.size ≤ w.heap.size + 1 + 1 := by omega
  clear hrA0 hrC0 hrR0 hbel0 hsz
  subst hw3
  go_enter Try.func53, Try.ntmps53
  go_wp2_with (refine wpList_alloc_arr rfl 50 rfl (arrOf 4 (u64f fun _ => 0)) zeroE ?_)
  refine wp_region_lins [(0, some [3, 4]), (1, some [2, 4]), (2, none), (3, none), (4, none)] (fun c w' => (c = 2 → w'.rowIs (w.heap.size + 1) 50 4 (ewF C)) ∧ (c = 3 → w'.rowIs w.heap.size 50 4 (ewF A))) (by kernel_rfl) (by kernel_rfl) (by decide) (by kernel_rfl) (fun d _ _ _ _ h => by cases d <;> exact h) (fun c hc => ⟨fun _ => hrC, fun _ => hrA⟩) ?_
  refine lins_read 5 (Op.load 50 (Operand.tmp 2)) 50 (.agg (arrOf 4 fun i => ewF A (0 + i))) rfl rfl rfl rfl rfl (fun w0 hw0 => by exact exec_load_arr _ _ _ _ rfl arrE ((hw0 3 (by simp)).2 rfl) (by omega)) ?_
  simp only [Act.put, List.setIfInBounds_toArray, List.set_cons_zero, List.set_cons_succ, Nat.zero_add]
  refine lins_read 6 (Op.load 50 (Operand.tmp 3)) 50 (.agg (arrOf 4 fun i => ewF C (0 + i))) rfl rfl rfl rfl rfl (fun w0 hw0 => by exact exec_load_arr _ _ _ _ rfl arrE ((hw0 2 (by simp)).1 rfl) (by omega)) ?_
  simp only [Act.put, List.setIfInBounds_toArray, List.set_cons_zero, List.set_cons_succ, Nat.zero_add]
  refine lins_fn (some 7) 42 #[Operand.tmp 6] #[50] _ (neg_any C _ hC) rfl rfl rfl rfl Try.func42 (by kernel_rfl) (by kernel_rfl) (by go_simp) ?_
  rintro e w5 ⟨rfl, hb5⟩
  replace hrA := World.rowIs.of_block hrA (hb5.block _ (World.rowIs.lt hrA))
  replace hrR := World.rowIs.of_block hrR (hb5.block _ (World.rowIs.lt hrR))
  replace hbel := Below.trans hbel (hb5.mono (HGS.out _ hbel))
  refine ⟨_, rfl, fun c w' => c = 3 → w'.rowIs w.heap.size 50 4 (ewF A), fun c hc => ⟨fun _ => hrA, fun w6 h6 => ⟨fun h => by subst h; simp [writers] at hc, h6⟩⟩, ?_⟩
  simp only [Act.put, List.setIfInBounds_toArray, List.set_cons_zero, List.set_cons_succ, Nat.zero_add]
  refine lins_fn (some 8) 52 #[Operand.tmp 5, Operand.tmp 7] #[50, 50] _ (add_any A (oppP C) _ hA (oppP_lt C)) rfl rfl rfl rfl Try.func52 (by kernel_rfl) (by kernel_rfl) (by go_simp) ?_
  rintro e w6 ⟨rfl, hb6⟩
  replace hrR := World.rowIs.of_block hrR (hb6.block _ (World.rowIs.lt hrR))
  replace hbel := Below.trans hbel (hb6.mono (HGS.out _ hbel))
  refine ⟨_, rfl, fun _ _ => True, fun c hc => ⟨trivial, fun w7 _ h => by subst h; simp [writers] at hc⟩, ?_⟩
  simp only [Act.put, List.setIfInBounds_toArray, List.set_cons_zero, List.set_cons_succ, Nat.zero_add]
  refine lins_store_arr (k := 4) (off := 0) 50 (.tmp 4) (.tmp 8) rfl rfl rfl rfl hrR rfl rfl arrE (by omega) (fun _ _ => rfl) ?_
  intro w7 hr7 hg7 hs7
  refine ⟨fun _ _ => True, fun c hc => (by cases hc), ?_⟩
  try simp only [Act.put, List.setIfInBounds_toArray, List.set_cons_zero, List.set_cons_succ, Nat.zero_add]
  refine lins_end ?_
  go_wp2
  refine ret_cell_arr rfl arrE hr7 rfl (by omega) rfl ⟨?_, Below.grown hbel hg7 (HGS.out _ hbel) (by intro k hk; cases hk; exact l2)⟩
  rw [agg_putW, sub_opp]

theorem wd_inj {A B : Nat} (hA : A < p25) (hB : B < p25) : (∀ j, j < 4 → ((wd A j : Nat) : Int) = ((wd B j : Nat) : Int)) ↔ A = B := by
  constructor
  · intro h
    have h1 := valW_congr 4 (f := wd A) (g := wd B) (fun j hj => by have := h j hj; omega)
    rwa [wd_all _ (Nat.lt_trans hA p25_B4), wd_all _ (Nat.lt_trans hB p25_B4)] at h1
  · intro h j _; rw [h]
theorem run_part_words (F : Nat → Value) (w : World) : (part 48 (arrOf 4 F) 0).run Try.prog w = .ok (.agg (arrOf 4 F)) w := by
  have hg : (isAgg 48).run Try.prog w = .ok true w := by
    unfold isAgg
    rw [Sem.run_bind, run_underlying Try.underlying48 w]
    simp
  have hi : (Try.prog.info? 48).map (fun i => i.size) = some 4 := by kernel_rfl
  cases hq : Try.prog.info? 48 with
  | none => simp [hq] at hi
  | some i =>
    have hs : i.size = 4 := by simpa [hq] using hi
    simp [part, hg, sizeOf, typeInfo, hq, hs, Result.andThen]
    right
    rw [arrOf_size]
    exact Nat.le_refl _
set_option maxRecDepth 10000 in
theorem fieldsE : ∃ f : Field, Try.prog.fieldsOf 50 = #[f] ∧ f.name ≠ "_" ∧ f.type = 48 ∧ f.offset = 0 := ⟨_, rfl, by decide, rfl, rfl⟩
theorem run_eqE (w : World) (A C : Nat) (hA : A < p25) (hC : C < p25) : (Op.equalIn 10000 50 (.agg (arrOf 4 (ewF A))) (.agg (arrOf 4 (ewF C)))).run Try.prog w = .ok (decide (A = C)) w := by
  obtain ⟨f, hf, hn, ht, ho⟩ := fieldsE
  rw [run_equalIn_struct (P := Try.prog) w 9999 50 _ _ (by kernel_rfl) (by kernel_rfl), hf]
  have h2 := run_eq_arr2 (P := Try.prog) w 9997 48 47 4 .u64 (fun j => ((wd A j : Nat) : Int)) (fun j => ((wd C j : Nat) : Int)) Try.underlying48 Try.underlying47 (by kernel_rfl)
  have hp1 := run_part_words (ewF A) w
  have hp2 := run_part_words (ewF C) w
  have h3 : (Op.equalIn 9999 48 (.agg (arrOf 4 (ewF A))) (.agg (arrOf 4 (ewF C)))).run Try.prog w = .ok (decide (A = C)) w := by
    refine h2.trans ?_
    by_cases e : A = C
    · rw [decide_eq_true e, decide_eq_true ((wd_inj hA hC).2 e)]
    · rw [decide_eq_false e, decide_eq_false (fun h => e ((wd_inj hA hC).1 h))]
  simp only [Op.eqFields, ht, ho, ne_eq, hn, not_false_eq_true, if_true, Sem.run_bind, hp1, hp2, h3, Result.andThen_ok]
  cases decide (A = C) <;> simp
theorem same_any (A C : Nat) (w : World) (hA : A < p25) (hC : C < p25) : Calls Try.prog 40 #[.agg (arrOf 4 (ewF A)), .agg (arrOf 4 (ewF C))] w fun e w' => e = .returned (.bool (decide (A = C))) ∧ Below w.heap.size w w' := by
  have hrA := (rowIs_arr w 4 (ewF A) 50).alloc (.cells (arrOf 4 (ewF C)) 50)
  have hrC := rowIs_arr (w.alloc (.cells (arrOf 4 (ewF A)) 50)) 4 (ewF C) 50
  have hbel := ((Below.refl w.heap.size w).alloc (Nat.le_refl _) (.cells (arrOf 4 (ewF A)) 50)).alloc (by simp) (.cells (arrOf 4 (ewF C)) 50)
  have HQ := Lib.hid fun w x y => run_eqGuard_agg (P := Try.prog) w .eql 50 x y (arrOf 4 (ewF A)) (arrOf 4 (ewF C)) (by kernel_rfl)
  have HE : Hid (∀ w : World, (binOp .eql 50 (.agg (arrOf 4 (ewF A))) (.agg (arrOf 4 (ewF C)))).run Try.prog w = .ok (.bool (decide (A = C))) w) := Lib.hid fun w => by
    rw [run_eql_struct (P := Try.prog) w 50 (arrOf 4 (ewF A)) (arrOf 4 (ewF C)), run_eqE w A C hA hC]
    rfl
  rw [World.size_alloc] at hrC
  clear hA hC
  go_enter Try.func40, Try.ntmps40
  go_wp2_with (first
    | (refine wpList_load_arr rfl 50 (.tmp 2) rfl 4 arrE hrA rfl (by omega) ?_; simp only [Nat.zero_add])
    | (refine wpList_load_arr rfl 50 (.tmp 3) rfl 4 arrE hrC rfl (by omega) ?_; simp only [Nat.zero_add])
    | refine wpList_bin2 rfl .eql 50 50 (.tmp 5) (.tmp 6) rfl (fun w => HQ.out w _ _) (fun w => HE.out w) rfl rfl ?_)
  go_ret
  exact ⟨rfl, hbel⟩
theorem odd_any (A : Nat) (w : World) : Calls Try.prog 62 #[.agg (arrOf 4 (ewF A))] w fun e w' => e = .returned (.bool (decide (A % 2 = 1))) ∧ Below w.heap.size w w' := by
  have hrA := rowIs_arr w 4 (ewF A) 50
  have hbel := (Below.refl w.heap.size w).alloc (Nat.le_refl _) (.cells (arrOf 4 (ewF A)) 50)
  have hc0 := hrA.cell (i := 0) (by omega)
  have hm := mask64 (wd A 0) 1 (wd_lt A 0) (by decide) 1 rfl
  have hpar : wd A 0 % 2 ^ 1 = A % 2 := by rw [wd_zero]; omega
  rw [hpar] at hm
  have hc : (w.alloc (.cells (arrOf 4 (ewF A)) 50)).cell? ⟨w.heap.size, 0, none⟩ = some (.int .u64 ((wd A 0 : Nat) : Int)) := hc0
  clear hrA hc0 hpar
  by_cases h : A % 2 = 1
  · rw [decide_eq_true h]
    rw [h] at hm
    generalize wd A 0 = x at *
    clear h
    go_enter Try.func62, Try.ntmps62
    go_wp2
    go_ret
    exact ⟨rfl, hbel⟩
  · rw [decide_eq_false h]
    rw [show A % 2 = 0 by omega] at hm
    generalize wd A 0 = x at *
    clear h
    go_enter Try.func62, Try.ntmps62
    go_wp2
    go_ret
    exact ⟨rfl, hbel⟩
set_option maxHeartbeats 1000000 in
theorem pick_any (y : Bool) (A C : Nat) (w : World) : Calls Try.prog 41 #[.bool y, .agg (arrOf 4 (ewF A)), .agg (arrOf 4 (ewF C))] w fun e w' => e = .returned (.agg (arrOf 4 (ewF (if y = true then A else C)))) ∧ Below w.heap.size w w' := by
  obtain ⟨w3, hw3, hrA, hrC, hrR, hbel, hsz⟩ := rowsW3 w (ewF A) (ewF C) 50
  have HGS : Hid (∀ wq : World, Below w.heap.size w wq → w.heap.size ≤ wq.heap.size) := Lib.hid fun wq h => h.size
  have l2 : w.heap.size ≤ w.heap.size + 1 + 1 := by omega
  clear hsz
  subst hw3
  cases y
  · go_enter Try.func41, Try.ntmps41
    go_wp2_with (first
      | refine wpList_alloc_arr rfl 50 rfl (arrOf 4 (u64f fun _ => 0)) zeroE ?_
      | (refine wpList_load_arr rfl 50 (.tmp 5) rfl 4 arrE hrC rfl (by omega) ?_; simp only [Nat.zero_add, World.size_alloc])
      | (refine wpList_store_arr rfl 50 (.tmp 6) (.tmp 9) rfl 4 arrE hrR rfl rfl (by omega) (fun _ _ => rfl) ?_; intro wb hrb hgb hsb))
    refine ret_cell_arr rfl arrE hrb rfl (by omega) rfl ⟨?_, hbel.grown hgb (HGS.out _ hbel) (by intro k hk; cases hk; exact l2)⟩
    rw [agg_putW]
    try rfl
  · go_enter Try.func41, Try.ntmps41
    go_wp2_with (first
      | refine wpList_alloc_arr rfl 50 rfl (arrOf 4 (u64f fun _ => 0)) zeroE ?_
      | (refine wpList_load_arr rfl 50 (.tmp 4) rfl 4 arrE hrA rfl (by omega) ?_; simp only [Nat.zero_add, World.size_alloc])
      | (refine wpList_store_arr rfl 50 (.tmp 6) (.tmp 8) rfl 4 arrE hrR rfl rfl (by omega) (fun _ _ => rfl) ?_; intro wb hrb hgb hsb))
    refine ret_cell_arr rfl arrE hrb rfl (by omega) rfl ⟨?_, hbel.grown hgb (HGS.out _ hbel) (by intro k hk; cases hk; exact l2)⟩
    rw [agg_putW]
    try rfl
end Go.Proofs.Ytonhpmaiagbheaa

/- The program's numbers below p: powers, Inv. -/
set_option linter.unusedSimpArgs false
set_option linter.unusedVariables false
namespace Go.Proofs.Ytonhpmaiagbheaa
open Go.RowKit Go.Deep

theorem wpList_lesser {ops : Array Oper} {rest : List Oper} {o : Oper} {a : Act} {w : World} {Q : Exit → Act → World → Prop} (hgd : o.guard = none) (x y : Operand) {ts : Array TypeId} (ho : o.op = .call { callee := .builtin .min, args := #[x, y], argTypes := ts }) {k : IntKind} {i j m : Int}
    (hx : a.eval x = .int k i) (hy : a.eval y = .int k j) (hm : m = if j < i then j else i) (h : wpList Try.prog ops Q rest (a.put o.dst (.int k m)) w) : wpList Try.prog ops Q (o :: rest) a w := by
  refine wpList_value hgd (.int k m) ?_ h
  subst hm
  simp [execOp, ho, resolve, invoke, builtin, hx, hy, run_min_int2, Result.andThen]
set_option maxHeartbeats 4000000 in
theorem often_any (A k c N : Nat) (kv cv : Int) (w : World) (hkv : kv = (k : Int) + 1) (hcv : cv = (c : Int)) (hA : A < p25) (hk0 : 1 ≤ k) (hk1 : k ≤ 1000) (hc0 : 0 < c) (hc1 : c < 18446744073709551616) (hN : N / 2 ^ k = 1)
    (hbit : ∀ i, i < k → (18446744073709551616 - c) / 2 ^ (min i 63) % 2 = N / 2 ^ i % 2) :
    Calls Try.prog 83 #[.func (.func 51) #[] #[], .agg (arrOf 4 (ewF A)), .int .i64 kv, .int .u64 cv] w fun e w' => e = .returned (.agg (arrOf 4 (ewF (A ^ N % p25)))) ∧ Below w.heap.size w w' := by
  subst hkv hcv
  obtain ⟨w3, hw3, hrA, hrR, hrX, hbel, hsz⟩ := rowsW3 w (ewF A) (u64f fun _ => 0) 50
  have hrA0 := (rowIs_arr w 4 (ewF A) 50).alloc (.cells (arrOf 4 (u64f fun _ => 0)) 50)
  have HBIT := Lib.hid hbit
  have HA := Lib.hid hA
  have hone : A = A ^ (N / 2 ^ k) % p25 := by rw [hN, Nat.pow_one, Nat.mod_eq_of_lt hA]
  have HONE := Lib.hid hone
  have hwk : IntKind.i64.wrap ((k : Int) + 1 - 2) = (k : Int) - 1 := by rw [IntWalk.i64_in _ (by omega)]; omega
  have hneg : IntKind.u64.wrap (-(c : Int)) = ((18446744073709551616 - c : Nat) : Int) := by rw [IntKind.wrap_u64]; omega
  have hncl : 18446744073709551616 - c < 18446744073709551616 := by omega
  generalize hnc : 18446744073709551616 - c = nc at *
  have HGS : Hid (∀ wq : World, Below w.heap.size w wq → w.heap.size ≤ wq.heap.size) := Lib.hid fun wq h => h.size
  clear hsz hone hN hbit hnc hA hc0 hc1
  subst hw3
  go_enter Try.func83, Try.ntmps83
  go_wp2_with (first
    | (refine wpList_alloc_arr rfl 50 rfl (arrOf 4 (u64f fun _ => 0)) zeroE ?_; try simp only [World.size_alloc])
    | (refine wpList_load_arr rfl 50 (.tmp 5) rfl 4 arrE hrA0 rfl (by omega) ?_; simp only [Nat.zero_add])
    | (refine wpList_store_arr rfl 50 (.tmp 9) (.tmp 11) rfl 4 arrE hrX rfl rfl (by omega) (fun _ _ => rfl) ?_; intro w9 hr9 hg9 hs9
       have hX9 : w9.rowIs (w.heap.size + 1 + 1) 50 4 (ewF (A ^ (N / 2 ^ k) % p25)) := hr9.congr fun i hi => by unfold putN; rw [if_pos (by omega), Nat.sub_zero, ← HONE.out]
       have hA9 := gb_rowIs hrA hg9 (by omega)
       have hR9 := gb_rowIs hrR hg9 (by omega)
       have hB9 := hbel.grown hg9 (HGS.out _ hbel) (by intro k hk; cases hk; omega)
       clear hrA hrR hrX hbel hr9 hg9 hs9))
  generalize hg0 : w.heap.size = g0 at *
  generalize hg2 : g0 + 1 + 1 = g2 at *
  generalize hg1 : g0 + 1 = g1 at *
  have n02 : g0 ≠ g2 := by omega
  have n12 : g1 ≠ g2 := by omega
  have l1 : g0 ≤ g1 := by omega
  have l2 : g0 ≤ g2 := by omega
  have HG := Lib.hid hg0
  clear hg0 hg1 hg2 hrA0
  go_loopw [10] (fun ii wr => ∃ m : Nat, m ≤ k ∧ ii = .int .i64 ((m : Int) - 1) ∧ wr.rowIs g2 50 4 (ewF (A ^ (N / 2 ^ m) % p25)) ∧ wr.rowIs g0 50 4 (ewF A) ∧ wr.rowIs g1 50 4 (u64f fun _ => 0) ∧ Below g0 w wr) (fun ii _ => ((intOf ii) + 1).toNat)
  case atStart => exact ⟨k, Nat.le_refl _, rfl, hX9, hA9, hR9, hB9⟩
  case round =>
    clear hX9 hA9 hR9 hB9
    obtain ⟨m, hm, rfl, hX, hA, hR, hbel⟩ := hrel
    cases m with
    | zero =>
      rw [Nat.pow_zero, Nat.div_one] at hX
      go_wp2_with (first
        | (refine wpList_load_arr rfl 50 (.tmp 9) rfl 4 arrE hX rfl (by omega) ?_; simp only [Nat.zero_add])
        | (refine wpList_store_arr rfl 50 (.tmp 8) (.tmp 33) rfl 4 arrE hR rfl rfl (by omega) (fun _ _ => rfl) ?_; intro w9 hr9 hg9 hs9))
      refine ret_cell_arr rfl arrE hr9 rfl (by omega) rfl ⟨?_, by rw [HG.out]; exact hbel.grown hg9 (HGS.out _ hbel) (by intro k hk; cases hk; exact l1)⟩
      rw [agg_putW]
    | succ i =>
      rw [show ((i + 1 : Nat) : Int) - 1 = (i : Int) by omega]
      have hiI : 0 ≤ (i : Int) := by omega
      have hik : i < k := by omega
      obtain ⟨t, ht⟩ := nat_var (N / 2 ^ (i + 1))
      rw [← ht] at hX
      have hb := HBIT.out i hik
      have hstep : N / 2 ^ i = 2 * t + N / 2 ^ i % 2 := by
        rw [ht, Nat.pow_succ, ← Nat.div_div_eq_div_mul]
        omega
      rw [← hb] at hstep
      obtain ⟨mm, hmm⟩ := nat_var (min i 63)
      rw [← hmm] at hb hstep
      have hm63 : (mm : Int) ≤ 63 := by omega
      have hm64 : (mm : Int) < 64 := by omega
      have hm0 : 0 ≤ (mm : Int) := by omega
      have HMM : Hid ((mm : Int) = if (63 : Int) < (i : Int) then 63 else (i : Int)) := Lib.hid (by split <;> omega)
      have hdiv : (nc : Int) / 2 ^ mm = ((nc / 2 ^ mm : Nat) : Int) := by simp
      have hq := mask64 (nc / 2 ^ mm) 1 (Nat.lt_of_le_of_lt (Nat.div_le_self _ _) hncl) (by decide) 1 rfl
      rw [← hdiv, Nat.pow_one] at hq
      have hbl : nc / 2 ^ mm % 2 < 2 := Nat.mod_lt _ (by decide)
      have hX2 := Lib.hid (pow_two_mod A t)
      have HSTEP := Lib.hid hstep
      clear hstep hdiv ht hb hmm
      generalize nc / 2 ^ mm % 2 = bt at *
      have hw1 : IntKind.i64.wrap ((i : Int) - 1) = (i : Int) - 1 := by rw [IntWalk.i64_in _ (by omega)]
      by_cases hb1 : bt = 1
      · subst hb1
        have hX3 := Lib.hid (pow_one_mod A (2 * t))
        rw [show ((1 : Nat) : Int) = 1 from rfl] at hq
        go_wp2_with (first
          | (refine wpList_load_arr rfl 50 (.tmp 9) rfl 4 arrE hX rfl (by omega) ?_; simp only [Nat.zero_add])
          | (refine wpList_load_arr rfl 50 (.tmp 9) rfl 4 arrE hX7 rfl (by omega) ?_; simp only [Nat.zero_add])
          | (refine wpList_load_arr rfl 50 (.tmp 5) rfl 4 arrE hA7 rfl (by omega) ?_; simp only [Nat.zero_add])
          | (refine wpList_lesser rfl (.tmp 24) (.const (.int .i64 63)) rfl (m := (mm : Int)) rfl rfl HMM.out ?_)
          | (go_at_call 51
             first
               | (have hgo := hX.lt; refine (mul_any _ _ _ (mod_p_lt (A ^ t)) (mod_p_lt (A ^ t))).mono ?_; rintro e w5 ⟨rfl, hb5⟩; unfold mulP; rw [hX2.out]
                  have hX5 := hX.of_block (hb5.block _ hX.lt)
                  have hA5 := hA.of_block (hb5.block _ hA.lt)
                  have hR5 := hR.of_block (hb5.block _ hR.lt)
                  have hB5 := hbel.trans (hb5.mono (HGS.out _ hbel))
                  clear hX hA hR hbel hb5)
               | (have hgo2 := hX7.lt; refine (mul_any _ _ _ (mod_p_lt (A ^ (2 * t))) HA.out).mono ?_; rintro e w8 ⟨rfl, hb8⟩; unfold mulP; rw [hX3.out]
                  have hX8 := hX7.of_block (hb8.block _ hX7.lt)
                  have hA8 := hA7.of_block (hb8.block _ hA7.lt)
                  have hR8 := hR7.of_block (hb8.block _ hR7.lt)
                  have hB8 := hB7.trans (hb8.mono (HGS.out _ hB7))
                  clear hX7 hA7 hR7 hB7 hb8))
          | (refine wpList_store_arr rfl 50 (.tmp 9) (.tmp 21) rfl 4 arrE hX5 rfl rfl (by omega) (fun _ _ => rfl) ?_; intro w7 hr7 hg7 hs7
             have hX7 : w7.rowIs g2 50 4 (ewF (A ^ (2 * t) % p25)) := hr7.congr fun i hi => by unfold putN; rw [if_pos (by omega), Nat.sub_zero]
             have hA7 := gb_rowIs hA5 hg7 n02
             have hR7 := gb_rowIs hR5 hg7 n12
             have hB7 := hB5.grown hg7 (HGS.out _ hB5) (by intro k hk; cases hk; exact l2)
             clear hX5 hA5 hR5 hB5 hr7 hg7 hs7)
          | (refine wpList_store_arr rfl 50 (.tmp 9) (.tmp 32) rfl 4 arrE hX8 rfl rfl (by omega) (fun _ _ => rfl) ?_; intro w9 hr9 hg9 hs9
             have hX9 : w9.rowIs g2 50 4 (ewF (A ^ (2 * t + 1) % p25)) := hr9.congr fun i hi => by unfold putN; rw [if_pos (by omega), Nat.sub_zero]
             have hA9 := gb_rowIs hA8 hg9 n02
             have hR9 := gb_rowIs hR8 hg9 n12
             have hB9 := hB8.grown hg9 (HGS.out _ hB8) (by intro k hk; cases hk; exact l2)
             clear hX8 hA8 hR8 hB8 hr9 hg9 hs9))
        go_roundw
        case rel => exact ⟨i, by omega, by first | rfl | go_num, by rw [HSTEP.out]; exact hX9, hA9, hR9, hB9⟩
        case measure => simp [intOf]
      · have hb0 : bt = 0 := by omega
        subst hb0
        rw [show ((0 : Nat) : Int) = 0 from rfl] at hq
        go_wp2_with (first
          | (refine wpList_load_arr rfl 50 (.tmp 9) rfl 4 arrE hX rfl (by omega) ?_; simp only [Nat.zero_add])
          | (refine wpList_lesser rfl (.tmp 24) (.const (.int .i64 63)) rfl (m := (mm : Int)) rfl rfl HMM.out ?_)
          | (go_at_call 51
             have hgo := hX.lt; refine (mul_any _ _ _ (mod_p_lt (A ^ t)) (mod_p_lt (A ^ t))).mono ?_; rintro e w5 ⟨rfl, hb5⟩; unfold mulP; rw [hX2.out]
             have hX5 := hX.of_block (hb5.block _ hX.lt)
             have hA5 := hA.of_block (hb5.block _ hA.lt)
             have hR5 := hR.of_block (hb5.block _ hR.lt)
             have hB5 := hbel.trans (hb5.mono (HGS.out _ hbel))
             clear hX hA hR hbel hb5)
          | (refine wpList_store_arr rfl 50 (.tmp 9) (.tmp 21) rfl 4 arrE hX5 rfl rfl (by omega) (fun _ _ => rfl) ?_; intro w7 hr7 hg7 hs7
             have hX7 : w7.rowIs g2 50 4 (ewF (A ^ (2 * t) % p25)) := hr7.congr fun i hi => by unfold putN; rw [if_pos (by omega), Nat.sub_zero]
             have hA7 := gb_rowIs hA5 hg7 n02
             have hR7 := gb_rowIs hR5 hg7 n12
             have hB7 := hB5.grown hg7 (HGS.out _ hB5) (by intro k hk; cases hk; exact l2)
             clear hX5 hA5 hR5 hB5 hr7 hg7 hs7))
        go_roundw
        case rel => exact ⟨i, by omega, by first | rfl | go_num, by rw [HSTEP.out]; exact hX7, hA7, hR7, hB7⟩
        case measure => simp [intOf]
end Go.Proofs.Ytonhpmaiagbheaa

/- The program's numbers below p: Inv, Root. -/
set_option linter.unusedSimpArgs false
set_option linter.unusedVariables false
namespace Go.Proofs.Ytonhpmaiagbheaa
open Go.RowKit Go.Deep

theorem often_inv (A : Nat) (w : World) (hA : A < p25) : Calls Try.prog 83 #[.func (.func 51) #[] #[], .agg (arrOf 4 (ewF A)), .int .i64 255, .int .u64 21] w fun e w' => e = .returned (.agg (arrOf 4 (ewF (invP A)))) ∧ Below w.heap.size w w' :=
  often_any A 254 21 (p25 - 2) 255 21 w rfl rfl hA (by decide) (by decide) (by decide) (by decide) (by decide +kernel) (by decide +kernel)
theorem often_r1 (A : Nat) (w : World) (hA : A < p25) : Calls Try.prog 83 #[.func (.func 51) #[] #[], .agg (arrOf 4 (ewF A)), .int .i64 252, .int .u64 2] w fun e w' => e = .returned (.agg (arrOf 4 (ewF (A ^ (t25 + 1) % p25)))) ∧ Below w.heap.size w w' :=
  often_any A 251 2 (t25 + 1) 252 2 w rfl rfl hA (by decide) (by decide) (by decide) (by decide) (by decide +kernel) (by decide +kernel)
theorem often_r2 (w : World) : Calls Try.prog 83 #[.func (.func 51) #[] #[], .agg (arrOf 4 (ewF 2)), .int .i64 253, .int .u64 5] w fun e w' => e = .returned (.agg (arrOf 4 (ewF (2 ^ (2 * t25 + 1) % p25)))) ∧ Below w.heap.size w w' :=
  often_any 2 252 5 (2 * t25 + 1) 253 5 w rfl rfl (by decide +kernel) (by decide) (by decide) (by decide) (by decide) (by decide +kernel) (by decide +kernel)

set_option maxHeartbeats 1000000 in
theorem inv_any (A : Nat) (w : World) (hA : A < p25) : Calls Try.prog 60 #[.agg (arrOf 4 (ewF A))] w fun e w' => e = .returned (.agg (arrOf 4 (ewF (invP A)))) ∧ Below w.heap.size w w' := by
  obtain ⟨w2, hw2, hrA, hrR, hbel, hsz⟩ := rowsW2 w (ewF A) 50 50
  have HGS : Hid (∀ wq : World, Below w.heap.size w wq → w.heap.size ≤ wq.heap.size) := Lib.hid fun wq h => h.size
  have l1 : w.heap.size ≤ w.heap.size + 1 := by omega
  have HO := Lib.hid fun w => often_inv A w hA
  generalize invP A = T at *
  clear hsz hA
  subst hw2
  go_enter Try.func60, Try.ntmps60
  go_wp2_with (first
    | refine wpList_alloc_arr rfl 50 rfl (arrOf 4 (u64f fun _ => 0)) zeroE ?_
    | (refine wpList_load_arr rfl 50 (.tmp 1) rfl 4 arrE hrA rfl (by omega) ?_; simp only [Nat.zero_add, World.size_alloc])
    | (go_at_call 83; refine (HO.out _).mono ?_; rintro e w5 ⟨rfl, hb5⟩
       have hR5 := hrR.of_block (hb5.block _ hrR.lt)
       have hB5 := hbel.trans (hb5.mono (HGS.out _ hbel))
       clear hrA hrR hbel hb5)
    | (refine wpList_store_arr rfl 50 (.tmp 2) (.tmp 4) rfl 4 arrE hR5 rfl rfl (by omega) (fun _ _ => rfl) ?_; intro wb hrb hgb hsb))
  refine ret_cell_arr rfl arrE hrb rfl (by omega) rfl ⟨?_, hB5.grown hgb (HGS.out _ hB5) (by intro k hk; cases hk; exact l1)⟩
  rw [agg_putW]

theorem pick_even (σ : Nat) : (if decide (σ % 2 = 1) = true then oppP σ else σ) = evenOf p25 σ := by
  unfold evenOf
  by_cases h : σ % 2 = 1
  · rw [if_pos h, if_pos (decide_eq_true h), oppP_eq]
  · rw [if_neg h, if_neg (by rw [decide_eq_true_eq]; exact h)]

theorem pick_even_any (σ : Nat) (w : World) : Calls Try.prog 41 #[.bool (decide (σ % 2 = 1)), .agg (arrOf 4 (ewF (oppP σ))), .agg (arrOf 4 (ewF σ))] w fun e w' => e = .returned (.agg (arrOf 4 (ewF (evenOf p25 σ)))) ∧ Below w.heap.size w w' := by
  have h := pick_any (decide (σ % 2 = 1)) (oppP σ) σ w
  rwa [pick_even] at h

set_option maxHeartbeats 4000000 in
theorem root_any (A : Nat) (w : World) (hA : A < p25) : Calls Try.prog 68 #[.agg (arrOf 4 (ewF A))] w fun e w' =>
    e = .returned (.tuple #[.agg (arrOf 4 (ewF ((rootL p25 t25 A).getD 0))), .int .i64 (rootE (rootL p25 t25 A))]) ∧ Below w.heap.size w w' := by
  obtain ⟨w2, hw2, hrA, hrR, hbel, hsz⟩ := rowsW2 w (ewF A) 50 50
  have HGS0 : Hid (∀ wq : World, Below w.heap.size w wq → w.heap.size ≤ wq.heap.size) := Lib.hid fun wq h => h.size
  have hAp := hA
  have HO := Lib.hid fun w => often_r1 A w hA
  obtain ⟨ρ, hρ⟩ : ∃ ρ, ρ = A ^ (t25 + 1) % p25 := ⟨_, rfl⟩
  have hρp : ρ < p25 := by rw [hρ]; exact mod_p_lt _
  have hrC : rootC p25 t25 A = if mulP ρ ρ = A then ρ else ρ * (2 ^ (2 * t25 + 1) % p25) % p25 := by rw [hρ]; rfl
  have HRC := Lib.hid hrC
  rw [← hρ] at HO
  have l1 : w.heap.size ≤ w.heap.size + 1 := by omega
  clear hsz hA hρ hrC
  subst hw2
  go_enter Try.func68, Try.ntmps68
  go_wp2_with (first
    | (refine wpList_alloc_arr rfl 50 rfl (arrOf 4 (u64f fun _ => 0)) zeroE ?_; try simp only [World.size_alloc])
    | (refine wpList_load_arr rfl 50 (.tmp 1) rfl 4 arrE hrA rfl (by omega) ?_; simp only [Nat.zero_add])
    | (go_at_call 83; refine (HO.out _).mono ?_; rintro e w5 ⟨rfl, hb5⟩
       have hA5 := hrA.of_block (hb5.block _ hrA.lt)
       have hR5 := hrR.of_block (hb5.block _ hrR.lt)
       have hB5 := hbel.trans (hb5.mono (HGS0.out _ hbel))
       have hlA := hA5.lt
       have hlR := hR5.lt
       have hA6 := hA5.alloc (.cells (arrOf 4 (u64f fun _ => 0)) 50)
       have hR6 := hR5.alloc (.cells (arrOf 4 (u64f fun _ => 0)) 50)
       have hX6 := rowIs_arr w5 4 (u64f fun _ => 0) 50
       have hB6 := hB5.alloc (HGS0.out _ hB5) (.cells (arrOf 4 (u64f fun _ => 0)) 50)
       clear hrA hrR hbel hb5 hA5 hR5)
    | (refine wpList_store_arr rfl 50 (.tmp 4) (.tmp 6) rfl 4 arrE hX6 rfl rfl (by omega) (fun _ _ => rfl) ?_; intro w7 hr7 hg7 hs7
       have hX : w7.rowIs w5.heap.size 50 4 (ewF ρ) := hr7.congr fun i hi => by unfold putN; rw [if_pos (by omega), Nat.sub_zero]
       have hAr := gb_rowIs hA6 hg7 (Nat.ne_of_lt hlA)
       have hRr := gb_rowIs hR6 hg7 (Nat.ne_of_lt hlR)
       have hBel := hB6.grown hg7 (HGS0.out _ hB6) (by intro k hk; cases hk; exact HGS0.out _ hB5)
       clear hA6 hR6 hX6 hB6 hr7 hg7 hs7))
  generalize hg0 : w.heap.size = g0 at *
  generalize hg1 : g0 + 1 = g1 at *
  generalize w5.heap.size = y at *
  have HG := Lib.hid hg0
  have HGS : Hid (∀ wq : World, Below g0 w wq → g0 ≤ wq.heap.size) := Lib.hid fun wq h => by rw [← HG.out]; exact h.size
  have hyg0 : g0 ≠ y := Nat.ne_of_lt hlA
  have hyg1 : g1 ≠ y := Nat.ne_of_lt hlR
  have hlyg : g0 ≤ y := Nat.le_of_lt hlA
  clear hg0 hg1 HGS0 hB5 hlA hlR
  refine wp_region_lint (.rd 0 (.rd 1 (.rd 3 (.wr 2 (.wr 4 (.rd 5 .done)))))) (by kernel_rfl) (by kernel_rfl) (by decide) (by kernel_rfl) (fun d _ _ _ _ h => by cases d <;> exact h) ?_
  replace hX := World.rowIs.drew hX
  replace hAr := World.rowIs.drew hAr
  replace hRr := World.rowIs.drew hRr
  replace hBel := Below.drew hBel
  refine lint_pure 7 (Op.load 50 (.tmp 4)) _ (.agg (arrOf 4 fun i => ewF ρ (0 + i))) rfl rfl rfl rfl rfl (fun w0 hb0 => by exact exec_load_arr _ _ _ _ rfl arrE (hX.of_block (hb0.block _ hX.lt)) (by omega)) ?_
  simp only [Act.put, List.setIfInBounds_toArray, List.set_cons_zero, List.set_cons_succ, Nat.zero_add]
  refine lint_pure 8 (Op.load 50 (.tmp 4)) _ (.agg (arrOf 4 fun i => ewF ρ (0 + i))) rfl rfl rfl rfl rfl (fun w0 hb0 => by exact exec_load_arr _ _ _ _ rfl arrE (hX.of_block (hb0.block _ hX.lt)) (by omega)) ?_
  simp only [Act.put, List.setIfInBounds_toArray, List.set_cons_zero, List.set_cons_succ, Nat.zero_add]
  refine lint_pure 10 (Op.load 50 (.tmp 1)) _ (.agg (arrOf 4 fun i => ewF A (0 + i))) rfl rfl rfl rfl rfl (fun w0 hb0 => by exact exec_load_arr _ _ _ _ rfl arrE (hAr.of_block (hb0.block _ hAr.lt)) (by omega)) ?_
  simp only [Act.put, List.setIfInBounds_toArray, List.set_cons_zero, List.set_cons_succ, Nat.zero_add]
  refine stp_fn 9 51 #[Operand.tmp 7, Operand.tmp 8] #[50, 50] _ (mul_any ρ ρ _ hρp hρp) rfl rfl rfl rfl Try.func51 (by kernel_rfl) (by kernel_rfl) (by go_simp) ?_
  rintro e wm ⟨rfl, hbm⟩
  replace hX := World.rowIs.of_block hX (hbm.block _ (World.rowIs.lt hX))
  replace hAr := World.rowIs.of_block hAr (hbm.block _ (World.rowIs.lt hAr))
  replace hRr := World.rowIs.of_block hRr (hbm.block _ (World.rowIs.lt hRr))
  replace hBel := Below.trans hBel (hbm.mono (HGS.out _ hBel))
  refine ⟨_, rfl, hbm, ?_⟩
  clear hbm
  simp only [Act.put, List.setIfInBounds_toArray, List.set_cons_zero, List.set_cons_succ, Nat.zero_add]
  refine stp_fn 11 40 #[Operand.tmp 9, Operand.tmp 10] #[50, 50] _ (same_any (mulP ρ ρ) A _ (mod_p_lt _) hAp) rfl rfl rfl rfl Try.func40 (by kernel_rfl) (by kernel_rfl) (by go_simp) ?_
  rintro e wn ⟨rfl, hbm⟩
  replace hX := World.rowIs.of_block hX (hbm.block _ (World.rowIs.lt hX))
  replace hAr := World.rowIs.of_block hAr (hbm.block _ (World.rowIs.lt hAr))
  replace hRr := World.rowIs.of_block hRr (hbm.block _ (World.rowIs.lt hRr))
  replace hBel := Below.trans hBel (hbm.mono (HGS.out _ hBel))
  refine ⟨_, rfl, hbm, ?_⟩
  clear hbm
  simp only [Act.put, List.setIfInBounds_toArray, List.set_cons_zero, List.set_cons_succ, Nat.zero_add]
  refine lint_pure 12 (Op.unOp UnOp.not 4 (Operand.tmp 11)) _ (.bool (!decide (mulP ρ ρ = A))) rfl rfl rfl rfl rfl (fun w0 hb0 => by unfold mkOp; go_simp; all_goals (with_reducible rfl)) ?_
  simp only [Act.put, List.setIfInBounds_toArray, List.set_cons_zero, List.set_cons_succ, Nat.zero_add]
  refine lint_end ?_
  by_cases c1 : mulP ρ ρ = A
  focus
    rw [decide_eq_true c1]
    have hrC : rootC p25 t25 A = ρ := by rw [HRC.out, if_pos c1]
    obtain ⟨σ, hσ⟩ : ∃ σ, σ = ρ := ⟨_, rfl⟩
    rw [← hσ] at hX hρp hrC
    have hσp := hρp
    have HR := Lib.hid hrC
    clear hσ hρp hrC HRC c1
    go_wp2
  rotate_left
  focus
    rw [decide_eq_false c1]
    have hrC : rootC p25 t25 A = ρ * (2 ^ (2 * t25 + 1) % p25) % p25 := by rw [HRC.out, if_neg c1]
    clear HRC c1
    go_wp2
    replace hX := World.rowIs.drew hX
    replace hAr := World.rowIs.drew hAr
    replace hRr := World.rowIs.drew hRr
    replace hBel := Below.drew hBel
    refine wp_region_lins [(0, some [3, 4]), (1, none), (2, none), (3, none), (4, none)] (fun c w' => w'.rowIs y 50 4 (ewF ρ)) (by kernel_rfl) (by kernel_rfl) (by decide) (by kernel_rfl) (fun d _ _ _ _ h => by cases d <;> exact h) (fun c hc => hX) ?_
    refine lins_read 13 (Op.load 50 (Operand.tmp 4)) 50 (.agg (arrOf 4 fun i => ewF ρ (0 + i))) rfl rfl rfl rfl rfl (fun w0 hw0 => by exact exec_load_arr _ _ _ _ rfl arrE (hw0 3 (by simp)) (by omega)) ?_
    simp only [Act.put, List.setIfInBounds_toArray, List.set_cons_zero, List.set_cons_succ, Nat.zero_add]
    refine lins_fn (some 14) 43 #[Operand.const (Value.int IntKind.u64 2)] #[47] _ (small_any 2 _ (by decide)) rfl rfl rfl rfl Try.func43 (by kernel_rfl) (by kernel_rfl) (by go_simp) ?_
    rintro e wk0 ⟨rfl, hk0⟩
    replace hX := World.rowIs.of_block hX (hk0.block _ (World.rowIs.lt hX))
    replace hAr := World.rowIs.of_block hAr (hk0.block _ (World.rowIs.lt hAr))
    replace hRr := World.rowIs.of_block hRr (hk0.block _ (World.rowIs.lt hRr))
    replace hBel := Below.trans hBel (hk0.mono (HGS.out _ hBel))
    refine ⟨_, rfl, fun c w' => w'.rowIs y 50 4 (ewF ρ), fun c hc => ⟨hX, fun w6 h6 => h6⟩, ?_⟩
    simp only [Act.put, List.setIfInBounds_toArray, List.set_cons_zero, List.set_cons_succ, Nat.zero_add]
    refine lins_fn (some 15) 83 #[Operand.func 51, Operand.tmp 14, Operand.const (Value.int IntKind.i64 253), Operand.const (Value.int IntKind.u64 5)] #[112, 50, 3, 47] _ (often_r2 _) rfl rfl rfl rfl Try.func83 (by kernel_rfl) (by kernel_rfl) (by go_simp) ?_
    rintro e wk1 ⟨rfl, hk1⟩
    replace hX := World.rowIs.of_block hX (hk1.block _ (World.rowIs.lt hX))
    replace hAr := World.rowIs.of_block hAr (hk1.block _ (World.rowIs.lt hAr))
    replace hRr := World.rowIs.of_block hRr (hk1.block _ (World.rowIs.lt hRr))
    replace hBel := Below.trans hBel (hk1.mono (HGS.out _ hBel))
    refine ⟨_, rfl, fun c w' => w'.rowIs y 50 4 (ewF ρ), fun c hc => ⟨hX, fun w6 h6 => h6⟩, ?_⟩
    simp only [Act.put, List.setIfInBounds_toArray, List.set_cons_zero, List.set_cons_succ, Nat.zero_add]
    refine lins_fn (some 16) 51 #[Operand.tmp 13, Operand.tmp 15] #[50, 50] _ (mul_any ρ (2 ^ (2 * t25 + 1) % p25) _ hρp (mod_p_lt _)) rfl rfl rfl rfl Try.func51 (by kernel_rfl) (by kernel_rfl) (by go_simp) ?_
    rintro e wk2 ⟨rfl, hk2⟩
    replace hX := World.rowIs.of_block hX (hk2.block _ (World.rowIs.lt hX))
    replace hAr := World.rowIs.of_block hAr (hk2.block _ (World.rowIs.lt hAr))
    replace hRr := World.rowIs.of_block hRr (hk2.block _ (World.rowIs.lt hRr))
    replace hBel := Below.trans hBel (hk2.mono (HGS.out _ hBel))
    refine ⟨_, rfl, fun c w' => w'.rowIs y 50 4 (ewF ρ), fun c hc => ⟨hX, fun w6 h6 => h6⟩, ?_⟩
    simp only [Act.put, List.setIfInBounds_toArray, List.set_cons_zero, List.set_cons_succ, Nat.zero_add]
    refine lins_store_arr (k := 4) (off := 0) 50 (.tmp 4) (.tmp 16) rfl rfl rfl rfl hX rfl rfl arrE (by omega) (fun _ _ => rfl) ?_
    intro wk5 hr5 hg5 hs5
    refine ⟨fun _ _ => True, fun c hc => (by cases hc), ?_⟩
    refine lins_end ?_
    obtain ⟨σ, hσ⟩ : ∃ σ, σ = ρ * (2 ^ (2 * t25 + 1) % p25) % p25 := ⟨_, rfl⟩
    replace hX : wk5.rowIs y 50 4 (ewF σ) := hr5.congr fun i hi => by unfold putN; rw [if_pos (by omega), Nat.sub_zero, hσ]; rfl
    replace hAr := gb_rowIs hAr hg5 hyg0
    replace hRr := gb_rowIs hRr hg5 hyg1
    replace hBel := Below.grown hBel hg5 (HGS.out _ hBel) (by intro k hk; cases hk; exact hlyg)
    rw [← hσ] at hrC
    have hσp : σ < p25 := by rw [hσ]; exact mod_p_lt _
    have HR := Lib.hid hrC
    clear hr5 hg5 hs5 hσ hrC hk0 hk1 hk2
    go_wp2
  rotate_left
  all_goals
    refine wp_region_lint (.rd 0 (.rd 1 (.rd 3 (.wr 2 (.wr 4 (.rd 5 .done)))))) (by kernel_rfl) (by kernel_rfl) (by decide) (by kernel_rfl) (fun d _ _ _ _ h => by cases d <;> exact h) ?_
    replace hX := World.rowIs.drew hX
    replace hAr := World.rowIs.drew hAr
    replace hRr := World.rowIs.drew hRr
    replace hBel := Below.drew hBel
    refine lint_pure 17 (Op.load 50 (.tmp 4)) _ (.agg (arrOf 4 fun i => ewF σ (0 + i))) rfl rfl rfl rfl rfl (fun w0 hb0 => by exact exec_load_arr _ _ _ _ rfl arrE (hX.of_block (hb0.block _ hX.lt)) (by omega)) ?_
    simp only [Act.put, List.setIfInBounds_toArray, List.set_cons_zero, List.set_cons_succ, Nat.zero_add]
    refine lint_pure 18 (Op.load 50 (.tmp 4)) _ (.agg (arrOf 4 fun i => ewF σ (0 + i))) rfl rfl rfl rfl rfl (fun w0 hb0 => by exact exec_load_arr _ _ _ _ rfl arrE (hX.of_block (hb0.block _ hX.lt)) (by omega)) ?_
    simp only [Act.put, List.setIfInBounds_toArray, List.set_cons_zero, List.set_cons_succ, Nat.zero_add]
    refine lint_pure 20 (Op.load 50 (.tmp 1)) _ (.agg (arrOf 4 fun i => ewF A (0 + i))) rfl rfl rfl rfl rfl (fun w0 hb0 => by exact exec_load_arr _ _ _ _ rfl arrE (hAr.of_block (hb0.block _ hAr.lt)) (by omega)) ?_
    simp only [Act.put, List.setIfInBounds_toArray, List.set_cons_zero, List.set_cons_succ, Nat.zero_add]
    refine stp_fn 19 51 #[Operand.tmp 17, Operand.tmp 18] #[50, 50] _ (mul_any σ σ _ hσp hσp) rfl rfl rfl rfl Try.func51 (by kernel_rfl) (by kernel_rfl) (by go_simp) ?_
    rintro e wm ⟨rfl, hbm⟩
    replace hX := World.rowIs.of_block hX (hbm.block _ (World.rowIs.lt hX))
    replace hAr := World.rowIs.of_block hAr (hbm.block _ (World.rowIs.lt hAr))
    replace hRr := World.rowIs.of_block hRr (hbm.block _ (World.rowIs.lt hRr))
    replace hBel := Below.trans hBel (hbm.mono (HGS.out _ hBel))
    refine ⟨_, rfl, hbm, ?_⟩
    clear hbm
    simp only [Act.put, List.setIfInBounds_toArray, List.set_cons_zero, List.set_cons_succ, Nat.zero_add]
    refine stp_fn 21 40 #[Operand.tmp 19, Operand.tmp 20] #[50, 50] _ (same_any (mulP σ σ) A _ (mod_p_lt _) hAp) rfl rfl rfl rfl Try.func40 (by kernel_rfl) (by kernel_rfl) (by go_simp) ?_
    rintro e wn ⟨rfl, hbm⟩
    replace hX := World.rowIs.of_block hX (hbm.block _ (World.rowIs.lt hX))
    replace hAr := World.rowIs.of_block hAr (hbm.block _ (World.rowIs.lt hAr))
    replace hRr := World.rowIs.of_block hRr (hbm.block _ (World.rowIs.lt hRr))
    replace hBel := Below.trans hBel (hbm.mono (HGS.out _ hBel))
    refine ⟨_, rfl, hbm, ?_⟩
    clear hbm
    simp only [Act.put, List.setIfInBounds_toArray, List.set_cons_zero, List.set_cons_succ, Nat.zero_add]
    refine lint_pure 22 (Op.unOp UnOp.not 4 (Operand.tmp 21)) _ (.bool (!decide (mulP σ σ = A))) rfl rfl rfl rfl rfl (fun w0 hb0 => by unfold mkOp; go_simp; all_goals (with_reducible rfl)) ?_
    simp only [Act.put, List.setIfInBounds_toArray, List.set_cons_zero, List.set_cons_succ, Nat.zero_add]
    refine lint_end ?_
    by_cases c2 : mulP σ σ = A
    · rw [decide_eq_true c2]
      have hroot : rootL p25 t25 A = some (evenOf p25 σ) := by unfold rootL; rw [HR.out]; exact if_pos c2
      have HROOT := Lib.hid hroot
      clear hroot c2 HR
      go_wp2
      replace hX := World.rowIs.drew hX
      replace hRr := World.rowIs.drew hRr
      replace hBel := Below.drew hBel
      refine wp_region_lins [(0, some [1, 6]), (2, some [3, 6]), (4, some [5, 6]), (1, none), (3, none), (5, none), (6, none), (7, some [])] (fun c w' => w'.rowIs y 50 4 (ewF σ)) (by kernel_rfl) (by kernel_rfl) (by decide) (by kernel_rfl) (fun d _ _ _ _ h => by cases d <;> exact h) (fun c hc => hX) ?_
      refine lins_read 24 (Op.load 50 (Operand.tmp 4)) 50 (.agg (arrOf 4 fun i => ewF σ (0 + i))) rfl rfl rfl rfl rfl (fun w0 hw0 => by exact exec_load_arr _ _ _ _ rfl arrE (hw0 1 (by simp)) (by omega)) ?_
      simp only [Act.put, List.setIfInBounds_toArray, List.set_cons_zero, List.set_cons_succ, Nat.zero_add]
      refine lins_read 26 (Op.load 50 (Operand.tmp 4)) 50 (.agg (arrOf 4 fun i => ewF σ (0 + i))) rfl rfl rfl rfl rfl (fun w0 hw0 => by exact exec_load_arr _ _ _ _ rfl arrE (hw0 3 (by simp)) (by omega)) ?_
      simp only [Act.put, List.setIfInBounds_toArray, List.set_cons_zero, List.set_cons_succ, Nat.zero_add]
      refine lins_read 28 (Op.load 50 (Operand.tmp 4)) 50 (.agg (arrOf 4 fun i => ewF σ (0 + i))) rfl rfl rfl rfl rfl (fun w0 hw0 => by exact exec_load_arr _ _ _ _ rfl arrE (hw0 5 (by simp)) (by omega)) ?_
      simp only [Act.put, List.setIfInBounds_toArray, List.set_cons_zero, List.set_cons_succ, Nat.zero_add]
      refine lins_fn (some 25) 62 #[Operand.tmp 24] #[50] _ (odd_any σ _) rfl rfl rfl rfl Try.func62 (by kernel_rfl) (by kernel_rfl) (by go_simp) ?_
      rintro e wj0 ⟨rfl, hj0⟩
      replace hX := World.rowIs.of_block hX (hj0.block _ (World.rowIs.lt hX))
      replace hRr := World.rowIs.of_block hRr (hj0.block _ (World.rowIs.lt hRr))
      replace hBel := Below.trans hBel (hj0.mono (HGS.out _ hBel))
      refine ⟨_, rfl, fun c w' => w'.rowIs y 50 4 (ewF σ), fun c hc => ⟨hX, fun w6 h6 => h6⟩, ?_⟩
      simp only [Act.put, List.setIfInBounds_toArray, List.set_cons_zero, List.set_cons_succ, Nat.zero_add]
      refine lins_fn (some 27) 42 #[Operand.tmp 26] #[50] _ (neg_any σ _ hσp) rfl rfl rfl rfl Try.func42 (by kernel_rfl) (by kernel_rfl) (by go_simp) ?_
      rintro e wj1 ⟨rfl, hj1⟩
      replace hX := World.rowIs.of_block hX (hj1.block _ (World.rowIs.lt hX))
      replace hRr := World.rowIs.of_block hRr (hj1.block _ (World.rowIs.lt hRr))
      replace hBel := Below.trans hBel (hj1.mono (HGS.out _ hBel))
      refine ⟨_, rfl, fun c w' => w'.rowIs y 50 4 (ewF σ), fun c hc => ⟨hX, fun w6 h6 => h6⟩, ?_⟩
      simp only [Act.put, List.setIfInBounds_toArray, List.set_cons_zero, List.set_cons_succ, Nat.zero_add]
      refine lins_fn (some 29) 41 #[Operand.tmp 25, Operand.tmp 27, Operand.tmp 28] #[4, 50, 50] _ (pick_even_any σ _) rfl rfl rfl rfl Try.func41 (by kernel_rfl) (by kernel_rfl) (by go_simp) ?_
      rintro e wj2 ⟨rfl, hj2⟩
      replace hX := World.rowIs.of_block hX (hj2.block _ (World.rowIs.lt hX))
      replace hRr := World.rowIs.of_block hRr (hj2.block _ (World.rowIs.lt hRr))
      replace hBel := Below.trans hBel (hj2.mono (HGS.out _ hBel))
      refine ⟨_, rfl, fun c w' => w'.rowIs y 50 4 (ewF σ), fun c hc => ⟨hX, fun w6 h6 => h6⟩, ?_⟩
      simp only [Act.put, List.setIfInBounds_toArray, List.set_cons_zero, List.set_cons_succ, Nat.zero_add]
      refine lins_store_arr (k := 4) (off := 0) 50 (.tmp 2) (.tmp 29) rfl rfl rfl rfl hRr rfl rfl arrE (by omega) (fun _ _ => rfl) ?_
      intro wz hrz hgz hsz
      refine ⟨fun _ _ => True, fun c hc => (by cases hc), ?_⟩
      refine lins_read 3 (Op.assign (Operand.const (Value.int IntKind.i64 0))) 26 _ rfl rfl rfl rfl rfl (fun w0 hw0 => by unfold mkOp; go_simp; all_goals (with_reducible rfl)) ?_
      simp only [Act.put, List.setIfInBounds_toArray, List.set_cons_zero, List.set_cons_succ, Nat.zero_add]
      refine lins_end ?_
      go_wp2
      refine ret_cell_arr_tmp rfl arrE hrz rfl rfl (by omega) rfl ⟨?_, by rw [HG.out]; exact Below.grown hBel hgz (HGS.out _ hBel) (by intro k hk; cases hk; exact l1)⟩
      rw [agg_putW, HROOT.out]
      rfl
    · rw [decide_eq_false c2]
      have hroot : rootL p25 t25 A = none := by unfold rootL; rw [HR.out]; exact if_neg c2
      have HROOT := Lib.hid hroot
      clear hroot c2 HR
      go_wp2_with (first
        | refine wpList_build_arr rfl 50 _ rfl (arrOf 4 (ewF 0)) (by kernel_rfl) ?_
        | (refine wpList_store_arr rfl 50 (.tmp 2) (.tmp 23) rfl 4 arrE hRr rfl rfl (by omega) (fun _ _ => rfl) ?_; intro wz hrz hgz hsz))
      refine ret_cell_arr_tmp rfl arrE hrz rfl rfl (by omega) rfl ⟨?_, by rw [HG.out]; exact Below.grown hBel hgz (HGS.out _ hBel) (by intro k hk; cases hk; exact l1)⟩
      rw [agg_putW, HROOT.out]
      rfl
end Go.Proofs.Ytonhpmaiagbheaa

/- The program's numbers below p: Bytes. -/
set_option linter.unusedSimpArgs false
set_option linter.unusedVariables false
namespace Go.Proofs.Ytonhpmaiagbheaa
open Go.RowKit Go.Deep

theorem litB_word (V j : Nat) : litB V (8 * (j + 1)) = litB V (8 * j) ++ litB (wd V j) 8 := by
  unfold litB
  rw [show 8 * (j + 1) = 8 * j + 8 by omega, List.range_add, List.map_append, List.map_map]
  congr 1
  refine List.map_congr_left fun i hi => ?_
  have hi8 : i < 8 := List.mem_range.1 hi
  show UInt8.ofNat (V / 2 ^ (8 * (8 * j + i))) = UInt8.ofNat (wd V j / 2 ^ (8 * i))
  have e1 : V / 2 ^ (8 * (8 * j + i)) = V / 18446744073709551616 ^ j / 2 ^ (8 * i) := by
    rw [show 8 * (8 * j + i) = 64 * j + 8 * i by omega, Nat.pow_add, Nat.pow_mul, ← Nat.div_div_eq_div_mul]
  rw [e1]
  apply UInt8.toNat_inj.1
  simp only [UInt8.toNat_ofNat']
  unfold wd
  generalize V / 18446744073709551616 ^ j = U
  have h8 : i = 0 ∨ i = 1 ∨ i = 2 ∨ i = 3 ∨ i = 4 ∨ i = 5 ∨ i = 6 ∨ i = 7 := by omega
  rcases h8 with rfl | rfl | rfl | rfl | rfl | rfl | rfl | rfl <;> omega
theorem run_make32 (w : World) : (Instr.makeSlice 22 (.int .i64 0) (.int .i64 32)).run Try.prog w = .ok (.slice (some ⟨w.heap.size, 0, none⟩) 0 32) (w.alloc (.cells (madeCells #[.int .u8 0] 32) 5)) := by kernel_rfl
theorem Owns.made (w : World) : Owns (w.alloc (.cells (madeCells #[.int .u8 0] 32) 5)) w.heap.size (.slice (some ⟨w.heap.size, 0, none⟩) 0 32) [] :=
  World.ownsRow_made w _ 32 (Nat.le_refl _) (by decide) (by simp [madeCells])
theorem Owns.past {w w' : World} {base : Nat} {v : Value} {l : List UInt8} (h : Owns w base v l) (hb : Below w.heap.size w w') : Owns w' base v l := by
  obtain ⟨h1, h2⟩ := h
  refine ⟨h1, ?_⟩
  rcases h2 with h2 | ⟨g, cap, cur, rfl, hbg, hg, h3⟩
  · exact .inl h2
  · exact .inr ⟨g, cap, cur, rfl, hbg, (hb.block g (Array.getElem?_eq_some_iff.1 hg).1).trans hg, h3⟩
set_option maxHeartbeats 1000000 in
theorem bytes_any (V : Nat) (w : World) : Calls Try.prog 61 #[.agg (arrOf 4 (ewF V))] w fun e w' => ∃ v, e = .returned v ∧ Owns w' w.heap.size v (litB V 32) ∧ Below w.heap.size w w' := by
  have hrA := (rowIs_arr w 4 (ewF V) 50).alloc (.cells (madeCells #[.int .u8 0] 32) 5)
  have hbel := ((Below.refl w.heap.size w).alloc (Nat.le_refl _) (.cells (arrOf 4 (ewF V)) 50)).alloc (by simp) (.cells (madeCells #[.int .u8 0] 32) 5)
  have hown := Owns.made (w.alloc (.cells (arrOf 4 (ewF V)) 50))
  have hsz : ((w.alloc (.cells (arrOf 4 (ewF V)) 50)).alloc (.cells (madeCells #[.int .u8 0] 32) 5)).heap.size = w.heap.size + 1 + 1 := by simp only [World.size_alloc]
  have hmk := run_make32
  rw [World.size_alloc] at hown
  go_enter Try.func61, Try.ntmps61
  go_wp2_with (refine wpList_load_arr rfl 48 (.tmp 7) rfl 4 arrW hrA rfl (by omega) ?_; simp only [Nat.zero_add])
  generalize ((w.alloc (.cells (arrOf 4 (ewF V)) 50)).alloc (.cells (madeCells #[.int .u8 0] 32) 5)) = w1 at *
  generalize hg0 : w.heap.size = g0 at *
  have HG := Lib.hid hg0
  clear hg0 hrA hmk
  go_loopw [3, 5, 9] (fun out _ ii wr => ∃ j : Nat, j ≤ 4 ∧ ii = .int .i64 j ∧ Owns wr (g0 + 1) out (litB V (8 * j)) ∧ Below g0 w wr ∧ g0 + 1 ≤ wr.heap.size) (fun _ _ ii _ => 4 - (intOf ii).toNat)
  case atStart => exact ⟨0, Nat.zero_le _, rfl, hown, hbel, by omega⟩
  case round =>
    clear hown hbel hsz
    obtain ⟨j, hj, rfl, hown, hbel, hge⟩ := hrel
    by_cases hlt : j < 4
    · have hjI : 0 ≤ (j : Int) ∧ (j : Int) < 4 := by omega
      obtain ⟨x, hx⟩ := nat_var (wd V j)
      have hxl := wd_lt V j
      rw [← hx] at hxl
      have HX := Lib.hid hx.symm
      have HXL := Lib.hid hxl
      have hll : (litB V (8 * j)).length = 8 * j := litB_length _ _
      have HW := Lib.hid (litB_word V j)
      clear hx hxl
      go_wp2_with (first
        | refine wpList_indexW rfl (.tmp 8) (.tmp 9) rfl (wd V) x HX.out rfl rfl hlt ?_
        | (go_at_call 67; refine (little64_any x _ HXL.out).mono ?_; rintro e w5 ⟨vb, rfl, hb5, hbl5⟩
           have hown5 := hown.past hbl5
           have hbel5 := hbel.trans (hbl5.mono (by rw [← HG.out]; exact hbel.size))
           have hge5 := Nat.le_trans hge hbl5.size
           clear hown hbel)
        | (refine wpList_app rfl (.tmp 12) (.tmp 14) rfl (g0 + 1) _ vb (litB V (8 * j)) (litB x 8) hown5 hb5 rfl rfl (by rw [hll, litB_length]; omega) hge5 ?_; intro v6 w6 hown6 hg6))
      have hbel6 : Below g0 w w6 := hbel5.grown hg6 (by rw [← HG.out]; exact hbel5.size) (fun k hk => Nat.le_of_succ_le (Owns.block hown5 k hk))
      have hge6 : g0 + 1 ≤ w6.heap.size := Nat.le_trans hge5 hg6.size
      have hown7 : Owns w6 (g0 + 1) v6 (litB V (8 * (j + 1))) := by rw [HW.out, HX.out]; exact hown6
      clear hown6 hown5 hbel5
      go_roundw
      case rel => exact ⟨j + 1, by omega, by go_num, hown7, hbel6, hge6⟩
      case measure => simp [intOf]; omega
    · obtain rfl : j = 4 := by omega
      go_wp2
      go_ret
      exact ⟨_, rfl, by rw [HG.out]; exact hown.lower (Nat.le_succ _), by rw [HG.out]; exact hbel⟩
end Go.Proofs.Ytonhpmaiagbheaa

/- The program's numbers below p: Of. -/
set_option linter.unusedSimpArgs false
set_option linter.unusedVariables false
namespace Go.Proofs.Ytonhpmaiagbheaa
open Go.RowKit Go.Deep

theorem pow256_W (q : Nat) : (256 : Nat) ^ (8 * q) = 18446744073709551616 ^ q := by rw [Nat.pow_mul]
theorem of_step (V x i j : Nat) (hV : V < 256 ^ i) (hx : x < 256) : wd (V + x * 256 ^ i) j = if j = i / 8 then 2 ^ (8 * (i % 8)) * x + wd V (i / 8) else wd V j := by
  obtain ⟨q, hq⟩ := nat_var (i / 8)
  obtain ⟨s, hs⟩ := nat_var (i % 8)
  have hi : i = 8 * q + s := by omega
  have hs8 : s < 8 := by omega
  rw [← hq, ← hs]
  clear hq hs
  subst hi
  rw [Nat.pow_add, pow256_W] at hV ⊢
  have hsp : (256 : Nat) ^ s * 256 ≤ 18446744073709551616 := by
    have h := Nat.pow_le_pow_right (show 0 < 256 by decide) (show s + 1 ≤ 8 by omega)
    rw [Nat.pow_succ] at h
    exact Nat.le_trans h (by decide)
  have hsh : (2 : Nat) ^ (8 * s) = 256 ^ s := by rw [Nat.pow_mul]
  rw [hsh]
  have hsz : 0 < (256 : Nat) ^ s := Nat.pow_pos (by decide)
  generalize (256 : Nat) ^ s = Z at *
  have hxZ : x * Z ≤ 255 * Z := Nat.mul_le_mul_right _ (by omega)
  unfold wd
  by_cases h1 : j = q
  · subst h1
    rw [if_pos rfl, show x * (18446744073709551616 ^ j * Z) = 18446744073709551616 ^ j * (x * Z) by ac_rfl, Nat.add_mul_div_left _ _ (powW_pos j)]
    have h2 : V / 18446744073709551616 ^ j < Z := Nat.div_lt_of_lt_mul hV
    generalize V / 18446744073709551616 ^ j = y at *
    rw [Nat.mul_comm Z x]
    omega
  · rw [if_neg h1]
    by_cases h2 : j < q
    · obtain ⟨d, rfl⟩ : ∃ d, q = j + 1 + d := ⟨q - (j + 1), by omega⟩
      have e : x * (18446744073709551616 ^ (j + 1 + d) * Z) = 18446744073709551616 ^ j * (18446744073709551616 * (18446744073709551616 ^ d * (x * Z))) := by
        rw [Nat.pow_add, Nat.pow_succ]; ac_rfl
      rw [e, Nat.add_mul_div_left _ _ (powW_pos j), Nat.add_mul_mod_self_left]
    · obtain ⟨d, rfl⟩ : ∃ d, j = q + 1 + d := ⟨j - (q + 1), by omega⟩
      have hup : V + x * (18446744073709551616 ^ q * Z) < 18446744073709551616 ^ (q + 1 + d) := by
        have h3 : x * (18446744073709551616 ^ q * Z) ≤ 255 * (18446744073709551616 ^ q * Z) := Nat.mul_le_mul_right _ (by omega)
        have h4 : 18446744073709551616 ^ q * (Z * 256) ≤ 18446744073709551616 ^ q * 18446744073709551616 := Nat.mul_le_mul_left _ hsp
        rw [← Nat.pow_succ, ← Nat.mul_assoc] at h4
        have h5 : (18446744073709551616 : Nat) ^ (q + 1) ≤ 18446744073709551616 ^ (q + 1 + d) := Nat.pow_le_pow_right (by decide) (by omega)
        omega
      rw [Nat.div_eq_of_lt hup, Nat.div_eq_of_lt (Nat.lt_of_le_of_lt (Nat.le_add_right _ _) hup)]
theorem of_low (V i : Nat) (hV : V < 256 ^ i) : wd V (i / 8) < 2 ^ (8 * (i % 8)) := by
  obtain ⟨q, hq⟩ := nat_var (i / 8)
  obtain ⟨s, hs⟩ := nat_var (i % 8)
  have hi : i = 8 * q + s := by omega
  rw [← hq, ← hs]
  clear hq hs
  subst hi
  rw [Nat.pow_add, pow256_W] at hV
  rw [Nat.pow_mul]
  exact Nat.lt_of_le_of_lt (Nat.mod_le _ _) (Nat.div_lt_of_lt_mul hV)
theorem numL_wanting (l : List UInt8) (k : Nat) (h : l.length ≤ k) : ∀ d, numL l (k + d) = numL l k
  | 0 => rfl
  | d + 1 => by
    show numL l (k + d) + (l.getD (k + d) 0).toNat * 256 ^ (k + d) = _
    rw [numL_wanting l k h d, List.getD_eq_getElem?_getD, List.getElem?_eq_none (by omega)]
    simp
theorem numL_min (l : List UInt8) : numL l (min l.length 32) = numL l 32 := by
  by_cases h : l.length ≤ 32
  · rw [Nat.min_eq_left h]
    have := numL_wanting l l.length (Nat.le_refl _) (32 - l.length)
    rw [show l.length + (32 - l.length) = 32 by omega] at this
    exact this.symm
  · rw [Nat.min_eq_right (by omega)]

set_option maxHeartbeats 4000000 in
theorem of_any (v : Value) (l : List UInt8) (w : World) (hv : Bs w v l) : Calls Try.prog 47 #[v] w fun e w' => e = .returned (.agg (arrOf 4 (ewF (ofL l)))) ∧ Below w.heap.size w w' := by
  obtain ⟨a, n, cap, rfl, hn, hc1, hc2, hB0⟩ := hv.shape
  have hR := (rowIs_arr w 4 (u64f fun _ => 0) 50).alloc (.cells (arrOf 4 (u64f fun _ => 0)) 48)
  have hL := rowIs_arr (w.alloc (.cells (arrOf 4 (u64f fun _ => 0)) 50)) 4 (u64f fun _ => 0) 48
  have hbel := ((Below.refl w.heap.size w).alloc (Nat.le_refl _) (.cells (arrOf 4 (u64f fun _ => 0)) 50)).alloc (by simp) (.cells (arrOf 4 (u64f fun _ => 0)) 48)
  rw [World.size_alloc] at hL
  have HB := Lib.hid hB0
  have HN := Lib.hid hn
  obtain ⟨k, hk⟩ := nat_var (min n 32)
  have hkn : k ≤ n := by omega
  have hk32 : k ≤ 32 := by omega
  have HK : Hid ((k : Int) = if (32 : Int) < (n : Int) then 32 else (n : Int)) := Lib.hid (by split <;> omega)
  have hkI : (k : Int) ≤ (cap : Int) := by omega
  have HKN : Hid (numL l k = numL l 32) := Lib.hid (by rw [hk, ← hn]; exact numL_min l)
  clear hv hB0 hn hk
  go_enter Try.func47, Try.ntmps47
  go_wp2_with (first
    | refine wpList_alloc_arr rfl 50 rfl (arrOf 4 (u64f fun _ => 0)) zeroE ?_
    | (refine wpList_alloc_arr rfl 48 rfl (arrOf 4 (u64f fun _ => 0)) zeroW ?_; simp only [World.size_alloc])
    | (refine wpList_lesser rfl (.tmp 8) (.const (.int .i64 32)) rfl (m := (k : Int)) rfl rfl HK.out ?_))
  generalize ((w.alloc (.cells (arrOf 4 (u64f fun _ => 0)) 50)).alloc (.cells (arrOf 4 (u64f fun _ => 0)) 48)) = w2 at *
  generalize hg0 : w.heap.size = g0 at *
  generalize hg1 : g0 + 1 = g1 at *
  have n01 : g0 ≠ g1 := by omega
  have l1 : g0 ≤ g1 := by omega
  have HG := Lib.hid hg0
  have HGS : Hid (∀ wq : World, Below g0 w wq → g0 ≤ wq.heap.size) := Lib.hid fun wq h => by rw [← HG.out]; exact h.size
  clear hg0 hg1
  go_loopw [4, 5, 12] (fun _ _ ii wr => ∃ i : Nat, i ≤ k ∧ ii = .int .i64 i ∧ wr.rowIs g1 48 4 (ewF (numL l i)) ∧ wr.rowIs g0 50 4 (u64f fun _ => 0) ∧ Below g0 w wr) (fun _ _ ii _ => k - (intOf ii).toNat)
  case atStart => exact ⟨0, Nat.zero_le _, rfl, hL.congr fun j _ => by unfold ewF u64f; rw [show numL l 0 = 0 from rfl, wd_small 0 j (by decide)]; split <;> rfl, hR, hbel⟩
  case round =>
    clear hL hR hbel
    obtain ⟨i, hi, rfl, hL, hR, hbel⟩ := hrel
    by_cases hlt : i < k
    · have hiI : 0 ≤ (i : Int) ∧ (i : Int) < (k : Int) := by omega
      obtain ⟨b, off, cap', he, _, _, hbl, hc⟩ := HB.out.open_n HN.out (by omega)
      cases he
      have hil : i < l.length := by rw [HN.out]; omega
      have hci := hc i hil
      rw [← getD_at l i hil] at hci
      have hbw : b < g0 := by rw [← HG.out]; exact hbl
      obtain ⟨x, hx⟩ := nat_var (l.getD i 0).toNat
      have hx1 : x < 256 := by rw [hx]; exact UInt8.toNat_lt _
      rw [← hx] at hci
      have hcx := (hbel.cell (p := ⟨b, off + i, none⟩) hbw).trans hci
      obtain ⟨q, hq⟩ := nat_var (i / 8)
      obtain ⟨s, hs⟩ := nat_var (i % 8)
      obtain ⟨s8, hs8⟩ := nat_var (8 * (i % 8))
      have hV := numL_lt l i
      have hnext : numL l (i + 1) = numL l i + x * 256 ^ i := by rw [hx]; rfl
      have hlow := of_low _ _ hV
      have hstep := fun j => of_step (numL l i) x i j hV hx1
      rw [← hs8, ← hq] at hlow
      have hul := wd_lt (numL l i) q
      have hvl := wd_lt (numL l (i + 1)) q
      have hvq := hstep q
      rw [← hnext, if_pos hq, ← hs8, ← hq] at hvq
      obtain ⟨u, hu⟩ := nat_var (wd (numL l i) q)
      obtain ⟨v, hv⟩ := nat_var (wd (numL l (i + 1)) q)
      have hset : (wr.drew.setCell ⟨g1, q, none⟩ (.int .u64 (v : Int))).rowIs g1 48 4 (ewF (numL l (i + 1))) := row_set_drew hL q v _ (fun j hj => by
        have h := hstep j
        rw [← hnext, ← hs8, ← hq, ← hvq, ← hv] at h
        exact h)
      have hcD : wr.drew.cell? ⟨g1, q, none⟩ = some (.int .u64 (u : Int)) := by
        have h := hL.drew.cell (i := q) (by omega)
        rw [hu]; exact h
      have hfr := hL.drew.frozen q
      rw [← hu, ← hv] at hvq
      rw [← hu] at hlow hul
      rw [← hv] at hvl
      obtain ⟨xs, hxs⟩ := nat_var (2 ^ s8 * x)
      have hor := or_add64' s8 x u hlow (by omega)
      rw [← hvq, ← hxs] at hor
      have hxl : xs < 18446744073709551616 := by omega
      have hshl : IntKind.u64.wrap ((x : Int) * 2 ^ s8) = (xs : Int) := by
        have e : (x : Int) * 2 ^ s8 = (xs : Int) := by rw [hxs, Int.natCast_mul, Int.natCast_pow, Int.mul_comm]; rfl
        rw [e, wrap_nat _ hxl]
      have hquo : IntKind.i64.wrap ((i : Int).tdiv 8) = (q : Int) := by rw [Int.tdiv_eq_ediv_of_nonneg (by omega), IntWalk.i64_in _ (by omega)]; omega
      have hquo2 : IntKind.i64.wrap ((i : Int) / 8) = (q : Int) := by rw [IntWalk.i64_in _ (by omega)]; omega
      have hrem : IntKind.i64.wrap ((i : Int).tmod 8) = (s : Int) := by rw [Int.tmod_eq_emod_of_nonneg (by omega), IntWalk.i64_in _ (by omega)]; omega
      have hrem2 : (i : Int).tmod 8 = (s : Int) := by rw [Int.tmod_eq_emod_of_nonneg (by omega)]; omega
      have hmul : IntKind.i64.wrap (8 * (s : Int)) = (s8 : Int) := by rw [IntWalk.i64_in _ (by omega)]; omega
      have hcv : IntKind.u64.wrap (x : Int) = (x : Int) := wrap_nat _ (by omega)
      have hqI : 0 ≤ (q : Int) ∧ (q : Int) < 4 := by omega
      have hq4 : (q : Int) < 4 := by omega
      have hs8I : 0 ≤ (s8 : Int) := by omega
      have hs8J : (s8 : Int) < 64 := by omega
      have HSET := Lib.hid hset
      clear hset hstep hnext hlow hul hvl hvq hu hv hxs hxl hx hV hci hc hq hs hs8
      go_wp2
      refine wp_region_lins [(0, some [12]), (1, some [12]), (2, some [12]), (3, some [12]), (4, some [12]), (5, some [12]), (6, some [12]), (7, some [12]), (8, some [12]), (9, some [12]), (10, some [12]), (11, some [12]), (12, none)] (fun c w' => w'.cell? ⟨g1, q, none⟩ = some (.int .u64 (u : Int))) (by kernel_rfl) (by kernel_rfl) (by decide) (by kernel_rfl) (fun d _ _ _ _ h => by cases d <;> exact h) (fun c hc => hcD) ?_
      refine lins_read 17 (Op.move (Operand.tmp 4)) 3 _ rfl rfl rfl rfl rfl (fun w0 hw0 => by unfold mkOp; go_simp; all_goals (with_reducible rfl)) ?_
      simp only [Act.put, List.setIfInBounds_toArray, List.set_cons_zero, List.set_cons_succ]
      refine lins_read 18 (Op.binOp BinOp.quo 3 (Operand.tmp 17) (Operand.const (Value.int IntKind.i64 8)) 3) 3 (.int .i64 (q : Int)) rfl rfl rfl rfl rfl (fun w0 hw0 => by unfold mkOp; go_simp; all_goals (with_reducible rfl)) ?_
      simp only [Act.put, List.setIfInBounds_toArray, List.set_cons_zero, List.set_cons_succ]
      refine lins_read 19 (Op.indexAddr 48 (Operand.tmp 3) (Operand.tmp 18)) 0 _ rfl rfl rfl rfl rfl (fun w0 hw0 => by unfold mkOp; go_simp; all_goals (with_reducible rfl)) ?_
      simp only [Act.put, List.setIfInBounds_toArray, List.set_cons_zero, List.set_cons_succ]
      refine lins_read 20 (Op.load 47 (Operand.tmp 19)) 47 (.int .u64 (u : Int)) rfl rfl rfl rfl rfl (fun w0 hw0 => by have hc0 := hw0 12 (by simp); unfold mkOp; go_simp; all_goals (with_reducible rfl)) ?_
      simp only [Act.put, List.setIfInBounds_toArray, List.set_cons_zero, List.set_cons_succ]
      refine lins_read 21 (Op.move (Operand.tmp 5)) 5 _ rfl rfl rfl rfl rfl (fun w0 hw0 => by unfold mkOp; go_simp; all_goals (with_reducible rfl)) ?_
      simp only [Act.put, List.setIfInBounds_toArray, List.set_cons_zero, List.set_cons_succ]
      refine lins_read 22 (Op.convert 5 47 (Operand.tmp 21)) 47 (.int .u64 (x : Int)) rfl rfl rfl rfl rfl (fun w0 hw0 => by unfold mkOp; go_simp; all_goals (with_reducible rfl)) ?_
      simp only [Act.put, List.setIfInBounds_toArray, List.set_cons_zero, List.set_cons_succ]
      refine lins_read 23 (Op.move (Operand.tmp 4)) 3 _ rfl rfl rfl rfl rfl (fun w0 hw0 => by unfold mkOp; go_simp; all_goals (with_reducible rfl)) ?_
      simp only [Act.put, List.setIfInBounds_toArray, List.set_cons_zero, List.set_cons_succ]
      refine lins_read 24 (Op.binOp BinOp.rem 3 (Operand.tmp 23) (Operand.const (Value.int IntKind.i64 8)) 3) 3 (.int .i64 (s : Int)) rfl rfl rfl rfl rfl (fun w0 hw0 => by unfold mkOp; go_simp; all_goals (with_reducible rfl)) ?_
      simp only [Act.put, List.setIfInBounds_toArray, List.set_cons_zero, List.set_cons_succ]
      refine lins_read 25 (Op.binOp BinOp.mul 3 (Operand.const (Value.int IntKind.i64 8)) (Operand.tmp 24) 3) 3 (.int .i64 (s8 : Int)) rfl rfl rfl rfl rfl (fun w0 hw0 => by unfold mkOp; go_simp; all_goals (with_reducible rfl)) ?_
      simp only [Act.put, List.setIfInBounds_toArray, List.set_cons_zero, List.set_cons_succ]
      refine lins_read 26 (Op.binOp BinOp.shl 47 (Operand.tmp 22) (Operand.tmp 25) 3) 47 (.int .u64 (xs : Int)) rfl rfl rfl rfl rfl (fun w0 hw0 => by unfold mkOp; go_simp; all_goals (with_reducible rfl)) ?_
      simp only [Act.put, List.setIfInBounds_toArray, List.set_cons_zero, List.set_cons_succ]
      refine lins_read 27 (Op.binOp BinOp.or 47 (Operand.tmp 20) (Operand.tmp 26) 47) 47 (.int .u64 (v : Int)) rfl rfl rfl rfl rfl (fun w0 hw0 => by unfold mkOp; go_simp; all_goals (with_reducible rfl)) ?_
      simp only [Act.put, List.setIfInBounds_toArray, List.set_cons_zero, List.set_cons_succ]
      refine lins_read 28 (Op.indexAddr 48 (Operand.tmp 3) (Operand.tmp 18)) 0 _ rfl rfl rfl rfl rfl (fun w0 hw0 => by unfold mkOp; go_simp; all_goals (with_reducible rfl)) ?_
      simp only [Act.put, List.setIfInBounds_toArray, List.set_cons_zero, List.set_cons_succ]
      refine lins_store (Op.store 47 (Operand.tmp 28) (Operand.tmp 27)) 0 (_) rfl rfl rfl rfl rfl (by unfold mkOp; go_simp; all_goals (with_reducible rfl)) (fun _ _ => True) (fun c hc => by cases hc) ?_
      try simp only [Act.put, List.setIfInBounds_toArray, List.set_cons_zero, List.set_cons_succ]
      refine lins_end ?_
      go_wp2
      go_roundw
      case rel => exact ⟨i + 1, by omega, by go_num, HSET.out, hR.drew.setOther n01 _, hbel.drew.setCell (show g0 ≤ (⟨g1, q, none⟩ : Addr).block from l1) _⟩
      case measure => simp [intOf]; omega
    · obtain rfl : i = k := by omega
      obtain ⟨Z, hZ⟩ := nat_var (numL l 32)
      have hV : Z < B4 := by rw [hZ]; have h := numL_lt l 32; exact Nat.lt_of_lt_of_le h (by decide +kernel)
      have hkz := HKN.out
      rw [← hZ] at hkz
      rw [hkz] at hL
      have HRES := Lib.hid (show Z % top % p25 = ofL l by rw [hZ]; rfl)
      clear hZ hkz HKN
      have hc3 : wr.cell? ⟨g1, 3, none⟩ = some (.int .u64 ((wd Z 3 : Nat) : Int)) := hL.cell (i := 3) (by omega)
      have hf3 := hL.frozen 3
      have hand := andnot_top (wd Z 3) (wd_lt _ _)
      have hrT := row_top hL
      have hbT := hbel.setCell (p := ⟨g1, 3, none⟩) l1 (.int .u64 ((wd Z 3 % 9223372036854775808 : Nat) : Int))
      have hRT := hR.setOther (show g0 ≠ (⟨g1, 3, none⟩ : Addr).block from n01) (.int .u64 ((wd Z 3 % 9223372036854775808 : Nat) : Int))
      have HR := Lib.hid fun w => reduced_any (Z % top) 0 w (Nat.lt_trans (Nat.mod_lt _ top_pos) top_B4) (by decide)
      generalize Z % top = T at *
      generalize wd Z 3 % 9223372036854775808 = z at *
      generalize wd Z 3 = y at *
      clear hL hR hbel hV
      go_wp2_with (first
        | (refine wpList_load_arr rfl 48 (.tmp 3) rfl 4 arrW hrT rfl (by omega) ?_; simp only [Nat.zero_add])
        | (go_at_call 70; refine (HR.out _).mono ?_; rintro e wa ⟨rfl, hba⟩
           have hRa := hRT.of_block (hba.block _ hRT.lt)
           have hBa := hbT.trans (hba.mono (HGS.out _ hbT))
           clear hRT hbT hba hrT HR)
        | (refine wpList_store_arr rfl 50 (.tmp 2) (.tmp 35) rfl 4 arrE hRa rfl rfl (by omega) (fun _ _ => rfl) ?_; intro wb hrb hgb hsb))
      refine ret_cell_arr rfl arrE hrb rfl (by omega) rfl ⟨?_, by rw [HG.out]; exact hBa.grown hgb (HGS.out _ hBa) (by intro k hk; cases hk; exact Nat.le_refl _)⟩
      rw [agg_putW, HRES.out]
end Go.Proofs.Ytonhpmaiagbheaa

/- The program's numbers below p: Strict. -/
set_option linter.unusedSimpArgs false
set_option linter.unusedVariables false
namespace Go.Proofs.Ytonhpmaiagbheaa
open Go.RowKit Go.Deep

theorem bytesSame_any (v1 v2 : Value) (l1 l2 : List UInt8) (w : World) (h1 : Bs w v1 l1) (h2 : Bs w v2 l2) :
    Calls Try.prog 72 #[v1, v2] w fun e w' => e = .returned (.bool (l1 == l2)) ∧ w' = w := by
  have c1 := h1.conv
  have c2 := h2.conv
  clear h1 h2
  go_enter Try.func72, Try.ntmps72
  go_wp2
  go_ret
  exact ⟨rfl, rfl⟩
theorem flatSame_any (v1 v2 : Value) (l1 l2 : List UInt8) (w : World) (h1 : Bs w v1 l1) (h2 : Bs w v2 l2) :
    Calls Try.prog 46 #[v1, v2] w fun e w' => e = .returned (.bool (decide (l1 = l2))) ∧ w' = w := by
  have hd : decide (l1 = l2) = (l1 == l2) := by
    by_cases h : l1 = l2
    · rw [decide_eq_true h, h]; simp
    · rw [decide_eq_false h, beq_eq_false_iff_ne.2 h]
  rw [hd]
  go_enter Try.func46, Try.ntmps46
  go_wp2_with fail
  refine (bytesSame_any v1 v2 l1 l2 _ h1 h2).mono ?_
  rintro e w' ⟨rfl, rfl⟩
  go_wp2
  go_ret
  exact ⟨rfl, rfl⟩
theorem strict_same (l : List UInt8) : strictL l = if litB (ofL l) 32 = l then some (ofL l) else none := by
  rw [strictL_eq]
  by_cases h : litB (ofL l) 32 = l
  · have hp : ofL l < p25 := mod_p_lt _
    have h1 : l.length = 32 := by rw [← h, litB_length]
    have h2 : numL l 32 = ofL l := by
      have h3 := numL_own (ofL l) hp
      rw [h] at h3
      exact h3
    rw [if_pos h, if_pos ⟨h1, by rw [h2]; exact hp⟩, h2]
  · rw [if_neg h, if_neg]
    rintro ⟨h1, h2⟩
    apply h
    rw [ofL_low l h2]
    exact litB_numL l 32 h1

set_option maxHeartbeats 2000000 in
theorem strict_any (v : Value) (l : List UInt8) (w : World) (hv : Bs w v l) : Calls Try.prog 38 #[v] w fun e w' =>
    e = .returned (.tuple #[.agg (arrOf 4 (ewF ((strictL l).getD 0))), .int .i64 (strictE (strictL l))]) ∧ Below w.heap.size w w' := by
  have hR0 := rowIs_arr w 4 (u64f fun _ => 0) 50
  have hb0 := (Below.refl w.heap.size w).alloc (Nat.le_refl _) (.cells (arrOf 4 (u64f fun _ => 0)) 50)
  have HV := Lib.hid (hv.below hb0 (Nat.le_refl _))
  have HV0 := Lib.hid hv
  have HGS : Hid (∀ wq : World, Below w.heap.size w wq → w.heap.size ≤ wq.heap.size) := Lib.hid fun wq h => h.size
  have hst := strict_same l
  obtain ⟨T, hT⟩ := nat_var (ofL l)
  rw [← hT] at hst
  have HOF := Lib.hid fun w (h : Bs w v l) => of_any v l w h
  rw [← hT] at HOF
  obtain ⟨bl, hbl⟩ : ∃ bl, bl = litB T 32 := ⟨_, rfl⟩
  have HBY := Lib.hid fun w => bytes_any T w
  rw [← hbl] at HBY hst
  have HST := Lib.hid hst
  clear hT hbl hst hv
  by_cases hs : bl = l
  · have hres := HST.out
    rw [if_pos hs] at hres
    have HRES := Lib.hid hres
    have HEQ := Lib.hid fun v1 v2 (w : World) (h1 : Bs w v1 bl) (h2 : Bs w v2 l) => flatSame_any v1 v2 bl l w h1 h2
    rw [decide_eq_true hs] at HEQ
    clear hres hs HST
    go_enter Try.func38, Try.ntmps38
    go_wp2_with (first
      | refine wpList_alloc_arr rfl 50 rfl (arrOf 4 (u64f fun _ => 0)) zeroE ?_
      | (go_at_call 47; refine (HOF.out _ HV.out).mono ?_; rintro e w5 ⟨rfl, hb5⟩
         have hR5 := hR0.of_block (hb5.block _ hR0.lt)
         have hB5 := hb0.trans (hb5.mono (HGS.out _ hb0))
         have hl5 := hR5.lt
         have hR6 := hR5.alloc (.cells (arrOf 4 (u64f fun _ => 0)) 50)
         have hX6 := rowIs_arr w5 4 (u64f fun _ => 0) 50
         have hB6 := hB5.alloc (HGS.out _ hB5) (.cells (arrOf 4 (u64f fun _ => 0)) 50)
         clear hR0 hb0 hb5 hR5 HOF)
      | (refine wpList_store_arr rfl 50 (.tmp 4) (.tmp 6) rfl 4 arrE hX6 rfl rfl (by omega) (fun _ _ => rfl) ?_; intro w7 hr7 hg7 hs7
         have hX7 : w7.rowIs w5.heap.size 50 4 (ewF T) := hr7.congr fun i hi => by unfold putN; rw [if_pos (by omega), Nat.sub_zero]
         have hR7 := gb_rowIs hR6 hg7 (Nat.ne_of_lt hl5)
         have hB7 := hB6.grown hg7 (HGS.out _ hB6) (by intro k hk; cases hk; exact HGS.out _ hB5)
         clear hR6 hX6 hB6 hr7 hg7 hs7 hB5)
      | (refine wpList_load_arr rfl 50 (.tmp 4) rfl 4 arrE hX7 rfl (by omega) ?_; simp only [Nat.zero_add])
      | (go_at_call 61; refine (HBY.out _).mono ?_; rintro e w8 ⟨vb, rfl, hown8, hb8⟩
         have hR8 := hR7.of_block (hb8.block _ hR7.lt)
         have hX8 := hX7.of_block (hb8.block _ hX7.lt)
         have hB8 := hB7.trans (hb8.mono (HGS.out _ hB7))
         have hv8 := HV0.out.below hB8 (Nat.le_refl _)
         have hbs8 := hown8.bs
         clear hR7 hX7 hB7 hb8 hown8 HBY)
      | (go_at_call 46; refine (HEQ.out _ _ _ hbs8 hv8).mono ?_; rintro e w9 ⟨rfl, rfl⟩)
      | (refine wpList_load_arr rfl 50 (.tmp 4) rfl 4 arrE hX8 rfl (by omega) ?_; simp only [Nat.zero_add])
      | (refine wpList_store_arr rfl 50 (.tmp 2) (.tmp 13) rfl 4 arrE hR8 rfl rfl (by omega) (fun _ _ => rfl) ?_; intro wz hrz hgz hsz))
    refine ret_cell_arr_tmp rfl arrE hrz rfl rfl (by omega) rfl ⟨?_, hB8.grown hgz (HGS.out _ hB8) (by intro k hk; cases hk; exact Nat.le_refl _)⟩
    rw [agg_putW, HRES.out]
    rfl
  · have hres := HST.out
    rw [if_neg hs] at hres
    have HRES := Lib.hid hres
    have HEQ := Lib.hid fun v1 v2 (w : World) (h1 : Bs w v1 bl) (h2 : Bs w v2 l) => flatSame_any v1 v2 bl l w h1 h2
    rw [decide_eq_false hs] at HEQ
    clear hres hs HST
    go_enter Try.func38, Try.ntmps38
    go_wp2_with (first
      | refine wpList_alloc_arr rfl 50 rfl (arrOf 4 (u64f fun _ => 0)) zeroE ?_
      | (go_at_call 47; refine (HOF.out _ HV.out).mono ?_; rintro e w5 ⟨rfl, hb5⟩
         have hR5 := hR0.of_block (hb5.block _ hR0.lt)
         have hB5 := hb0.trans (hb5.mono (HGS.out _ hb0))
         have hl5 := hR5.lt
         have hR6 := hR5.alloc (.cells (arrOf 4 (u64f fun _ => 0)) 50)
         have hX6 := rowIs_arr w5 4 (u64f fun _ => 0) 50
         have hB6 := hB5.alloc (HGS.out _ hB5) (.cells (arrOf 4 (u64f fun _ => 0)) 50)
         clear hR0 hb0 hb5 hR5 HOF)
      | (refine wpList_store_arr rfl 50 (.tmp 4) (.tmp 6) rfl 4 arrE hX6 rfl rfl (by omega) (fun _ _ => rfl) ?_; intro w7 hr7 hg7 hs7
         have hX7 : w7.rowIs w5.heap.size 50 4 (ewF T) := hr7.congr fun i hi => by unfold putN; rw [if_pos (by omega), Nat.sub_zero]
         have hR7 := gb_rowIs hR6 hg7 (Nat.ne_of_lt hl5)
         have hB7 := hB6.grown hg7 (HGS.out _ hB6) (by intro k hk; cases hk; exact HGS.out _ hB5)
         clear hR6 hX6 hB6 hr7 hg7 hs7 hB5)
      | (refine wpList_load_arr rfl 50 (.tmp 4) rfl 4 arrE hX7 rfl (by omega) ?_; simp only [Nat.zero_add])
      | (go_at_call 61; refine (HBY.out _).mono ?_; rintro e w8 ⟨vb, rfl, hown8, hb8⟩
         have hR8 := hR7.of_block (hb8.block _ hR7.lt)
         have hB8 := hB7.trans (hb8.mono (HGS.out _ hB7))
         have hv8 := HV0.out.below hB8 (Nat.le_refl _)
         have hbs8 := hown8.bs
         clear hR7 hX7 hB7 hb8 hown8 HBY)
      | (go_at_call 46; refine (HEQ.out _ _ _ hbs8 hv8).mono ?_; rintro e w9 ⟨rfl, rfl⟩)
      | refine wpList_build_arr rfl 50 _ rfl (arrOf 4 (ewF 0)) (by kernel_rfl) ?_
      | (refine wpList_store_arr rfl 50 (.tmp 2) (.tmp 12) rfl 4 arrE hR8 rfl rfl (by omega) (fun _ _ => rfl) ?_; intro wz hrz hgz hsz))
    refine ret_cell_arr_tmp rfl arrE hrz rfl rfl (by omega) rfl ⟨?_, hB8.grown hgz (HGS.out _ hB8) (by intro k hk; cases hk; exact Nat.le_refl _)⟩
    rw [agg_putW, HRES.out]
    rfl
end Go.Proofs.Ytonhpmaiagbheaa

/- What the laws of chapter 5 ask: few, is, awake. -/
set_option linter.unusedSimpArgs false
set_option linter.unusedVariables false
namespace Go.Proofs.Ytonhpmaiagbheaa
open Go.RowKit Go.Deep

section
variable {P : Program} {ops : Array Oper} {Q : Exit → Act → World → Prop}
end
theorem exec_str_yes {w : World} (ρ : Operand → Value) (x y : Operand) (t : TypeId) {l m : List UInt8} (h : l = m) (hx : ρ x = .string ⟨l.toArray⟩) (hy : ρ y = .string ⟨m.toArray⟩) :
    (execOp ρ (mkOp (.binOp .eql 9 x y 9) t)).run Try.prog w = .ok (.value (.bool true)) w := by
  subst h
  simp only [execOp, mkOp, hx, hy]
  all_goals go_simp
end Go.Proofs.Ytonhpmaiagbheaa

/- The document's points: what they are in memory; curve, Zero, add, Add, NegPt, Same, Small. -/
set_option linter.unusedSimpArgs false
set_option linter.unusedVariables false
namespace Go.Proofs.Ytonhpmaiagbheaa
open Go.RowKit Go.Deep

def pSame (a b : Nat × Nat × Nat) : Bool := decide (mulP a.1 b.2.2 = mulP b.1 a.2.2) && decide (mulP a.2.1 b.2.2 = mulP b.2.1 a.2.2)
def pEight (a : Nat × Nat × Nat) : Nat × Nat × Nat := let b := padd dP a a; let c := padd dP b b; padd dP c c
def pSmall (a : Nat × Nat × Nat) : Bool := pSame (pEight a) (0, 1, 1)

end Go.Proofs.Ytonhpmaiagbheaa

/- Pieces of bytes, rows of bytes in open worlds: one operation at a time. -/
namespace Go.Proofs.Ytonhpmaiagbheaa
open Go.RowKit Go.Deep
set_option linter.unusedSimpArgs false
set_option linter.unusedVariables false

theorem run_toB {P : Program} (w : World) (ty elem : TypeId) (ad : Option Addr) (n cap k : Nat) (hu : P.underlying ty = some (.slice elem)) (hi : (P.info? elem).map (fun i => i.size) = some 1) (hk : k ≤ cap) :
    (Instr.sliceAt ty (.slice ad n cap) none (some (.int .i64 (k : Int))) none).run P w = .ok (.slice ad k cap) w := by
  cases hq : P.info? elem with
  | none => simp [hq] at hi
  | some i =>
    have hs : i.size = 1 := by simpa [hq] using hi
    have hb := run_bound_in (P := P) w .i64 k cap .sliceAcap hk
    have hx : ∀ x : Addr, x.add 0 = x := fun x => by unfold Addr.add; simp
    by_cases hc : cap = 0
    · subst hc
      simp [Instr.sliceAt, run_underlying hu w, Instr.slice, Instr.sliceBounds, sizeOf, typeInfo, hq, hs, hb, Result.andThen]
    · simp [Instr.sliceAt, run_underlying hu w, Instr.slice, Instr.sliceBounds, sizeOf, typeInfo, hq, hs, hc, hb, Result.andThen]
      cases ad with
      | none => rfl
      | some x => simp [hx]
/-- 's[:k]': a slice that reads as the first k bytes, whatever the world in which it is cut. -/
theorem takeB {w : World} {v : Value} {l : List UInt8} (h : Bs w v l) (k : Nat) (hk : k ≤ l.length) :
    ∃ v', Bs w v' (l.take k) ∧ ∀ (ρ : Operand → Value) (x hi : Operand) (t : TypeId) (w0 : World), ρ x = v → ρ hi = .int .i64 (k : Int) → (execOp ρ (mkOp (.slice 22 x none (some hi) none) t)).run Try.prog w0 = .ok (.value v') w0 := by
  obtain ⟨ad, n, cap, rfl, hn, hc1, hc2, hB⟩ := h.shape
  refine ⟨_, hB.take (k := k) (by omega), fun ρ x hi t w0 hx hh => ?_⟩
  simp [execOp, mkOp, hx, hh, run_toB (P := Try.prog) w0 22 5 ad n cap k Try.underlying22 (by kernel_rfl) (by omega), Result.andThen]
/-- 's[k:]'. -/
theorem dropB {w : World} {v : Value} {l : List UInt8} (h : Bs w v l) (k : Nat) (hk : k ≤ l.length) :
    ∃ v', Bs w v' (l.drop k) ∧ ∀ (ρ : Operand → Value) (x lo : Operand) (t : TypeId) (w0 : World), ρ x = v → ρ lo = .int .i64 (k : Int) → (execOp ρ (mkOp (.slice 22 x (some lo) none none) t)).run Try.prog w0 = .ok (.value v') w0 := by
  obtain ⟨ad, n, cap, rfl, hn, hc1, hc2, hB⟩ := h.shape
  refine ⟨_, hB.drop (k := k) (by omega), fun ρ x lo t w0 hx hh => ?_⟩
  simp [execOp, mkOp, hx, hh, run_sliceFrom (P := Try.prog) w0 22 5 ad n cap k .i64 Try.underlying22 (by kernel_rfl) (by omega), Result.andThen]
theorem exec_rowsP2 (ρ : Operand → Value) (x y : Operand) (t : TypeId) (w : World) {v1 v2 : Value} {l1 l2 : List UInt8} (h1 : Bs w v1 l1) (h2 : Bs w v2 l2) (hx : ρ x = v1) (hy : ρ y = v2) :
    (execOp ρ (mkOp (.buildSlice 23 2 #[(0, x), (1, y)]) t)).run Try.prog w = .ok (.value (.slice (some ⟨w.heap.size, 0, none⟩) 2 2)) (w.alloc (.cells #[v1, v2] 22)) := by
  obtain ⟨a1, c1, rfl, _⟩ := h1
  obtain ⟨a2, c2, rfl, _⟩ := h2
  exact exec_rows2 ρ x y t w a1 a2 _ c1 _ c2 hx hy
theorem wpList_load_asg {P : Program} {ops : Array Oper} {rest : List Oper} {o : Oper} {a : Act} {w : World} {Q : Exit → Act → World → Prop} (hw : Region.wanted o (yielded ops a.tmps) = true) (ty : TypeId) (x : Operand) (ho : o.op = .load ty x) (k : Nat) (F : Nat → Value) (ht : IsArr P ty k) {b m off : Nat} {t : TypeId} {f : Nat → Value}
    (hr : w.rowIs b t m f) (hx : a.eval x = .pointer (some ⟨b, off, none⟩)) (hk : off + k ≤ m) (hF : ∀ i, i < k → f (off + i) = F i) (h : wpList P ops Q rest (a.put o.dst (.agg (arrOf k F))) w) : wpList P ops Q (o :: rest) a w :=
  wpList_value_given hw (.agg (arrOf k F)) (by rw [exec_mkOp, ho]; exact exec_load_as a.eval ty x o.type F hx ht hr hk hF) h
theorem Owns.one (w : World) (b : UInt8) : Owns (w.alloc (.cells #[.int .u8 (b.toNat : Int)] 5)) w.heap.size (.slice (some ⟨w.heap.size, 0, none⟩) 1 1) [b] :=
  Owns.of_row (f := fun _ => .int .u8 (b.toNat : Int)) (rowIs_arr w 1 (fun _ => .int .u8 (b.toNat : Int)) 5) (Nat.le_refl _) (by decide) rfl (fun i hi => by
    have h : i = 0 := by simp at hi; omega
    subst h
    rfl)
theorem Owns.belowJ {w w' : World} {base : Nat} {v : Value} {l : List UInt8} (h : Owns w base v l) (hb : Below w.heap.size w w') : Owns w' base v l := by
  obtain ⟨h1, h2⟩ := h
  refine ⟨h1, ?_⟩
  rcases h2 with h2 | ⟨g, cap, cur, rfl, hbg, hg, h3⟩
  · exact .inl h2
  · exact .inr ⟨g, cap, cur, rfl, hbg, (hb.block g (Array.getElem?_eq_some_iff.1 hg).1).trans hg, h3⟩
/-- Bytes of one's own, made anew. -/
theorem wpList_make32 {ops : Array Oper} {rest : List Oper} {o : Oper} {a : Act} {w : World} {Q : Exit → Act → World → Prop} (hgd : o.guard = none) (ho : o.op = .makeSlice 22 (.const (.int .i64 32)) (.const (.int .i64 32)))
    (h : ∀ b w', w.heap.size ≤ b → Owns w' b (.slice (some ⟨b, 0, none⟩) 32 32) (List.replicate 32 0) → Below w.heap.size w w' → wpList Try.prog ops Q rest (a.put o.dst (.slice (some ⟨b, 0, none⟩) 32 32)) w') : wpList Try.prog ops Q (o :: rest) a w := by
  have hr := exec_make32 a o.type w
  exact wpList_plain hgd fun _ hK => by
    unfold Oper.wp
    rw [exec_mkOp, ho, hr]
    exact hK _ _ (h _ _ (Nat.le_refl _) (made_own w 32 (by unfold maxLen; omega)) ((Below.refl _ _).alloc (Nat.le_refl _) _))
theorem ret_cell_as_tmp {P : Program} {a : Act} {w : World} {fn : Func} {R : Ending → World → Prop} {p q : Tmp} {ty : TypeId} {k b m : Nat} {t : TypeId} {f : Nat → Value} {v : Value} (Fv : Nat → Value) (h : fn.results = #[.cell p ty, .tmp q]) (ht : IsArr P ty k)
    (hr : w.rowIs b t m f) (hp : a.tmps.getD p undef = .pointer (some ⟨b, 0, none⟩)) (hq : a.tmps.getD q undef = v) (hk : k ≤ m) (hF : ∀ i, i < k → f i = Fv i) (hd : a.defers = []) (hR : R (.returned (.tuple #[.agg (arrOf k Fv), v])) w) : bodyPost P fn R .ret a w :=
  ret_cell_arr_tmp h ht hr hp hq (by omega) hd (by rw [arrOf_congr (g := Fv) fun i hi => by rw [Nat.zero_add]; exact hF i hi]; exact hR)
theorem bs_cell {W : World} {gb off n c : Nat} {l : List UInt8} (h : Bs W (.slice (some ⟨gb, off, none⟩) n c) l) (i : Nat) (hi : i < l.length) : W.cell? ⟨gb, off + i, none⟩ = some (.int .u8 ((l[i].toNat : Nat) : Int)) := by
  obtain ⟨_, _, he, _, _, _, hc9⟩ := h
  injection he with he1 he2 he3
  have h10 := (hc9 _ he1.symm i hi).2
  rwa [add_eq] at h10
end Go.Proofs.Ytonhpmaiagbheaa

/- The forms of a number: its bytes with the highest bit set, the bytes of p and a small number; what Strict and Of read of them. -/
set_option linter.unusedSimpArgs false
set_option linter.unusedVariables false
namespace Go.Proofs.Ytonhpmaiagbheaa
open Go.RowKit Go.Deep

theorem litB_at (V n i : Nat) (h : i < (litB V n).length) : (litB V n)[i] = UInt8.ofNat (V / 256 ^ i) := by
  rw [← getD_at _ i h]
  exact litB_getD V n i (by rwa [litB_length] at h)
theorem litB_set (V U i : Nat) (hsame : ∀ j, j < 32 → j ≠ i → V / 256 ^ j % 256 = U / 256 ^ j % 256) : (litB V 32).set i (UInt8.ofNat (U / 256 ^ i)) = litB U 32 := by
  refine List.ext_getElem (by simp [litB_length]) fun j h1 h2 => ?_
  rw [List.getElem_set]
  rw [litB_at U 32 j h2]
  split
  · subst j; rfl
  · rw [litB_at]
    apply UInt8.toNat_inj.1
    simp only [UInt8.toNat_ofNat']
    rw [litB_length] at h2
    exact hsame j h2 (by omega)
theorem high_same (A j : Nat) (hj : j < 31) : A / 256 ^ j % 256 = (A + top) / 256 ^ j % 256 := by
  have h1 : (256 : Nat) ^ j * 256 * 256 ^ (30 - j) = 256 ^ 31 := by
    rw [← Nat.pow_succ, ← Nat.pow_add]
    congr 1
    omega
  have h2 : top = 256 ^ j * (256 * (256 ^ (30 - j) * 128)) := by
    have h3 : top = 256 ^ 31 * 128 := by decide +kernel
    rw [h3, ← h1]
    simp only [Nat.mul_assoc]
  rw [h2, Nat.add_mul_div_left _ _ (pow256_pos j), Nat.add_mul_mod_self_left]
/-- The highest bit set. -/
theorem high_set (A : Nat) : (litB A 32).set 31 (UInt8.ofNat ((A + top) / 256 ^ 31)) = litB (A + top) 32 :=
  litB_set A (A + top) 31 fun j h1 h2 => high_same A j (by omega)
theorem high_lt (A : Nat) (h : A < p25) : A / 256 ^ 31 < 128 := by
  rw [Nat.div_lt_iff_lt_mul (pow256_pos 31)]
  exact Nat.lt_of_lt_of_le h (by decide +kernel)
theorem high_old (A : Nat) (h : A < p25) : (UInt8.ofNat (A / 256 ^ 31)).toNat = A / 256 ^ 31 := UInt8.toNat_ofNat_of_lt' (Nat.lt_trans (high_lt A h) (by decide))
theorem or_128 (q : Nat) (h : q < 128) : bits .or .u8 (q : Int) 128 = ((q + 128 : Nat) : Int) := by
  have g : ∀ q : Fin 128, bits .or .u8 ((q.val : Nat) : Int) 128 = ((q.val + 128 : Nat) : Int) := by decide +kernel
  exact g ⟨q, h⟩
theorem top_two : 256 ^ 32 = 2 * top := by decide +kernel
theorem numL_lit (V : Nat) (h : V < 2 * top) : numL (litB V 32) 32 = V := by
  rw [numL_litB V 32 32 (Nat.le_refl _), Nat.mod_eq_of_lt (by rw [top_two]; exact h)]
end Go.Proofs.Ytonhpmaiagbheaa

/- Points and their forms, in numbers: what 32 bytes stand for, and back. -/
set_option linter.unusedSimpArgs false
set_option linter.unusedVariables false
namespace Go.Proofs.Ytonhpmaiagbheaa

def decS (Y : Nat) : Nat := mulP (subP p25 (mulP Y Y) 1) (invP (addP (mulP dP (mulP Y Y)) 1))
/-- The even x of y, if there is one. -/
def decX (Y : Nat) : Option Nat := rootL p25 t25 (decS Y)
/-- The point that the bytes stand for. -/
def decN (l : List UInt8) : Option (Nat × Nat) :=
  if l.length = 32 ∧ numL l 32 % top < p25 then
    (decX (numL l 32 % top)).bind fun x => if numL l 32 / top = 1 ∧ x = 0 then none else some (if numL l 32 / top = 1 then oppP x else x, numL l 32 % top)
  else none
/-- A point's form. -/
def encN (P : Nat × Nat) : Nat := P.2 + P.1 % 2 * top

theorem decS_lt (Y : Nat) : decS Y < p25 := mulP_lt _ _
theorem one_ltp : 1 < p25 := by decide +kernel
theorem v_ne (Y : Nat) : ¬ Z ((addP (mulP dP (mulP Y Y)) 1 : Nat) : Int) := fun h => by
  have h1 := Z_addP (mulP dP (mulP Y Y)) 1
  have h2 := Z_mulP dP (mulP Y Y)
  have h3 := Z_mulP Y Y
  have hd := d_c
  refine c_sqn (Y : Int) ?_
  generalize ((addP (mulP dP (mulP Y Y)) 1 : Nat) : Int) = v at *
  generalize ((mulP dP (mulP Y Y) : Nat) : Int) = m at *
  generalize ((mulP Y Y : Nat) : Int) = s at *
  generalize ((dP : Nat) : Int) = d at *
  generalize (Y : Int) = y at *
  generalize cE = c at *
  have k : Z (c + y * y - (c * v - y * y * (c * d - 1))) := by
    have e1 : Z (v - (d * s + 1)) := Z.lin2 1 1 h1 h2 (by grind)
    exact Z.lin2 (-c) (-(c * d)) e1 h3 (by grind)
  exact Z.lin3 1 c (-(y * y)) k h hd (by grind)
/-- What decX takes the root of, told without a quotient. -/
theorem decS_Z (Y : Nat) : Z ((decS Y : Int) * ((dP : Int) * ((Y : Int) * Y) + 1) - ((Y : Int) * Y - 1)) := by
  have hv := v_ne Y
  have h1 := Z_addP (mulP dP (mulP Y Y)) 1
  have h2 := Z_mulP dP (mulP Y Y)
  have h3 := Z_mulP Y Y
  have h4 := Z_subP (mulP Y Y) 1
  have h5 := Z_invP (addP_lt (mulP dP (mulP Y Y)) 1) hv
  have h6 := Z_mulP (subP p25 (mulP Y Y) 1) (invP (addP (mulP dP (mulP Y Y)) 1))
  have e : (mulP (subP p25 (mulP Y Y) 1) (invP (addP (mulP dP (mulP Y Y)) 1)) : Nat) = decS Y := rfl
  rw [e] at h6
  generalize ((decS Y : Nat) : Int) = q at *
  generalize ((invP (addP (mulP dP (mulP Y Y)) 1) : Nat) : Int) = i at *
  generalize ((addP (mulP dP (mulP Y Y)) 1 : Nat) : Int) = v at *
  generalize ((subP p25 (mulP Y Y) 1 : Nat) : Int) = u at *
  generalize ((mulP dP (mulP Y Y) : Nat) : Int) = m at *
  generalize ((mulP Y Y : Nat) : Int) = s at *
  generalize ((dP : Nat) : Int) = d at *
  generalize (Y : Int) = y at *
  have e1 : Z (v - (d * (y * y) + 1)) := Z.lin3 1 1 d h1 h2 h3 (by grind)
  have e2 : Z (u - (y * y - 1)) := Z.lin2 1 1 h4 h3 (by grind)
  have e3 : Z (q * v - u) := Z.lin2 v u h6 h5 (by grind)
  exact Z.lin3 1 1 (-q) e3 e2 e1 (by grind)
/-- On the curve just if x squared is it. -/
theorem onE_decS {x Y : Nat} (hx : x < p25) (hY : Y < p25) : onE (x, Y) ↔ mulP x x = decS Y := by
  have h1 := decS_Z Y
  have h2 := Z_mulP x x
  have hd := d_c
  have hc := c_ne
  have hn := v_ne Y
  have ha := Z_addP (mulP dP (mulP Y Y)) 1
  have hm := Z_mulP dP (mulP Y Y)
  have hs := Z_mulP Y Y
  constructor
  · rintro ⟨_, _, h⟩
    unfold EC at h
    refine Z.eq (mulP_lt _ _) (decS_lt _) ?_
    dsimp only at h
    generalize ((addP (mulP dP (mulP Y Y)) 1 : Nat) : Int) = v at *
    generalize ((mulP dP (mulP Y Y) : Nat) : Int) = m at *
    generalize ((mulP Y Y : Nat) : Int) = s at *
    generalize ((decS Y : Nat) : Int) = q at *
    generalize ((mulP x x : Nat) : Int) = z at *
    generalize ((dP : Nat) : Int) = d at *
    generalize (x : Int) = X at *
    generalize (Y : Int) = y at *
    generalize cE = c at *
    have ev : Z (v - (d * (y * y) + 1)) := Z.lin3 1 1 d ha hm hs (by grind)
    -- c v (x x - q) = 0
    have k1 : Z (c * ((X * X) * (d * (y * y) + 1) - (y * y - 1))) := Z.lin2 1 (X * X * (y * y)) h hd (by grind)
    have k2 : Z ((X * X) * (d * (y * y) + 1) - (y * y - 1)) := Z.cancel k1 hc
    have k3 : Z (v * (z - q)) := by
      have k4 : Z (z * (d * (y * y) + 1) - (y * y - 1)) := Z.lin2 1 (d * (y * y) + 1) k2 h2 (by grind)
      have k5 : Z ((d * (y * y) + 1) * (z - q)) := Z.lin2 1 (-1) k4 h1 (by grind)
      exact Z.lin2 1 (z - q) k5 ev (by grind)
    exact Z.cancel k3 hn
  · intro h
    refine ⟨hx, hY, ?_⟩
    unfold EC
    dsimp only
    rw [h] at h2
    generalize ((decS Y : Nat) : Int) = q at *
    generalize ((dP : Nat) : Int) = d at *
    generalize (x : Int) = X at *
    generalize (Y : Int) = y at *
    generalize cE = c at *
    have k2 : Z ((X * X) * (d * (y * y) + 1) - (y * y - 1)) := Z.lin2 1 (-(d * (y * y) + 1)) h1 h2 (by grind)
    exact Z.lin2 c (-(X * X * (y * y))) k2 hd (by grind)
theorem decX_some {Y x : Nat} (hY : Y < p25) (h : decX Y = some x) : onE (x, Y) ∧ x % 2 = 0 := by
  obtain ⟨h1, h2, h3⟩ := rootL_some prime_p25 t25_eq (decS_lt Y) h
  exact ⟨(onE_decS h3 hY).2 h1, h2⟩
theorem decX_of {x Y : Nat} (h : onE (x, Y)) : ∃ r, decX Y = some r ∧ (r = x ∨ r = oppP x) ∧ r % 2 = 0 ∧ r < p25 := by
  have h1 := (onE_decS h.1 h.2.1).1 h
  obtain ⟨r, hr, _, h3, h4, h5⟩ := root_square x h.1
  rw [h1] at hr
  exact ⟨r, hr, h5, h3, h4⟩
theorem oppP_odd {x : Nat} (hx : x < p25) (h0 : x ≠ 0) : oppP x % 2 = 1 - x % 2 := by
  have e : oppP x = p25 - x := by
    unfold oppP subP negP
    rw [Nat.zero_add, Nat.mod_mod, Nat.mod_eq_of_lt hx, Nat.mod_eq_of_lt (by omega)]
  have hp : p25 % 2 = 1 := by decide +kernel
  rw [e]
  omega
theorem top_pos' : 0 < top := by decide +kernel
theorem p25_ltop : p25 < top := by decide +kernel
theorem decN_some {l : List UInt8} {P : Nat × Nat} (h : decN l = some P) : l.length = 32 ∧ onE P ∧ encN P = numL l 32 := by
  unfold decN at h
  split at h
  · rename_i hc
    obtain ⟨hl, hY⟩ := hc
    refine ⟨hl, ?_⟩
    cases hx : decX (numL l 32 % top) with
    | none => rw [hx] at h; cases h
    | some x =>
      rw [hx, Option.bind_some] at h
      obtain ⟨hE, he⟩ := decX_some hY hx
      have hn : numL l 32 < 256 ^ 32 := numL_lt l 32
      rw [top_two] at hn
      have hdm := Nat.div_add_mod (numL l 32) top
      have hq : numL l 32 / top < 2 := by rw [Nat.div_lt_iff_lt_mul top_pos']; exact hn
      split at h
      · cases h
      · rename_i hz
        have e := Option.some.inj h
        by_cases h1 : numL l 32 / top = 1
        · rw [if_pos h1] at e
          have hx0 : x ≠ 0 := fun hx0 => hz ⟨h1, hx0⟩
          have ho := oppP_odd hE.1 hx0
          subst e
          refine ⟨negE_on hE, ?_⟩
          unfold encN
          dsimp only
          rw [ho, he, show 1 - 0 = 1 from rfl, Nat.one_mul]
          rw [h1] at hdm
          omega
        · rw [if_neg h1] at e
          have h0 : numL l 32 / top = 0 := by
            clear hdm
            generalize numL l 32 / top = q at *
            omega
          subst e
          refine ⟨hE, ?_⟩
          unfold encN
          dsimp only
          rw [he, Nat.zero_mul]
          rw [h0] at hdm
          omega
  · cases h
theorem encN_lt {P : Nat × Nat} (hP : onE P) : encN P < 2 * top := by
  have h1 := hP.2.1
  have h2 := p25_ltop
  have h3 : P.1 % 2 < 2 := Nat.mod_lt _ (by decide)
  unfold encN
  generalize P.1 % 2 = b at *
  generalize top = t at *
  rcases (show b = 0 ∨ b = 1 by omega) with rfl | rfl <;> omega
theorem encN_mod {P : Nat × Nat} (hP : onE P) : encN P % top = P.2 ∧ encN P / top = P.1 % 2 := by
  have h1 := Nat.lt_trans hP.2.1 p25_ltop
  unfold encN
  rw [Nat.add_mul_mod_self_right, Nat.mod_eq_of_lt h1, Nat.add_mul_div_right _ _ top_pos', Nat.div_eq_of_lt h1, Nat.zero_add]
  exact ⟨rfl, rfl⟩
theorem decN_enc {P : Nat × Nat} (hP : onE P) : decN (litB (encN P) 32) = some P := by
  have hn := numL_lit (encN P) (encN_lt hP)
  obtain ⟨h1, h2⟩ := encN_mod hP
  unfold decN
  rw [hn, h1, h2, if_pos ⟨litB_length _ _, hP.2.1⟩]
  obtain ⟨r, hr, hrx, hre, hrl⟩ := decX_of (x := P.1) (Y := P.2) hP
  rw [hr, Option.bind_some]
  by_cases hb : P.1 % 2 = 1
  · have h0 : P.1 ≠ 0 := fun h => by rw [h] at hb; cases hb
    have hro : r = oppP P.1 := by
      rcases hrx with e | e
      · rw [e] at hre; omega
      · exact e
    have hr0 : r ≠ 0 := fun h => oppP_ne hP.1 h0 (by rw [← hro, h])
    rw [if_neg (fun h => hr0 h.2), if_pos hb, hro, oppP_oppP _ hP.1]
  · have hrp : r = P.1 := by
      rcases hrx with e | e
      · exact e
      · by_cases h0 : P.1 = 0
        · rw [e, h0, oppP_zero]
        · have := oppP_odd hP.1 h0
          rw [← e] at this
          omega
    rw [if_neg (fun h => hb h.1), if_neg hb, hrp]
end Go.Proofs.Ytonhpmaiagbheaa

/- A scalar's number as clamping makes it; the document's Clamp. -/
set_option linter.unusedSimpArgs false
set_option linter.unusedVariables false
namespace Go.Proofs.Ytonhpmaiagbheaa
open Go.RowKit Go.Deep

/-- The number of a clamped scalar. -/
def clampN (l : List UInt8) : Nat := numL l 32 % 2 ^ 254 / 8 * 8 + 2 ^ 254
theorem clampN_clamped (l : List UInt8) : Clamped (clampN l) := by
  unfold clampN
  have h : numL l 32 % 2 ^ 254 < 2 ^ 254 := Nat.mod_lt _ (Nat.pow_pos (by decide))
  generalize numL l 32 % 2 ^ 254 = r at h
  have h8 : (2 : Nat) ^ 254 = 8 * 2 ^ 251 := by decide +kernel
  have h2 : (2 : Nat) ^ 255 = 16 * 2 ^ 251 := by decide +kernel
  generalize (2 : Nat) ^ 251 = t at *
  refine ⟨Nat.le_add_left _ _, by omega, ⟨r / 8 + t, ?_⟩⟩
  omega
def byteN (K i : Nat) : Nat := K / 256 ^ i % 256
theorem byteN_lt (K i : Nat) : byteN K i < 256 := Nat.mod_lt _ (by decide)
theorem byteN_numL (l : List UInt8) (i : Nat) (h : i < 32) : byteN (numL l 32) i = (l.getD i 0).toNat := numL_dig l 32 i h
theorem clamp_low (l : List UInt8) : byteN (clampN l) 0 = (l.getD 0 0).toNat / 8 * 8 := by
  rw [← byteN_numL l 0 (by decide)]
  unfold byteN clampN
  rw [Nat.pow_zero, Nat.div_one, Nat.div_one]
  have h8 : (2 : Nat) ^ 254 = 256 * 2 ^ 246 := by decide +kernel
  rw [h8]
  have h := Nat.mod_mul_right_mod (numL l 32) 256 (2 ^ 246)
  generalize (2 : Nat) ^ 246 = t at *
  generalize numL l 32 = N at *
  generalize N % (256 * t) = r at *
  omega
theorem clamp_mid (l : List UInt8) (i : Nat) (h0 : 0 < i) (h31 : i < 31) : byteN (clampN l) i = (l.getD i 0).toNat := by
  rw [← byteN_numL l i (by omega)]
  unfold byteN clampN
  obtain ⟨j, rfl⟩ : ∃ j, i = j + 1 := ⟨i - 1, by omega⟩
  have e : (2 : Nat) ^ 254 = 256 ^ (j + 1) * (256 * (256 ^ (29 - j) * 64)) := by
    have h1 : (256 : Nat) ^ (j + 1) * 256 * 256 ^ (29 - j) = 256 ^ 31 := by
      rw [← Nat.pow_succ, ← Nat.pow_add]
      congr 1
      omega
    have h3 : (2 : Nat) ^ 254 = 256 ^ 31 * 64 := by decide +kernel
    rw [h3, ← h1]
    simp only [Nat.mul_assoc]
  rw [e]
  generalize 256 ^ (29 - j) * 64 = t
  rw [Nat.add_mul_div_left _ _ (pow256_pos (j + 1)), Nat.add_mul_mod_self_left]
  have h2 : numL l 32 % (256 ^ (j + 1) * (256 * t)) / 8 * 8 / 256 ^ (j + 1) = numL l 32 % (256 ^ (j + 1) * (256 * t)) / 256 ^ (j + 1) := by
    generalize numL l 32 % (256 ^ (j + 1) * (256 * t)) = r
    have hp : (256 : Nat) ^ (j + 1) = 8 * (32 * 256 ^ j) := by rw [Nat.pow_succ]; omega
    rw [hp]
    generalize 32 * 256 ^ j = z
    rw [← Nat.div_div_eq_div_mul, ← Nat.div_div_eq_div_mul, Nat.mul_div_cancel _ (by decide)]
  rw [h2, Nat.mod_mul_right_div_self, Nat.mod_mul_right_mod]
theorem clamp_high (l : List UInt8) : byteN (clampN l) 31 = (l.getD 31 0).toNat % 64 + 64 := by
  rw [← byteN_numL l 31 (by decide)]
  unfold byteN clampN
  have e : (2 : Nat) ^ 254 = 256 ^ 31 * 64 := by decide +kernel
  have hp : (256 : Nat) ^ 31 = 8 * (32 * 256 ^ 30) := by decide +kernel
  have h2 : numL l 32 % (256 ^ 31 * 64) / 8 * 8 / 256 ^ 31 = numL l 32 % (256 ^ 31 * 64) / 256 ^ 31 := by
    generalize numL l 32 % (256 ^ 31 * 64) = r
    rw [hp]
    generalize 32 * 256 ^ 30 = z
    rw [← Nat.div_div_eq_div_mul, ← Nat.div_div_eq_div_mul, Nat.mul_div_cancel _ (by decide)]
  rw [e, Nat.add_mul_div_left _ _ (pow256_pos 31), h2, Nat.mod_mul_right_div_self]
  generalize numL l 32 / 256 ^ 31 = q
  omega
end Go.Proofs.Ytonhpmaiagbheaa

/- Operations on bytes, one at a time: quotients and remainders by 8, shifts, masks. -/
namespace Go.Proofs.Ytonhpmaiagbheaa
open Go.RowKit Go.Deep
set_option linter.unusedSimpArgs false
set_option linter.unusedVariables false

end Go.Proofs.Ytonhpmaiagbheaa

/- The document's points: the point that bytes stand for. -/
set_option linter.unusedSimpArgs false
set_option linter.unusedVariables false
namespace Go.Proofs.Ytonhpmaiagbheaa
open Go.RowKit Go.Deep

/-- What Decode strikes off. -/
def cutB (l : List UInt8) : List UInt8 := l.set 31 (UInt8.ofNat ((l.getD 31 0).toNat % 128))
theorem owns_cap {W : World} {base g n c : Nat} {l : List UInt8} (h : Owns W base (.slice (some ⟨g, 0, none⟩) n c) l) : n ≤ c := by
  obtain ⟨_, _, he, hc, _⟩ := h.bs
  injection he with he1 he2 he3
  subst he3
  subst he2
  exact hc
theorem wpList_load_cat {ops : Array Oper} {rest : List Oper} {o : Oper} {a : Act} {w : World} {Q : Exit → Act → World → Prop} (hgd : o.guard = none) (x : Operand) (ho : o.op = .load 5 x) {ad : Addr} {q : Nat} (hc : w.cell? ad = some (.int .u8 (q : Int)))
    (hx : a.eval x = .pointer (some ad)) (h : wpList Try.prog ops Q rest (a.put o.dst (.int .u8 (q : Int))) w) : wpList Try.prog ops Q (o :: rest) a w := by
  refine wpList_value hgd _ ?_ h
  rw [exec_mkOp, ho]
  exact exec_load_cell a.eval 5 x o.type hx (by kernel_rfl) hc
theorem numL_cut (l : List UInt8) (h : l.length = 32) : numL (cutB l) 32 = numL l 32 % top ∧ numL l 32 / top = (l.getD 31 0).toNat / 128 := by
  have e1 : ∀ k, k ≤ 31 → numL (cutB l) k = numL l k := by
    intro k
    induction k with
    | zero => intro _; rfl
    | succ k ih =>
      intro hk
      rw [numL, numL, ih (by omega)]
      congr 2
      unfold cutB
      rw [List.getD_eq_getElem?_getD, List.getElem?_set_ne (by omega), List.getD_eq_getElem?_getD]
  have hq : (l.getD 31 0).toNat < 256 := UInt8.toNat_lt _
  have e2 : ((cutB l).getD 31 0).toNat = (l.getD 31 0).toNat % 128 := by
    unfold cutB
    rw [List.getD_eq_getElem?_getD, List.getElem?_set_self (by omega)]
    exact UInt8.toNat_ofNat_of_lt' (show _ % 128 < 256 by omega)
  have ht : top = 256 ^ 31 * 128 := by decide +kernel
  have hn := numL_lt l 31
  rw [show numL (cutB l) 32 = numL (cutB l) 31 + ((cutB l).getD 31 0).toNat * 256 ^ 31 from rfl, show numL l 32 = numL l 31 + (l.getD 31 0).toNat * 256 ^ 31 from rfl, e1 31 (Nat.le_refl _), e2, ht]
  generalize (l.getD 31 0).toNat = q at *
  generalize numL l 31 = n at *
  have hp : 0 < 256 ^ 31 := Nat.pow_pos (by decide)
  generalize 256 ^ 31 = t at *
  have hdm := Nat.div_add_mod q 128
  have hr : q % 128 < 128 := Nat.mod_lt _ (by decide)
  have hq2 : q / 128 < 2 := by omega
  generalize q / 128 = a at *
  generalize q % 128 = r at *
  have e3 : n + q * t = n + r * t + t * 128 * a := by
    rw [← hdm, Nat.add_mul]
    rw [Nat.mul_right_comm, Nat.mul_comm 128 t]
    omega
  have e4 : n + r * t < t * 128 := by
    have h5 : (r + 1) * t ≤ 128 * t := Nat.mul_le_mul_right t (by omega)
    rw [Nat.add_mul, Nat.one_mul] at h5
    rw [Nat.mul_comm t 128]
    omega
  constructor
  · rw [e3, Nat.add_mul_mod_self_left, Nat.mod_eq_of_lt e4]
  · rw [e3, Nat.add_mul_div_left _ _ (by omega), Nat.div_eq_of_lt e4, Nat.zero_add]
theorem strict_cut (l : List UInt8) (h : l.length = 32) : strictL (cutB l) = if numL l 32 % top < p25 then some (numL l 32 % top) else none := by
  rw [strictL_eq, (numL_cut l h).1]
  have hl : (cutB l).length = 32 := by unfold cutB; rw [List.length_set, h]
  by_cases hp : numL l 32 % top < p25
  · rw [if_pos ⟨hl, hp⟩, if_pos hp]
  · rw [if_neg (fun k => hp k.2), if_neg hp]
end Go.Proofs.Ytonhpmaiagbheaa

/- The document's points: the point that bytes stand for, where y is below p. -/
namespace Go.Proofs.Ytonhpmaiagbheaa
open Go.RowKit Go.Deep
set_option linter.unusedSimpArgs false
set_option linter.unusedVariables false

end Go.Proofs.Ytonhpmaiagbheaa

/- The document's numbers below L, bytes, the greatest first: order, above. -/
namespace Go.Proofs.Ytonhpmaiagbheaa
open Go.RowKit Go.Deep
set_option linter.unusedSimpArgs false
set_option linter.unusedVariables false

/-- The cells of a number's n bytes, the greatest first. -/
def bF (n V : Nat) : Nat → Value := fun i => .int .u8 ((byteN V (n - 1 - i) : Nat) : Int)
set_option maxRecDepth 10000 in
theorem refOrder_any (w : World) : Calls Try.prog 30 #[] w fun e w' => e = .returned (.slice (some ⟨w.heap.size, 0, none⟩) 32 32) ∧ w'.rowIs w.heap.size 5 32 (bF 32 ordL) ∧ Below w.heap.size w w' := by
  go_enter Try.func30, Try.ntmps30
  go_wp2
  go_ret
  refine ⟨rfl, ?_, (Below.refl _ _).alloc (Nat.le_refl _) _⟩
  have h := rowIs_arr w 32 (bF 32 ordL) 5
  have e : arrOf 32 (bF 32 ordL) = #[Value.int .u8 0x10, .int .u8 0, .int .u8 0, .int .u8 0, .int .u8 0, .int .u8 0, .int .u8 0, .int .u8 0, .int .u8 0, .int .u8 0, .int .u8 0, .int .u8 0, .int .u8 0, .int .u8 0, .int .u8 0, .int .u8 0, .int .u8 0x14, .int .u8 0xde, .int .u8 0xf9, .int .u8 0xde, .int .u8 0xa2, .int .u8 0xf7, .int .u8 0x9c, .int .u8 0xd6, .int .u8 0x58, .int .u8 0x12, .int .u8 0x63, .int .u8 0x1a, .int .u8 0x5c, .int .u8 0xf5, .int .u8 0xd3, .int .u8 0xed] := by kernel_rfl
  rw [e] at h
  exact h
theorem ordL_lt : ordL < 256 ^ 32 := by decide +kernel
end Go.Proofs.Ytonhpmaiagbheaa

/- The document's bytes the other way round. -/
namespace Go.Proofs.Ytonhpmaiagbheaa
open Go.RowKit Go.Deep
set_option linter.unusedSimpArgs false
set_option linter.unusedVariables false

theorem rev_step (l : List UInt8) (k : Nat) (h : k < l.length) : (l.drop k).reverse = (l.drop (k + 1)).reverse ++ [l[k]] := by
  rw [List.drop_eq_getElem_cons h, List.reverse_cons]
set_option maxHeartbeats 1000000 in
theorem refTurned_any (v : Value) (l : List UInt8) (w : World) (hv : Bs w v l) (hl : l.length ≤ 1000000) :
    Calls Try.prog 29 #[v] w fun e w' => ∃ v', e = .returned v' ∧ Owns w' w.heap.size v' l.reverse ∧ Below w.heap.size w w' := by
  obtain ⟨a, n, cap, rfl, hn, hc1, hc2, hB0⟩ := hv.shape
  have HV := Lib.hid hB0
  have HN := Lib.hid hn
  have hnl : n ≤ 1000000 := by omega
  have hwn : IntKind.i64.wrap ((n : Int) - 1) = (n : Int) - 1 := IntWalk.i64_in _ (by omega)
  have hown := Owns.nil w w.heap.size
  have hbel := Below.refl w.heap.size w
  clear hv hB0
  go_enter Try.func29, Try.ntmps29
  go_wp2
  generalize hg0 : w.heap.size = g0 at *
  have HG := Lib.hid hg0
  have HGS : Hid (∀ wq : World, Below g0 w wq → g0 ≤ wq.heap.size) := Lib.hid fun wq h => by rw [← HG.out]; exact h.size
  clear hg0 hn
  go_loopw [3, 4] (fun out ii wr => ∃ j : Nat, j ≤ n ∧ ii = .int .i64 ((j : Int) - 1) ∧ Owns wr g0 out (l.drop j).reverse ∧ Below g0 w wr) (fun _ ii _ => ((intOf ii) + 1).toNat)
  case atStart => exact ⟨n, Nat.le_refl _, rfl, by rw [List.drop_eq_nil_of_le (by rw [HN.out]; exact Nat.le_refl _)]; exact hown, hbel⟩
  case round =>
    clear hown hbel
    obtain ⟨j, hj, rfl, hown, hbel⟩ := hrel
    cases j with
    | zero =>
      go_wp2
      go_ret
      exact ⟨_, rfl, by rw [HG.out]; exact hown, by rw [HG.out]; exact hbel⟩
    | succ k =>
      have hk : k < n := by omega
      rw [show ((k + 1 : Nat) : Int) - 1 = (k : Int) by omega]
      have hk0 : 0 ≤ (k : Int) ∧ (k : Int) < (n : Int) := by omega
      obtain ⟨b, off, cap', he, _, _, hbl, hc⟩ := HV.out.open_n HN.out (by omega)
      cases he
      have hkl : k < l.length := by rw [HN.out]; exact hk
      have hci := hc k hkl
      have hci2 := (hbel.cell (p := ⟨b, off + k, none⟩) (by rw [← HG.out]; exact hbl)).trans hci
      have HST := Lib.hid (rev_step l k hkl)
      obtain ⟨x, hx⟩ : ∃ x, x = l[k] := ⟨_, rfl⟩
      rw [← hx] at hci2 HST
      have hob := hown.alloc (.cells #[.int .u8 (x.toNat : Int)] 5)
      have hbx := Bs.one wr x
      have hb1 := hbel.alloc (HGS.out _ hbel) (.cells #[.int .u8 (x.toNat : Int)] 5)
      have hge := HGS.out _ hb1
      have hll : (l.drop (k + 1)).reverse.length ≤ 1000000 := by rw [List.length_reverse, List.length_drop]; omega
      have hwk : IntKind.i64.wrap ((k : Int) - 1) = (k : Int) - 1 := IntWalk.i64_in _ (by omega)
      clear hci hc hx hown hbel hkl
      go_wp2_with (refine wpList_app rfl (.tmp 12) (.tmp 17) rfl g0 _ _ ((l.drop (k + 1)).reverse) [x] hob hbx rfl rfl (by simp only [List.length_cons, List.length_nil]; omega) hge ?_; intro v6 w6 hown6 hg6)
      have hbel6 : Below g0 w w6 := hb1.grown hg6 (HGS.out _ hb1) (fun q hq => Owns.block hob q hq)
      have hown7 : Owns w6 g0 v6 (l.drop k).reverse := by rw [HST.out]; exact hown6
      clear hown6 hob hb1 hbx
      go_roundw
      case rel => exact ⟨k, by omega, rfl, hown7, hbel6⟩
      case measure => (simp [intOf]; try omega)
end Go.Proofs.Ytonhpmaiagbheaa

/- Numbers below L by digits: twice a number and a bit, the difference; the numbers of the document's mod. -/
set_option linter.unusedSimpArgs false
set_option linter.unusedVariables false
namespace Go.Proofs.Ytonhpmaiagbheaa

theorem mod_next (R p : Nat) : R % 256 ^ (p + 1) = R % 256 ^ p + 256 ^ p * byteN R p := by
  unfold byteN
  rw [Nat.pow_succ, Nat.mod_mul]
/-- What is carried into the place p of G + L. -/
def cyA (G L p : Nat) : Nat := (G % 256 ^ p + L % 256 ^ p) / 256 ^ p
theorem cyA_zero (G L : Nat) : cyA G L 0 = 0 := by simp [cyA, Nat.mod_one]
theorem cyA_le (G L p : Nat) : cyA G L p ≤ 1 := by
  have hp := pow256_pos p
  have h1 := Nat.mod_lt G hp
  have h2 := Nat.mod_lt L hp
  unfold cyA
  have : (G % 256 ^ p + L % 256 ^ p) / 256 ^ p < 2 := by
    rw [Nat.div_lt_iff_lt_mul hp]
    omega
  omega
theorem cyA_step (G L p : Nat) : byteN (G + L) p + 256 * cyA G L (p + 1) = byteN G p + byteN L p + cyA G L p := by
  have hp := pow256_pos p
  have h1 : (G % 256 ^ (p + 1) + L % 256 ^ (p + 1)) / 256 ^ p = cyA G L p + (byteN G p + byteN L p) := by
    rw [mod_next, mod_next]
    unfold cyA
    rw [show G % 256 ^ p + 256 ^ p * byteN G p + (L % 256 ^ p + 256 ^ p * byteN L p) = G % 256 ^ p + L % 256 ^ p + 256 ^ p * (byteN G p + byteN L p) by rw [Nat.mul_add]; omega, Nat.add_mul_div_left _ _ hp]
  have h2 : byteN (G + L) p = (cyA G L p + (byteN G p + byteN L p)) % 256 := by
    have h3 := Nat.mod_add_div G (256 ^ (p + 1))
    have h4 := Nat.mod_add_div L (256 ^ (p + 1))
    have e : G + L = G % 256 ^ (p + 1) + L % 256 ^ (p + 1) + 256 ^ p * (256 * (G / 256 ^ (p + 1) + L / 256 ^ (p + 1))) := by
      rw [← Nat.mul_assoc, show 256 ^ p * 256 = 256 ^ (p + 1) from rfl, Nat.mul_add]
      omega
    rw [show byteN (G + L) p = (G + L) / 256 ^ p % 256 from rfl, e, Nat.add_mul_div_left _ _ hp, Nat.add_mul_mod_self_left, h1]
  have h5 : cyA G L (p + 1) = (cyA G L p + (byteN G p + byteN L p)) / 256 := by
    rw [← h1]
    unfold cyA
    rw [Nat.div_div_eq_div_mul, ← Nat.pow_succ]
  omega
theorem ordL_pos : 0 < ordL := by decide +kernel
end Go.Proofs.Ytonhpmaiagbheaa

/- The document's mod L. -/
namespace Go.Proofs.Ytonhpmaiagbheaa
open Go.RowKit Go.Deep
set_option linter.unusedSimpArgs false
set_option linter.unusedVariables false

theorem exec_sliceFromArr {P : Program} {w : World} (ρ : Operand → Value) (ty elem : TypeId) (x lo : Operand) (t : TypeId) {b off n : Nat} (j m off' : Nat) {k : IntKind} (hu : P.underlying ty = some (.array n elem)) (hi : (P.info? elem).map (fun i => i.size) = some 1)
    (hx : ρ x = .pointer (some ⟨b, off, none⟩)) (hlo : ρ lo = .int k (j : Int)) (hj : j < n) (hm : m = n - j) (ho : off' = off + j) :
    (execOp ρ (mkOp (.slice ty x (some lo) none none) t)).run P w = .ok (.value (.slice (some ⟨b, off', none⟩) m m)) w := by
  subst hm ho
  have hrun := run_sliceFrom_arr (P := P) w ty elem n b off j k hu hi hj
  simp [execOp, mkOp, hx, hlo, hrun, Result.andThen]
theorem Bs.of_part2 {w : World} {b m off n : Nat} {t : TypeId} {f : Nat → Value} (h : w.rowIs b t m f) (l : List UInt8) (hn : l.length = n) (hm : off + n ≤ m) (hcm : n ≤ maxLen)
    (hf : ∀ i (hi : i < l.length), f (off + i) = .int .u8 ((l[i]).toNat : Int)) : Bs w (.slice (some ⟨b, off, none⟩) n n) l := by
  subst hn
  refine ⟨_, _, rfl, Nat.le_refl _, hcm, (fun h => by cases h), fun x hx i hi => ?_⟩
  cases hx
  refine ⟨h.lt, ?_⟩
  have h2 := h.cell (i := off + i) (by omega)
  rw [hf i hi] at h2
  rw [add_eq]
  exact h2
/-- A number's 32 bytes, the greatest first. -/
def beL (V : Nat) : List UInt8 := (litB V 32).reverse
theorem beL_length (V : Nat) : (beL V).length = 32 := by unfold beL; rw [List.length_reverse, litB_length]
theorem beL_at (V i : Nat) (h : i < (beL V).length) : ((beL V)[i]).toNat = byteN V (31 - i) := by
  unfold beL at *
  rw [List.getElem_reverse, litB_at, UInt8.toNat_ofNat']
  have h2 : (litB V 32).length = 32 := litB_length _ _
  unfold byteN
  rw [show (litB V 32).length - 1 - i = 31 - i by omega]
end Go.Proofs.Ytonhpmaiagbheaa

/- The document's numbers below L: Bytes, Wide, Bit. -/
namespace Go.Proofs.Ytonhpmaiagbheaa
open Go.RowKit Go.Deep
set_option linter.unusedSimpArgs false
set_option linter.unusedVariables false

theorem beL_rev (V : Nat) : (beL V).reverse = litB V 32 := by unfold beL; rw [List.reverse_reverse]
end Go.Proofs.Ytonhpmaiagbheaa

/- The document's numbers below L: Add. -/
namespace Go.Proofs.Ytonhpmaiagbheaa
open Go.RowKit Go.Deep
set_option linter.unusedSimpArgs false
set_option linter.unusedVariables false

theorem wpList_shrI8 {ops : Array Oper} {Q : Exit → Act → World → Prop} {a : Act} {w : World} {rest : List Oper} {o : Oper} {ty : TypeId} (hgd : o.guard = none) (x y : Operand) (ho : o.op = .binOp .shr 3 x y ty) {t q : Nat}
    (hx : a.eval x = .int .i64 (t : Int)) (hy : a.eval y = .int .u64 8) (hq : q = t / 256) (ht : t < 1000000000) (h : wpList Try.prog ops Q rest (a.put o.dst (.int .i64 (q : Int))) w) : wpList Try.prog ops Q (o :: rest) a w := by
  refine wpList_value hgd (.int .i64 (q : Int)) ?_ h
  have h1 : (t : Int) / 2 ^ 8 = (q : Int) := by omega
  have h2 : (t : Int) / 256 = (q : Int) := by omega
  have h3 : IntKind.i64.wrap (q : Int) = (q : Int) := IntWalk.i64_in _ (by omega)
  clear hq h
  rw [exec_mkOp, ho]
  simp only [execOp, mkOp, hx, hy]
  go_simp
end Go.Proofs.Ytonhpmaiagbheaa

/- The document's numbers below L: Mul. -/
namespace Go.Proofs.Ytonhpmaiagbheaa
open Go.RowKit Go.Deep
set_option linter.unusedSimpArgs false
set_option linter.unusedVariables false

end Go.Proofs.Ytonhpmaiagbheaa

/- The document's numbers below L: Neg, Bit. -/
namespace Go.Proofs.Ytonhpmaiagbheaa
open Go.RowKit Go.Deep
set_option linter.unusedSimpArgs false
set_option linter.unusedVariables false

/-- Digit k of a number; none outside of 0 to 255. -/
def bitZ (V : Nat) (k : Int) : Nat := if 0 ≤ k ∧ k ≤ 255 then V / 2 ^ k.toNat % 2 else 0
end Go.Proofs.Ytonhpmaiagbheaa

/- The document's points: so many times. -/
set_option linter.unusedSimpArgs false
set_option linter.unusedVariables false
namespace Go.Proofs.Ytonhpmaiagbheaa
open Go.RowKit Go.Deep

theorem pmulS_lt (d : Nat) (a : Nat × Nat × Nat) (K : Nat) : ∀ i, (pmulS d a K i).1 < p25 ∧ (pmulS d a K i).2.1 < p25 ∧ (pmulS d a K i).2.2 < p25
  | 0 => ⟨p25_pos, Nat.lt_trans (Nat.lt_succ_self 1) p25_two, Nat.lt_trans (Nat.lt_succ_self 1) p25_two⟩
  | i + 1 => by
    unfold pmulS
    split
    · exact padd_lt _ _ _
    · exact padd_lt _ _ _
end Go.Proofs.Ytonhpmaiagbheaa

/- The document's points: their form. -/
set_option linter.unusedSimpArgs false
set_option linter.unusedVariables false
namespace Go.Proofs.Ytonhpmaiagbheaa
open Go.RowKit Go.Deep

/-- The form of the point told by x, y and z. -/
def encA (a : Nat × Nat × Nat) : Nat := mulP a.2.1 (invP a.2.2) + mulP a.1 (invP a.2.2) % 2 * top
theorem encA_aff {P : Nat × Nat} (hP : onE P) {a : Nat × Nat × Nat} (ha : a.2.2 < p25) (h : RepN P a) : encA a = encN P := by
  obtain ⟨h1, h2⟩ := repN_aff hP ha h
  unfold encA encN
  rw [h1, h2]
end Go.Proofs.Ytonhpmaiagbheaa

/- The document's points: the point that bytes stand for, in one; the base point. -/
namespace Go.Proofs.Ytonhpmaiagbheaa
open Go.RowKit Go.Deep
set_option linter.unusedSimpArgs false
set_option linter.unusedVariables false

def decP (l : List UInt8) : Nat × Nat := (decN l).getD (0, 1)
def decE (l : List UInt8) : Int := if (decN l).isSome then 0 else 12
end Go.Proofs.Ytonhpmaiagbheaa

/- The document's StrictSc. -/
namespace Go.Proofs.Ytonhpmaiagbheaa
open Go.RowKit Go.Deep
set_option linter.unusedSimpArgs false
set_option linter.unusedVariables false

def strictSN (l : List UInt8) : Option Nat := if l.length = 32 ∧ numL l 32 < ordL then some (numL l 32) else none
theorem wide_32 (l : List UInt8) (h : l.length = 32) : numL l 64 = numL l 32 := numL_wanting l 32 (by omega) 32
theorem litB_wide (l : List UInt8) (h : l.length = 32) : litB (numL l 64 % ordL) 32 = l ↔ numL l 32 < ordL := by
  rw [wide_32 l h]
  constructor
  · intro e
    have h1 := numL_litB (numL l 32 % ordL) 32 32 (Nat.le_refl _)
    rw [e, Nat.mod_eq_of_lt (Nat.lt_trans (Nat.mod_lt _ ordL_pos) ordL_lt)] at h1
    rw [h1]
    exact Nat.mod_lt _ ordL_pos
  · intro e
    rw [Nat.mod_eq_of_lt e]
    exact litB_numL l 32 h
end Go.Proofs.Ytonhpmaiagbheaa

/- The document's points as triples; clamped bytes. -/
namespace Go.Proofs.Ytonhpmaiagbheaa
open Go.RowKit Go.Deep
set_option linter.unusedSimpArgs false
set_option linter.unusedVariables false

def LtT (t : Nat × Nat × Nat) : Prop := t.1 < p25 ∧ t.2.1 < p25 ∧ t.2.2 < p25
def bT : Nat × Nat × Nat := (ptB.1, ptB.2, 1)
def dT (l : List UInt8) : Nat × Nat × Nat := ((decP l).1, (decP l).2, 1)
theorem LtT.mul (t : Nat × Nat × Nat) (V : Nat) : LtT (pmul dP t V) := pmulS_lt dP t V 256
theorem LtT.add (t u : Nat × Nat × Nat) : LtT (padd dP t u) := padd_lt dP t u
theorem LtT.base : LtT bT := ⟨ptB_on.1, ptB_on.2.1, one_ltp⟩
theorem LtT.dec (l : List UInt8) : LtT (dT l) := by
  unfold dT decP
  cases h : decN l with
  | none => exact ⟨p25_pos, one_ltp, one_ltp⟩
  | some P =>
    have g := (decN_some h).2.1
    exact ⟨g.1, g.2.1, one_ltp⟩
end Go.Proofs.Ytonhpmaiagbheaa

/- The document's points by the group: what its triples stand for. -/
set_option linter.unusedSimpArgs false
set_option linter.unusedVariables false
namespace Go.Proofs.Ytonhpmaiagbheaa
open Go.RowKit Go.Deep

/-- A triple stands for a point of the curve. -/
def RT (P : Nat × Nat) (t : Nat × Nat × Nat) : Prop := onE P ∧ LtT t ∧ RepN P t
theorem RT.base : RT ptB bT := ⟨ptB_on, LtT.base, repP_aff ptB⟩
theorem RT.zero : RT ptO (0, 1, 1) := ⟨ptO_on, ⟨p25_pos, one_ltp, one_ltp⟩, repP_zero⟩
theorem RT.mul {P : Nat × Nat} {t : Nat × Nat × Nat} (h : RT P t) {V : Nat} (hV : V < 2 ^ 256) : RT (mulE V P) (pmul dP t V) := ⟨mulE_on h.1 V, LtT.mul _ _, repN_mul h.1 h.2.2 hV⟩
theorem RT.add {P Q : Nat × Nat} {t u : Nat × Nat × Nat} (h : RT P t) (k : RT Q u) : RT (addE P Q) (padd dP t u) := ⟨addE_on h.1 k.1, LtT.add _ _, repN_add h.1 k.1 h.2.2 k.2.2⟩
theorem RT.dec (l : List UInt8) : RT (decP l) (dT l) := by
  refine ⟨?_, LtT.dec l, repP_aff (decP l)⟩
  unfold decP
  cases h : decN l with
  | none => exact ptO_on
  | some P => exact (decN_some h).2.1
theorem RT.same {P Q : Nat × Nat} {t u : Nat × Nat × Nat} (h : RT P t) (k : RT Q u) : pSame t u = decide (P = Q) := by
  have g := repN_same h.1 k.1 h.2.2 k.2.2
  unfold pSame
  by_cases e : P = Q
  · obtain ⟨g1, g2⟩ := g.1 e
    rw [decide_eq_true g1, decide_eq_true g2, decide_eq_true e]
    rfl
  · rw [decide_eq_false e]
    by_cases g1 : mulP t.1 u.2.2 = mulP u.1 t.2.2
    · have g2 : ¬ mulP t.2.1 u.2.2 = mulP u.2.1 t.2.2 := fun g2 => e (g.2 ⟨g1, g2⟩)
      rw [decide_eq_false g2, Bool.and_false]
    · rw [decide_eq_false g1, Bool.false_and]
theorem mulE_eight {P : Nat × Nat} (h : onE P) : mulE 8 P = addE (addE (addE P P) (addE P P)) (addE (addE P P) (addE P P)) := by
  have h2 : mulE 2 P = addE P P := by rw [show 2 = 1 + 1 from rfl, mulE_add h, mulE_one h]
  rw [show 8 = 2 * 2 * 2 from rfl, mulE_mul h, mulE_mul h]
  have k2 : ∀ {Q : Nat × Nat}, onE Q → mulE 2 Q = addE Q Q := fun {Q} hq => by rw [show 2 = 1 + 1 from rfl, mulE_add hq, mulE_one hq]
  rw [h2, k2 (addE_on h h), k2 (addE_on (addE_on h h) (addE_on h h))]
theorem RT.small {P : Nat × Nat} {t : Nat × Nat × Nat} (h : RT P t) : pSmall t = decide (mulE 8 P = ptO) := by
  rw [mulE_eight h.1]
  exact ((h.add h).add (h.add h) |>.add ((h.add h).add (h.add h))).same RT.zero
theorem RT.enc {P : Nat × Nat} {t : Nat × Nat × Nat} (h : RT P t) : encA t = encN P := encA_aff h.1 h.2.1.2.2 h.2.2
theorem ordL_256 : ordL < 2 ^ 256 := by decide +kernel
end Go.Proofs.Ytonhpmaiagbheaa

/- The program's points, as numbers: its sum (d as a fraction), the zero one, so many times; what they stand for. -/
set_option linter.unusedSimpArgs false
set_option linter.unusedVariables false
namespace Go.Proofs.Ytonhpmaiagbheaa

theorem d_un : Z ((dP : Int) * 121666 + 121665) := by
  have h1 := Z_oppP 121665
  have hne := small_ne 121666 (by decide) (by decide)
  have h2 := Z_invP (a := 121666) (Nat.lt_trans (show 121666 < 1000000 by decide) (by decide +kernel)) hne
  have h3 := Z_mulP (oppP 121665) (invP 121666)
  have e : (mulP (oppP 121665) (invP 121666) : Nat) = dP := rfl
  rw [e] at h3
  generalize ((oppP 121665 : Nat) : Int) = o at *
  generalize ((invP 121666 : Nat) : Int) = i at *
  generalize ((dP : Nat) : Int) = d at *
  exact Z.lin3 121666 o 1 h3 h2 h1 (by grind)
theorem repP_scale {P : Nat × Nat} {X Y W X' Y' W' u : Int} (h : RepP P X Y W) (hu : ¬ Z u) (hX : Z (X' - u * X)) (hY : Z (Y' - u * Y)) (hW : Z (W' - u * W)) : RepP P X' Y' W' := by
  obtain ⟨n, a, b⟩ := h
  unfold RepP
  generalize (P.1 : Int) = x at *
  generalize (P.2 : Int) = y at *
  refine ⟨fun hz => Z.not_mul hu n (Z.lin2 1 (-1) hz hW (by grind)), ?_, ?_⟩
  · exact Z.lin3 1 u (-x) hX a hW (by grind)
  · exact Z.lin3 1 u (-y) hY b hW (by grind)
/-- The sum as the program reckons it. -/
def qX (a b : Nat × Nat × Nat) : Nat := mulP a.1 b.1
def qY (a b : Nat × Nat × Nat) : Nat := mulP a.2.1 b.2.1
def qC (a b : Nat × Nat × Nat) : Nat := subP p25 (subP p25 (mulP (addP a.1 a.2.1) (addP b.1 b.2.1)) (qX a b)) (qY a b)
def qS (a b : Nat × Nat × Nat) : Nat := mulP (mulP a.2.2 b.2.2) 121666
def qO (a b : Nat × Nat × Nat) : Nat := mulP (qS a b) (mulP a.2.2 b.2.2)
def qN (a b : Nat × Nat × Nat) : Nat := mulP (mulP (qX a b) (qY a b)) 121665
def qA (a b : Nat × Nat × Nat) : Nat := subP p25 (qO a b) (qN a b)
def qB (a b : Nat × Nat × Nat) : Nat := addP (qO a b) (qN a b)
def qadd (a b : Nat × Nat × Nat) : Nat × Nat × Nat :=
  (mulP (mulP (qS a b) (qC a b)) (qB a b), mulP (mulP (qS a b) (addP (qY a b) (qX a b))) (qA a b), mulP (qA a b) (qB a b))
theorem poly_q (X1 Y1 X2 Y2 d z zz m f g h s o n a b c x y X3 Y3 W3 S V T : Int) (hd : Z (d * 121666 + 121665))
    (hm : Z (m - X1 * X2 * (Y1 * Y2))) (hzz : Z (zz - z * z)) (hx : Z (x - X1 * X2)) (hy : Z (y - Y1 * Y2))
    (hf : Z (f - (zz - d * m))) (hg : Z (g - (zz + d * m))) (hh : Z (h - (X1 * Y2 + X2 * Y1)))
    (hs : Z (s - z * 121666)) (ho : Z (o - s * z)) (hn : Z (n - x * y * 121665)) (ha : Z (a - (o - n))) (hb : Z (b - (o + n)))
    (hc : Z (c - ((X1 + Y1) * (X2 + Y2) - x - y)))
    (hX : Z (X3 - z * f * h)) (hY : Z (Y3 - z * g * (Y1 * Y2 + X1 * X2))) (hW : Z (W3 - f * g))
    (hS : Z (S - s * c * b)) (hV : Z (V - s * (y + x) * a)) (hT : Z (T - a * b)) :
    Z (S - 121666 * 121666 * X3) ∧ Z (V - 121666 * 121666 * Y3) ∧ Z (T - 121666 * 121666 * W3) := by
  have kc : Z (c - h) := Z.lin4 1 (-1) (-1) (-1) hc hx hy hh (by grind)
  have kxy : Z (x * y - m) := Z.lin3 y (X1 * X2) (-1) hx hy hm (by grind)
  have ko : Z (o - 121666 * zz) := Z.lin3 1 z (-121666) ho hs hzz (by grind)
  have kn : Z (n - m * 121665) := Z.lin2 1 121665 hn kxy (by grind)
  have kdm : Z (121666 * (d * m) + 121665 * m) := Z.lin1 m hd (by grind)
  have kb : Z (b - 121666 * f) := by
    have e := Z.lin4 1 1 1 (-121666) hb ko kn hf (show (b - 121666 * f + (121666 * (d * m) + 121665 * m) * (-1) : Int) = _ by grind)
    exact Z.lin2 1 1 e kdm (by grind)
  have ka : Z (a - 121666 * g) := by
    have e := Z.lin4 1 1 (-1) (-121666) ha ko kn hg (show (a - 121666 * g + (121666 * (d * m) + 121665 * m) : Int) = _ by grind)
    exact Z.lin2 1 (-1) e kdm (by grind)
  have ksb : Z (s * b - 121666 * 121666 * (z * f)) := Z.lin2 b (z * 121666) hs kb (by grind)
  have ksa : Z (s * a - 121666 * 121666 * (z * g)) := Z.lin2 a (z * 121666) hs ka (by grind)
  have kv : Z (y + x - (Y1 * Y2 + X1 * X2)) := Z.lin2 1 1 hx hy (by grind)
  refine ⟨?_, ?_, ?_⟩
  · exact Z.lin4 1 c (121666 * 121666 * (z * f)) (-(121666 * 121666)) hS ksb kc hX (by grind)
  · exact Z.lin4 1 (y + x) (121666 * 121666 * (z * g)) (-(121666 * 121666)) hV ksa kv hY (by grind)
  · exact Z.lin4 1 b (121666 * g) (-(121666 * 121666)) hT ka kb hW (by grind)
theorem under_ne : ¬ Z (121666 * 121666 : Int) := Z.not_mul (small_ne 121666 (by decide) (by decide)) (small_ne 121666 (by decide) (by decide))
theorem repN_qadd {P Q : Nat × Nat} (hP : onE P) (hQ : onE Q) {a b : Nat × Nat × Nat} (h1 : RepN P a) (h2 : RepN Q b) : RepN (addE P Q) (qadd a b) := by
  have h := repN_add hP hQ h1 h2
  have kz := Z_mulP a.2.2 b.2.2
  have km := (Z_mulP (mulP a.1 b.1) (mulP a.2.1 b.2.1)).trans ((Z_mulP a.1 b.1).mulc (Z_mulP a.2.1 b.2.1))
  have kzz := Z_mulP (pZ a b) (pZ a b)
  have ke := Z_mulP dP (mulP (mulP a.1 b.1) (mulP a.2.1 b.2.1))
  have kf := (Z_subP (mulP (pZ a b) (pZ a b)) (pE dP a b)).trans ((Z.rfl' _).subc ke)
  have kg := (Z_addP (mulP (pZ a b) (pZ a b)) (pE dP a b)).trans ((Z.rfl' _).addc ke)
  have kh := (Z_addP (mulP a.1 b.2.1) (mulP b.1 a.2.1)).trans ((Z_mulP a.1 b.2.1).addc (Z_mulP b.1 a.2.1))
  have kX := (Z_mulP (mulP (pZ a b) (pF dP a b)) (pH a b)).trans ((Z_mulP (pZ a b) (pF dP a b)).mulc (Z.rfl' _))
  have kY := (Z_mulP (mulP (pZ a b) (pG dP a b)) (addP (mulP a.2.1 b.2.1) (mulP a.1 b.1))).trans ((Z_mulP (pZ a b) (pG dP a b)).mulc ((Z_addP (mulP a.2.1 b.2.1) (mulP a.1 b.1)).trans ((Z_mulP a.2.1 b.2.1).addc (Z_mulP a.1 b.1))))
  have kW := Z_mulP (pF dP a b) (pG dP a b)
  have kx := Z_mulP a.1 b.1
  have ky := Z_mulP a.2.1 b.2.1
  have ks := Z_mulP (pZ a b) 121666
  have ko := Z_mulP (qS a b) (pZ a b)
  have kn := (Z_mulP (mulP (qX a b) (qY a b)) 121665).trans ((Z_mulP (qX a b) (qY a b)).mulc (Z.rfl' _))
  have ka := Z_subP (qO a b) (qN a b)
  have kb := Z_addP (qO a b) (qN a b)
  have kc := (Z_subP (subP p25 (mulP (addP a.1 a.2.1) (addP b.1 b.2.1)) (qX a b)) (qY a b)).trans (((Z_subP (mulP (addP a.1 a.2.1) (addP b.1 b.2.1)) (qX a b)).trans (((Z_mulP (addP a.1 a.2.1) (addP b.1 b.2.1)).trans ((Z_addP a.1 a.2.1).mulc (Z_addP b.1 b.2.1))).subc (Z.rfl' _))).subc (Z.rfl' _))
  have kS := (Z_mulP (mulP (qS a b) (qC a b)) (qB a b)).trans ((Z_mulP (qS a b) (qC a b)).mulc (Z.rfl' _))
  have kV := (Z_mulP (mulP (qS a b) (addP (qY a b) (qX a b))) (qA a b)).trans (((Z_mulP (qS a b) (addP (qY a b) (qX a b))).trans ((Z.rfl' _).mulc (Z_addP (qY a b) (qX a b)))).mulc (Z.rfl' _))
  have kT := Z_mulP (qA a b) (qB a b)
  obtain ⟨g1, g2, g3⟩ := poly_q _ _ _ _ _ _ _ _ _ _ _ _ _ _ _ _ _ _ _ _ _ _ _ _ _ d_un km kzz kx ky kf kg kh ks ko kn ka kb kc kX kY kW kS kV kT
  exact repP_scale h under_ne g1 g2 g3
theorem qadd_lt (a b : Nat × Nat × Nat) : LtT (qadd a b) := ⟨mulP_lt _ _, mulP_lt _ _, mulP_lt _ _⟩
/-- With all coordinates. -/
def fullT (t : Nat × Nat × Nat) : Nat × Nat × Nat := if t.2.2 = 0 then (0, 1, 1) else t
theorem fullT_no {t : Nat × Nat × Nat} (h : t.2.2 ≠ 0) : fullT t = t := if_neg h
theorem fullT_yes {t : Nat × Nat × Nat} (h : t.2.2 = 0) : fullT t = (0, 1, 1) := if_pos h
theorem LtT.zero : LtT (0, 1, 1) := ⟨p25_pos, one_ltp, one_ltp⟩
theorem LtT.none : LtT (0, 0, 0) := ⟨p25_pos, p25_pos, p25_pos⟩
theorem LtT.full {t : Nat × Nat × Nat} (h : LtT t) : LtT (fullT t) := by
  unfold fullT
  split
  · exact LtT.zero
  · exact h
def qAdd (t u : Nat × Nat × Nat) : Nat × Nat × Nat := qadd (fullT t) (fullT u)
def qSame (t u : Nat × Nat × Nat) : Bool := pSame (fullT t) (fullT u)
theorem LtT.qAdd (t u : Nat × Nat × Nat) : LtT (qAdd t u) := qadd_lt _ _
/-- A triple of the program's stands for a point of the curve. -/
def RQ (P : Nat × Nat) (t : Nat × Nat × Nat) : Prop := LtT t ∧ RT P (fullT t)
theorem RQ.of {P : Nat × Nat} {t : Nat × Nat × Nat} (h : RT P t) : RQ P t := by
  refine ⟨h.2.1, ?_⟩
  rw [fullT_no]
  · exact h
  · intro e
    refine h.2.2.1 ?_
    rw [e]
    exact Z.zero
theorem RQ.none : RQ ptO (0, 0, 0) := ⟨LtT.none, RT.zero⟩
theorem RQ.base : RQ ptB bT := RQ.of RT.base
theorem RQ.add {P Q : Nat × Nat} {t u : Nat × Nat × Nat} (h : RQ P t) (k : RQ Q u) : RQ (addE P Q) (qAdd t u) := RQ.of ⟨addE_on h.2.1 k.2.1, qadd_lt _ _, repN_qadd h.2.1 k.2.1 h.2.2.2 k.2.2.2⟩
theorem RT.only {P : Nat × Nat} (h : RT P (0, 1, 1)) : P = ptO := by
  have g := h.same RT.zero
  have e : pSame (0, 1, 1) (0, 1, 1) = true := by unfold pSame; simp
  rw [e] at g
  exact of_decide_eq_true g.symm
theorem RQ.same {P Q : Nat × Nat} {t u : Nat × Nat × Nat} (h : RQ P t) (k : RQ Q u) : qSame t u = decide (P = Q) := h.2.same k.2
theorem RQ.on {P : Nat × Nat} {t : Nat × Nat × Nat} (h : RQ P t) : onE P := h.2.1
/-- A sum over as many as K's lowest n digits say. -/
def qmulS (a : Nat × Nat × Nat) (K n : Nat) : Nat → Nat × Nat × Nat
  | 0 => (0, 0, 0)
  | i + 1 => if K / 2 ^ (n - (i + 1)) % 2 = 1 then qAdd (qAdd (qmulS a K n i) (qmulS a K n i)) a else qAdd (qmulS a K n i) (qmulS a K n i)
def qOft (a : Nat × Nat × Nat) (K n : Nat) : Nat × Nat × Nat := qmulS a K n n
theorem LtT.mulS (a : Nat × Nat × Nat) (K n : Nat) : ∀ i, LtT (qmulS a K n i)
  | 0 => LtT.none
  | i + 1 => by
    unfold qmulS
    split
    · exact LtT.qAdd _ _
    · exact LtT.qAdd _ _
theorem LtT.oft (a : Nat × Nat × Nat) (K n : Nat) : LtT (qOft a K n) := LtT.mulS a K n n
theorem RQ.mulS {P : Nat × Nat} {a : Nat × Nat × Nat} (h : RQ P a) {K n : Nat} (hK : K < 2 ^ n) : ∀ i, i ≤ n → RQ (mulE (K / 2 ^ (n - i)) P) (qmulS a K n i)
  | 0, _ => by
    rw [Nat.sub_zero, Nat.div_eq_of_lt hK]
    exact RQ.none
  | i + 1, hi => by
    have ih := RQ.mulS h hK i (by omega)
    have hd := ih.add ih
    rw [← mulE_add h.on] at hd
    have e : K / 2 ^ (n - (i + 1)) = K / 2 ^ (n - i) + K / 2 ^ (n - i) + K / 2 ^ (n - (i + 1)) % 2 := by
      rw [show n - i = (n - (i + 1)) + 1 by omega, Nat.pow_succ, ← Nat.div_div_eq_div_mul]
      omega
    rw [e]
    unfold qmulS
    by_cases hb : K / 2 ^ (n - (i + 1)) % 2 = 1
    · rw [if_pos hb, hb]
      exact hd.add h
    · rw [if_neg hb, show K / 2 ^ (n - (i + 1)) % 2 = 0 by omega, Nat.add_zero]
      exact hd
theorem RQ.oft {P : Nat × Nat} {a : Nat × Nat × Nat} (h : RQ P a) {K n : Nat} (hK : K < 2 ^ n) : RQ (mulE K P) (qOft a K n) := by
  have h2 := RQ.mulS h hK n (Nat.le_refl _)
  rwa [Nat.sub_self, Nat.pow_zero, Nat.div_one] at h2
def qMul (a : Nat × Nat × Nat) (K : Nat) : Nat × Nat × Nat := qOft a K 253
theorem ordL_253 : ordL < 2 ^ 253 := by decide +kernel
theorem RQ.mul {P : Nat × Nat} {a : Nat × Nat × Nat} (h : RQ P a) {K : Nat} (hK : K < ordL) : RQ (mulE K P) (qMul a K) := h.oft (Nat.lt_trans hK ordL_253)
/-- Its form. -/
def encQ (t : Nat × Nat × Nat) : Nat := encA (fullT t)
theorem RQ.enc {P : Nat × Nat} {t : Nat × Nat × Nat} (h : RQ P t) : encQ t = encN P := h.2.enc
/-- What is read. -/
def eT (l : List UInt8) : Nat × Nat × Nat := match decN l with
  | none => (0, 0, 0)
  | some P => (P.1, P.2, 1)
theorem RQ.dec (l : List UInt8) : RQ (decP l) (eT l) := by
  unfold eT decP
  cases h : decN l with
  | none => exact RQ.none
  | some P =>
    have g := RT.dec l
    unfold decP dT decP at g
    rw [h] at g
    exact RQ.of g
theorem LtT.read (l : List UInt8) : LtT (eT l) := (RQ.dec l).1
/-- What stands beside y. -/
def besS (Y : Nat) : Nat := mulP (mulP (subP p25 (mulP Y Y) 1) 121666) (invP (subP p25 121666 (mulP (mulP Y Y) 121665)))
theorem poly_bes (y yy d v s t i b n w : Int) (hd : Z (d * 121666 + 121665)) (hyy : Z (yy - y * y)) (hv : Z (v - (d * (y * y) + 1))) (hs : Z (s * v - (y * y - 1)))
    (ht : Z (t - (121666 - yy * 121665))) (hi : Z (t * i - 1)) (hw : Z (w - (yy - 1) * 121666)) (hb : Z (b - w * i)) (ht0 : ¬ Z t) (hv0 : ¬ Z v) : Z (b - s) := by
  have kt : Z (t - 121666 * v) := Z.lin4 1 (-121665) (-121666) (-(y * y)) ht hyy hv hd (by grind)
  have kbt : Z (b * t - w) := Z.lin2 t w hb hi (by grind)
  refine Z.cancel (a := t) ?_ ht0
  have kst : Z (s * t - 121666 * (y * y - 1)) := Z.lin2 s 121666 kt hs (by grind)
  exact Z.lin4 1 (-1) 1 121666 kbt kst hw hyy (by grind)
theorem besS_eq {Y : Nat} (hY : Y < p25) : besS Y = decS Y := by
  have hs := decS_Z Y
  have hv : ¬ Z ((dP : Int) * ((Y : Int) * Y) + 1) := by
    have h1 := v_ne Y
    have h2 := (Z_addP (mulP dP (mulP Y Y)) 1).trans (((Z_mulP dP (mulP Y Y)).trans ((Z.rfl' _).mulc (Z_mulP Y Y))).addc (Z.rfl' _))
    exact fun h => h1 (Z.lin2 1 1 h2 h (by grind))
  have ht := (Z_subP 121666 (mulP (mulP Y Y) 121665)).trans ((Z.rfl' _).subc (Z_mulP (mulP Y Y) 121665))
  have hyy := Z_mulP Y Y
  have ht0 : ¬ Z ((subP p25 121666 (mulP (mulP Y Y) 121665) : Nat) : Int) := by
    have hd := d_un
    have hu := small_ne 121666 (by decide) (by decide)
    have n := Z.not_mul hu hv
    intro h
    refine n ?_
    generalize ((subP p25 121666 (mulP (mulP Y Y) 121665) : Nat) : Int) = t at *
    generalize ((mulP Y Y : Nat) : Int) = yy at *
    generalize ((dP : Nat) : Int) = d at *
    generalize (Y : Int) = y at *
    exact Z.lin4 1 (-1) (121665) (y * y) h ht hyy hd (by grind)
  have hi := Z_invP (subP_lt 121666 (mulP (mulP Y Y) 121665)) ht0
  have hw := (Z_mulP (subP p25 (mulP Y Y) 1) 121666).trans ((Z_subP (mulP Y Y) 1).mulc (Z.rfl' _))
  have hb := Z_mulP (mulP (subP p25 (mulP Y Y) 1) 121666) (invP (subP p25 121666 (mulP (mulP Y Y) 121665)))
  exact Z.eq (mulP_lt _ _) (decS_lt Y) (poly_bes _ _ _ _ _ _ _ _ 0 _ d_un hyy (Z.zero.lin1 0 (by grind)) hs ht hi hw hb ht0 hv)
theorem bes_root {Y : Nat} (hY : Y < p25) : rootL p25 t25 (besS Y) = decX Y := by
  rw [besS_eq hY]
  rfl
end Go.Proofs.Ytonhpmaiagbheaa
