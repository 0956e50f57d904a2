/- The ladder's steps as a function of numbers, and what it tells: the fraction of so many times the point. -/
import Derived.Test.YtncdlaidmiokiaaEdB
set_option linter.unusedSimpArgs false
set_option linter.unusedVariables false
namespace Go.Proofs.Ytncdlaidmiokiaa

def lAA (x z : Nat) : Nat := mulP (addP x z) (addP x z)
def lBB (x z : Nat) : Nat := mulP (subP p25 x z) (subP p25 x z)
def lEE (x z : Nat) : Nat := subP p25 (lAA x z) (lBB x z)
def lx2 (x z : Nat) : Nat := mulP (lAA x z) (lBB x z)
def lz2 (x z : Nat) : Nat := mulP (lEE x z) (addP (lAA x z) (mulP 121665 (lEE x z)))
def lDA (x2 z2 x3 z3 : Nat) : Nat := mulP (subP p25 x3 z3) (addP x2 z2)
def lCB (x2 z2 x3 z3 : Nat) : Nat := mulP (addP x3 z3) (subP p25 x2 z2)
def lx3 (x2 z2 x3 z3 : Nat) : Nat := mulP (addP (lDA x2 z2 x3 z3) (lCB x2 z2 x3 z3)) (addP (lDA x2 z2 x3 z3) (lCB x2 z2 x3 z3))
def lz3 (u x2 z2 x3 z3 : Nat) : Nat := mulP u (mulP (subP p25 (lDA x2 z2 x3 z3) (lCB x2 z2 x3 z3)) (subP p25 (lDA x2 z2 x3 z3) (lCB x2 z2 x3 z3)))

theorem Z_lAA (x z : Nat) : Z ((lAA x z : Int) - ((x : Int) + z) * ((x : Int) + z)) := (Z_mulP _ _).trans ((Z_addP x z).mulc (Z_addP x z))
theorem Z_lBB (x z : Nat) : Z ((lBB x z : Int) - ((x : Int) - z) * ((x : Int) - z)) := (Z_mulP _ _).trans ((Z_subP x z).mulc (Z_subP x z))
theorem Z_lEE (x z : Nat) : Z ((lEE x z : Int) - (((x : Int) + z) * ((x : Int) + z) - ((x : Int) - z) * ((x : Int) - z))) := (Z_subP _ _).trans ((Z_lAA x z).subc (Z_lBB x z))
theorem Z_lx2 (x z : Nat) : Z ((lx2 x z : Int) - (((x : Int) + z) * ((x : Int) + z)) * (((x : Int) - z) * ((x : Int) - z))) := (Z_mulP _ _).trans ((Z_lAA x z).mulc (Z_lBB x z))
theorem Z_lz2 (x z : Nat) : Z ((lz2 x z : Int) - (((x : Int) + z) * ((x : Int) + z) - ((x : Int) - z) * ((x : Int) - z)) * (((x : Int) + z) * ((x : Int) + z) + 121665 * (((x : Int) + z) * ((x : Int) + z) - ((x : Int) - z) * ((x : Int) - z)))) :=
  (Z_mulP _ _).trans ((Z_lEE x z).mulc ((Z_addP _ _).trans ((Z_lAA x z).addc ((Z_mulP 121665 (lEE x z)).trans ((Z.rfl' 121665).mulc (Z_lEE x z))))))
theorem Z_lDA (x2 z2 x3 z3 : Nat) : Z ((lDA x2 z2 x3 z3 : Int) - ((x3 : Int) - z3) * ((x2 : Int) + z2)) := (Z_mulP _ _).trans ((Z_subP x3 z3).mulc (Z_addP x2 z2))
theorem Z_lCB (x2 z2 x3 z3 : Nat) : Z ((lCB x2 z2 x3 z3 : Int) - ((x3 : Int) + z3) * ((x2 : Int) - z2)) := (Z_mulP _ _).trans ((Z_addP x3 z3).mulc (Z_subP x2 z2))
theorem Z_lx3 (x2 z2 x3 z3 : Nat) : Z ((lx3 x2 z2 x3 z3 : Int) - (((x3 : Int) - z3) * ((x2 : Int) + z2) + ((x3 : Int) + z3) * ((x2 : Int) - z2)) * (((x3 : Int) - z3) * ((x2 : Int) + z2) + ((x3 : Int) + z3) * ((x2 : Int) - z2))) := by
  have h := (Z_addP _ _).trans ((Z_lDA x2 z2 x3 z3).addc (Z_lCB x2 z2 x3 z3))
  exact (Z_mulP _ _).trans (h.mulc h)
theorem Z_lz3 (u x2 z2 x3 z3 : Nat) : Z ((lz3 u x2 z2 x3 z3 : Int) - (u : Int) * ((((x3 : Int) - z3) * ((x2 : Int) + z2) - ((x3 : Int) + z3) * ((x2 : Int) - z2)) * (((x3 : Int) - z3) * ((x2 : Int) + z2) - ((x3 : Int) + z3) * ((x2 : Int) - z2)))) := by
  have h := (Z_subP _ _).trans ((Z_lDA x2 z2 x3 z3).subc (Z_lCB x2 z2 x3 z3))
  exact (Z_mulP _ _).trans ((Z.rfl' (u : Int)).mulc ((Z_mulP _ _).trans (h.mulc h)))
theorem rep_dblN {P : Nat × Nat} (hP : onE P) {x z : Nat} (h : Rep P x z) : Rep (addE P P) (lx2 x z) (lz2 x z) := rep_dbl hP h (Z_lx2 x z) (Z_lz2 x z)
theorem rep_addN {P Q : Nat × Nat} (hP : onE P) (hQ : onE Q) {x2 z2 x3 z3 u : Nat} {d : Int} (h1 : Rep P x2 z2) (h2 : Rep Q x3 z3)
    (hd : Z (d * (cE + (P.1 : Int) * (Q.1 : Int) * (P.2 : Int) * (Q.2 : Int)) - cE * ((P.2 : Int) * (Q.2 : Int) - (P.1 : Int) * (Q.1 : Int))))
    (hu : Z ((u : Int) * (1 - d) - (1 + d))) (hd1 : ¬ Z (1 - d)) (hd2 : ¬ Z (1 + d)) : Rep (addE P Q) (lx3 x2 z2 x3 z3) (lz3 u x2 z2 x3 z3) :=
  rep_add hP hQ h1 h2 hd hu hd1 hd2 (Z_lx3 x2 z2 x3 z3) (Z_lz3 u x2 z2 x3 z3)

/-- One step with the bit b: the two turned where the bit has changed. -/
def ladStep (u b : Nat) (s : Nat × (Nat × Nat) × (Nat × Nat)) : Nat × (Nat × Nat) × (Nat × Nat) :=
  let f := if s.1 = b then s.2.1 else s.2.2
  let g := if s.1 = b then s.2.2 else s.2.1
  (b, (lx2 f.1 f.2, lz2 f.1 f.2), (lx3 f.1 f.2 g.1 g.2, lz3 u f.1 f.2 g.1 g.2))
/-- Of i steps. -/
def ladS (u K : Nat) : Nat → Nat × (Nat × Nat) × (Nat × Nat)
  | 0 => (0, (1, 0), (u, 1))
  | i + 1 => ladStep u (K / 2 ^ (254 - i) % 2) (ladS u K i)
def ladEnd (s : Nat × (Nat × Nat) × (Nat × Nat)) : Nat := let f := if s.1 = 1 then s.2.2 else s.2.1; mulP f.1 (invP f.2)
def ladder (u K : Nat) : Nat := ladEnd (ladS u K 255)
/-- What holds of the two after the number n. -/
def LadI (P : Nat × Nat) (n : Nat) (s : Nat × (Nat × Nat) × (Nat × Nat)) : Prop :=
  (s.1 = 0 ∧ Rep (mulE n P) s.2.1.1 s.2.1.2 ∧ Rep (mulE (n + 1) P) s.2.2.1 s.2.2.2) ∨ (s.1 = 1 ∧ Rep (mulE (n + 1) P) s.2.1.1 s.2.1.2 ∧ Rep (mulE n P) s.2.2.1 s.2.2.2)
theorem diff_n {P : Nat × Nat} (hP : onE P) (n : Nat) :
    Z ((P.2 : Int) * (cE + ((mulE n P).1 : Int) * ((mulE (n + 1) P).1 : Int) * ((mulE n P).2 : Int) * ((mulE (n + 1) P).2 : Int)) - cE * (((mulE n P).2 : Int) * ((mulE (n + 1) P).2 : Int) - ((mulE n P).1 : Int) * ((mulE (n + 1) P).1 : Int))) := by
  have hn := mulE_on hP n
  have h1 : addE (mulE (n + 1) P) (negE (mulE n P)) = P := by
    show addE (addE (mulE n P) P) (negE (mulE n P)) = P
    rw [addE_comm (mulE n P) P, addE_assoc hP hn (negE_on hn), addE_neg hn, addE_zero hP]
  obtain ⟨_, h2⟩ := addE_Z (mulE_on hP (n + 1)) (negE_on hn)
  rw [h1] at h2
  have ho := Z_oppP (mulE n P).1
  have e1 : (negE (mulE n P)).1 = oppP (mulE n P).1 := rfl
  have e2 : (negE (mulE n P)).2 = (mulE n P).2 := rfl
  rw [e1, e2] at h2
  generalize ((oppP (mulE n P).1 : Nat) : Int) = o at *
  generalize ((mulE (n + 1) P).1 : Int) = x2 at *
  generalize ((mulE (n + 1) P).2 : Int) = y2 at *
  generalize ((mulE n P).1 : Int) = x1 at *
  generalize ((mulE n P).2 : Int) = y1 at *
  generalize (P.2 : Int) = d at *
  generalize cE = c at *
  exact Z.lin2 1 (c * x2 + d * x2 * y2 * y1) h2 ho (by grind)
theorem LadI.step {P : Nat × Nat} (hP : onE P) {u : Nat} (h1 : ¬ Z (1 - (P.2 : Int))) (h2 : ¬ Z (1 + (P.2 : Int))) (hu : Z ((u : Int) * (1 - (P.2 : Int)) - (1 + (P.2 : Int)))) {n b : Nat} (hb : b < 2)
    {s : Nat × (Nat × Nat) × (Nat × Nat)} (h : LadI P n s) : LadI P (2 * n + b) (ladStep u b s) := by
  have hn := mulE_on hP n
  have hn1 := mulE_on hP (n + 1)
  have hd := diff_n hP n
  have e0 : addE (mulE n P) (mulE n P) = mulE (2 * n) P := by rw [← mulE_add hP, Nat.two_mul]
  have e1 : addE (mulE n P) (mulE (n + 1) P) = mulE (2 * n + 1) P := by rw [← mulE_add hP]; congr 1; omega
  have e2 : addE (mulE (n + 1) P) (mulE (n + 1) P) = mulE (2 * n + 1 + 1) P := by rw [← mulE_add hP]; congr 1; omega
  have key : ∃ f g : Nat × Nat, ladStep u b s = (b, (lx2 f.1 f.2, lz2 f.1 f.2), (lx3 f.1 f.2 g.1 g.2, lz3 u f.1 f.2 g.1 g.2)) ∧
      (b = 0 → Rep (mulE n P) f.1 f.2 ∧ Rep (mulE (n + 1) P) g.1 g.2) ∧ (b = 1 → Rep (mulE (n + 1) P) f.1 f.2 ∧ Rep (mulE n P) g.1 g.2) := by
    refine ⟨_, _, rfl, fun h0 => ?_, fun h0 => ?_⟩ <;> rcases h with ⟨hs, k1, k2⟩ | ⟨hs, k1, k2⟩ <;> rw [h0, hs]
    · exact ⟨k1, k2⟩
    · exact ⟨k2, k1⟩
    · exact ⟨k2, k1⟩
    · exact ⟨k1, k2⟩
  obtain ⟨f, g, hs, k0, k1⟩ := key
  rw [hs]
  rcases (show b = 0 ∨ b = 1 by omega) with h0 | h0
  · obtain ⟨r1, r2⟩ := k0 h0
    left
    subst h0
    refine ⟨rfl, ?_, ?_⟩
    · rw [Nat.add_zero, ← e0]
      exact rep_dblN hn r1
    · rw [Nat.add_zero, ← e1]
      exact rep_addN hn hn1 r1 r2 hd hu h1 h2
  · obtain ⟨r1, r2⟩ := k1 h0
    right
    subst h0
    refine ⟨rfl, ?_, ?_⟩
    · rw [← e2]
      exact rep_dblN hn1 r1
    · rw [← e1, addE_comm]
      refine rep_addN hn1 hn r1 r2 (hd.lin1 1 ?_) hu h1 h2
      grind
theorem ladS_rep {P : Nat × Nat} (hP : onE P) {u K : Nat} (h1 : ¬ Z (1 - (P.2 : Int))) (h2 : ¬ Z (1 + (P.2 : Int))) (hu : Z ((u : Int) * (1 - (P.2 : Int)) - (1 + (P.2 : Int)))) (hK : K < 2 ^ 255) :
    ∀ i, i ≤ 255 → LadI P (K / 2 ^ (255 - i)) (ladS u K i)
  | 0, _ => by
    left
    rw [Nat.sub_zero, Nat.div_eq_of_lt hK]
    refine ⟨rfl, rep_zero, ?_⟩
    rw [Nat.zero_add, mulE_one hP]
    exact rep_one h1 hu
  | i + 1, hi => by
    have h := (ladS_rep hP h1 h2 hu hK i (by omega)).step hP h1 h2 hu (b := K / 2 ^ (254 - i) % 2) (Nat.mod_lt _ (by decide))
    have e : 2 * (K / 2 ^ (255 - i)) + K / 2 ^ (254 - i) % 2 = K / 2 ^ (255 - (i + 1)) := by
      rw [show 255 - i = (254 - i) + 1 by omega, Nat.pow_succ, ← Nat.div_div_eq_div_mul, show 255 - (i + 1) = 254 - i by omega]
      omega
    rw [e] at h
    exact h
theorem lx2_lt (x z : Nat) : lx2 x z < p25 := mulP_lt _ _
theorem lz2_lt (x z : Nat) : lz2 x z < p25 := mulP_lt _ _
theorem lx3_lt (x2 z2 x3 z3 : Nat) : lx3 x2 z2 x3 z3 < p25 := mulP_lt _ _
theorem lz3_lt (u x2 z2 x3 z3 : Nat) : lz3 u x2 z2 x3 z3 < p25 := mulP_lt _ _
theorem ladS_lt (u K : Nat) (hu : u < p25) : ∀ i, (ladS u K i).2.1.1 < p25 ∧ (ladS u K i).2.1.2 < p25 ∧ (ladS u K i).2.2.1 < p25 ∧ (ladS u K i).2.2.2 < p25
  | 0 => ⟨Nat.lt_trans (Nat.lt_succ_self 1) p25_two, p25_pos, hu, Nat.lt_trans (Nat.lt_succ_self 1) p25_two⟩
  | i + 1 => ⟨lx2_lt _ _, lz2_lt _ _, lx3_lt _ _ _ _, lz3_lt _ _ _ _ _⟩
theorem ladder_rep {P : Nat × Nat} (hP : onE P) {u K : Nat} (hup : u < p25) (h1 : ¬ Z (1 - (P.2 : Int))) (h2 : ¬ Z (1 + (P.2 : Int))) (hu : Z ((u : Int) * (1 - (P.2 : Int)) - (1 + (P.2 : Int)))) (hK : K < 2 ^ 255) : ladder u K = fracE (mulE K P) := by
  have h := ladS_rep hP h1 h2 hu hK 255 (Nat.le_refl _)
  obtain ⟨l1, l2, l3, l4⟩ := ladS_lt u K hup 255
  rw [Nat.sub_self, Nat.pow_zero, Nat.div_one] at h
  unfold ladder ladEnd
  rcases h with ⟨hs, k1, k2⟩ | ⟨hs, k1, k2⟩
  · rw [hs]
    exact rep_out l2 k1
  · rw [hs]
    exact rep_out l4 k2
end Go.Proofs.Ytncdlaidmiokiaa
