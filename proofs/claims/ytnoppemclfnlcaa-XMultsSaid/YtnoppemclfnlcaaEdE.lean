/- The ladder of the coordinates 0, 1 and - 1: with an even scalar it tells nothing. -/
import Derived.Test.YtnoppemclfnlcaaEdC
set_option linter.unusedSimpArgs false
set_option linter.unusedVariables false
namespace Go.Proofs.Ytnoppemclfnlcaa

theorem lz2_zero {x z : Nat} (h : Z ((x : Int) * z)) : lz2 x z = 0 := by
  have h2 := Z_lz2 x z
  refine (Z.nat (lz2_lt x z)).1 ?_
  generalize ((lz2 x z : Nat) : Int) = q at *
  generalize (x : Int) = a at *
  generalize (z : Int) = b at *
  exact Z.lin2 1 (4 * ((a + b) * (a + b) + 121665 * ((a + b) * (a + b) - (a - b) * (a - b)))) h2 h (by grind)
theorem lx2_zero {x z : Nat} (h : Z ((x : Int) * x - (z : Int) * z)) : lx2 x z = 0 := by
  have h2 := Z_lx2 x z
  refine (Z.nat (lx2_lt x z)).1 ?_
  generalize ((lx2 x z : Nat) : Int) = q at *
  generalize (x : Int) = a at *
  generalize (z : Int) = b at *
  exact Z.lin2 1 (a * a - b * b) h2 h (by grind)
theorem end_zero {x z : Nat} (hx : x < p25) (hz : z < p25) (h : Z ((x : Int) * z)) : mulP x (invP z) = 0 := by
  rcases h.prime with h1 | h1
  · rw [(Z.nat hx).1 h1]
    unfold mulP
    rw [Nat.zero_mul, Nat.zero_mod]
  · rw [(Z.nat hz).1 h1, invP_zero]
    unfold mulP
    rw [Nat.mul_zero, Nat.zero_mod]
/-- Of 0. -/
theorem lad0 (K : Nat) : ∀ i, Z (((ladS 0 K i).2.1.1 : Int) * ((ladS 0 K i).2.1.2 : Int)) ∧ Z (((ladS 0 K i).2.2.1 : Int) * ((ladS 0 K i).2.2.2 : Int))
  | 0 => ⟨Z.zero, Z.zero⟩
  | i + 1 => by
    obtain ⟨h1, h2⟩ := lad0 K i
    have key : ∃ f g : Nat × Nat, ladS 0 K (i + 1) = (K / 2 ^ (254 - i) % 2, (lx2 f.1 f.2, lz2 f.1 f.2), (lx3 f.1 f.2 g.1 g.2, lz3 0 f.1 f.2 g.1 g.2)) ∧ Z ((f.1 : Int) * f.2) := by
      refine ⟨_, _, rfl, ?_⟩
      split
      · exact h1
      · exact h2
    obtain ⟨f, g, hs, hf⟩ := key
    rw [hs]
    have e1 : lz2 f.1 f.2 = 0 := lz2_zero hf
    have e2 : lz3 0 f.1 f.2 g.1 g.2 = 0 := by unfold lz3 mulP; rw [Nat.zero_mul, Nat.zero_mod]
    refine ⟨?_, ?_⟩
    · show Z ((lx2 f.1 f.2 : Int) * ((lz2 f.1 f.2 : Nat) : Int))
      rw [e1]
      exact Z.zero.lin1 1 (by grind)
    · show Z ((lx3 f.1 f.2 g.1 g.2 : Int) * ((lz3 0 f.1 f.2 g.1 g.2 : Nat) : Int))
      rw [e2]
      exact Z.zero.lin1 1 (by grind)
theorem ladder_0 (K : Nat) : ladder 0 K = 0 := by
  obtain ⟨h1, h2⟩ := lad0 K 255
  obtain ⟨l1, l2, l3, l4⟩ := ladS_lt 0 K p25_pos 255
  unfold ladder ladEnd
  dsimp only
  split
  · exact end_zero l3 l4 h2
  · exact end_zero l1 l2 h1
/-- Of what squared is 1. -/
theorem lad1 {u : Nat} (hu : Z ((u : Int) * u - 1)) (K : Nat) : ∀ i, Z (((ladS u K i).2.1.1 : Int) * ((ladS u K i).2.1.2 : Int)) ∧ Z (((ladS u K i).2.2.1 : Int) - (u : Int) * ((ladS u K i).2.2.2 : Int))
  | 0 => ⟨Z.zero, Z.zero.lin1 1 (by show (u : Int) - (u : Int) * ((1 : Nat) : Int) = _; grind)⟩
  | i + 1 => by
    obtain ⟨h1, h2⟩ := lad1 hu K i
    have sq : ∀ a b : Int, Z (a - (u : Int) * b) → Z (a * a - b * b) := fun a b h => by
      generalize (u : Int) = v at *
      exact Z.lin2 (a + v * b) (b * b) h hu (by grind)
    have key : ∃ f g : Nat × Nat, ladS u K (i + 1) = (K / 2 ^ (254 - i) % 2, (lx2 f.1 f.2, lz2 f.1 f.2), (lx3 f.1 f.2 g.1 g.2, lz3 u f.1 f.2 g.1 g.2)) ∧
        (Z ((f.1 : Int) * f.2) ∧ Z ((g.1 : Int) - (u : Int) * g.2) ∨ Z ((f.1 : Int) - (u : Int) * f.2) ∧ Z ((g.1 : Int) * g.2)) := by
      refine ⟨_, _, rfl, ?_⟩
      by_cases h : (ladS u K i).1 = K / 2 ^ (254 - i) % 2
      · rw [if_pos h, if_pos h]
        exact .inl ⟨h1, h2⟩
      · rw [if_neg h, if_neg h]
        exact .inr ⟨h2, h1⟩
    obtain ⟨f, g, hs, hfg⟩ := key
    rw [hs]
    refine ⟨?_, ?_⟩
    · show Z ((lx2 f.1 f.2 : Int) * ((lz2 f.1 f.2 : Nat) : Int))
      rcases hfg with ⟨hf, _⟩ | ⟨hf, _⟩
      · rw [lz2_zero hf]
        exact Z.zero.lin1 1 (by grind)
      · rw [lx2_zero (sq _ _ hf)]
        exact Z.zero.lin1 1 (by grind)
    · show Z ((lx3 f.1 f.2 g.1 g.2 : Int) - (u : Int) * ((lz3 u f.1 f.2 g.1 g.2 : Nat) : Int))
      have k1 := Z_lx3 f.1 f.2 g.1 g.2
      have k2 := Z_lz3 u f.1 f.2 g.1 g.2
      have k3 : Z (((g.1 : Int) * g.1 - (g.2 : Int) * g.2) * ((f.1 : Int) * f.1 - (f.2 : Int) * f.2)) := by
        rcases hfg with ⟨_, hg⟩ | ⟨hf, _⟩
        · exact (sq _ _ hg).lin1 ((f.1 : Int) * f.1 - (f.2 : Int) * f.2) (by grind)
        · exact (sq _ _ hf).mul _
      generalize ((lx3 f.1 f.2 g.1 g.2 : Nat) : Int) = p at *
      generalize ((lz3 u f.1 f.2 g.1 g.2 : Nat) : Int) = q at *
      generalize (f.1 : Int) = a at *
      generalize (f.2 : Int) = b at *
      generalize (g.1 : Int) = c at *
      generalize (g.2 : Int) = d at *
      generalize (u : Int) = v at *
      exact Z.lin4 1 (-v) (-(((c - d) * (a + b) - (c + d) * (a - b)) * ((c - d) * (a + b) - (c + d) * (a - b)))) 4 k1 k2 hu k3 (by grind)
theorem ladder_1 {u : Nat} (hup : u < p25) (hu : Z ((u : Int) * u - 1)) {K : Nat} (hK : K % 2 = 0) : ladder u K = 0 := by
  obtain ⟨h1, _⟩ := lad1 hu K 255
  obtain ⟨l1, l2, l3, l4⟩ := ladS_lt u K hup 255
  have hb : (ladS u K 255).1 = 0 := by
    show K / 2 ^ (254 - 254) % 2 = 0
    rw [Nat.sub_self, Nat.pow_zero, Nat.div_one, hK]
  unfold ladder ladEnd
  dsimp only
  rw [if_neg (by rw [hb]; decide)]
  exact end_zero l1 l2 h1
end Go.Proofs.Ytnoppemclfnlcaa
