/- The program's numbers below p: Mul. -/
import Derived.Test.YtncdlaidmiokiaaMM1
set_option linter.unusedSimpArgs false
set_option linter.unusedVariables false
namespace Go.Proofs.Ytncdlaidmiokiaa
open Go.RowKit Go.Deep

theorem wpList_indexW {ops : Array Oper} {rest : List Oper} {o : Oper} {a : Act} {w : World} {Q : Exit → Act → World → Prop} (hgd : o.guard = none) (x y : Operand) (ho : o.op = .index 25 x y) (F : Nat → Nat) {j : Nat} (v : Nat) (hv : F j = v)
    (hx : a.eval x = .agg (arrOf 4 (u64f F))) (hy : a.eval y = .int .i64 (j : Int)) (hj : j < 4) (h : wpList Try.prog ops Q rest (a.put o.dst (.int .u64 (v : Int))) w) : wpList Try.prog ops Q (o :: rest) a w := by
  subst hv
  exact wpList_index_arr hgd 25 24 x y ho 4 Try.underlying25 _ Try.underlying24 rfl (by kernel_rfl) hx hy hj h
theorem valW_put (g : Nat → Nat) (j x : Nat) : valW (setAt g j x) (j + 1) = valW g j + x * 18446744073709551616 ^ j := by
  rw [valW]
  have : valW (setAt g j x) j = valW g j := valW_congr j fun i hi => by unfold setAt; rw [if_neg (by omega)]
  rw [this]
  unfold setAt
  rw [if_pos rfl]
theorem valW_lt (g : Nat → Nat) (hg : ∀ j, g j < 18446744073709551616) : ∀ n, valW g n < 18446744073709551616 ^ n
  | 0 => by simp [valW]
  | n + 1 => by
    rw [valW, Nat.pow_succ]
    have h1 := valW_lt g hg n
    have h2 : g n * 18446744073709551616 ^ n ≤ 18446744073709551615 * 18446744073709551616 ^ n := Nat.mul_le_mul_right _ (by have := hg n; omega)
    omega
theorem valW_more (g : Nat → Nat) (i : Nat) : ∀ d, ∃ r, valW g (i + d) = valW g i + 18446744073709551616 ^ i * r
  | 0 => ⟨0, by simp⟩
  | d + 1 => by
    obtain ⟨r, hr⟩ := valW_more g i d
    refine ⟨r + g (i + d) * 18446744073709551616 ^ d, ?_⟩
    show valW g (i + d) + g (i + d) * 18446744073709551616 ^ (i + d) = _
    rw [hr, Nat.mul_add, Nat.pow_add]
    have : g (i + d) * (18446744073709551616 ^ i * 18446744073709551616 ^ d) = 18446744073709551616 ^ i * (g (i + d) * 18446744073709551616 ^ d) := by ac_rfl
    omega
/-- The words of a row of words. -/
theorem wd_valW (g : Nat → Nat) (hg : ∀ j, g j < 18446744073709551616) (i n : Nat) (h : i < n) : wd (valW g n) i = g i := by
  obtain ⟨r, hr⟩ := valW_more g (i + 1) (n - (i + 1))
  rw [show i + 1 + (n - (i + 1)) = n by omega] at hr
  have h1 := valW_lt g hg i
  have h2 := hg i
  unfold wd
  rw [hr, valW, Nat.pow_succ]
  have e : valW g i + g i * 18446744073709551616 ^ i + 18446744073709551616 ^ i * 18446744073709551616 * r = valW g i + 18446744073709551616 ^ i * (g i + 18446744073709551616 * r) := by
    rw [Nat.mul_add, Nat.mul_assoc, Nat.mul_comm (g i)]; omega
  rw [e, Nat.add_mul_div_left _ _ (powW_pos i), Nat.div_eq_of_lt h1]
  omega
theorem setAt_lt (f : Nat → Nat) (i x : Nat) (hf : ∀ j, f j < 18446744073709551616) (hx : x < 18446744073709551616) (j : Nat) : setAt f i x j < 18446744073709551616 := by
  unfold setAt
  split
  · exact hx
  · exact hf j
theorem setAt_zero (f : Nat → Nat) (i x n m : Nat) (hf : ∀ j, n ≤ j → f j = 0) (h : n ≤ m) (hi : i < m) (j : Nat) (hj : m ≤ j) : setAt f i x j = 0 := by
  unfold setAt
  rw [if_neg (by omega)]
  exact hf j (by omega)

end Go.Proofs.Ytncdlaidmiokiaa
