/- The program's numbers below p: Sub, Same, Odd, Pick. -/
import Derived.Test.YtncdlaidmiokiaaEwE
import Derived.Test.YtncdlaidmiokiaaMM1
set_option linter.unusedSimpArgs false
set_option linter.unusedVariables false
namespace Go.Proofs.Ytncdlaidmiokiaa
open Go.RowKit Go.Deep

theorem sub_opp (A C : Nat) : addP A (oppP C) = subP p25 A C := by
  rw [oppP_eq]
  rfl
theorem wd_inj {A B : Nat} (hA : A < p25) (hB : B < p25) : (∀ j, j < 4 → ((wd A j : Nat) : Int) = ((wd B j : Nat) : Int)) ↔ A = B := by
  constructor
  · intro h
    have h1 := valW_congr 4 (f := wd A) (g := wd B) (fun j hj => by have := h j hj; omega)
    rwa [wd_all _ (Nat.lt_trans hA p25_B4), wd_all _ (Nat.lt_trans hB p25_B4)] at h1
  · intro h j _; rw [h]
theorem run_part_words (F : Nat → Value) (w : World) : (part 25 (arrOf 4 F) 0).run Try.prog w = .ok (.agg (arrOf 4 F)) w := by
  have hg : (isAgg 25).run Try.prog w = .ok true w := by
    unfold isAgg
    rw [Sem.run_bind, run_underlying Try.underlying25 w]
    simp
  have hi : (Try.prog.info? 25).map (fun i => i.size) = some 4 := by kernel_rfl
  cases hq : Try.prog.info? 25 with
  | none => simp [hq] at hi
  | some i =>
    have hs : i.size = 4 := by simpa [hq] using hi
    simp [part, hg, sizeOf, typeInfo, hq, hs, Result.andThen]
    right
    rw [arrOf_size]
    exact Nat.le_refl _
end Go.Proofs.Ytncdlaidmiokiaa
