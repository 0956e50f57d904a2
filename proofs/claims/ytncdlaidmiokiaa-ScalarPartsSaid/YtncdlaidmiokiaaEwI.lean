/- The program's numbers below p: Bytes. -/
import Derived.Test.YtncdlaidmiokiaaEwH
import Derived.Test.YtncdlaidmiokiaaMM1
set_option linter.unusedSimpArgs false
set_option linter.unusedVariables false
namespace Go.Proofs.Ytncdlaidmiokiaa
open Go.RowKit Go.Deep

theorem litB_word (V j : Nat) : litB V (8 * (j + 1)) = litB V (8 * j) ++ litB (wd V j) 8 := by
  unfold litB
  rw [show 8 * (j + 1) = 8 * j + 8 by omega, List.range_add, List.map_append, List.map_map]
  congr 1
  refine List.map_congr_left fun i hi => ?_
  have hi8 : i < 8 := List.mem_range.1 hi
  show UInt8.ofNat (V / 2 ^ (8 * (8 * j + i))) = UInt8.ofNat (wd V j / 2 ^ (8 * i))
  have e1 : V / 2 ^ (8 * (8 * j + i)) = V / 18446744073709551616 ^ j / 2 ^ (8 * i) := by
    rw [show 8 * (8 * j + i) = 64 * j + 8 * i by omega, Nat.pow_add, Nat.pow_mul, ← Nat.div_div_eq_div_mul]
  rw [e1]
  apply UInt8.toNat_inj.1
  simp only [UInt8.toNat_ofNat']
  unfold wd
  generalize V / 18446744073709551616 ^ j = U
  have h8 : i = 0 ∨ i = 1 ∨ i = 2 ∨ i = 3 ∨ i = 4 ∨ i = 5 ∨ i = 6 ∨ i = 7 := by omega
  rcases h8 with rfl | rfl | rfl | rfl | rfl | rfl | rfl | rfl <;> omega
theorem run_make32 (w : World) : (Instr.makeSlice 22 (.int .i64 0) (.int .i64 32)).run Try.prog w = .ok (.slice (some ⟨w.heap.size, 0, none⟩) 0 32) (w.alloc (.cells (madeCells #[.int .u8 0] 32) 5)) := by kernel_rfl
theorem Owns.made (w : World) : Owns (w.alloc (.cells (madeCells #[.int .u8 0] 32) 5)) w.heap.size (.slice (some ⟨w.heap.size, 0, none⟩) 0 32) [] :=
  World.ownsRow_made w _ 32 (Nat.le_refl _) (by decide) (by simp [madeCells])
theorem Owns.past {w w' : World} {base : Nat} {v : Value} {l : List UInt8} (h : Owns w base v l) (hb : Below w.heap.size w w') : Owns w' base v l := by
  obtain ⟨h1, h2⟩ := h
  refine ⟨h1, ?_⟩
  rcases h2 with h2 | ⟨g, cap, cur, rfl, hbg, hg, h3⟩
  · exact .inl h2
  · exact .inr ⟨g, cap, cur, rfl, hbg, (hb.block g (Array.getElem?_eq_some_iff.1 hg).1).trans hg, h3⟩
end Go.Proofs.Ytncdlaidmiokiaa
