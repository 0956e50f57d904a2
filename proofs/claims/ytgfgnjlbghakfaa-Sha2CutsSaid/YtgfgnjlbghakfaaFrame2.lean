/- A slice of ints, as a row's argument. -/
import Derived.Test.YtgfgnjlbghakfaaFrame
import Derived.Test.YtgfgnjlbghakfaaRows2
namespace Go.Proofs.Ytgfgnjlbghakfaa
open Go.ChangeShapes Go.WideShapes Go.ChangeAt Go.RowKit Go.Deep

theorem ints_of_trod {H : Type} {enc : TypeId × Value → H} {W : World} {a : Option Addr} {len cap : Nat} {d : DataW H} {ps : List MemPlace}
    (h : DataW.Trod enc Try.prog W 0 (fun _ => true) true 43 (.slice a len cap) d ps) : ∃ xs, Ints W (.slice a len cap) xs := by
  obtain ⟨fuel, hf⟩ := h
  rcases open_ints Try.underlying43 Try.underlying3 (by kernel_rfl) hf with ⟨hcs, _⟩ | ⟨x, l, c, zs, hcs, _, hl, hm, hz, _, hcell, hwz⟩
  · simp [Value.cells] at hcs
    obtain ⟨rfl, rfl, rfl⟩ := hcs
    exact ⟨[], none, 0, rfl, by simp, by simp [maxLen], fun _ => rfl, by simp, fun y hy => by cases hy⟩
  · simp [Value.cells] at hcs
    obtain ⟨rfl, rfl, rfl⟩ := hcs
    have hz' : zs.length = cap := by simpa using hz
    have hlen : (zs.take len).length = len := by simp; omega
    refine ⟨zs.take len, some x, cap, by rw [hlen], by omega, hm, (fun h => by cases h), fun n hn => hwz n (List.mem_of_mem_take hn), fun y hy i hi => ?_⟩
    cases hy
    have hc := hcell i (by omega)
    refine ⟨by rw [← add_block x i]; exact World.block_lt_of_cell? W _ hc, ?_⟩
    rw [hc]
    have hi2 : i < zs.length := by omega
    simp [hi2]
end Go.Proofs.Ytgfgnjlbghakfaa
