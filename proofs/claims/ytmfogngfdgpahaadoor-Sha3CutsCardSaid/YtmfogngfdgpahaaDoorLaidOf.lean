/- What the rows' condition on the program's tables gives the walks. -/
import Derived.Test.YtmfogngfdgpahaaDoorRows
import Derived.Test.YtmfogngfdgpahaaDoorKecB
import Derived.Lib.LaidTab
import Derived.LaidMore
import Derived.MakeChecks
import Derived.ProofKit
namespace Go.Proofs.YtmfogngfdgpahaaDoor
open Go.RowKit Go.Deep

def laid3 : List (String × DataW Unit) := [("missive/sha3.turns", Rows.laid_missive_sha3_turns), ("missive/sha3.sources", Rows.laid_missive_sha3_sources), ("missive/sha3.marks", Rows.laid_missive_sha3_marks)]
theorem gTurns : Tryd.prog.globalNamed "missive/sha3.turns" = some 1 := by kernel_rfl
theorem gSources : Tryd.prog.globalNamed "missive/sha3.sources" = some 2 := by kernel_rfl
theorem gMarks : Tryd.prog.globalNamed "missive/sha3.marks" = some 0 := by kernel_rfl
theorem tTurns : (Tryd.prog.globals[1]?).map (·.type) = some 67 := by kernel_rfl
theorem tSources : (Tryd.prog.globals[2]?).map (·.type) = some 67 := by kernel_rfl
theorem tMarks : (Tryd.prog.globals[0]?).map (·.type) = some 49 := by kernel_rfl
def turnsZ : List Int := turnsL.map Int.ofNat
def sourcesZ : List Int := sourcesL.map Int.ofNat
def marksZ : List Int := marksL.map Int.ofNat
theorem dTurns : (Rows.laid_missive_sha3_turns : DataW Unit) = Lib.tabData .i64 turnsZ := by kernel_rfl
theorem dSources : (Rows.laid_missive_sha3_sources : DataW Unit) = Lib.tabData .i64 sourcesZ := by kernel_rfl
theorem dMarks : (Rows.laid_missive_sha3_marks : DataW Unit) = Lib.tabData .u64 marksZ := by kernel_rfl
theorem turnsZ_at : ∀ i, i < 25 → turnsZ.getD i 0 = (turnsN i : Int) := by decide
theorem sourcesZ_at : ∀ i, i < 25 → sourcesZ.getD i 0 = (srcN i : Int) := by decide
theorem marksZ_at : ∀ i, i < 24 → marksZ.getD i 0 = ((markB i).toNat : Int) := by decide +kernel

theorem of_laid {W : World} (h : laidMetH Tryd.prog laid3 W) : Laid3 W := by
  rw [MakeChecks.laidMetH_plain _ _ _ (by kernel_rfl)] at h
  have e25 : Tryd.prog.cellsOf 67 = 25 := by kernel_rfl
  have e24 : Tryd.prog.cellsOf 49 = 24 := by kernel_rfl
  have ei : Tryd.prog.cellsOf 3 = 1 := by kernel_rfl
  have eu : Tryd.prog.cellsOf 33 = 1 := by kernel_rfl
  obtain ⟨ps, ⟨g0, t0, cs0, f0, p0, q0, hg0, ht0, hv0, hd0, ⟨g1, t1, cs1, f1, p1, q1, hg1, ht1, hv1, hd1, ⟨g2, t2, cs2, f2, p2, q2, hg2, ht2, hv2, hd2, _, _⟩, _⟩, _⟩, _, _⟩ := h
  obtain rfl := Option.some.inj (gTurns.symm.trans hg0)
  obtain rfl := Option.some.inj (gSources.symm.trans hg1)
  obtain rfl := Option.some.inj (gMarks.symm.trans hg2)
  obtain rfl := Option.some.inj (tTurns.symm.trans ht0)
  obtain rfl := Option.some.inj (tSources.symm.trans ht1)
  obtain rfl := Option.some.inj (tMarks.symm.trans ht2)
  rw [dTurns] at hd0
  rw [dSources] at hd1
  rw [dMarks] at hd2
  have T0 : Lib.TabIs Tryd.prog W "missive/sha3.turns" .i64 turnsZ := by
    unfold Lib.TabIs
    rw [hv0, ← Lib.cells_of_tab Tryd.underlying67 Tryd.underlying3 ei e25 hd0]
  have T1 : Lib.TabIs Tryd.prog W "missive/sha3.sources" .i64 sourcesZ := by
    unfold Lib.TabIs
    rw [hv1, ← Lib.cells_of_tab Tryd.underlying67 Tryd.underlying3 ei e25 hd1]
  have T2 : Lib.TabIs Tryd.prog W "missive/sha3.marks" .u64 marksZ := by
    unfold Lib.TabIs
    rw [hv2, ← Lib.cells_of_tab Tryd.underlying49 Tryd.underlying33 eu e24 hd2]
  have b0 := World.block_lt_of_cell? W _ (T0.cell gTurns 0 (by show 0 < 25; omega))
  have b1 := World.block_lt_of_cell? W _ (T1.cell gSources 0 (by show 0 < 25; omega))
  have b2 := World.block_lt_of_cell? W _ (T2.cell gMarks 0 (by show 0 < 24; omega))
  have hs : 3 ≤ W.heap.size := by
    replace b0 : 1 < W.heap.size := b0
    replace b1 : 2 < W.heap.size := b1
    replace b2 : 0 < W.heap.size := b2
    omega
  refine ⟨fun i hi => ?_, fun i hi => ?_, fun i hi => ?_, hs⟩
  · have h := T0.cell gTurns i (by show i < 25; exact hi)
    rw [turnsZ_at i hi] at h
    exact h
  · have h := T1.cell gSources i (by show i < 25; exact hi)
    rw [sourcesZ_at i hi] at h
    exact h
  · have h := T2.cell gMarks i (by show i < 24; exact hi)
    rw [marksZ_at i hi] at h
    exact h
end Go.Proofs.YtmfogngfdgpahaaDoor
