/- Texts joined: what they are for stands ahead of each. -/
import Derived.Test.YtiapkfeamochfaaMM2
import Derived.ProofKit
import Derived.OpenShut
import Derived.ChangeOld
import Derived.Deep.Matrix
set_option linter.unusedSimpArgs false
set_option linter.unusedVariables false

/- From the reading of an argument to the words of the contracts: a slice of bytes, a slice of slices of bytes. -/
set_option linter.unusedSimpArgs false
set_option linter.unusedVariables false
namespace Go.Proofs.Ytiapkfeamochfaa
open Go.ChangeShapes Go.WideShapes Go.ChangeAt Go.RowKit Go.Deep

/-- The numbers of a row of bytes, as bytes. -/
def asB (zs : List Int) : List UInt8 := zs.map fun n => UInt8.ofNat n.toNat

theorem asB_at (n : Int) (h : 0 ≤ n ∧ n ≤ 255) : ((UInt8.ofNat n.toNat).toNat : Int) = n := by
  rw [UInt8.toNat_ofNat_of_lt' (by show n.toNat < 256; omega)]; omega

/-- A row of numbers whose cells are known, read as bytes. -/
theorem bs_of_cells {W : World} {a : Option Addr} {len cap : Nat} {zs : List Int} (hl : len ≤ cap) (hm : cap ≤ maxLen) (hz : zs.length = cap) (hn : a = none → cap = 0)
    (hwz : ∀ n ∈ zs, (Lit.int .u8 n).wf = true) (hcell : ∀ x, a = some x → ∀ i, i < cap → W.cell? (x.add i) = some (.int .u8 (zs.getD i 0))) : Bs W (.slice a len cap) (asB (zs.take len)) := by
  have hlen : (asB (zs.take len)).length = len := by simp [asB]; omega
  refine ⟨a, cap, by rw [hlen], by omega, hm, hn, fun y hy i hi => ?_⟩
  rw [hlen] at hi
  have hc := hcell y hy i (by omega)
  refine ⟨by rw [← add_block y i]; exact World.block_lt_of_cell? W _ hc, ?_⟩
  rw [hc]
  have hi2 : i < zs.length := by omega
  have hg : zs.getD i 0 = zs[i] := by simp [hi2]
  have hw := bd_u8 (hwz zs[i] (List.getElem_mem _))
  rw [← hg] at hw
  have e : (asB (zs.take len))[i]'(by rw [hlen]; exact hi) = UInt8.ofNat (zs.getD i 0).toNat := by
    simp [asB, List.getElem?_eq_getElem (show i < zs.length by omega)]
  rw [e, asB_at _ hw]

theorem bs_of_trod {H : Type} {enc : TypeId × Value → H} {W : World} {a : Option Addr} {len cap : Nat} {d : DataW H} {ps : List MemPlace}
    (h : DataW.Trod enc Try.prog W 0 (fun _ => true) true 22 (.slice a len cap) d ps) : ∃ l, Bs W (.slice a len cap) l := by
  obtain ⟨fuel, hf⟩ := h
  rcases open_ints Try.underlying22 Try.underlying5 (by kernel_rfl) hf with ⟨hcs, _⟩ | ⟨x, l, c, zs, hcs, _, hl, hm, hz, _, hcell, hwz⟩
  · simp [Value.cells] at hcs
    obtain ⟨rfl, rfl, rfl⟩ := hcs
    exact ⟨[], Bs.nil W⟩
  · simp [Value.cells] at hcs
    obtain ⟨rfl, rfl, rfl⟩ := hcs
    have hz' : zs.length = cap := by simpa using hz
    exact ⟨_, bs_of_cells hl hm hz' (fun h => by cases h) hwz (fun y hy i hi => by cases hy; exact hcell i (by omega))⟩

end Go.Proofs.Ytiapkfeamochfaa
