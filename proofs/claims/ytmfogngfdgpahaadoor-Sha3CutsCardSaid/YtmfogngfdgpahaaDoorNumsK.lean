/- A slice of numbers of whatever kind that came in; as a row's argument. -/
import Derived.Test.YtmfogngfdgpahaaDoorFrame
namespace Go.Proofs.YtmfogngfdgpahaaDoor
open Go.ChangeShapes Go.WideShapes Go.ChangeAt Go.RowKit Go.Deep

/-- The slice value v reads as the numbers xs, of kind k. -/
def NumsK (k : IntKind) (w : World) (v : Value) (xs : List Int) : Prop :=
  ∃ (a : Option Addr) (cap : Nat), v = .slice a xs.length cap ∧ xs.length ≤ cap ∧ cap ≤ maxLen ∧ (a = none → cap = 0) ∧ (∀ n ∈ xs, (Lit.int k n).wf = true) ∧
    ∀ x, a = some x → ∀ i (h : i < xs.length), x.block < w.heap.size ∧ w.cell? (x.add i) = some (.int k xs[i])
theorem NumsK.below {k : IntKind} {w w' : World} {v : Value} {xs : List Int} {B : Nat} (h : NumsK k w v xs) (hb : Below B w w') (hB : w.heap.size ≤ B) : NumsK k w' v xs := by
  obtain ⟨a, cap, rfl, h1, h2, h3, hw, h4⟩ := h
  refine ⟨a, cap, rfl, h1, h2, h3, hw, fun x hx i hi => ?_⟩
  obtain ⟨g1, g2⟩ := h4 x hx i hi
  exact ⟨Nat.lt_of_lt_of_le g1 hb.size, (hb.cell (p := x.add i) (by rw [add_block]; omega)).trans g2⟩
theorem NumsK.open_cons {k : IntKind} {w : World} {v : Value} {xs : List Int} (h : NumsK k w v xs) (hne : 0 < xs.length) :
    ∃ b off cap, v = .slice (some ⟨b, off, none⟩) xs.length cap ∧ xs.length ≤ cap ∧ cap ≤ maxLen ∧ b < w.heap.size ∧ ∀ i (h : i < xs.length), w.cell? ⟨b, off + i, none⟩ = some (.int k xs[i]) := by
  obtain ⟨a, cap, rfl, h1, h2, h3, hw, h4⟩ := h
  cases a with
  | none => have := h3 rfl; omega
  | some x =>
    obtain ⟨b, off, spot⟩ := x
    obtain ⟨g1, g2⟩ := h4 _ rfl 0 hne
    have hs : spot = none := by simpa [Addr.add] using World.cell?_spot g2
    subst hs
    exact ⟨b, off, cap, rfl, h1, h2, g1, fun i hi => by rw [← add_eq]; exact (h4 _ rfl i hi).2⟩
theorem NumsK.open_n {k : IntKind} {w : World} {v : Value} {xs : List Int} {n : Nat} (h : NumsK k w v xs) (hl : xs.length = n) (hne : 0 < n) :
    ∃ b off cap, v = .slice (some ⟨b, off, none⟩) n cap ∧ n ≤ cap ∧ cap ≤ maxLen ∧ b < w.heap.size ∧ ∀ i (h : i < xs.length), w.cell? ⟨b, off + i, none⟩ = some (.int k xs[i]) := by
  subst hl; exact h.open_cons hne
theorem NumsK.shape {k : IntKind} {w : World} {v : Value} {xs : List Int} (h : NumsK k w v xs) : ∃ a n cap, v = .slice a n cap ∧ xs.length = n ∧ n ≤ cap ∧ cap ≤ 9223372036854775807 ∧ NumsK k w (.slice a n cap) xs := by
  have h0 := h
  obtain ⟨a, cap, rfl, h1, h2, _⟩ := h
  unfold maxLen at h2
  exact ⟨a, _, cap, rfl, rfl, h1, by omega, h0⟩

theorem u64s_of_trod {H : Type} {enc : TypeId × Value → H} {W : World} {a : Option Addr} {len cap : Nat} {d : DataW H} {ps : List MemPlace}
    (h : DataW.Trod enc Tryd.prog W 0 (fun _ => true) true 32 (.slice a len cap) d ps) : ∃ xs, NumsK .u64 W (.slice a len cap) xs := by
  obtain ⟨fuel, hf⟩ := h
  rcases open_ints Tryd.underlying32 Tryd.underlying33 (by kernel_rfl) hf with ⟨hcs, _⟩ | ⟨x, l, c, zs, hcs, _, hl, hm, hz, _, hcell, hwz⟩
  · simp [Value.cells] at hcs
    obtain ⟨rfl, rfl, rfl⟩ := hcs
    exact ⟨[], none, 0, rfl, by simp, by simp [maxLen], fun _ => rfl, by simp, fun y hy => by cases hy⟩
  · simp [Value.cells] at hcs
    obtain ⟨rfl, rfl, rfl⟩ := hcs
    have hz' : zs.length = cap := by simpa using hz
    have hlen : (zs.take len).length = len := by simp; omega
    refine ⟨zs.take len, some x, cap, by rw [hlen], by omega, hm, (fun h => by cases h), fun n hn => hwz n (List.mem_of_mem_take hn), fun y hy i hi => ?_⟩
    cases hy
    have hc := hcell i (by omega)
    refine ⟨by rw [← add_block x i]; exact World.block_lt_of_cell? W _ hc, ?_⟩
    rw [hc]
    have hi2 : i < zs.length := by omega
    simp [hi2]

theorem intsK_of_trod {H : Type} {enc : TypeId × Value → H} {W : World} {a : Option Addr} {len cap : Nat} {d : DataW H} {ps : List MemPlace}
    (h : DataW.Trod enc Tryd.prog W 0 (fun _ => true) true 38 (.slice a len cap) d ps) : ∃ xs, NumsK .i64 W (.slice a len cap) xs := by
  obtain ⟨fuel, hf⟩ := h
  rcases open_ints Tryd.underlying38 Tryd.underlying3 (by kernel_rfl) hf with ⟨hcs, _⟩ | ⟨x, l, c, zs, hcs, _, hl, hm, hz, _, hcell, hwz⟩
  · simp [Value.cells] at hcs
    obtain ⟨rfl, rfl, rfl⟩ := hcs
    exact ⟨[], none, 0, rfl, by simp, by simp [maxLen], fun _ => rfl, by simp, fun y hy => by cases hy⟩
  · simp [Value.cells] at hcs
    obtain ⟨rfl, rfl, rfl⟩ := hcs
    have hz' : zs.length = cap := by simpa using hz
    have hlen : (zs.take len).length = len := by simp; omega
    refine ⟨zs.take len, some x, cap, by rw [hlen], by omega, hm, (fun h => by cases h), fun n hn => hwz n (List.mem_of_mem_take hn), fun y hy i hi => ?_⟩
    cases hy
    have hc := hcell i (by omega)
    refine ⟨by rw [← add_block x i]; exact World.block_lt_of_cell? W _ hc, ?_⟩
    rw [hc]
    have hi2 : i < zs.length := by omega
    simp [hi2]
end Go.Proofs.YtmfogngfdgpahaaDoor
