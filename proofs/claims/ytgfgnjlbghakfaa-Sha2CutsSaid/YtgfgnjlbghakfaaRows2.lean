/- Rows of byte slices that the call itself makes by append; a slice of ints that came in. -/
import Derived.Test.YtgfgnjlbghakfaaRefLaws
namespace Go.Proofs.Ytgfgnjlbghakfaa
open Go.RowKit Go.Deep

theorem info_rows : (Try.prog.info? 25).map (fun i => (i.zero, i.size, i.bytes)) = some (some (.slice none 0 0), 1, 24) := by kernel_rfl

/-- v is a slice of the call's own (blocks from base on) that holds the slices vs. -/
def OwnsR (w : World) (base : Nat) (v : Value) (vs : List Value) : Prop := w.ownsRow base 25 1 v vs.length vs
theorem OwnsR.nil (w : World) (base : Nat) : OwnsR w base (.slice none 0 0) [] := World.ownsRow_nil _ _ _ _
theorem OwnsR.below {w w' : World} {base : Nat} {v : Value} {vs : List Value} (h : OwnsR w base v vs) (hb : Below w.heap.size w w') : OwnsR w' base v vs := by
  obtain ⟨h1, h2⟩ := h
  refine ⟨h1, ?_⟩
  rcases h2 with h2 | ⟨g, cap, cur, rfl, hbg, hg, h3⟩
  · exact .inl h2
  · exact .inr ⟨g, cap, cur, rfl, hbg, (hb.block g (Array.getElem?_eq_some_iff.1 hg).1).trans hg, h3⟩
theorem OwnsR.block {w : World} {base : Nat} {v : Value} {vs : List Value} (h : OwnsR w base v vs) : ∀ k, v.ownBlock = some k → base ≤ k := fun k hk => (World.ownsRow.lt h k hk).1

/-- 'append(l, b)', l the call's own. -/
theorem wpList_appRow {w : World} {ops : Array Oper} {rest : List Oper} {o : Oper} {a : Act} {Q : Exit → Act → World → Prop} (hgd : o.guard = none) (s x : Operand)
    (ho : o.op = .call { callee := .builtin .append, args := #[s, x], argTypes := #[22, 22] }) (base : Nat)
    (v u : Value) (vs : List Value) (ad : Addr) (hown : OwnsR w base v vs) (hu : w.cell? (ad.add 0) = some u) (hu1 : u.oneCell' = true) (hs : a.eval s = v) (hx : a.eval x = .slice (some ad) 1 1) (hlen : vs.length + 1 ≤ 1000000) (hbase : base ≤ w.heap.size)
    (h : ∀ v' w', OwnsR w' base v' (vs ++ [u]) → w.grownBy w' v.ownBlock → wpList Try.prog ops Q rest (a.put o.dst v') w') : wpList Try.prog ops Q (o :: rest) a w := by
  obtain ⟨i0, hi, hz0, hz1, hz2⟩ := info_parts info_rows
  refine wpList_append_own _ hgd s x 22 ho base 25 i0 (.slice none 0 0) 1 24 Try.underlying22 hi hz0 hz1 hz2 rfl (by decide) v vs.length vs hs hown ad 1 1 [u] hx rfl ?_ ?_ (by unfold maxLen; omega) (by omega) hbase ?_
  · intro j y hj
    match j, hj with
    | 0, hj => cases hj; exact hu
  · intro y hy
    simp only [List.mem_singleton] at hy
    subst hy
    exact hu1
  · intro v' w' g1 g2 _
    refine h v' w' ?_ g2
    unfold OwnsR
    rw [List.length_append]
    exact g1

theorem OwnsR.bss {w : World} {base : Nat} {v : Value} {vs : List Value} (h : OwnsR w base v vs) (L : List (List UInt8)) (hL : vs.length = L.length) (hm : L.length ≤ maxLen) (hr : ∀ i (hi : i < L.length), ∃ u, vs[i]? = some u ∧ Bs w u L[i]) : Bss w v L := by
  have h0 := h
  obtain ⟨_, h2⟩ := h
  rcases h2 with ⟨rfl, hn⟩ | ⟨g, cap, cur, rfl, hb, hg, hle, hm', hs, ht⟩
  · obtain rfl : L = [] := List.eq_nil_of_length_eq_zero (by omega)
    exact ⟨none, 0, rfl, by simp, by simp [maxLen], fun _ => rfl, fun y hy => by cases hy⟩
  · refine ⟨some ⟨g, 0, none⟩, cap, by rw [hL], by omega, hm', (fun h => by cases h), fun x hx i hi => ?_⟩
    cases hx
    obtain ⟨u, hu, hB⟩ := hr i hi
    refine ⟨(Array.getElem?_eq_some_iff.1 hg).1, u, ?_, hB⟩
    have := World.ownsRow.cellAt h0 i (by omega)
    rw [add_eq, Nat.zero_add, this]
    exact hu

/-- The slice value v reads as the ints xs. -/
def Ints (w : World) (v : Value) (xs : List Int) : Prop :=
  ∃ (a : Option Addr) (cap : Nat), v = .slice a xs.length cap ∧ xs.length ≤ cap ∧ cap ≤ maxLen ∧ (a = none → cap = 0) ∧ (∀ n ∈ xs, (Lit.int .i64 n).wf = true) ∧
    ∀ x, a = some x → ∀ i (h : i < xs.length), x.block < w.heap.size ∧ w.cell? (x.add i) = some (.int .i64 xs[i])
theorem Ints.below {w w' : World} {v : Value} {xs : List Int} {B : Nat} (h : Ints w v xs) (hb : Below B w w') (hB : w.heap.size ≤ B) : Ints w' v xs := by
  obtain ⟨a, cap, rfl, h1, h2, h3, hw, h4⟩ := h
  refine ⟨a, cap, rfl, h1, h2, h3, hw, fun x hx i hi => ?_⟩
  obtain ⟨g1, g2⟩ := h4 x hx i hi
  exact ⟨Nat.lt_of_lt_of_le g1 hb.size, (hb.cell (p := x.add i) (by rw [add_block]; omega)).trans g2⟩
theorem Ints.open_cons {w : World} {v : Value} {xs : List Int} (h : Ints w v xs) (hne : 0 < xs.length) :
    ∃ b off cap, v = .slice (some ⟨b, off, none⟩) xs.length cap ∧ xs.length ≤ cap ∧ cap ≤ maxLen ∧ b < w.heap.size ∧ ∀ i (h : i < xs.length), w.cell? ⟨b, off + i, none⟩ = some (.int .i64 xs[i]) := by
  obtain ⟨a, cap, rfl, h1, h2, h3, hw, h4⟩ := h
  cases a with
  | none => have := h3 rfl; omega
  | some x =>
    obtain ⟨b, off, spot⟩ := x
    obtain ⟨g1, g2⟩ := h4 _ rfl 0 hne
    have hs : spot = none := by simpa [Addr.add] using World.cell?_spot g2
    subst hs
    exact ⟨b, off, cap, rfl, h1, h2, g1, fun i hi => by rw [← add_eq]; exact (h4 _ rfl i hi).2⟩
end Go.Proofs.Ytgfgnjlbghakfaa
