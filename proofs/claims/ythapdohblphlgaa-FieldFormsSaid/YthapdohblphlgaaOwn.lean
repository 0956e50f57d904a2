/- Byte slices that the call itself makes by append; slices of byte slices that came in. -/
import Derived.Test.YthapdohblphlgaaVoc
import Derived.Laws.AppendOwnNone
import Derived.Deep.RegionLaw
namespace Go.Proofs.Ythapdohblphlgaa
open Go.RowKit Go.Deep

def u8s (l : List UInt8) : List Value := l.map fun b => .int .u8 (b.toNat : Int)
theorem u8s_length (l : List UInt8) : (u8s l).length = l.length := by simp [u8s]
theorem u8s_append (l r : List UInt8) : u8s (l ++ r) = u8s l ++ u8s r := by simp [u8s]

/-- v is a slice of the call's own (blocks from base on) that holds the bytes l, and may be appended to. -/
def Owns (w : World) (base : Nat) (v : Value) (l : List UInt8) : Prop := w.ownsRow base 5 1 v l.length (u8s l)

theorem Owns.nil (w : World) (base : Nat) : Owns w base (.slice none 0 0) [] := World.ownsRow_nil _ _ _ _
theorem Owns.alloc {w : World} {base : Nat} {v : Value} {l : List UInt8} (h : Owns w base v l) (o : Obj) : Owns (w.alloc o) base v l := World.ownsRow.alloc h o
theorem Owns.drew {w : World} {base : Nat} {v : Value} {l : List UInt8} (h : Owns w base v l) : Owns w.drew base v l := h

theorem Owns.bs {w : World} {base : Nat} {v : Value} {l : List UInt8} (h : Owns w base v l) : Bs w v l := by
  have h0 := h
  obtain ⟨_, h2⟩ := h
  rcases h2 with ⟨rfl, hn⟩ | ⟨g, cap, cur, rfl, hb, hg, hle, hm, hs, ht⟩
  · obtain rfl : l = [] := List.eq_nil_of_length_eq_zero hn
    exact Bs.nil w
  · refine ⟨_, cap, rfl, hle, hm, (fun h => by cases h), fun x hx i hi => ?_⟩
    cases hx
    refine ⟨(Array.getElem?_eq_some_iff.1 hg).1, ?_⟩
    have := World.ownsRow.cellAt h0 i (by omega)
    rw [add_eq, Nat.zero_add, this]
    simp [u8s, hi]

theorem Owns.block {w : World} {base : Nat} {v : Value} {l : List UInt8} (h : Owns w base v l) : ∀ k, v.ownBlock = some k → base ≤ k := fun k hk => (World.ownsRow.lt h k hk).1

/-- 'append(out, b...)', out the call's own, b whatever reads as bytes. -/
theorem wpList_app {w : World} {ops : Array Oper} {rest : List Oper} {o : Oper} {a : Act} {Q : Exit → Act → World → Prop} (hgd : o.guard = none) (s x : Operand)
    (ho : o.op = .call { callee := .builtin .append, args := #[s, x], argTypes := #[22, 22] }) (base : Nat)
    (v vb : Value) (l lb : List UInt8) (hown : Owns w base v l) (hb : Bs w vb lb) (hs : a.eval s = v) (hx : a.eval x = vb) (hlen : l.length + lb.length ≤ 2147483647) (hbase : base ≤ w.heap.size)
    (h : ∀ v' w', Owns w' base v' (l ++ lb) → w.grownBy w' v.ownBlock → wpList Try.prog ops Q rest (a.put o.dst v') w') : wpList Try.prog ops Q (o :: rest) a w := by
  obtain ⟨i0, hi, hz0, hz1, hz2⟩ := info_parts Try.info5
  obtain ⟨ad, cap, rfl, h1, h2, h3, h4⟩ := hb
  cases ad with
  | none =>
    have hc := h3 rfl
    obtain rfl : lb = [] := List.eq_nil_of_length_eq_zero (by omega)
    subst hc
    refine wpList_append_own_none hgd s x 22 ho base 5 i0 1 Try.underlying22 hi v l.length (u8s l) hs hown hx ?_
    exact h v w (by simpa using hown) ⟨rfl, rfl, rfl, Nat.le_refl _, fun _ _ _ => rfl⟩
  | some ad =>
    refine wpList_append_own _ hgd s x 22 ho base 5 i0 (.int .u8 0) 1 1 Try.underlying22 hi hz0 hz1 hz2 rfl (by decide) v l.length (u8s l) hs hown ad lb.length cap (u8s lb) hx (by simp [u8s]) ?_ ?_ (by unfold maxLen; omega) (by omega) hbase ?_
    · intro j u hj
      have hj' : j < lb.length := by have := (List.getElem?_eq_some_iff.1 hj).1; simpa [u8s] using this
      rw [(h4 _ rfl j hj').2, ← hj]
      simp [u8s, hj']
    · intro u hu
      simp only [u8s, List.mem_map] at hu
      obtain ⟨b, _, rfl⟩ := hu
      rfl
    · intro v' w' g1 g2 _
      refine h v' w' ?_ g2
      unfold Owns
      rw [u8s_append, List.length_append]
      exact g1

/-- The same as one step of a region that draws its order. -/
theorem step_app {w : World} {ops : Array Oper} {o : Oper} {a : Act} {K : Act → World → Prop} {Q : Exit → Act → World → Prop} {E : Prop} (hgd : o.guard = none) (s x : Operand)
    (ho : o.op = .call { callee := .builtin .append, args := #[s, x], argTypes := #[22, 22] }) (base : Nat)
    (v vb : Value) (l lb : List UInt8) (hown : Owns w base v l) (hb : Bs w vb lb) (hs : a.eval s = v) (hx : a.eval x = vb) (hlen : l.length + lb.length ≤ 2147483647) (hbase : base ≤ w.heap.size)
    (hK : ∀ v' w', Owns w' base v' (l ++ lb) → w.grownBy w' v.ownBlock → K (a.put o.dst v') w') :
    if Region.wanted o (yielded ops a.tmps) = true then Oper.wp Try.prog o a w K Q else E := by
  have hw : Region.wanted o (yielded ops a.tmps) = true := by simp [Region.wanted, hgd]
  rw [if_pos hw]
  obtain ⟨i0, hi, hz0, hz1, hz2⟩ := info_parts Try.info5
  obtain ⟨ad, cap, rfl, h1, h2, h3, h4⟩ := hb
  cases ad with
  | none =>
    have hc := h3 rfl
    obtain rfl : lb = [] := List.eq_nil_of_length_eq_zero (by omega)
    subst hc
    have hrun := run_append_owned_none (P := Try.prog) (w := w) base 22 o.type 5 i0 1 Try.underlying22 hi v l.length (u8s l) hown
    unfold Oper.wp
    simp [execOp, ho, resolve, invoke, builtin, hs, hx, hrun, Result.andThen]
    exact hK v w (by simpa using hown) ⟨rfl, rfl, rfl, Nat.le_refl _, fun _ _ _ => rfl⟩
  | some ad =>
    have hnews : ∀ j u, (u8s lb)[j]? = some u → w.cell? (ad.add j) = some u := by
      intro j u hj
      have hj' : j < lb.length := by have := (List.getElem?_eq_some_iff.1 hj).1; simpa [u8s] using this
      rw [(h4 _ rfl j hj').2, ← hj]
      simp [u8s, hj']
    have hone : ∀ u ∈ u8s lb, u.oneCell' = true := by
      intro u hu
      simp only [u8s, List.mem_map] at hu
      obtain ⟨b, _, rfl⟩ := hu
      rfl
    obtain ⟨v', w', hrun, g1, g2, _⟩ := run_append_own (P := Try.prog) w base 22 o.type 5 i0 (.int .u8 0) 1 1 Try.underlying22 hi hz0 hz1 hz2 rfl (by decide) v l.length (u8s l) hown ad lb.length cap (u8s lb) (by simp [u8s]) hnews hone (by unfold maxLen; omega) (by omega) hbase
    unfold Oper.wp
    simp [execOp, ho, resolve, invoke, builtin, hs, hx, hrun, Result.andThen]
    refine hK v' w' ?_ g2
    unfold Owns
    rw [u8s_append, List.length_append]
    exact g1

/-- One byte in a block of its own, as append(out, b) lays it. -/
theorem Bs.one (w : World) (b : UInt8) : Bs (w.alloc (.cells #[.int .u8 (b.toNat : Int)] 5)) (.slice (some ⟨w.heap.size, 0, none⟩) 1 1) [b] := by
  have h := World.rowIs_alloc w #[.int .u8 (b.toNat : Int)] 5 (fun _ => .int .u8 (b.toNat : Int)) (by intro i hi; simp at hi; subst hi; rfl)
  exact Bs.of_rowIs h [b] (by simp) (by simp [maxLen]) (by intro i hi; simp at hi; subst hi; rfl)

/-- Two bytes likewise. -/
theorem Bs.two (w : World) (b c : UInt8) : Bs (w.alloc (.cells #[.int .u8 (b.toNat : Int), .int .u8 (c.toNat : Int)] 5)) (.slice (some ⟨w.heap.size, 0, none⟩) 2 2) [b, c] := by
  have h := World.rowIs_alloc w #[.int .u8 (b.toNat : Int), .int .u8 (c.toNat : Int)] 5 (fun i => if i = 0 then .int .u8 (b.toNat : Int) else .int .u8 (c.toNat : Int)) (by intro i hi; match i, hi with | 0, _ => rfl | 1, _ => rfl)
  exact Bs.of_rowIs h [b, c] (by simp) (by simp [maxLen]) (by intro i hi; match i, hi with | 0, _ => rfl | 1, _ => rfl)

/-- string(b). -/
theorem Bs.conv {w : World} {v : Value} {l : List UInt8} (h : Bs w v l) : (convert 22 9 v).run Try.prog w = .ok (.string ⟨l.toArray⟩) w := by
  obtain ⟨ad, cap, rfl, h1, h2, h3, h4⟩ := h
  cases ad with
  | none =>
    have hc := h3 rfl
    obtain rfl : l = [] := List.eq_nil_of_length_eq_zero (by omega)
    exact Lib.run_convert_nil_bytes w 22 9 5 cap Try.underlying22 Try.underlying5 Try.underlying9
  | some x => exact run_convert_bytes_back w 22 9 5 x cap l Try.underlying22 Try.underlying5 Try.underlying9 (fun j hj => (h4 x rfl j hj).2)

/-- The slice value v reads as the rows L. -/
def Bss (w : World) (v : Value) (L : List (List UInt8)) : Prop :=
  ∃ (a : Option Addr) (cap : Nat), v = .slice a L.length cap ∧ L.length ≤ cap ∧ cap ≤ maxLen ∧ (a = none → cap = 0) ∧
    ∀ x, a = some x → ∀ i (h : i < L.length), x.block < w.heap.size ∧ ∃ u, w.cell? (x.add i) = some u ∧ Bs w u L[i]

theorem Bss.below {w w' : World} {v : Value} {L : List (List UInt8)} {B : Nat} (h : Bss w v L) (hb : Below B w w') (hB : w.heap.size ≤ B) : Bss w' v L := by
  obtain ⟨a, cap, rfl, h1, h2, h3, h4⟩ := h
  refine ⟨a, cap, rfl, h1, h2, h3, fun x hx i hi => ?_⟩
  obtain ⟨g1, u, g2, g3⟩ := h4 x hx i hi
  exact ⟨Nat.lt_of_lt_of_le g1 hb.size, u, (hb.cell (p := x.add i) (by rw [add_block]; omega)).trans g2, g3.below hb hB⟩

theorem Bss.open_cons {w : World} {v : Value} {L : List (List UInt8)} (h : Bss w v L) (hne : 0 < L.length) :
    ∃ b off cap, v = .slice (some ⟨b, off, none⟩) L.length cap ∧ L.length ≤ cap ∧ cap ≤ maxLen ∧ b < w.heap.size ∧ ∀ i (h : i < L.length), ∃ u, w.cell? ⟨b, off + i, none⟩ = some u ∧ Bs w u L[i] := by
  obtain ⟨a, cap, rfl, h1, h2, h3, h4⟩ := h
  cases a with
  | none => have := h3 rfl; omega
  | some x =>
    obtain ⟨b, off, spot⟩ := x
    obtain ⟨g1, u, g2, _⟩ := h4 _ rfl 0 hne
    have hs : spot = none := by simpa [Addr.add] using World.cell?_spot g2
    subst hs
    exact ⟨b, off, cap, rfl, h1, h2, g1, fun i hi => by rw [← add_eq]; exact (h4 _ rfl i hi).2⟩

/-- A row of byte slices, made on the spot. -/
theorem Bss.one {w : World} {v : Value} {l : List UInt8} (h : Bs w v l) {n : Nat} (hn : w.heap.size = n) : Bss (w.alloc (.cells #[v] 22)) (.slice (some ⟨n, 0, none⟩) 1 1) [l] := by
  subst hn
  refine ⟨_, 1, rfl, by simp, by simp [maxLen], (fun h => by cases h), fun x hx i hi => ?_⟩
  cases hx
  simp at hi
  subst hi
  refine ⟨by simp, v, ?_, h.below ((Below.refl _ _).alloc (Nat.le_refl _) _) (Nat.le_refl _)⟩
  rw [add_eq]
  exact World.cell?_alloc_mark w #[v] 22 (0, 0) 0

theorem Bss.two {w : World} {v1 v2 : Value} {l1 l2 : List UInt8} (h1 : Bs w v1 l1) (h2 : Bs w v2 l2) {n : Nat} (hn : w.heap.size = n) : Bss (w.alloc (.cells #[v1, v2] 22)) (.slice (some ⟨n, 0, none⟩) 2 2) [l1, l2] := by
  subst hn
  have hb : Below w.heap.size w (w.alloc (.cells #[v1, v2] 22)) := (Below.refl _ _).alloc (Nat.le_refl _) _
  refine ⟨_, 2, rfl, by simp, by simp [maxLen], (fun h => by cases h), fun x hx i hi => ?_⟩
  cases hx
  match i, hi with
  | 0, _ =>
    refine ⟨by simp, v1, ?_, h1.below hb (Nat.le_refl _)⟩
    rw [add_eq]
    exact World.cell?_alloc_mark w #[v1, v2] 22 (0, 0) 0
  | 1, _ =>
    refine ⟨by simp, v2, ?_, h2.below hb (Nat.le_refl _)⟩
    rw [add_eq]
    exact World.cell?_alloc_mark w #[v1, v2] 22 (0, 0) 1

/-- A slice's beginning. -/
theorem Bs.take {w : World} {a : Option Addr} {n cap k : Nat} {l : List UInt8} (h : Bs w (.slice a n cap) l) (hk : k ≤ n) : Bs w (.slice a k cap) (l.take k) := by
  obtain ⟨a', cap', he, h1, h2, h3, h4⟩ := h
  cases he
  have e : (l.take k).length = k := by simp; omega
  refine ⟨a, cap, by rw [e], by omega, h2, h3, fun x hx i hi => ?_⟩
  obtain ⟨g1, g2⟩ := h4 x hx i (by omega)
  exact ⟨g1, by rw [g2]; simp⟩
end Go.Proofs.Ythapdohblphlgaa
