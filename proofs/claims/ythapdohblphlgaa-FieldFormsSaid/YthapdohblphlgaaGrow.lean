/- What calls leave alone, and what they write: worlds that have grown; a slice with both bounds; the code of a block. -/
import Derived.Test.YthapdohblphlgaaArr
import Derived.Test.YthapdohblphlgaaWord
import Derived.Test.YthapdohblphlgaaOwn
namespace Go.Proofs.Ythapdohblphlgaa
open Go.RowKit Go.Deep

/-! ### What a call leaves alone -/
/-- Nothing but the blocks x and y has turned, and new blocks. -/
structure Tch (x y : Nat) (w w' : World) : Prop where
  os : w'.os = w.os
  tape : w'.tape = w.tape
  output : w'.output = w.output
  size : w.heap.size ≤ w'.heap.size
  block : ∀ k, k < w.heap.size → k ≠ x → k ≠ y → w'.heap[k]? = w.heap[k]?
theorem Tch.refl (x y : Nat) (w : World) : Tch x y w w := ⟨rfl, rfl, rfl, Nat.le_refl _, fun _ _ _ _ => rfl⟩
theorem Tch.trans {x y : Nat} {w w1 w2 : World} (h : Tch x y w w1) (k : Tch x y w1 w2) : Tch x y w w2 :=
  ⟨k.os.trans h.os, k.tape.trans h.tape, k.output.trans h.output, Nat.le_trans h.size k.size, fun i hi h1 h2 => (k.block i (by have := h.size; omega) h1 h2).trans (h.block i hi h1 h2)⟩
theorem Tch.left {x y : Nat} {w w1 : World} (h : w.grownBy w1 (some x)) : Tch x y w w1 := ⟨h.os, h.tape, h.output, h.size, fun i hi h1 _ => h.block i hi (fun e => h1 (Option.some.inj e))⟩
theorem Tch.right {x y : Nat} {w w1 : World} (h : w.grownBy w1 (some y)) : Tch x y w w1 := ⟨h.os, h.tape, h.output, h.size, fun i hi _ h2 => h.block i hi (fun e => h2 (Option.some.inj e))⟩
theorem Tch.of_below {x y : Nat} {w w1 : World} (h : Below w.heap.size w w1) : Tch x y w w1 := ⟨h.os, h.tape, h.output, h.size, fun i hi _ _ => h.block i hi⟩
theorem Tch.drew {x y : Nat} {w w1 : World} (h : Tch x y w w1) : Tch x y w w1.drew := ⟨h.os, h.tape, h.output, h.size, h.block⟩
theorem Tch.below {x y B : Nat} {w w1 : World} (h : Tch x y w w1) (hx : B ≤ x) (hy : B ≤ y) (hB : B ≤ w.heap.size) : Below B w w1 :=
  ⟨h.os, h.tape, h.output, h.size, fun k hk => h.block k (by omega) (by omega) (by omega)⟩
/-- A new block x may have turned in whatever way. -/
theorem Tch.grown {x y : Nat} {w0 w w1 : World} (h0 : w0.grownBy w (some y)) (h : Tch x y w w1) (hx : w0.heap.size ≤ x) : w0.grownBy w1 (some y) :=
  ⟨h.os.trans h0.os, h.tape.trans h0.tape, h.output.trans h0.output, Nat.le_trans h0.size h.size, fun k hk hy => (h.block k (by have := h0.size; omega) (by omega) (fun e => hy (by rw [e]))).trans (h0.block k hk hy)⟩

def Away (v : Value) (b : Nat) : Prop := ∀ x n c, v = .slice (some x) n c → 0 < n → x.block ≠ b
theorem Away.nil (n c b : Nat) : Away (.slice none n c) b := fun x n c h => by cases h
/-- What reads as bytes lies in no block that is still to come. -/
theorem Bs.away {w : World} {v : Value} {l : List UInt8} (h : Bs w v l) {b : Nat} (hb : w.heap.size ≤ b) : Away v b := by
  intro x n c he hn
  obtain ⟨a, cap, rfl, _, _, _, h4⟩ := h
  cases he
  have := (h4 x rfl 0 hn).1
  omega
theorem Bs.touched {w w' : World} {v : Value} {l : List UInt8} {x y : Nat} (h : Bs w v l) (ht : Tch x y w w') (hx : Away v x) (hy : Away v y) : Bs w' v l := by
  obtain ⟨a, cap, rfl, h1, h2, h3, h4⟩ := h
  refine ⟨a, cap, rfl, h1, h2, h3, fun p hp i hi => ?_⟩
  obtain ⟨g1, g2⟩ := h4 p hp i hi
  subst hp
  refine ⟨Nat.lt_of_lt_of_le g1 ht.size, Eq.trans (World.cell?_of_block (w := w) ?_) g2⟩
  rw [add_block]
  exact ht.block _ g1 (hx p _ _ rfl (by omega)) (hy p _ _ rfl (by omega))
theorem Away.drop {a : Option Addr} {n cap j b n' cap' : Nat} (h : Away (.slice a n cap) b) (hn : n' ≤ n) : Away (.slice (if cap = j then a else a.map (·.add j)) n' cap') b := by
  intro x n1 c1 he hn1
  by_cases e : cap = j
  · rw [if_pos e] at he
    simp only [Value.slice.injEq] at he
    exact h x n cap (by rw [he.1]) (by omega)
  · rw [if_neg e] at he
    simp only [Value.slice.injEq] at he
    obtain ⟨x0, hx0, hx1⟩ := Option.map_eq_some_iff.1 he.1
    rw [← hx1, add_block]
    exact h x0 n cap (by rw [hx0]) (by omega)
theorem World.rowIs.touched {w w' : World} {b m x y : Nat} {t : TypeId} {f : Nat → Value} (h : w.rowIs b t m f) (ht : Tch x y w w') (hx : b ≠ x) (hy : b ≠ y) : w'.rowIs b t m f := h.of_block (ht.block _ h.lt hx hy)
/-- 's[j:h]'. -/
theorem run_sliceCut {P : Program} (w : World) (ty elem : TypeId) (a : Option Addr) (n cap j h : Nat) (k k' : IntKind) (hu : P.underlying ty = some (.slice elem)) (hi : (P.info? elem).map (fun i => i.size) = some 1) (hj : j ≤ h) (hh : h ≤ cap) :
    (Instr.sliceAt ty (.slice a n cap) (some (.int k (j : Int))) (some (.int k' (h : Int))) none).run P w = .ok (.slice (if cap = j then a else a.map (·.add j)) (h - j) (cap - j)) w := by
  cases hq : P.info? elem with
  | none => simp [hq] at hi
  | some i =>
    have hs : i.size = 1 := by simpa [hq] using hi
    simp [Instr.sliceAt, run_underlying hu w, Instr.slice, Instr.sliceBounds, run_bound_in w k j h _ hj, run_bound_in w k' h cap _ hh, sizeOf, typeInfo, hq, hs, Result.andThen]
theorem wpList_bsCut {ops : Array Oper} {rest : List Oper} {o : Oper} {a : Act} {w : World} {Q : Exit → Act → World → Prop} (hgd : o.guard = none) (x lo hi : Operand) (ho : o.op = .slice 22 x (some lo) (some hi) none) {ad : Option Addr} {n cap : Nat} {l : List UInt8} (hB : Bs w (.slice ad n cap) l) (j h : Nat) {k k' : IntKind} {i i' : Int}
    (hx : a.eval x = .slice ad n cap) (hlo : a.eval lo = .int k i) (hij : i = (j : Int)) (hhi : a.eval hi = .int k' i') (hih : i' = (h : Int)) (hj : j ≤ h) (hh : h ≤ n) (n' : Nat) (hn' : n' = h - j)
    (H : ∀ ad', Bs w (.slice ad' n' (cap - j)) ((l.drop j).take n') → wpList Try.prog ops Q rest (a.put o.dst (.slice ad' n' (cap - j))) w) : wpList Try.prog ops Q (o :: rest) a w := by
  subst hn'
  have hB0 := hB
  obtain ⟨a', cap', he, h1, h2, h3, h4⟩ := hB0
  have hnc : n ≤ cap := by cases he; exact h1
  refine wpList_value hgd (.slice (if cap = j then ad else ad.map (·.add j)) (h - j) (cap - j)) (by simp [execOp, ho, hx, hlo, hij, hhi, hih, run_sliceCut (P := Try.prog) w 22 5 ad n cap j h k k' Try.underlying22 (by kernel_rfl) hj (by omega), Result.andThen]) (H _ ?_)
  exact (hB.drop (by omega)).take (by omega)

theorem gb_new {w0 w w' : World} {b : Option Nat} (h : w0.grownBy w b) (hb : Below w.heap.size w w') : w0.grownBy w' b :=
  ⟨hb.os.trans h.os, hb.tape.trans h.tape, hb.output.trans h.output, Nat.le_trans h.size hb.size, fun k hk hn => (hb.block k (by have := h.size; omega)).trans (h.block k hk hn)⟩
theorem gb_alloc {w0 w : World} {b : Option Nat} (h : w0.grownBy w b) (o : Obj) : w0.grownBy (w.alloc o) b := gb_new h ((Below.refl _ _).alloc (Nat.le_refl _) o)
theorem gb_drew {w0 w : World} {b : Option Nat} (h : w0.grownBy w b) (n : Nat) : w0.grownBy (w.drewN n) b := gb_new h (below_drewN (Below.refl _ _) n)
theorem gb_set {w0 w : World} {b : Option Nat} (h : w0.grownBy w b) {p : Addr} (hp : w0.heap.size ≤ p.block) (v : Value) : w0.grownBy (w.setCell p v) b :=
  ⟨h.os, h.tape, h.output, by rw [World.size_setCell]; exact h.size, fun k hk hn => (Below.heap_setCell _ _ _ _ (by omega)).trans (h.block k hk hn)⟩
theorem gb_setb {w0 w : World} {b i : Nat} (h : w0.grownBy w (some b)) (v : Value) : w0.grownBy (w.setCell ⟨b, i, none⟩ v) (some b) := grownBy_trans h (grownBy_set _ _ _ _)
theorem gb_row {w0 w w' : World} {b : Option Nat} {r : Nat} (h : w0.grownBy w b) (k : w.grownBy w' (some r)) (hr : w0.heap.size ≤ r) : w0.grownBy w' b :=
  ⟨k.os.trans h.os, k.tape.trans h.tape, k.output.trans h.output, Nat.le_trans h.size k.size, fun i hi hn => (k.block i (by have := h.size; omega) (fun e => by have := Option.some.inj e; omega)).trans (h.block i hi hn)⟩
theorem gb_bs {w w' : World} {v : Value} {l : List UInt8} {b : Nat} (h : Bs w v l) (hg : w.grownBy w' (some b)) (hb : Away v b) : Bs w' v l := h.touched (Tch.right (x := b) hg) hb hb
theorem gb_rowIs {w w' : World} {b r m : Nat} {t : TypeId} {f : Nat → Value} (h : w.rowIs r t m f) (hg : w.grownBy w' (some b)) (hb : r ≠ b) : w'.rowIs r t m f := h.of_block (hg.block _ h.lt (fun e => hb (Option.some.inj e)))
theorem gb_below {w0 w w' : World} {b B : Nat} (h : Below B w0 w) (hg : w.grownBy w' (some b)) (hB : B ≤ w.heap.size) (hb : B ≤ b) : Below B w0 w' := h.grown hg hB (by intro k hk; cases hk; exact hb)

def lenOf : Value → Nat | .slice _ n _ => n | _ => 0
theorem Owns.empty (w : World) : Owns (w.alloc (.cells #[] 5)) w.heap.size (.slice (some ⟨w.heap.size, 0, none⟩) 0 0) [] :=
  World.ownsRow_lit w (base := w.heap.size) #[] 0 (Nat.le_refl _) (by unfold maxLen; omega) rfl
theorem Owns.shape {w : World} {base : Nat} {v : Value} {l : List UInt8} (h : Owns w base v l) : ∃ a cap, v = .slice a l.length cap := by
  obtain ⟨a, cap, rfl, _⟩ := h.bs
  exact ⟨a, cap, rfl⟩
theorem Owns.away {w : World} {base : Nat} {v : Value} {l : List UInt8} (h : Owns w base v l) {b : Nat} (hb : b < base) : Away v b := by
  intro x n c he _
  obtain ⟨_, h2⟩ := h
  rcases h2 with ⟨rfl, _⟩ | ⟨g, cap, cur, rfl, hg, _⟩
  · cases he
  · cases he
    show g ≠ b
    omega
theorem Owns.lower {w : World} {base base' : Nat} {v : Value} {l : List UInt8} (h : Owns w base v l) (hb : base' ≤ base) : Owns w base' v l := by
  obtain ⟨h1, h2⟩ := h
  refine ⟨h1, ?_⟩
  rcases h2 with h2 | ⟨g, cap, cur, rfl, hbg, h3⟩
  · exact .inl h2
  · exact .inr ⟨g, cap, cur, rfl, Nat.le_trans hb hbg, h3⟩
/-- What lies elsewhere than the slice that is appended to reads as it did. -/
theorem Bs.grownOwn {w w' : World} {base : Nat} {v u : Value} {l m : List UInt8} (h : Bs w v l) (hg : w.grownBy w' u.ownBlock) (hu : Owns w base u m) (hA : ∀ b, base ≤ b → u.ownBlock = some b → Away v b) : Bs w' v l := by
  cases e : u.ownBlock with
  | none =>
    rw [e] at hg
    exact h.below ((Below.refl w.heap.size w).grown hg (Nat.le_refl _) (fun k hk => by cases hk)) (Nat.le_refl _)
  | some b =>
    rw [e] at hg
    exact gb_bs h hg (hA b (hu.block b e) e)

/-- The code of the block of that number. -/
def findBlock (id : Nat) : Code → Option Code
  | .block i c => if i = id then some c else findBlock id c
  | .seq a b => match findBlock id a with
    | some c => some c
    | none => findBlock id b
  | .loop c => findBlock id c
  | .scope c => findBlock id c
  | .cond _ a b => match findBlock id a with
    | some c => some c
    | none => findBlock id b
  | _ => none
noncomputable def codeAt (id : Nat) (f : Func) : Code := (f.body.bind (findBlock id)).getD .skip
end Go.Proofs.Ythapdohblphlgaa
