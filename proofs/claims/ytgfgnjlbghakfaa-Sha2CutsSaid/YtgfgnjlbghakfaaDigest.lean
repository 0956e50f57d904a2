/- A sum that is under way: the state behind the whole blocks, and the block that was begun; no world in it but the last part. -/
import Derived.Test.YtgfgnjlbghakfaaEnding
namespace Go.Proofs.Ytgfgnjlbghakfaa
open Go.RowKit Go.Deep

def lst (B : Nat) (blk : Nat → UInt8) : List UInt8 := (List.range B).map blk
theorem lst_length (B : Nat) (blk : Nat → UInt8) : (lst B blk).length = B := by simp [lst]
theorem lst_get (B : Nat) (blk : Nat → UInt8) (i : Nat) (h : i < B) : (lst B blk)[i]? = some (blk i) := by simp [lst, h]
theorem lst_getD (B : Nat) (blk : Nat → UInt8) (i : Nat) (h : i < B) : (lst B blk).getD i 0 = blk i := by
  rw [List.getD_eq_getElem?_getD, lst_get B blk i h]; rfl
/-- blk with cs laid over it from place k on. -/
def patch (blk : Nat → UInt8) (k n : Nat) (cs : List UInt8) : Nat → UInt8 := fun i => if k ≤ i ∧ i < k + n then cs.getD (i - k) 0 else blk i

section
variable {n : Nat} (k : Kind n)
/-- Behind the bytes m: s is the state behind the whole blocks, blk begins with what is left. -/
structure Dig (m : List UInt8) (s : S8 n) (blk : Nat → UInt8) : Prop where
  state : s = k.state m (m.length / k.block)
  begun : ∀ i, i < m.length % k.block → blk i = m.getD (k.block * (m.length / k.block) + i) 0

theorem Dig.short {k : Kind n} {m : List UInt8} {s : S8 n} {blk : Nat → UInt8} (h : Dig k m s blk) (l : List UInt8) (c : Nat) (hc : c ≤ l.length) (hb : m.length % k.block + c < k.block) :
    Dig k (m ++ l.take c) s (patch blk (m.length % k.block) c l) := by
  obtain ⟨h1, h2⟩ := h
  have hl : (m ++ l.take c).length = m.length + c := by simp; omega
  have hdm := Nat.div_add_mod m.length k.block
  have hq : (m.length + c) / k.block = m.length / k.block := by
    rw [Nat.div_eq_iff (by omega)]
    constructor
    · rw [Nat.mul_comm]; omega
    · rw [Nat.mul_comm]; omega
  have hr : (m.length + c) % k.block = m.length % k.block + c := by
    have h3 := Nat.div_add_mod (m.length + c) k.block
    rw [hq] at h3
    omega
  refine ⟨?_, fun i hi => ?_⟩
  · rw [hl, hq, k.state_append _ _ _ (by omega)]; exact h1
  · rw [hl, hr] at hi
    rw [hl, hq]
    unfold patch
    have e0 : (m ++ l.take c).getD (k.block * (m.length / k.block) + i) 0 = ((m ++ l.take c)[k.block * (m.length / k.block) + i]?).getD 0 := List.getD_eq_getElem?_getD
    rw [e0, List.getElem?_append]
    by_cases e : i < m.length % k.block
    · rw [if_neg (by omega), if_pos (by omega), h2 i e, List.getD_eq_getElem?_getD]
    · rw [if_pos (by omega), if_neg (by omega), List.getElem?_take_of_lt (by omega), List.getD_eq_getElem?_getD]
      congr 2
      omega

theorem Dig.full {k : Kind n} {m : List UInt8} {s : S8 n} {blk : Nat → UInt8} (h : Dig k m s blk) (l : List UInt8) (c : Nat) (hc : c ≤ l.length) (hb : m.length % k.block + c = k.block) (hk : 0 < k.block) :
    Dig k (m ++ l.take c) (k.press s (lst k.block (patch blk (m.length % k.block) c l))) (patch blk (m.length % k.block) c l) := by
  obtain ⟨h1, h2⟩ := h
  have hl : (m ++ l.take c).length = m.length + c := by simp; omega
  have hdm := Nat.div_add_mod m.length k.block
  have hmul : m.length + c = k.block * (m.length / k.block + 1) := by rw [Nat.mul_add]; omega
  have hq : (m.length + c) / k.block = m.length / k.block + 1 := by rw [hmul, Nat.mul_div_cancel_left _ hk]
  have hr : (m.length + c) % k.block = 0 := by rw [hmul, Nat.mul_mod_right]
  refine ⟨?_, fun i hi => by rw [hl, hr] at hi; omega⟩
  rw [hl, hq]
  show _ = k.press (k.state (m ++ l.take c) (m.length / k.block)) _
  rw [k.state_append _ _ _ (by omega), ← h1]
  congr 1
  apply List.ext_getElem?
  intro i
  rw [List.getElem?_take, List.getElem?_drop]
  by_cases hi : i < k.block
  · rw [lst_get _ _ _ hi, if_pos hi, List.getElem?_append]
    unfold patch
    by_cases e : i < m.length % k.block
    · rw [if_neg (by omega), if_pos (by omega), h2 i e, List.getD_eq_getElem?_getD, List.getElem?_eq_getElem (by omega)]; rfl
    · rw [if_pos (by omega), if_neg (by omega), List.getElem?_take_of_lt (by omega), List.getD_eq_getElem?_getD]
      rw [show k.block * (m.length / k.block) + i - m.length = i - m.length % k.block by omega]
      rw [List.getElem?_eq_getElem (by omega)]; rfl
  · rw [if_neg hi, List.getElem?_eq_none (by rw [lst_length]; omega)]

/-- What the sum is, once the ending has come in too. -/
theorem Dig.sum {k : Kind n} {m : List UInt8} {s : S8 n} {blk : Nat → UInt8} (h : Dig k (m ++ endOf m.length k.block) s blk) : k.out s 8 = k.sum m := by
  rw [h.state]; rfl
end

/-! ### What a call leaves alone -/
/-- Nothing but the blocks x and y has turned, and new blocks. -/
structure Tch (x y : Nat) (w w' : World) : Prop where
  os : w'.os = w.os
  tape : w'.tape = w.tape
  output : w'.output = w.output
  size : w.heap.size ≤ w'.heap.size
  block : ∀ k, k < w.heap.size → k ≠ x → k ≠ y → w'.heap[k]? = w.heap[k]?
theorem Tch.refl (x y : Nat) (w : World) : Tch x y w w := ⟨rfl, rfl, rfl, Nat.le_refl _, fun _ _ _ _ => rfl⟩
theorem Tch.trans {x y : Nat} {w w1 w2 : World} (h : Tch x y w w1) (k : Tch x y w1 w2) : Tch x y w w2 :=
  ⟨k.os.trans h.os, k.tape.trans h.tape, k.output.trans h.output, Nat.le_trans h.size k.size, fun i hi h1 h2 => (k.block i (by have := h.size; omega) h1 h2).trans (h.block i hi h1 h2)⟩
theorem Tch.left {x y : Nat} {w w1 : World} (h : w.grownBy w1 (some x)) : Tch x y w w1 := ⟨h.os, h.tape, h.output, h.size, fun i hi h1 _ => h.block i hi (fun e => h1 (Option.some.inj e))⟩
theorem Tch.right {x y : Nat} {w w1 : World} (h : w.grownBy w1 (some y)) : Tch x y w w1 := ⟨h.os, h.tape, h.output, h.size, fun i hi _ h2 => h.block i hi (fun e => h2 (Option.some.inj e))⟩
theorem Tch.of_below {x y : Nat} {w w1 : World} (h : Below w.heap.size w w1) : Tch x y w w1 := ⟨h.os, h.tape, h.output, h.size, fun i hi _ _ => h.block i hi⟩
theorem Tch.drew {x y : Nat} {w w1 : World} (h : Tch x y w w1) : Tch x y w w1.drew := ⟨h.os, h.tape, h.output, h.size, h.block⟩
theorem Tch.below {x y B : Nat} {w w1 : World} (h : Tch x y w w1) (hx : B ≤ x) (hy : B ≤ y) (hB : B ≤ w.heap.size) : Below B w w1 :=
  ⟨h.os, h.tape, h.output, h.size, fun k hk => h.block k (by omega) (by omega) (by omega)⟩
/-- A new block x may have turned in whatever way. -/
theorem Tch.grown {x y : Nat} {w0 w w1 : World} (h0 : w0.grownBy w (some y)) (h : Tch x y w w1) (hx : w0.heap.size ≤ x) : w0.grownBy w1 (some y) :=
  ⟨h.os.trans h0.os, h.tape.trans h0.tape, h.output.trans h0.output, Nat.le_trans h0.size h.size, fun k hk hy => (h.block k (by have := h0.size; omega) (by omega) (fun e => hy (by rw [e]))).trans (h0.block k hk hy)⟩

def Away (v : Value) (b : Nat) : Prop := ∀ x n c, v = .slice (some x) n c → 0 < n → x.block ≠ b
theorem Away.nil (n c b : Nat) : Away (.slice none n c) b := fun x n c h => by cases h
/-- What reads as bytes lies in no block that is still to come. -/
theorem Bs.away {w : World} {v : Value} {l : List UInt8} (h : Bs w v l) {b : Nat} (hb : w.heap.size ≤ b) : Away v b := by
  intro x n c he hn
  obtain ⟨a, cap, rfl, _, _, _, h4⟩ := h
  cases he
  have := (h4 x rfl 0 hn).1
  omega
theorem Bs.touched {w w' : World} {v : Value} {l : List UInt8} {x y : Nat} (h : Bs w v l) (ht : Tch x y w w') (hx : Away v x) (hy : Away v y) : Bs w' v l := by
  obtain ⟨a, cap, rfl, h1, h2, h3, h4⟩ := h
  refine ⟨a, cap, rfl, h1, h2, h3, fun p hp i hi => ?_⟩
  obtain ⟨g1, g2⟩ := h4 p hp i hi
  subst hp
  refine ⟨Nat.lt_of_lt_of_le g1 ht.size, Eq.trans (World.cell?_of_block (w := w) ?_) g2⟩
  rw [add_block]
  exact ht.block _ g1 (hx p _ _ rfl (by omega)) (hy p _ _ rfl (by omega))
theorem Away.drop {a : Option Addr} {n cap j b n' cap' : Nat} (h : Away (.slice a n cap) b) (hn : n' ≤ n) : Away (.slice (if cap = j then a else a.map (·.add j)) n' cap') b := by
  intro x n1 c1 he hn1
  by_cases e : cap = j
  · rw [if_pos e] at he
    simp only [Value.slice.injEq] at he
    exact h x n cap (by rw [he.1]) (by omega)
  · rw [if_neg e] at he
    simp only [Value.slice.injEq] at he
    obtain ⟨x0, hx0, hx1⟩ := Option.map_eq_some_iff.1 he.1
    rw [← hx1, add_block]
    exact h x0 n cap (by rw [hx0]) (by omega)
theorem World.rowIs.touched {w w' : World} {b m x y : Nat} {t : TypeId} {f : Nat → Value} (h : w.rowIs b t m f) (ht : Tch x y w w') (hx : b ≠ x) (hy : b ≠ y) : w'.rowIs b t m f := h.of_block (ht.block _ h.lt hx hy)
end Go.Proofs.Ytgfgnjlbghakfaa
