/- A sum that is under way: the state behind the whole blocks, and the block that was begun; no world in it. -/
import Derived.Test.YtladojcbbhphfaaEnding
import Derived.Test.YtladojcbbhphfaaGrow
namespace Go.Proofs.Ytladojcbbhphfaa
open Go.RowKit Go.Deep

def lst (B : Nat) (blk : Nat → UInt8) : List UInt8 := (List.range B).map blk
theorem lst_length (B : Nat) (blk : Nat → UInt8) : (lst B blk).length = B := by simp [lst]
theorem lst_get (B : Nat) (blk : Nat → UInt8) (i : Nat) (h : i < B) : (lst B blk)[i]? = some (blk i) := by simp [lst, h]
theorem lst_getD (B : Nat) (blk : Nat → UInt8) (i : Nat) (h : i < B) : (lst B blk).getD i 0 = blk i := by
  rw [List.getD_eq_getElem?_getD, lst_get B blk i h]; rfl
/-- blk with cs laid over it from place k on. -/
def patch (blk : Nat → UInt8) (k n : Nat) (cs : List UInt8) : Nat → UInt8 := fun i => if k ≤ i ∧ i < k + n then cs.getD (i - k) 0 else blk i

section
variable {n : Nat} (k : Kind n)
/-- Behind the bytes m: s is the state behind the whole blocks, blk begins with what is left. -/
structure Dig (m : List UInt8) (s : S8 n) (blk : Nat → UInt8) : Prop where
  state : s = k.state m (m.length / k.block)
  begun : ∀ i, i < m.length % k.block → blk i = m.getD (k.block * (m.length / k.block) + i) 0

theorem Dig.short {k : Kind n} {m : List UInt8} {s : S8 n} {blk : Nat → UInt8} (h : Dig k m s blk) (l : List UInt8) (c : Nat) (hc : c ≤ l.length) (hb : m.length % k.block + c < k.block) :
    Dig k (m ++ l.take c) s (patch blk (m.length % k.block) c l) := by
  obtain ⟨h1, h2⟩ := h
  have hl : (m ++ l.take c).length = m.length + c := by simp; omega
  have hdm := Nat.div_add_mod m.length k.block
  have hq : (m.length + c) / k.block = m.length / k.block := by
    rw [Nat.div_eq_iff (by omega)]
    constructor
    · rw [Nat.mul_comm]; omega
    · rw [Nat.mul_comm]; omega
  have hr : (m.length + c) % k.block = m.length % k.block + c := by
    have h3 := Nat.div_add_mod (m.length + c) k.block
    rw [hq] at h3
    omega
  refine ⟨?_, fun i hi => ?_⟩
  · rw [hl, hq, k.state_append _ _ _ (by omega)]; exact h1
  · rw [hl, hr] at hi
    rw [hl, hq]
    unfold patch
    have e0 : (m ++ l.take c).getD (k.block * (m.length / k.block) + i) 0 = ((m ++ l.take c)[k.block * (m.length / k.block) + i]?).getD 0 := List.getD_eq_getElem?_getD
    rw [e0, List.getElem?_append]
    by_cases e : i < m.length % k.block
    · rw [if_neg (by omega), if_pos (by omega), h2 i e, List.getD_eq_getElem?_getD]
    · rw [if_pos (by omega), if_neg (by omega), List.getElem?_take_of_lt (by omega), List.getD_eq_getElem?_getD]
      congr 2
      omega

theorem Dig.full {k : Kind n} {m : List UInt8} {s : S8 n} {blk : Nat → UInt8} (h : Dig k m s blk) (l : List UInt8) (c : Nat) (hc : c ≤ l.length) (hb : m.length % k.block + c = k.block) (hk : 0 < k.block) :
    Dig k (m ++ l.take c) (k.press s (lst k.block (patch blk (m.length % k.block) c l))) (patch blk (m.length % k.block) c l) := by
  obtain ⟨h1, h2⟩ := h
  have hl : (m ++ l.take c).length = m.length + c := by simp; omega
  have hdm := Nat.div_add_mod m.length k.block
  have hmul : m.length + c = k.block * (m.length / k.block + 1) := by rw [Nat.mul_add]; omega
  have hq : (m.length + c) / k.block = m.length / k.block + 1 := by rw [hmul, Nat.mul_div_cancel_left _ hk]
  have hr : (m.length + c) % k.block = 0 := by rw [hmul, Nat.mul_mod_right]
  refine ⟨?_, fun i hi => by rw [hl, hr] at hi; omega⟩
  rw [hl, hq]
  show _ = k.press (k.state (m ++ l.take c) (m.length / k.block)) _
  rw [k.state_append _ _ _ (by omega), ← h1]
  congr 1
  apply List.ext_getElem?
  intro i
  rw [List.getElem?_take, List.getElem?_drop]
  by_cases hi : i < k.block
  · rw [lst_get _ _ _ hi, if_pos hi, List.getElem?_append]
    unfold patch
    by_cases e : i < m.length % k.block
    · rw [if_neg (by omega), if_pos (by omega), h2 i e, List.getD_eq_getElem?_getD, List.getElem?_eq_getElem (by omega)]; rfl
    · rw [if_pos (by omega), if_neg (by omega), List.getElem?_take_of_lt (by omega), List.getD_eq_getElem?_getD]
      rw [show k.block * (m.length / k.block) + i - m.length = i - m.length % k.block by omega]
      rw [List.getElem?_eq_getElem (by omega)]; rfl
  · rw [if_neg hi, List.getElem?_eq_none (by rw [lst_length]; omega)]

/-- What the sum is, once the ending has come in too. -/
theorem Dig.sum {k : Kind n} {m : List UInt8} {s : S8 n} {blk : Nat → UInt8} (h : Dig k (m ++ endOf m.length k.block) s blk) : k.out s 8 = k.sum m := by
  rw [h.state]; rfl
end
end Go.Proofs.Ytladojcbbhphfaa
