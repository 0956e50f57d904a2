/- flat.great and flat.Little64: a number in so many bytes. -/
import Derived.Test.YthapdohblphlgaaVoc
namespace Go.Proofs.Ythapdohblphlgaa
open Go.RowKit Go.Deep

/-- What stands in a row whose first j cells are laid: the bytes f. -/
def laidTo (f : Nat → Nat) (j i : Nat) : Value := if i < j then .int .u8 (f i : Nat) else .int .u8 0

theorem laid_step {w : World} {b n j : Nat} {f : Nat → Nat} {v : Value} (h : w.rowIs b 5 n (laidTo f j)) (hv : v = .int .u8 (f j : Nat)) : (w.setCell ⟨b, j, none⟩ v).rowIs b 5 n (laidTo f (j + 1)) := by
  refine (h.set j v).congr fun i _ => ?_
  show (if i = j then v else laidTo f j i) = laidTo f (j + 1) i
  unfold laidTo
  by_cases e : i = j
  · subst e; rw [if_pos rfl, if_pos (by omega), hv]
  · rw [if_neg e]
    by_cases h2 : i < j
    · rw [if_pos h2, if_pos (by omega)]
    · rw [if_neg h2, if_neg (by omega)]

def gAt (n s i : Nat) : Nat := n / 2 ^ (8 * (s - 1 - i)) % 256
def lAt (n i : Nat) : Nat := n / 2 ^ (8 * i) % 256

theorem gAt_val (n s j : Nat) : Value.int .u8 ((n : Int) / 2 ^ (8 * (s - 1 - j)) % 256) = .int .u8 ((gAt n s j : Nat) : Int) := by
  unfold gAt; simp

end Go.Proofs.Ythapdohblphlgaa
