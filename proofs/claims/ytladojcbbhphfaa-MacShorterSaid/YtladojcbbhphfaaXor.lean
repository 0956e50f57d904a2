/- Bytes laid over each other: flat.Xor, missiveref1.Xor. -/
import Derived.Test.YtladojcbbhphfaaOwn
import Derived.Test.YtladojcbbhphfaaGreat
import Derived.BigRegion
namespace Go.Proofs.Ytladojcbbhphfaa
open Go.RowKit Go.Deep

def xorB (a b : List UInt8) : List UInt8 := List.zipWith (· ^^^ ·) a b
theorem xorB_length (a b : List UInt8) : (xorB a b).length = min a.length b.length := by simp [xorB]

theorem bits_xorB (x y : UInt8) : bits .xor .u8 (x.toNat : Int) (y.toNat : Int) = ((x ^^^ y).toNat : Int) := by
  have hx := UInt8.toNat_lt x
  have hy := UInt8.toNat_lt y
  have e1 : (BitVec.ofInt 8 (x.toNat : Int)).toNat = x.toNat := by simp
  have e2 : (BitVec.ofInt 8 (y.toNat : Int)).toNat = y.toNat := by simp
  show IntKind.u8.wrap (((BitVec.ofInt 8 (x.toNat : Int)) ^^^ (BitVec.ofInt 8 (y.toNat : Int))).toNat : Int) = _
  have hlt := ((BitVec.ofInt 8 (x.toNat : Int)) ^^^ (BitVec.ofInt 8 (y.toNat : Int))).isLt
  rw [IntWalk.u8_in _ ⟨by omega, by omega⟩, BitVec.toNat_xor, e1, e2, UInt8.toNat_xor]

/-- Byte i of a over b. -/
def xAt (a b : List UInt8) (i : Nat) : Nat := (a.getD i 0 ^^^ b.getD i 0).toNat

theorem laid_xor {w : World} {g k : Nat} {a b : List UInt8} (hk : k = min a.length b.length) (hm : k ≤ maxLen) (h : w.rowIs g 5 k (laidTo (xAt a b) k)) : Bs w (.slice (some ⟨g, 0, none⟩) k k) (xorB a b) := by
  have hl : (xorB a b).length = k := by rw [xorB_length, hk]
  have hB : Bs w (.slice (some ⟨g, 0, none⟩) (xorB a b).length k) (xorB a b) := by
    refine Bs.of_rowIs h _ (by omega) hm fun i hi => ?_
    have h1 : i < a.length := by omega
    have h2 : i < b.length := by omega
    unfold laidTo
    rw [if_pos (by omega)]
    simp [xorB, xAt, h1, h2]
  rwa [hl] at hB

def xorTo (a b : List UInt8) (j : Nat) : List UInt8 := (xorB a b).take j
theorem xorTo_succ (a b : List UInt8) (j : Nat) (h1 : j < a.length) (h2 : j < b.length) : xorTo a b (j + 1) = xorTo a b j ++ [a[j] ^^^ b[j]] := by
  have h : j < (xorB a b).length := by rw [xorB_length]; omega
  unfold xorTo
  rw [List.take_succ_eq_append_getElem h]
  simp [xorB]
theorem xorTo_all (a b : List UInt8) (j : Nat) (h : min a.length b.length ≤ j) : xorTo a b j = xorB a b := by
  unfold xorTo; rw [List.take_of_length_le (by rw [xorB_length]; exact h)]
theorem xorTo_length (a b : List UInt8) (j : Nat) (h1 : j ≤ a.length) (h2 : j ≤ b.length) : (xorTo a b j).length = j := by
  unfold xorTo; rw [List.length_take, xorB_length]; omega

theorem Bs.one_xor (w : World) (x y : UInt8) : Bs (w.alloc (.cells #[.int .u8 ((x.toNat ^^^ y.toNat : Nat) : Int)] 5)) (.slice (some ⟨w.heap.size, 0, none⟩) 1 1) [x ^^^ y] := by
  have h := Bs.one w (x ^^^ y)
  rwa [UInt8.toNat_xor] at h

end Go.Proofs.Ytladojcbbhphfaa
