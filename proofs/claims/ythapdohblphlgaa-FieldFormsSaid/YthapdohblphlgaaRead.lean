/- Numbers read from bytes: flat.number, Get32, Get64 and the document's own GetBig. -/
import Derived.Test.YthapdohblphlgaaNums
namespace Go.Proofs.Ythapdohblphlgaa
open Go.RowKit Go.Deep

def byteAt (l : List UInt8) (i : Nat) : Nat := (l.getD i 0).toNat
def numB (l : List UInt8) : Nat → Nat
  | 0 => 0
  | k + 1 => numB l k * 256 + byteAt l k
theorem byteAt_lt (l : List UInt8) (i : Nat) : byteAt l i < 256 := UInt8.toNat_lt _
theorem numB_lt (l : List UInt8) : ∀ k, numB l k < 256 ^ k
  | 0 => by simp [numB]
  | k + 1 => by
    have h1 := numB_lt l k
    have h2 := byteAt_lt l k
    rw [numB, Nat.pow_succ]
    omega
theorem pow_le_7 (k : Nat) (h : k < 8) : (256 : Nat) ^ k ≤ 256 ^ 7 := Nat.pow_le_pow_right (by omega) (by omega)
theorem numB_small (l : List UInt8) (k : Nat) (h : k < 8) : numB l k * 256 ≤ 18446744073709551360 := by
  have h1 := numB_lt l k
  have h2 := pow_le_7 k h
  omega
theorem or_byte (x y : Nat) (hy : y < 256) (hx : x * 256 ≤ 18446744073709551360) : bits .or .u64 ((x : Int) * 256) (IntKind.u64.wrap (y : Int)) = ((x * 256 + y : Nat) : Int) := by
  rw [IntWalk.u64_in (y : Int) ⟨by omega, by omega⟩]
  have e1 : (BitVec.ofInt 64 ((x : Int) * 256)).toNat = x * 256 := by simp; omega
  have e2 : (BitVec.ofInt 64 (y : Int)).toNat = y := by simp; omega
  have e3 : x * 256 ||| y = x * 256 + y := by
    have := Nat.two_pow_add_eq_or_of_lt (i := 8) (b := y) hy x
    rw [Nat.mul_comm (2 ^ 8) x] at this
    exact this.symm
  show IntKind.u64.wrap (((BitVec.ofInt 64 ((x : Int) * 256)) ||| (BitVec.ofInt 64 (y : Int))).toNat : Int) = _
  rw [BitVec.toNat_or, e1, e2, e3]
  exact IntWalk.u64_in _ ⟨by omega, by omega⟩

theorem numB_in (l : List UInt8) (j : Nat) (h : j < l.length) : numB l (j + 1) = numB l j * 256 + l[j].toNat := by
  simp [numB, byteAt, h]
theorem numB_out (l : List UInt8) (j : Nat) (h : l.length ≤ j) : numB l (j + 1) = numB l j * 256 := by
  simp [numB, byteAt, h]

theorem numB_4 (l : List UInt8) : numB l 4 < 4294967296 := numB_lt l 4
end Go.Proofs.Ythapdohblphlgaa
