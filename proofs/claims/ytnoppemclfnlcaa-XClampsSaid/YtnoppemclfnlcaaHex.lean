/- Digits: flat.Hex, missiveref1.Hex. -/
import Derived.Test.YtnoppemclfnlcaaCat
set_option linter.unusedSimpArgs false
set_option linter.unusedVariables false
namespace Go.Proofs.Ytnoppemclfnlcaa
open Go.RowKit Go.Deep

def hexDig (n : Nat) : UInt8 := if n < 10 then UInt8.ofNat (48 + n) else UInt8.ofNat (87 + n)
def hexOne (b : UInt8) : List UInt8 := [hexDig (b.toNat / 16), hexDig (b.toNat % 16)]
def hexTo (l : List UInt8) (j : Nat) : List UInt8 := (l.take j).flatMap hexOne
theorem and_15 (x : UInt8) : bits .and .u8 (x.toNat : Int) 15 = ((x.toNat % 16 : Nat) : Int) := by
  have hx := UInt8.toNat_lt x
  have e1 : (BitVec.ofInt 8 (x.toNat : Int)).toNat = x.toNat := by simp
  have e2 : (BitVec.ofInt 8 15).toNat = 15 := by decide
  have e3 : x.toNat &&& 15 = x.toNat % 16 := Nat.and_two_pow_sub_one_eq_mod x.toNat 4
  show IntKind.u8.wrap (((BitVec.ofInt 8 (x.toNat : Int)) &&& (BitVec.ofInt 8 15)).toNat : Int) = _
  rw [BitVec.toNat_and, e1, e2, e3]
  exact IntWalk.u8_in _ ⟨by omega, by omega⟩
theorem hexStr : ∀ n (h : n < 16), (ByteArray.mk #[48, 49, 50, 51, 52, 53, 54, 55, 56, 57, 97, 98, 99, 100, 101, 102])[n]'h = hexDig n := by decide
theorem hexStr_hi (x : UInt8) (h : ((x.toNat : Int) / 16).toNat < 16) : (ByteArray.mk #[48, 49, 50, 51, 52, 53, 54, 55, 56, 57, 97, 98, 99, 100, 101, 102])[((x.toNat : Int) / 16).toNat]'h = hexDig (x.toNat / 16) := by
  rw [hexStr]; congr 1
theorem hexStr_lo (x : UInt8) (h : ((x.toNat : Int) % 16).toNat < 16) : (ByteArray.mk #[48, 49, 50, 51, 52, 53, 54, 55, 56, 57, 97, 98, 99, 100, 101, 102])[((x.toNat : Int) % 16).toNat]'h = hexDig (x.toNat % 16) := by
  rw [hexStr]; congr 1
theorem hexTo_succ (l : List UInt8) (j : Nat) (h : j < l.length) : hexTo l (j + 1) = hexTo l j ++ hexOne l[j] := by
  unfold hexTo
  rw [List.take_succ_eq_append_getElem h, List.flatMap_append]
  simp
theorem hex_round (l : List UInt8) (j : Nat) (x : UInt8) (h : j < l.length) (hx : l[j] = x) {p q} :
    hexTo l j ++ [(ByteArray.mk #[48, 49, 50, 51, 52, 53, 54, 55, 56, 57, 97, 98, 99, 100, 101, 102])[((x.toNat : Int) / 16).toNat]'p, (ByteArray.mk #[48, 49, 50, 51, 52, 53, 54, 55, 56, 57, 97, 98, 99, 100, 101, 102])[((x.toNat : Int) % 16).toNat]'q] = hexTo l (j + 1) := by
  rw [hexTo_succ l j h, hx, hexStr_hi x p, hexStr_lo x q]; rfl
theorem hexTo_length (l : List UInt8) : ∀ j, j ≤ l.length → (hexTo l j).length = 2 * j
  | 0, _ => by simp [hexTo]
  | j + 1, h => by
    rw [hexTo_succ l j (by omega), List.length_append, hexTo_length l j (by omega)]
    simp [hexOne]; omega

end Go.Proofs.Ytnoppemclfnlcaa
