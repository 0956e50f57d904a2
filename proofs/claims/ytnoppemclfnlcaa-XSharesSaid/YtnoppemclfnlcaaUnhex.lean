/- Digits read: flat.digit, flat.Unhex, missiveref1.Unhex. -/
import Derived.Test.YtnoppemclfnlcaaHex
import Derived.Test.YtnoppemclfnlcaaMM1
import Derived.Laws.StandIn
import Derived.BigQuiet
import Derived.Deep.QuietTactic
import Derived.WalkSmall
set_option linter.unusedSimpArgs false
set_option linter.unusedVariables false
namespace Go.Proofs.Ytnoppemclfnlcaa
open Go.RowKit Go.Deep

/-- The value of a small hex digit, -1 of any other byte. -/
def digVal (c : UInt8) : Int := if 48 ≤ c.toNat ∧ c.toNat ≤ 57 then (c.toNat : Int) - 48 else if 97 ≤ c.toNat ∧ c.toNat ≤ 102 then (c.toNat : Int) - 87 else -1

theorem firstIdx_dig' : ∀ n, n < 256 → firstIdx ⟨#[48, 49, 50, 51, 52, 53, 54, 55, 56, 57, 97, 98, 99, 100, 101, 102]⟩ (UInt8.ofNat n) = digVal (UInt8.ofNat n) := by
  decide +kernel
theorem firstIdx_dig (c : UInt8) : firstIdx ⟨#[48, 49, 50, 51, 52, 53, 54, 55, 56, 57, 97, 98, 99, 100, 101, 102]⟩ c = digVal c := by
  have h := firstIdx_dig' c.toNat (UInt8.toNat_lt c)
  rwa [UInt8.ofNat_toNat] at h

theorem digVal_ge (c : UInt8) : -1 ≤ digVal c ∧ digVal c ≤ 15 := by
  unfold digVal; split
  · omega
  · split <;> omega

/-- Byte i of a text's bytes. -/
def hiV (l : List UInt8) (i : Nat) : Int := digVal (l.getD (2 * i) 0)
def loV (l : List UInt8) (i : Nat) : Int := digVal (l.getD (2 * i + 1) 0)
/-- The pair i is one of digits. -/
def pairOk (l : List UInt8) (i : Nat) : Prop := 0 ≤ hiV l i ∧ 0 ≤ loV l i
def pairV (l : List UInt8) (i : Nat) : Nat := (16 * hiV l i + loV l i).toNat
/-- All of it is. -/
def hexOk (l : List UInt8) : Prop := l.length % 2 = 0 ∧ ∀ i, i < l.length / 2 → pairOk l i
def unhexB (l : List UInt8) : List UInt8 := (List.range (l.length / 2)).map fun i => UInt8.ofNat (pairV l i)
theorem unhexB_length (l : List UInt8) : (unhexB l).length = l.length / 2 := by simp [unhexB]
theorem pairV_lt (l : List UInt8) (i : Nat) : pairV l i < 256 := by
  have h1 := (digVal_ge (l.getD (2 * i) 0)).2
  have h2 := (digVal_ge (l.getD (2 * i + 1) 0)).2
  unfold pairV hiV loV; omega

theorem laid_unhex {w : World} {g k : Nat} {l : List UInt8} (hk : l.length / 2 = k) (hm : k ≤ maxLen) (h : w.rowIs g 5 k (laidTo (pairV l) k)) : Bs w (.slice (some ⟨g, 0, none⟩) k k) (unhexB l) := by
  have hl : (unhexB l).length = k := by rw [unhexB_length, hk]
  have hB : Bs w (.slice (some ⟨g, 0, none⟩) (unhexB l).length k) (unhexB l) := by
    refine Bs.of_rowIs h _ (by omega) hm fun i hi => ?_
    have h1 := pairV_lt l i
    unfold laidTo
    rw [if_pos (by omega)]
    simp [unhexB]
    omega
  rwa [hl] at hB

/-- What Unhex answers. -/
def UnhexPost (w : World) (l : List UInt8) (e : Ending) (w' : World) : Prop :=
  Below w.heap.size w w' ∧ ((hexOk l ∧ ∃ v, e = .returned (.tuple #[v, .bool true]) ∧ Bs w' v (unhexB l)) ∨ (¬ hexOk l ∧ e = .returned (.tuple #[.slice none 0 0, .bool false])))

theorem str_getD (s : ByteArray) (i : Nat) (h : i < s.size) : s[i]'h = s.data.toList.getD i 0 := by
  have h2 : i < s.data.toList.length := by simpa using h
  rw [List.getD_eq_getElem?_getD, List.getElem?_eq_getElem h2]
  rfl

end Go.Proofs.Ytnoppemclfnlcaa
