/- HMAC and HKDF in words: what both the program's and the document's are walked to; no world in it. -/
import Derived.Test.YtladojcbbhphfaaSumAll
namespace Go.Proofs.Ytladojcbbhphfaa
open Go.RowKit Go.Deep

theorem sum256_length (m : List UInt8) : (k256.sum m).length = 32 := out_length k256 _ 4 rfl 8

/-- The key that stands in a block: a longer one is its sum. -/
def shortK (key : List UInt8) : List UInt8 := if 64 < key.length then k256.sum key else key
theorem shortK_le (key : List UInt8) : (shortK key).length ≤ 64 := by
  unfold shortK
  split
  · rw [sum256_length]; omega
  · omega
theorem shortK_idem (key : List UInt8) : shortK (shortK key) = shortK key := by
  have h := shortK_le key
  generalize shortK key = s at *
  unfold shortK
  rw [if_neg (by omega)]
/-- With noughts up to so many bytes; what is too long is cut. -/
def fillB (l : List UInt8) (n : Nat) : List UInt8 := l.take n ++ List.replicate (n - l.length) 0
theorem fillB_length (l : List UInt8) (n : Nat) : (fillB l n).length = n := by simp [fillB]; omega
theorem fillB_get (l : List UInt8) (n i : Nat) (h : i < n) : (fillB l n).getD i 0 = l.getD i 0 := by
  unfold fillB
  rw [List.getD_eq_getElem?_getD, List.getD_eq_getElem?_getD, List.getElem?_append]
  by_cases hl : i < l.length
  · rw [if_pos (by simp; omega)]
    simp [h]
  · rw [if_neg (by simp; omega)]
    rw [List.getElem?_eq_none (by omega : l.length ≤ i), List.getElem?_replicate]
    split <;> rfl
def padK (key : List UInt8) : List UInt8 := fillB (shortK key) 64
theorem padK_length (key : List UInt8) : (padK key).length = 64 := fillB_length _ _
theorem padK_short (key : List UInt8) : padK (shortK key) = padK key := by unfold padK; rw [shortK_idem]
def xorM (m : UInt8) (l : List UInt8) : List UInt8 := l.map (· ^^^ m)
theorem xorM_length (m : UInt8) (l : List UInt8) : (xorM m l).length = l.length := by simp [xorM]
/-- HMAC with SHA-256. -/
def hmac (key l : List UInt8) : List UInt8 := k256.sum (xorM 0x5c (padK key) ++ k256.sum (xorM 0x36 (padK key) ++ l))
theorem hmac_length (key l : List UInt8) : (hmac key l).length = 32 := sum256_length _
theorem hmac_short (key l : List UInt8) : hmac (shortK key) l = hmac key l := by unfold hmac; rw [padK_short]
/-- A key of more than a block is its sum. -/
theorem hmac_sum (key l : List UInt8) (h : 64 < key.length) : hmac (k256.sum key) l = hmac key l := by
  rw [← hmac_short key]
  unfold shortK
  rw [if_pos h]
/-- No key is 32 noughts. -/
theorem hmac_noughts (l : List UInt8) : hmac (List.replicate 32 0) l = hmac [] l := by
  have : padK (List.replicate 32 0) = padK [] := by
    unfold padK shortK
    rw [if_neg (by simp), if_neg (by simp)]
    rfl
  unfold hmac
  rw [this]

/-- HKDF's sums and what they make one behind the other. -/
def hkN (prk info : List UInt8) : Nat → List UInt8
  | 0 => []
  | i + 1 => hmac prk (hkN prk info i ++ info ++ [UInt8.ofNat (i + 1)])
def hkTo (prk info : List UInt8) : Nat → List UInt8
  | 0 => []
  | i + 1 => hkTo prk info i ++ hkN prk info (i + 1)
theorem hkN_length (prk info : List UInt8) (i : Nat) : (hkN prk info (i + 1)).length = 32 := hmac_length _ _
theorem hkN_le (prk info : List UInt8) (i : Nat) : (hkN prk info i).length ≤ 32 := by
  cases i with
  | zero => simp [hkN]
  | succ i => rw [hkN_length]; omega
theorem hkTo_length (prk info : List UInt8) : ∀ i, (hkTo prk info i).length = 32 * i
  | 0 => rfl
  | i + 1 => by
    show (hkTo prk info i ++ hkN prk info (i + 1)).length = _
    rw [List.length_append, hkTo_length prk info i, hkN_length]; omega
theorem hkTo_take (prk info : List UInt8) (i n : Nat) : (hkTo prk info (i + 1)).take n = (hkTo prk info i).take n ++ (hkN prk info (i + 1)).take (n - 32 * i) := by
  show (hkTo prk info i ++ hkN prk info (i + 1)).take n = _
  rw [List.take_append, hkTo_length]
/-- Expand. -/
def hkdfL (prk info : List UInt8) (n : Nat) : List UInt8 := (hkTo prk info ((n + 31) / 32)).take n
theorem hkdfL_length (prk info : List UInt8) (n : Nat) : (hkdfL prk info n).length = n := by
  unfold hkdfL
  rw [List.length_take, hkTo_length]; omega
theorem hkTo_prefix (prk info : List UInt8) (i : Nat) : ∀ d, ∃ r, hkTo prk info (i + d) = hkTo prk info i ++ r
  | 0 => ⟨[], by simp⟩
  | d + 1 => by
    obtain ⟨r, hr⟩ := hkTo_prefix prk info i d
    exact ⟨r ++ hkN prk info (i + d + 1), by show hkTo prk info (i + d) ++ hkN prk info (i + d + 1) = _; rw [hr, List.append_assoc]⟩
/-- A shorter one is the beginning of a longer one. -/
theorem hkdfL_take (prk info : List UInt8) (n m : Nat) (h : n ≤ m) : (hkdfL prk info m).take n = hkdfL prk info n := by
  unfold hkdfL
  obtain ⟨r, hr⟩ := hkTo_prefix prk info ((n + 31) / 32) ((m + 31) / 32 - (n + 31) / 32)
  have e : (n + 31) / 32 + ((m + 31) / 32 - (n + 31) / 32) = (m + 31) / 32 := by omega
  rw [e] at hr
  rw [List.take_take, Nat.min_eq_left h, hr, List.take_append_of_le_length]
  rw [hkTo_length]; omega
def expandL (prk info : List UInt8) (n : Int) : List UInt8 := if n < 1 ∨ 8160 < n then [] else hkdfL prk info n.toNat
def deriveL (salt ikm info : List UInt8) (n : Int) : List UInt8 := expandL (hmac salt ikm) info n
theorem expandL_in (prk info : List UInt8) (n : Int) (h : 1 ≤ n ∧ n ≤ 8160) : expandL prk info n = hkdfL prk info n.toNat := by unfold expandL; rw [if_neg (by omega)]
theorem expandL_out (prk info : List UInt8) (n : Int) (h : n < 1 ∨ 8160 < n) : expandL prk info n = [] := by unfold expandL; rw [if_pos h]
theorem expandL_length (prk info : List UInt8) (n : Int) (h : 1 ≤ n ∧ n ≤ 8160) : (expandL prk info n).length = n.toNat := by rw [expandL_in _ _ _ h, hkdfL_length]
end Go.Proofs.Ytladojcbbhphfaa
