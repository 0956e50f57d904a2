/- Digits read: flat.digit, flat.Unhex, missiveref1.Unhex. -/
import Derived.Test.YtbcmocijoklchaaHex
import Derived.Test.YtbcmocijoklchaaGreat
import Derived.Laws.StandIn
import Derived.BigQuiet
import Derived.Deep.QuietTactic
import Derived.WalkSmall
namespace Go.Proofs.Ytbcmocijoklchaa
open Go.RowKit Go.Deep

/-- The value of a small hex digit, -1 of any other byte. -/
def digVal (c : UInt8) : Int := if 48 ≤ c.toNat ∧ c.toNat ≤ 57 then (c.toNat : Int) - 48 else if 97 ≤ c.toNat ∧ c.toNat ≤ 102 then (c.toNat : Int) - 87 else -1

theorem firstIdx_dig' : ∀ n, n < 256 → firstIdx ⟨#[48, 49, 50, 51, 52, 53, 54, 55, 56, 57, 97, 98, 99, 100, 101, 102]⟩ (UInt8.ofNat n) = digVal (UInt8.ofNat n) := by
  decide +kernel
theorem firstIdx_dig (c : UInt8) : firstIdx ⟨#[48, 49, 50, 51, 52, 53, 54, 55, 56, 57, 97, 98, 99, 100, 101, 102]⟩ c = digVal c := by
  have h := firstIdx_dig' c.toNat (UInt8.toNat_lt c)
  rwa [UInt8.ofNat_toNat] at h

theorem digit_any (c : UInt8) (w : World) :
    Calls Try.prog 38 #[.int .u8 (c.toNat : Int)] w fun e w' => e = .returned (.int .i64 (digVal c)) ∧ w' = w := by
  have hd : ∀ w : World, (callFunc 44 #[.string ⟨#[48, 49, 50, 51, 52, 53, 54, 55, 56, 57, 97, 98, 99, 100, 101, 102]⟩, .int .u8 (c.toNat : Int)]).run Try.prog w = .ok (.value (.int .i64 (digVal c))) w := fun w => by
    rw [run_callFunc_indexByte Try.func44 (by kernel_rfl) (by kernel_rfl) (by kernel_rfl) (by kernel_rfl)]
    rw [run_indexByte_string]
    have hc : (c.toNat : Int).toNat.toUInt8 = c := UInt8.ofNat_toNat
    simp [Result.andThen, hc, firstIdx_dig]
  go_enter Try.func38, Try.ntmps38
  go_wp2
  go_ret
  exact ⟨rfl, rfl⟩

theorem digVal_ge (c : UInt8) : -1 ≤ digVal c ∧ digVal c ≤ 15 := by
  unfold digVal; split
  · omega
  · split <;> omega

/-- Byte i of a text's bytes. -/
def hiV (l : List UInt8) (i : Nat) : Int := digVal (l.getD (2 * i) 0)
def loV (l : List UInt8) (i : Nat) : Int := digVal (l.getD (2 * i + 1) 0)
/-- The pair i is one of digits. -/
def pairOk (l : List UInt8) (i : Nat) : Prop := 0 ≤ hiV l i ∧ 0 ≤ loV l i
def pairV (l : List UInt8) (i : Nat) : Nat := (16 * hiV l i + loV l i).toNat
/-- All of it is. -/
def hexOk (l : List UInt8) : Prop := l.length % 2 = 0 ∧ ∀ i, i < l.length / 2 → pairOk l i
def unhexB (l : List UInt8) : List UInt8 := (List.range (l.length / 2)).map fun i => UInt8.ofNat (pairV l i)
theorem unhexB_length (l : List UInt8) : (unhexB l).length = l.length / 2 := by simp [unhexB]
theorem pairV_lt (l : List UInt8) (i : Nat) : pairV l i < 256 := by
  have h1 := (digVal_ge (l.getD (2 * i) 0)).2
  have h2 := (digVal_ge (l.getD (2 * i + 1) 0)).2
  unfold pairV hiV loV; omega

theorem laid_unhex {w : World} {g k : Nat} {l : List UInt8} (hk : l.length / 2 = k) (hm : k ≤ maxLen) (h : w.rowIs g 5 k (laidTo (pairV l) k)) : Bs w (.slice (some ⟨g, 0, none⟩) k k) (unhexB l) := by
  have hl : (unhexB l).length = k := by rw [unhexB_length, hk]
  have hB : Bs w (.slice (some ⟨g, 0, none⟩) (unhexB l).length k) (unhexB l) := by
    refine Bs.of_rowIs h _ (by omega) hm fun i hi => ?_
    have h1 := pairV_lt l i
    unfold laidTo
    rw [if_pos (by omega)]
    simp [unhexB]
    omega
  rwa [hl] at hB

/-- What Unhex answers. -/
def UnhexPost (w : World) (l : List UInt8) (e : Ending) (w' : World) : Prop :=
  Below w.heap.size w w' ∧ ((hexOk l ∧ ∃ v, e = .returned (.tuple #[v, .bool true]) ∧ Bs w' v (unhexB l)) ∨ (¬ hexOk l ∧ e = .returned (.tuple #[.slice none 0 0, .bool false])))

theorem str_getD (s : ByteArray) (i : Nat) (h : i < s.size) : s[i]'h = s.data.toList.getD i 0 := by
  have h2 : i < s.data.toList.length := by simpa using h
  rw [List.getD_eq_getElem?_getD, List.getElem?_eq_getElem h2]
  rfl

set_option maxHeartbeats 3200000 in
theorem unhex_any (s : ByteArray) (w : World) (hlen : s.size ≤ 2147483647) :
    Calls Try.prog 24 #[.string s] w (UnhexPost w s.data.toList) := by
  have hsz : s.data.toList.length = s.size := by simp
  have HSZ := Lib.hid hsz
  clear hsz
  by_cases hodd : s.size % 2 = 0
  · obtain ⟨k, hk⟩ : ∃ k, s.size = 2 * k := ⟨s.size / 2, by omega⟩
    have hdiv : (s.size : Int) / 2 = (k : Int) := by omega
    have htest : ((s.size : Int) % 2 != 0) = false := by simp; omega
    have hmk := fun (w : World) => run_make_row' (P := Try.prog) 22 5 (.int .u8 0) 1 Try.underlying22 Try.info5 rfl .i64 .i64 k (by omega) (by omega) w
    have hmade := World.rowIs_made w (.int .u8 0) k 5
    have hks : 2 * k ≤ s.size := by omega
    have HK := Lib.hid hk
    clear hk hodd
    go_enter Try.func24, Try.ntmps24
    go_wp2
    go_loopw [18] (fun i wr => ∃ j : Nat, j ≤ k ∧ i = .int .i64 j ∧ wr.rowIs w.heap.size 5 k (laidTo (pairV s.data.toList) j) ∧ Below w.heap.size w wr ∧ Hid (∀ i, i < j → pairOk s.data.toList i)) (fun i _ => k - (intOf i).toNat)
    case atStart => exact ⟨0, Nat.zero_le _, rfl, hmade.congr fun i _ => rfl, (Below.refl _ _).alloc (Nat.le_refl _) _, Lib.hid (fun i hi => absurd hi (by omega))⟩
    case round =>
      obtain ⟨j, hj, rfl, hrow, hbel, HP⟩ := hrel
      clear hmk hmade
      by_cases hlt : j < k
      · have hcell := hrow.cell hlt
        have hfr := hrow.frozen j
        have hi1 : 0 ≤ 2 * (j : Int) ∧ 2 * (j : Int) < (s.size : Int) := by omega
        have hi2 : 0 ≤ 2 * (j : Int) + 1 ∧ 2 * (j : Int) + 1 < (s.size : Int) := by omega
        go_wp2
        go_quiet ((go_at_call 38; exact Calls.quiet_of_same (digit_any _ _)))
        have p1 : 2 * j < s.size := by omega
        have p2 : 2 * j + 1 < s.size := by omega
        have Hx : Hid (digVal (s[2 * j]'p1) = hiV s.data.toList j) := Lib.hid (by rw [str_getD s _ p1]; rfl)
        have Hy : Hid (digVal (s[2 * j + 1]'p2) = loV s.data.toList j) := Lib.hid (by rw [str_getD s _ p2]; rfl)
        have bx := digVal_ge (s[2 * j]'p1)
        have by' := digVal_ge (s[2 * j + 1]'p2)
        generalize digVal (s[2 * j]'p1) = x at *
        generalize digVal (s[2 * j + 1]'p2) = y at *
        have hjl : j < s.data.toList.length / 2 := by have := HSZ.out; omega
        by_cases hx0 : x < 0
        · go_wp2
          go_ret2
          exact ⟨below_drewN hbel _, .inr ⟨fun h => by have := (h.2 j hjl).1; rw [← Hx.out] at this; omega, rfl⟩⟩
        · by_cases hy0 : y < 0
          · go_wp2
            go_ret2
            exact ⟨below_drewN hbel _, .inr ⟨fun h => by have := (h.2 j hjl).2; rw [← Hy.out] at this; omega, rfl⟩⟩
          · have hx1 : 0 ≤ x := by omega
            have hy1 : 0 ≤ y := by omega
            have hok : pairOk s.data.toList j := ⟨by rw [← Hx.out]; exact hx1, by rw [← Hy.out]; exact hy1⟩
            have Hv : Hid (16 * x + y = ((pairV s.data.toList j : Nat) : Int)) := Lib.hid (by unfold pairV; rw [← Hx.out, ← Hy.out]; omega)
            have HO := Lib.hid hok
            clear hok Hx Hy hx0 hy0
            go_wp2
            go_roundw
            case rel => exact ⟨j + 1, by omega, by go_num, laid_step (w := wr.drewN nq) hrow (by rw [Hv.out]), (below_drewN hbel _).setCell (Nat.le_refl _) _, Lib.hid fun i hi => (by rcases (show i < j ∨ i = j by omega) with h | rfl; exact HP.out i h; exact HO.out)⟩
            case measure => simp [intOf]; omega
      · obtain rfl : j = k := by omega
        go_wp2
        go_ret2
        refine ⟨hbel, .inl ⟨⟨by rw [HSZ.out, HK.out]; omega, fun i hi => HP.out i (by rw [HSZ.out, HK.out] at hi; omega)⟩, _, rfl, laid_unhex (by rw [HSZ.out, HK.out]; omega) (by unfold maxLen; omega) hrow⟩⟩
  · have htest : ((s.size : Int) % 2 != 0) = true := by simp; omega
    go_enter Try.func24, Try.ntmps24
    go_wp2
    go_ret2
    refine ⟨Below.refl _ _, .inr ⟨fun h => hodd ?_, rfl⟩⟩
    have := h.1
    rw [HSZ.out] at this
    exact this
end Go.Proofs.Ytbcmocijoklchaa
