/- Numbers read from bytes: flat.number, Get32, Get64 and the document's own GetBig. -/
import Derived.Test.YtladojcbbhphfaaNums
namespace Go.Proofs.Ytladojcbbhphfaa
open Go.RowKit Go.Deep

def byteAt (l : List UInt8) (i : Nat) : Nat := (l.getD i 0).toNat
def numB (l : List UInt8) : Nat → Nat
  | 0 => 0
  | k + 1 => numB l k * 256 + byteAt l k
theorem byteAt_lt (l : List UInt8) (i : Nat) : byteAt l i < 256 := UInt8.toNat_lt _
theorem numB_lt (l : List UInt8) : ∀ k, numB l k < 256 ^ k
  | 0 => by simp [numB]
  | k + 1 => by
    have h1 := numB_lt l k
    have h2 := byteAt_lt l k
    rw [numB, Nat.pow_succ]
    omega
theorem pow_le_7 (k : Nat) (h : k < 8) : (256 : Nat) ^ k ≤ 256 ^ 7 := Nat.pow_le_pow_right (by omega) (by omega)
theorem numB_small (l : List UInt8) (k : Nat) (h : k < 8) : numB l k * 256 ≤ 18446744073709551360 := by
  have h1 := numB_lt l k
  have h2 := pow_le_7 k h
  omega
theorem or_byte (x y : Nat) (hy : y < 256) (hx : x * 256 ≤ 18446744073709551360) : bits .or .u64 ((x : Int) * 256) (IntKind.u64.wrap (y : Int)) = ((x * 256 + y : Nat) : Int) := by
  rw [IntWalk.u64_in (y : Int) ⟨by omega, by omega⟩]
  have e1 : (BitVec.ofInt 64 ((x : Int) * 256)).toNat = x * 256 := by simp; omega
  have e2 : (BitVec.ofInt 64 (y : Int)).toNat = y := by simp; omega
  have e3 : x * 256 ||| y = x * 256 + y := by
    have := Nat.two_pow_add_eq_or_of_lt (i := 8) (b := y) hy x
    rw [Nat.mul_comm (2 ^ 8) x] at this
    exact this.symm
  show IntKind.u64.wrap (((BitVec.ofInt 64 ((x : Int) * 256)) ||| (BitVec.ofInt 64 (y : Int))).toNat : Int) = _
  rw [BitVec.toNat_or, e1, e2, e3]
  exact IntWalk.u64_in _ ⟨by omega, by omega⟩

theorem numB_in (l : List UInt8) (j : Nat) (h : j < l.length) : numB l (j + 1) = numB l j * 256 + l[j].toNat := by
  simp [numB, byteAt, h]
theorem numB_out (l : List UInt8) (j : Nat) (h : l.length ≤ j) : numB l (j + 1) = numB l j * 256 := by
  simp [numB, byteAt, h]

set_option maxHeartbeats 400000 in
theorem number_any (v : Value) (l : List UInt8) (s : Int) (w : World) (hv : Bs w v l) (hs0 : 0 ≤ s) (hs : s ≤ 8) :
    Calls Try.prog 51 #[v, .int .i64 s] w fun e w' => e = .returned (.int .u64 (numB l s.toNat)) ∧ w' = w := by
  obtain ⟨k, rfl⟩ := Int.eq_ofNat_of_zero_le hs0
  have HV := Lib.hid hv
  obtain ⟨a, cap, rfl, h1, h2, h3, h4⟩ := hv
  clear h3 h4
  go_enter Try.func51, Try.ntmps51
  go_wp2
  go_loop [5, 8] (fun x i => ∃ j : Nat, j ≤ k ∧ i = .int .i64 j ∧ x = .int .u64 (numB l j)) (fun _ i => k - (intOf i).toNat)
  case atStart => exact ⟨0, Nat.zero_le _, rfl, rfl⟩
  case round =>
    obtain ⟨j, hj, rfl, rfl⟩ := hrel
    unfold maxLen at h2
    by_cases hlt : j < k
    · have hb := numB_small l j (by omega)
      by_cases hin : j < l.length
      · obtain ⟨b, off, cap', he, _, _, _, hc⟩ := HV.out.open_cons (by omega)
        cases he
        have hcj := hc j hin
        clear hc
        go_wp2
        go_round
        case rel => exact ⟨j + 1, by omega, by go_num, by rw [or_byte _ _ (UInt8.toNat_lt _) hb, numB_in l j hin]⟩
        case measure => simp [intOf]; omega
      · go_wp2
        go_round
        case rel => exact ⟨j + 1, by omega, by go_num, by rw [numB_out l j (by omega)]; go_num⟩
        case measure => simp [intOf]; omega
    · obtain rfl : j = k := by omega
      go_wp2
      go_ret
      exact ⟨rfl, rfl⟩

set_option maxHeartbeats 400000 in
theorem getBig_any (v : Value) (l : List UInt8) (s : Int) (w : World) (hv : Bs w v l) (hs0 : 0 ≤ s) (hs : s ≤ 8) :
    Calls Try.prog 30 #[v, .int .i64 s] w fun e w' => e = .returned (.int .u64 (numB l s.toNat)) ∧ w' = w := by
  obtain ⟨k, rfl⟩ := Int.eq_ofNat_of_zero_le hs0
  have HV := Lib.hid hv
  obtain ⟨a, cap, rfl, h1, h2, h3, h4⟩ := hv
  clear h3 h4
  go_enter Try.func30, Try.ntmps30
  go_wp2
  go_loop [5, 6] (fun x i => ∃ j : Nat, j ≤ k ∧ i = .int .i64 j ∧ x = .int .u64 (numB l j)) (fun _ i => k - (intOf i).toNat)
  case atStart => exact ⟨0, Nat.zero_le _, rfl, rfl⟩
  case round =>
    obtain ⟨j, hj, rfl, rfl⟩ := hrel
    unfold maxLen at h2
    by_cases hlt : j < k
    · have hb := numB_small l j (by omega)
      by_cases hin : j < l.length
      · obtain ⟨b, off, cap', he, _, _, _, hc⟩ := HV.out.open_cons (by omega)
        cases he
        have hcj := hc j hin
        clear hc
        go_wp2
        go_round
        case rel => exact ⟨j + 1, by omega, by go_num, by rw [or_byte _ _ (UInt8.toNat_lt _) hb, numB_in l j hin]⟩
        case measure => simp [intOf]; omega
      · go_wp2
        go_round
        case rel => exact ⟨j + 1, by omega, by go_num, by rw [numB_out l j (by omega)]; go_num⟩
        case measure => simp [intOf]; omega
    · obtain rfl : j = k := by omega
      go_wp2
      go_ret
      exact ⟨rfl, rfl⟩

theorem numB_4 (l : List UInt8) : numB l 4 < 4294967296 := numB_lt l 4
set_option maxHeartbeats 400000 in
theorem get32_any (v : Value) (l : List UInt8) (w : World) (hv : Bs w v l) :
    Calls Try.prog 49 #[v] w fun e w' => e = .returned (.int .u32 (numB l 4)) ∧ w' = w := by
  have HV := Lib.hid hv
  clear hv
  have hb := numB_4 l
  go_enter Try.func49, Try.ntmps49
  go_wp2_with fail
  refine (number_any v l 4 _ HV.out (by omega) (by omega)).mono ?_
  rintro e w' ⟨rfl, rfl⟩
  go_wp2
  go_ret
  exact ⟨rfl, rfl⟩
end Go.Proofs.Ytladojcbbhphfaa
