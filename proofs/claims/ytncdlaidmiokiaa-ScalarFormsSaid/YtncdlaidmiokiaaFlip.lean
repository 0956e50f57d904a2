/- missivealike.Round, missivealike.Flip. -/
import Derived.Test.YtncdlaidmiokiaaMM1
import Derived.BigRegion
set_option linter.unusedSimpArgs false
set_option linter.unusedVariables false
namespace Go.Proofs.Ytncdlaidmiokiaa
open Go.RowKit Go.Deep

theorem tmod_mod (k n : Int) : k % n = k.tmod n % n := by
  have h := Int.mul_tdiv_add_tmod k n
  calc k % n = (n * k.tdiv n + k.tmod n) % n := by rw [h]
    _ = k.tmod n % n := by rw [Int.add_comm, Int.add_mul_emod_self_left]
theorem tmod_up (k n : Int) (h : 0 ≤ k.tmod n) (hn : 1 ≤ n) : k.tmod n = k % n := by
  rw [tmod_mod, Int.emod_eq_of_lt h (Int.tmod_lt_of_pos k (by omega))]
theorem tmod_down (k n : Int) (h : k.tmod n < 0) (hn : 1 ≤ n) : k.tmod n + n = k % n := by
  have h2 := Int.lt_tmod_of_pos k (b := n) (by omega)
  rw [tmod_mod, ← Int.add_emod_right, Int.emod_eq_of_lt (by omega) (by omega)]
set_option maxHeartbeats 400000 in
theorem round_any (k n : Int) (w : World) (_hk0 : -9223372036854775808 ≤ k) (_hk1 : k ≤ 9223372036854775807) (hn0 : 1 ≤ n) (hn1 : n ≤ 4611686018427387904) :
    Calls Try.prog 25 #[.int .i64 k, .int .i64 n] w fun e w' => e = .returned (.int .i64 (k % n)) ∧ w' = w := by
  have hz' : ¬ n = 0 := by omega
  go_enter Try.func25, Try.ntmps25
  go_wp2
  · have h : k.tmod n < 0 := by assumption
    have h2 := Int.lt_tmod_of_pos k (b := n) (by omega)
    have e := tmod_down k n h hn0
    have e2 : wrap64 (k.tmod n + n) = k % n := by rw [IntWalk.wrap64_in _ ⟨by omega, by omega⟩, e]
    go_ret
    exact ⟨congrArg (fun x => Ending.returned (.int .i64 x)) e2, rfl⟩
  · have h : 0 ≤ k.tmod n := by assumption
    go_ret
    exact ⟨congrArg (fun x => Ending.returned (.int .i64 x)) (tmod_up k n h hn0), rfl⟩

/-- Byte k / 8 of l with its bit k % 8 turned. -/
def flipB (l : List UInt8) (k : Nat) : List UInt8 := l.set (k / 8) (l.getD (k / 8) 0 ^^^ UInt8.ofNat (2 ^ (k % 8)))
theorem flipB_length (l : List UInt8) (k : Nat) : (flipB l k).length = l.length := by simp [flipB]
theorem xor_ne (x : UInt8) (k : Nat) (h : k < 8) : x ^^^ UInt8.ofNat (2 ^ k) ≠ x := by
  intro e
  have h2 : x ^^^ (x ^^^ UInt8.ofNat (2 ^ k)) = x ^^^ x := by rw [e]
  rw [← UInt8.xor_assoc, UInt8.xor_self, UInt8.zero_xor] at h2
  have hk : k = 0 ∨ k = 1 ∨ k = 2 ∨ k = 3 ∨ k = 4 ∨ k = 5 ∨ k = 6 ∨ k = 7 := by omega
  clear e
  rcases hk with rfl | rfl | rfl | rfl | rfl | rfl | rfl | rfl <;> revert h2 <;> decide
theorem flipB_ne (l : List UInt8) (k : Nat) (h : k / 8 < l.length) : flipB l k ≠ l := by
  intro e
  have h1 : (flipB l k)[k / 8]'(by rw [flipB_length]; exact h) = l[k / 8] := by simp only [e]
  simp [flipB, h] at h1
  exact xor_ne _ _ (Nat.mod_lt _ (by omega)) h1

theorem bits_xor (x : UInt8) (k : Nat) (h : k < 8) : bits .xor .u8 (x.toNat : Int) (IntKind.u8.wrap (2 ^ k)) = ((x ^^^ UInt8.ofNat (2 ^ k)).toNat : Int) := by
  have hx := UInt8.toNat_lt x
  have hp : (2 : Nat) ^ k < 256 := by have : (2 : Nat) ^ k ≤ 2 ^ 7 := Nat.pow_le_pow_right (by omega) (by omega); omega
  have e0 : IntKind.u8.wrap ((2 : Int) ^ k) = ((2 ^ k : Nat) : Int) := by
    have e : ((2 ^ k : Nat) : Int) = (2 : Int) ^ k := by simp
    rw [← e]
    generalize 2 ^ k = p at hp
    exact IntWalk.u8_in _ ⟨by omega, by omega⟩
  rw [e0]
  generalize 2 ^ k = p at hp
  have e1 : (BitVec.ofInt 8 (x.toNat : Int)).toNat = x.toNat := by simp
  have e2 : (BitVec.ofInt 8 (p : Int)).toNat = p := by
    rw [BitVec.toNat_ofInt]; omega
  show IntKind.u8.wrap (((BitVec.ofInt 8 (x.toNat : Int)) ^^^ (BitVec.ofInt 8 (p : Int))).toNat : Int) = _
  have hlt := ((BitVec.ofInt 8 (x.toNat : Int)) ^^^ (BitVec.ofInt 8 (p : Int))).isLt
  rw [IntWalk.u8_in _ ⟨by omega, by omega⟩, BitVec.toNat_xor, e1, e2, UInt8.toNat_xor]
  rw [UInt8.toNat_ofNat_of_lt' hp]

theorem bits_xor' (x : UInt8) (k : Nat) (h : k < 8) : bits .xor .u8 (x.toNat : Int) (2 ^ k % 256) = ((x ^^^ UInt8.ofNat (2 ^ k)).toNat : Int) := by
  rw [← bits_xor x k h, IntKind.wrap_u8]

/-- A store into a row of the call's own. -/
theorem Owns.set {w : World} {base g cap j n : Nat} {l : List UInt8} (h : Owns w base (.slice (some ⟨g, 0, none⟩) n cap) l) (hn : n = l.length) (x : UInt8) :
    Owns (w.setCell ⟨g, j, none⟩ (.int .u8 (x.toNat : Int))) base (.slice (some ⟨g, 0, none⟩) n cap) (l.set j x) := by
  subst hn
  have h1 := (World.ownsRow.stored h j (.int .u8 (x.toNat : Int))).1
  have e : (u8s l).set j (.int .u8 (x.toNat : Int)) = u8s (l.set j x) := by simp [u8s, List.map_set]
  unfold Owns
  rw [List.length_set, ← e]
  exact h1

/-- What the walk wants of an own slice that is not empty. -/
theorem Owns.open_cons {w : World} {base : Nat} {v : Value} {l : List UInt8} (h : Owns w base v l) (hne : 0 < l.length) :
    ∃ g cap, v = .slice (some ⟨g, 0, none⟩) l.length cap ∧ base ≤ g ∧ g < w.heap.size ∧ (∀ i (hi : i < l.length), w.cell? ⟨g, i, none⟩ = some (.int .u8 ((l[i]).toNat : Int))) ∧ ∀ i, w.frozen? ⟨g, i, none⟩ = false := by
  have h0 := h
  obtain ⟨_, h2⟩ := h
  rcases h2 with ⟨_, hn⟩ | ⟨g, cap, cur, rfl, hb, hg, _⟩
  · omega
  · refine ⟨g, cap, rfl, hb, (Array.getElem?_eq_some_iff.1 hg).1, fun i hi => ?_, fun i => World.ownsRow.frozenAt h0 i⟩
    have := World.ownsRow.cellAt h0 i (by omega)
    rw [this]
    simp [u8s, hi]

end Go.Proofs.Ytncdlaidmiokiaa
