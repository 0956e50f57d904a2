/- flat.great and flat.Little64: a number in so many bytes. -/
import Derived.Test.YtladojcbbhphfaaVoc
namespace Go.Proofs.Ytladojcbbhphfaa
open Go.RowKit Go.Deep

/-- What stands in a row whose first j cells are laid: the bytes f. -/
def laidTo (f : Nat → Nat) (j i : Nat) : Value := if i < j then .int .u8 (f i : Nat) else .int .u8 0

theorem laid_step {w : World} {b n j : Nat} {f : Nat → Nat} {v : Value} (h : w.rowIs b 5 n (laidTo f j)) (hv : v = .int .u8 (f j : Nat)) : (w.setCell ⟨b, j, none⟩ v).rowIs b 5 n (laidTo f (j + 1)) := by
  refine (h.set j v).congr fun i _ => ?_
  show (if i = j then v else laidTo f j i) = laidTo f (j + 1) i
  unfold laidTo
  by_cases e : i = j
  · subst e; rw [if_pos rfl, if_pos (by omega), hv]
  · rw [if_neg e]
    by_cases h2 : i < j
    · rw [if_pos h2, if_pos (by omega)]
    · rw [if_neg h2, if_neg (by omega)]

def gAt (n s i : Nat) : Nat := n / 2 ^ (8 * (s - 1 - i)) % 256
def lAt (n i : Nat) : Nat := n / 2 ^ (8 * i) % 256

theorem gAt_val (n s j : Nat) : Value.int .u8 ((n : Int) / 2 ^ (8 * (s - 1 - j)) % 256) = .int .u8 ((gAt n s j : Nat) : Int) := by
  unfold gAt; simp

set_option maxHeartbeats 400000 in
theorem great_any (n : Nat) (s : Int) (w : World) (_hn : n < 2 ^ 64) (hs0 : 0 ≤ s) (hs : s ≤ 8) :
    Calls Try.prog 48 #[.int .u64 n, .int .i64 s] w fun e w' => ∃ v, e = .returned v ∧ Bs w' v (bigB n s.toNat) ∧ Below w.heap.size w w' := by
  obtain ⟨k, rfl⟩ := Int.eq_ofNat_of_zero_le hs0
  have hmk := fun (w : World) => run_make_row' (P := Try.prog) 22 5 (.int .u8 0) 1 Try.underlying22 Try.info5 rfl .i64 .i64 k (by omega) (by omega) w
  have hmade := World.rowIs_made w (.int .u8 0) k 5
  go_enter Try.func48, Try.ntmps48
  go_wp2
  go_loopw [11] (fun i wr => ∃ j : Nat, j ≤ k ∧ i = .int .i64 j ∧ wr.rowIs w.heap.size 5 k (laidTo (gAt n k) j) ∧ Below w.heap.size w wr) (fun i _ => k - (intOf i).toNat)
  case atStart => exact ⟨0, Nat.zero_le _, rfl, hmade.congr fun i _ => rfl, (Below.refl _ _).alloc (Nat.le_refl _) _⟩
  case round =>
    obtain ⟨j, hj, rfl, hrow, hbel⟩ := hrel
    clear hmk hmade
    by_cases hlt : j < k
    · have hcell := hrow.cell hlt
      have hfr := hrow.frozen j
      go_wp2
      go_roundw
      case rel => exact ⟨j + 1, by omega, by go_num, laid_step hrow (gAt_val n k j), hbel.setCell (Nat.le_refl _) _⟩
      case measure => simp [intOf]; omega
    · obtain rfl : j = k := by omega
      have hB : Bs wr (.slice (some ⟨w.heap.size, 0, none⟩) (bigB n j).length j) (bigB n j) := by
        refine Bs.of_rowIs hrow _ (by rw [bigB_length]; omega) (by unfold maxLen; omega) fun i hi => ?_
        rw [bigB_length] at hi
        unfold laidTo
        rw [if_pos hi]
        simp [bigB, gAt]
      rw [bigB_length] at hB
      go_wp2
      go_ret
      exact ⟨_, rfl, by simpa using hB, hbel⟩
end Go.Proofs.Ytladojcbbhphfaa
