/- Numbers laid in bytes, and read: flat.Little64, Put32, Put64, Get32, Get64 and the document's own Big, Little, GetBig. -/
import Derived.Test.YthapdohblphlgaaGreat
namespace Go.Proofs.Ythapdohblphlgaa
open Go.RowKit Go.Deep

theorem lAt_val (n j : Nat) : Value.int .u8 ((n : Int) / 2 ^ (8 * j) % 256) = .int .u8 ((lAt n j : Nat) : Int) := by
  unfold lAt; simp

theorem laid_big {w : World} {b n k : Nat} (h : w.rowIs b 5 k (laidTo (gAt n k) k)) (hk : k ≤ 8) : Bs w (.slice (some ⟨b, 0, none⟩) k k) (bigB n k) := by
  have hB : Bs w (.slice (some ⟨b, 0, none⟩) (bigB n k).length k) (bigB n k) := by
    refine Bs.of_rowIs h _ (by rw [bigB_length]; omega) (by unfold maxLen; omega) fun i hi => ?_
    rw [bigB_length] at hi
    unfold laidTo
    rw [if_pos hi]
    simp [bigB, gAt]
  rwa [bigB_length] at hB

theorem laid_little {w : World} {b n k : Nat} (h : w.rowIs b 5 k (laidTo (lAt n) k)) (hk : k ≤ 8) : Bs w (.slice (some ⟨b, 0, none⟩) k k) (litB n k) := by
  have hB : Bs w (.slice (some ⟨b, 0, none⟩) (litB n k).length k) (litB n k) := by
    refine Bs.of_rowIs h _ (by rw [litB_length]; omega) (by unfold maxLen; omega) fun i hi => ?_
    rw [litB_length] at hi
    unfold laidTo
    rw [if_pos hi]
    simp [litB, lAt]
  rwa [litB_length] at hB

set_option maxHeartbeats 400000 in
theorem little64_any (n : Nat) (w : World) (_hn : n < 2 ^ 64) :
    Calls Try.prog 49 #[.int .u64 n] w fun e w' => ∃ v, e = .returned v ∧ Bs w' v (litB n 8) ∧ Below w.heap.size w w' := by
  have hmk : ∀ w : World, (Instr.makeSlice 22 (.int .i64 8) (.int .i64 8)).run Try.prog w = .ok (.slice (some ⟨w.heap.size, 0, none⟩) 8 8) (w.alloc (.cells (madeCells #[.int .u8 0] 8) 5)) :=
    fun w => run_make_row' (P := Try.prog) 22 5 (.int .u8 0) 1 Try.underlying22 Try.info5 rfl .i64 .i64 8 (by omega) (by omega) w
  have hmade := World.rowIs_made w (.int .u8 0) 8 5
  go_enter Try.func49, Try.ntmps49
  go_wp2
  go_loopw [8] (fun i wr => ∃ j : Nat, j ≤ 8 ∧ i = .int .i64 j ∧ wr.rowIs w.heap.size 5 8 (laidTo (lAt n) j) ∧ Below w.heap.size w wr) (fun i _ => 8 - (intOf i).toNat)
  case atStart => exact ⟨0, Nat.zero_le _, rfl, hmade.congr fun i _ => rfl, (Below.refl _ _).alloc (Nat.le_refl _) _⟩
  case round =>
    obtain ⟨j, hj, rfl, hrow, hbel⟩ := hrel
    clear hmk hmade
    by_cases hlt : j < 8
    · have hcell := hrow.cell hlt
      have hfr := hrow.frozen j
      go_wp2
      go_roundw
      case rel => exact ⟨j + 1, by omega, by go_num, laid_step hrow (lAt_val n j), hbel.setCell (Nat.le_refl _) _⟩
      case measure => simp [intOf]; omega
    · obtain rfl : j = 8 := by omega
      go_wp2
      go_ret
      exact ⟨_, rfl, laid_little hrow (by omega), hbel⟩

/-- A row that is laid from its end on: behind j steps the last j cells hold f. -/
def laidFrom (f : Nat → Nat) (s j i : Nat) : Value := if s ≤ i + j then .int .u8 (f i : Nat) else .int .u8 0

theorem laidFrom_step {w : World} {b n j : Nat} {f : Nat → Nat} {v : Value} (h : w.rowIs b 5 n (laidFrom f n j)) (hj : j < n) (hv : v = .int .u8 (f (n - 1 - j) : Nat)) :
    (w.setCell ⟨b, n - 1 - j, none⟩ v).rowIs b 5 n (laidFrom f n (j + 1)) := by
  refine (h.set (n - 1 - j) v).congr fun i hi => ?_
  show (if i = n - 1 - j then v else laidFrom f n j i) = laidFrom f n (j + 1) i
  unfold laidFrom
  by_cases e : i = n - 1 - j
  · subst e; rw [if_pos rfl, if_pos (by omega), hv]
  · rw [if_neg e]
    by_cases h2 : n ≤ i + j
    · rw [if_pos h2, if_pos (by omega)]
    · rw [if_neg h2, if_neg (by omega)]

theorem refBig_val (n k j : Nat) (hj : j < k) : Value.int .u8 ((n : Int) / 2 ^ (8 * j) % 256) = .int .u8 ((gAt n k (k - 1 - j) : Nat) : Int) := by
  have : k - 1 - (k - 1 - j) = j := by omega
  unfold gAt; rw [this]; simp

end Go.Proofs.Ythapdohblphlgaa
