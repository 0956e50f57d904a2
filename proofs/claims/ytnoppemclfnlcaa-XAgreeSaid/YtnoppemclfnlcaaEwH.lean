/- The program's numbers below p: Inv, Root. -/
import Derived.Test.YtnoppemclfnlcaaEwG
import Derived.Test.YtnoppemclfnlcaaMM1
set_option linter.unusedSimpArgs false
set_option linter.unusedVariables false
namespace Go.Proofs.Ytnoppemclfnlcaa
open Go.RowKit Go.Deep

theorem often_inv (A : Nat) (w : World) (hA : A < p25) : Calls Try.prog 52 #[.func (.func 44) #[] #[], .agg (arrOf 4 (ewF A)), .int .i64 255, .int .u64 21] w fun e w' => e = .returned (.agg (arrOf 4 (ewF (invP A)))) ∧ Below w.heap.size w w' :=
  often_any A 254 21 (p25 - 2) 255 21 w rfl rfl hA (by decide) (by decide) (by decide) (by decide) (by decide +kernel) (by decide +kernel)
theorem often_r1 (A : Nat) (w : World) (hA : A < p25) : Calls Try.prog 52 #[.func (.func 44) #[] #[], .agg (arrOf 4 (ewF A)), .int .i64 252, .int .u64 2] w fun e w' => e = .returned (.agg (arrOf 4 (ewF (A ^ (t25 + 1) % p25)))) ∧ Below w.heap.size w w' :=
  often_any A 251 2 (t25 + 1) 252 2 w rfl rfl hA (by decide) (by decide) (by decide) (by decide) (by decide +kernel) (by decide +kernel)
theorem often_r2 (w : World) : Calls Try.prog 52 #[.func (.func 44) #[] #[], .agg (arrOf 4 (ewF 2)), .int .i64 253, .int .u64 5] w fun e w' => e = .returned (.agg (arrOf 4 (ewF (2 ^ (2 * t25 + 1) % p25)))) ∧ Below w.heap.size w w' :=
  often_any 2 252 5 (2 * t25 + 1) 253 5 w rfl rfl (by decide +kernel) (by decide) (by decide) (by decide) (by decide) (by decide +kernel) (by decide +kernel)

set_option maxHeartbeats 1000000 in
theorem inv_any (A : Nat) (w : World) (hA : A < p25) : Calls Try.prog 47 #[.agg (arrOf 4 (ewF A))] w fun e w' => e = .returned (.agg (arrOf 4 (ewF (invP A)))) ∧ Below w.heap.size w w' := by
  obtain ⟨w2, hw2, hrA, hrR, hbel, hsz⟩ := rowsW2 w (ewF A) 42 42
  have HGS : Hid (∀ wq : World, Below w.heap.size w wq → w.heap.size ≤ wq.heap.size) := Lib.hid fun wq h => h.size
  have l1 : w.heap.size ≤ w.heap.size + 1 := by omega
  have HO := Lib.hid fun w => often_inv A w hA
  generalize invP A = T at *
  clear hsz hA
  subst hw2
  go_enter Try.func47, Try.ntmps47
  go_wp2_with (first
    | refine wpList_alloc_arr rfl 42 rfl (arrOf 4 (u64f fun _ => 0)) zeroE ?_
    | (refine wpList_load_arr rfl 42 (.tmp 1) rfl 4 arrE hrA rfl (by omega) ?_; simp only [Nat.zero_add, World.size_alloc])
    | (go_at_call 52; refine (HO.out _).mono ?_; rintro e w5 ⟨rfl, hb5⟩
       have hR5 := hrR.of_block (hb5.block _ hrR.lt)
       have hB5 := hbel.trans (hb5.mono (HGS.out _ hbel))
       clear hrA hrR hbel hb5)
    | (refine wpList_store_arr rfl 42 (.tmp 2) (.tmp 4) rfl 4 arrE hR5 rfl rfl (by omega) (fun _ _ => rfl) ?_; intro wb hrb hgb hsb))
  refine ret_cell_arr rfl arrE hrb rfl (by omega) rfl ⟨?_, hB5.grown hgb (HGS.out _ hB5) (by intro k hk; cases hk; exact l1)⟩
  rw [agg_putW]

theorem pick_even (σ : Nat) : (if decide (σ % 2 = 1) = true then oppP σ else σ) = evenOf p25 σ := by
  unfold evenOf
  by_cases h : σ % 2 = 1
  · rw [if_pos h, if_pos (decide_eq_true h), oppP_eq]
  · rw [if_neg h, if_neg (by rw [decide_eq_true_eq]; exact h)]

end Go.Proofs.Ytnoppemclfnlcaa
