/- The document's numbers below p: Inv. -/
import Derived.Test.YthapdohblphlgaaFeG
namespace Go.Proofs.Ythapdohblphlgaa
open Go.RowKit Go.Deep

theorem refPower_eq (a b : UInt8) (x y : Int) (w : World) (hx : x = (a.toNat : Int)) (hy : y = (b.toNat : Int)) : Calls Try.prog 48 #[.int .u8 x, .int .u8 y] w fun e w' => ∃ v, e = .returned v ∧ Bs w' v (powL a b) ∧ Below w.heap.size w w' := by
  subst hx hy
  exact refPower_any a b w
theorem expB_inv : expB (powL 127 235) (powL 127 235).length = p25 - 2 := by decide +kernel

set_option maxHeartbeats 2000000 in
theorem refInv_any (A : Nat) (w : World) (hA : A < p25) : Calls Try.prog 34 #[.agg (arrOf 16 (feF A))] w fun e w' => e = .returned (.agg (arrOf 16 (feF (A ^ (p25 - 2) % p25)))) ∧ Below w.heap.size w w' := by
  obtain ⟨w3, hw3, hrA, hrR, hbel, hsz⟩ := two_rows w (feF A) 31
  go_enter Try.func34, Try.ntmps34
  go_wp2_with (refine wpList_alloc_arr rfl 31 rfl (arrOf 16 (u64f fun _ => 0)) zeroFe ?_)
  rw [show (w.alloc (.cells (arrOf 16 (feF A)) 31)).heap.size = w.heap.size + 1 from World.size_alloc _ _, ← hw3]
  clear hw3
  generalize hg0 : w.heap.size = g0 at *
  generalize hg1 : g0 + 1 = g1 at *
  have l1 : g0 ≤ g1 := by omega
  have HG := Lib.hid hg0
  have HGS : Hid (∀ wq : World, Below g0 w wq → g0 ≤ wq.heap.size) := Lib.hid fun wq h => by rw [← HG.out]; exact h.size
  clear hg0 hg1 hsz
  replace hrA := hrA.drew
  replace hrR := hrR.drew
  replace hbel := hbel.drew
  refine wp_region_lins [(0, some [2]), (1, none), (2, none), (3, none)] (fun c w' => c = 2 → w'.rowIs g0 31 16 (feF A)) (by kernel_rfl) (by kernel_rfl) (by decide) (by kernel_rfl) (fun d _ _ _ _ h => by cases d <;> exact h) (fun c hc _ => hrA) ?_
  refine lins_read 3 (Op.load 31 (Operand.tmp 1)) 31 (.agg (arrOf 16 fun i => feF A (0 + i))) rfl rfl rfl rfl rfl (fun w0 hw0 => by exact exec_load_arr _ _ _ _ rfl arrFe (hw0 2 (by simp) rfl) (by omega)) ?_
  simp only [Act.put, List.setIfInBounds_toArray, List.set_cons_zero, List.set_cons_succ, Nat.zero_add]
  refine lins_fn (some 4) 48 #[Operand.const (Value.int IntKind.u8 127), Operand.const (Value.int IntKind.u8 235)] #[5, 5] _ (refPower_eq 127 235 127 235 _ rfl rfl) rfl rfl rfl rfl Try.func48 (by kernel_rfl) (by kernel_rfl) (by go_simp) ?_
  rintro e w5 ⟨v5, rfl, hP5, hb5⟩
  have hA5 := hrA.of_block (hb5.block _ hrA.lt)
  have hR5 := hrR.of_block (hb5.block _ hrR.lt)
  have hB5 := hbel.trans (hb5.mono (HGS.out _ hbel))
  refine ⟨_, rfl, fun c w' => c = 2 → w'.rowIs g0 31 16 (feF A), fun c hc => ⟨fun _ => hA5, fun w6 h6 => h6⟩, ?_⟩
  simp only [Act.put, List.setIfInBounds_toArray, List.set_cons_zero, List.set_cons_succ]
  refine lins_fn (some 5) 47 #[Operand.tmp 3, Operand.tmp 4] #[31, 22] _ (refPow_any A v5 (powL 127 235) _ hA hP5 (by decide)) rfl rfl rfl rfl Try.func47 (by kernel_rfl) (by kernel_rfl) (by go_simp) ?_
  rintro e w6 ⟨rfl, hb6⟩
  have hR6 := hR5.of_block (hb6.block _ hR5.lt)
  have hB6 := hB5.trans (hb6.mono (HGS.out _ hB5))
  refine ⟨_, rfl, fun _ _ => True, fun c hc => ⟨trivial, fun w7 _ h => by subst h; simp [writers] at hc⟩, ?_⟩
  simp only [Act.put, List.setIfInBounds_toArray, List.set_cons_zero, List.set_cons_succ]
  refine lins_store_arr (k := 16) (off := 0) 31 (.tmp 2) (.tmp 5) rfl rfl rfl rfl hR6 rfl rfl arrFe (by omega) (fun _ _ => rfl) ?_
  intro w7 hr7 hg7 hs7
  refine ⟨fun _ _ => True, fun c hc => (by cases hc), ?_⟩
  refine lins_end ?_
  go_wp2
  refine ret_cell_arr rfl arrFe hr7 rfl (by omega) rfl ⟨?_, by rw [HG.out]; exact hB6.grown hg7 (HGS.out _ hB6) (by intro k hk; cases hk; exact l1)⟩
  rw [agg_put, expB_inv]
end Go.Proofs.Ythapdohblphlgaa
