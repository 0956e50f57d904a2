/- The program's numbers below p: Sub, Same, Odd, Pick. -/
import Derived.Test.YtnoppemclfnlcaaEwE
import Derived.Test.YtnoppemclfnlcaaMM1
set_option linter.unusedSimpArgs false
set_option linter.unusedVariables false
namespace Go.Proofs.Ytnoppemclfnlcaa
open Go.RowKit Go.Deep

theorem sub_opp (A C : Nat) : addP A (oppP C) = subP p25 A C := by
  rw [oppP_eq]
  rfl
set_option maxHeartbeats 1000000 in
theorem sub_any (A C : Nat) (w : World) (hA : A < p25) (hC : C < p25) : Calls Try.prog 43 #[.agg (arrOf 4 (ewF A)), .agg (arrOf 4 (ewF C))] w fun e w' => e = .returned (.agg (arrOf 4 (ewF (subP p25 A C)))) ∧ Below w.heap.size w w' := by
  obtain ⟨w3, hw3, hrA0, hrC0, hrR0, hbel0, hsz⟩ := rowsW3 w (ewF A) (ewF C) 42
  have hrA := hrA0.drew
  have hrC := hrC0.drew
  have hrR := hrR0.drew
  have hbel := hbel0.drew
  have HGS : Hid (∀ wq : World, Below w.heap.size w wq → w.heap.size ≤ wq.heap.size) := Lib.hid fun wq h => h.size
  have l2 : w.heap.size ≤ w.heap.size + 1 + 1 := by omega
  clear hrA0 hrC0 hrR0 hbel0 hsz
  subst hw3
  go_enter Try.func43, Try.ntmps43
  go_wp2_with (refine wpList_alloc_arr rfl 42 rfl (arrOf 4 (u64f fun _ => 0)) zeroE ?_)
  refine wp_region_lins [(0, some [3, 4]), (1, some [2, 4]), (2, none), (3, none), (4, none)] (fun c w' => (c = 2 → w'.rowIs (w.heap.size + 1) 42 4 (ewF C)) ∧ (c = 3 → w'.rowIs w.heap.size 42 4 (ewF A))) (by kernel_rfl) (by kernel_rfl) (by decide) (by kernel_rfl) (fun d _ _ _ _ h => by cases d <;> exact h) (fun c hc => ⟨fun _ => hrC, fun _ => hrA⟩) ?_
  refine lins_read 5 (Op.load 42 (Operand.tmp 2)) 42 (.agg (arrOf 4 fun i => ewF A (0 + i))) rfl rfl rfl rfl rfl (fun w0 hw0 => by exact exec_load_arr _ _ _ _ rfl arrE ((hw0 3 (by simp)).2 rfl) (by omega)) ?_
  simp only [Act.put, List.setIfInBounds_toArray, List.set_cons_zero, List.set_cons_succ, Nat.zero_add]
  refine lins_read 6 (Op.load 42 (Operand.tmp 3)) 42 (.agg (arrOf 4 fun i => ewF C (0 + i))) rfl rfl rfl rfl rfl (fun w0 hw0 => by exact exec_load_arr _ _ _ _ rfl arrE ((hw0 2 (by simp)).1 rfl) (by omega)) ?_
  simp only [Act.put, List.setIfInBounds_toArray, List.set_cons_zero, List.set_cons_succ, Nat.zero_add]
  refine lins_fn (some 7) 50 #[Operand.tmp 6] #[42] _ (neg_any C _ hC) rfl rfl rfl rfl Try.func50 (by kernel_rfl) (by kernel_rfl) (by go_simp) ?_
  rintro e w5 ⟨rfl, hb5⟩
  replace hrA := World.rowIs.of_block hrA (hb5.block _ (World.rowIs.lt hrA))
  replace hrR := World.rowIs.of_block hrR (hb5.block _ (World.rowIs.lt hrR))
  replace hbel := Below.trans hbel (hb5.mono (HGS.out _ hbel))
  refine ⟨_, rfl, fun c w' => c = 3 → w'.rowIs w.heap.size 42 4 (ewF A), fun c hc => ⟨fun _ => hrA, fun w6 h6 => ⟨fun h => by subst h; simp [writers] at hc, h6⟩⟩, ?_⟩
  simp only [Act.put, List.setIfInBounds_toArray, List.set_cons_zero, List.set_cons_succ, Nat.zero_add]
  refine lins_fn (some 8) 45 #[Operand.tmp 5, Operand.tmp 7] #[42, 42] _ (add_any A (oppP C) _ hA (oppP_lt C)) rfl rfl rfl rfl Try.func45 (by kernel_rfl) (by kernel_rfl) (by go_simp) ?_
  rintro e w6 ⟨rfl, hb6⟩
  replace hrR := World.rowIs.of_block hrR (hb6.block _ (World.rowIs.lt hrR))
  replace hbel := Below.trans hbel (hb6.mono (HGS.out _ hbel))
  refine ⟨_, rfl, fun _ _ => True, fun c hc => ⟨trivial, fun w7 _ h => by subst h; simp [writers] at hc⟩, ?_⟩
  simp only [Act.put, List.setIfInBounds_toArray, List.set_cons_zero, List.set_cons_succ, Nat.zero_add]
  refine lins_store_arr (k := 4) (off := 0) 42 (.tmp 4) (.tmp 8) rfl rfl rfl rfl hrR rfl rfl arrE (by omega) (fun _ _ => rfl) ?_
  intro w7 hr7 hg7 hs7
  refine ⟨fun _ _ => True, fun c hc => (by cases hc), ?_⟩
  try simp only [Act.put, List.setIfInBounds_toArray, List.set_cons_zero, List.set_cons_succ, Nat.zero_add]
  refine lins_end ?_
  go_wp2
  refine ret_cell_arr rfl arrE hr7 rfl (by omega) rfl ⟨?_, Below.grown hbel hg7 (HGS.out _ hbel) (by intro k hk; cases hk; exact l2)⟩
  rw [agg_putW, sub_opp]

theorem wd_inj {A B : Nat} (hA : A < p25) (hB : B < p25) : (∀ j, j < 4 → ((wd A j : Nat) : Int) = ((wd B j : Nat) : Int)) ↔ A = B := by
  constructor
  · intro h
    have h1 := valW_congr 4 (f := wd A) (g := wd B) (fun j hj => by have := h j hj; omega)
    rwa [wd_all _ (Nat.lt_trans hA p25_B4), wd_all _ (Nat.lt_trans hB p25_B4)] at h1
  · intro h j _; rw [h]
theorem run_part_words (F : Nat → Value) (w : World) : (part 40 (arrOf 4 F) 0).run Try.prog w = .ok (.agg (arrOf 4 F)) w := by
  have hg : (isAgg 40).run Try.prog w = .ok true w := by
    unfold isAgg
    rw [Sem.run_bind, run_underlying Try.underlying40 w]
    simp
  have hi : (Try.prog.info? 40).map (fun i => i.size) = some 4 := by kernel_rfl
  cases hq : Try.prog.info? 40 with
  | none => simp [hq] at hi
  | some i =>
    have hs : i.size = 4 := by simpa [hq] using hi
    simp [part, hg, sizeOf, typeInfo, hq, hs, Result.andThen]
    right
    rw [arrOf_size]
    exact Nat.le_refl _
theorem fieldsE : ∃ f : Field, Try.prog.fieldsOf 42 = #[f] ∧ f.name ≠ "_" ∧ f.type = 40 ∧ f.offset = 0 := ⟨_, rfl, by decide, rfl, rfl⟩
theorem run_eqE (w : World) (A C : Nat) (hA : A < p25) (hC : C < p25) : (Op.equalIn 10000 42 (.agg (arrOf 4 (ewF A))) (.agg (arrOf 4 (ewF C)))).run Try.prog w = .ok (decide (A = C)) w := by
  obtain ⟨f, hf, hn, ht, ho⟩ := fieldsE
  rw [run_equalIn_struct (P := Try.prog) w 9999 42 _ _ (by kernel_rfl) (by kernel_rfl), hf]
  have h2 := run_eq_arr2 (P := Try.prog) w 9997 40 39 4 .u64 (fun j => ((wd A j : Nat) : Int)) (fun j => ((wd C j : Nat) : Int)) Try.underlying40 Try.underlying39 (by kernel_rfl)
  have hp1 := run_part_words (ewF A) w
  have hp2 := run_part_words (ewF C) w
  have h3 : (Op.equalIn 9999 40 (.agg (arrOf 4 (ewF A))) (.agg (arrOf 4 (ewF C)))).run Try.prog w = .ok (decide (A = C)) w := by
    refine h2.trans ?_
    by_cases e : A = C
    · rw [decide_eq_true e, decide_eq_true ((wd_inj hA hC).2 e)]
    · rw [decide_eq_false e, decide_eq_false (fun h => e ((wd_inj hA hC).1 h))]
  simp only [Op.eqFields, ht, ho, ne_eq, hn, not_false_eq_true, if_true, Sem.run_bind, hp1, hp2, h3, Result.andThen_ok]
  cases decide (A = C) <;> simp
theorem exec_E_eql {w : World} (ρ : Operand → Value) (x y : Operand) (t : TypeId) {A C : Nat} (hA : A < p25) (hC : C < p25) (hx : ρ x = .agg (arrOf 4 (ewF A))) (hy : ρ y = .agg (arrOf 4 (ewF C))) :
    (execOp ρ (mkOp (.binOp .eql 42 x y 42) t)).run Try.prog w = .ok (.value (.bool (decide (A = C)))) w := by
  have hq := run_eqGuard_agg (P := Try.prog) w .eql 42 x y (arrOf 4 (ewF A)) (arrOf 4 (ewF C)) (by kernel_rfl)
  have hr := run_eql_struct (P := Try.prog) w 42 (arrOf 4 (ewF A)) (arrOf 4 (ewF C))
  rw [run_eqE w A C hA hC] at hr
  simp [execOp, mkOp, hx, hy, hq, hr, Result.andThen]
end Go.Proofs.Ytnoppemclfnlcaa
