/- The program's numbers below p: Sub, Same, Odd, Pick. -/
import Derived.Test.YthapdohblphlgaaEwE
import Derived.Test.YthapdohblphlgaaEqFe
namespace Go.Proofs.Ythapdohblphlgaa
open Go.RowKit Go.Deep

theorem sub_opp (A C : Nat) : addP A (oppP C) = subP p25 A C := by
  rw [oppP_eq]
  rfl
set_option maxHeartbeats 1000000 in
theorem sub_any (A C : Nat) (w : World) (hA : A < p25) (hC : C < p25) : Calls Try.prog 22 #[.agg (arrOf 4 (ewF A)), .agg (arrOf 4 (ewF C))] w fun e w' => e = .returned (.agg (arrOf 4 (ewF (subP p25 A C)))) ∧ Below w.heap.size w w' := by
  obtain ⟨w3, hw3, hrA0, hrC0, hrR0, hbel0, hsz⟩ := rowsW3 w (ewF A) (ewF C) 28
  have hrA := hrA0.drew
  have hrC := hrC0.drew
  have hrR := hrR0.drew
  have hbel := hbel0.drew
  have HGS : Hid (∀ wq : World, Below w.heap.size w wq → w.heap.size ≤ wq.heap.size) := Lib.hid fun wq h => h.size
  have l2 : w.heap.size ≤ w.heap.size + 1 + 1 := by omega
  clear hrA0 hrC0 hrR0 hbel0 hsz
  subst hw3
  go_enter Try.func22, Try.ntmps22
  go_wp2_with (refine wpList_alloc_arr rfl 28 rfl (arrOf 4 (u64f fun _ => 0)) zeroE ?_)
  refine wp_region_lins [(0, some [3, 4]), (1, some [2, 4]), (2, none), (3, none), (4, none)] (fun c w' => (c = 2 → w'.rowIs (w.heap.size + 1) 28 4 (ewF C)) ∧ (c = 3 → w'.rowIs w.heap.size 28 4 (ewF A))) (by kernel_rfl) (by kernel_rfl) (by decide) (by kernel_rfl) (fun d _ _ _ _ h => by cases d <;> exact h) (fun c hc => ⟨fun _ => hrC, fun _ => hrA⟩) ?_
  refine lins_read 5 (Op.load 28 (Operand.tmp 2)) 28 (.agg (arrOf 4 fun i => ewF A (0 + i))) rfl rfl rfl rfl rfl (fun w0 hw0 => by exact exec_load_arr _ _ _ _ rfl arrE ((hw0 3 (by simp)).2 rfl) (by omega)) ?_
  simp only [Act.put, List.setIfInBounds_toArray, List.set_cons_zero, List.set_cons_succ, Nat.zero_add]
  refine lins_read 6 (Op.load 28 (Operand.tmp 3)) 28 (.agg (arrOf 4 fun i => ewF C (0 + i))) rfl rfl rfl rfl rfl (fun w0 hw0 => by exact exec_load_arr _ _ _ _ rfl arrE ((hw0 2 (by simp)).1 rfl) (by omega)) ?_
  simp only [Act.put, List.setIfInBounds_toArray, List.set_cons_zero, List.set_cons_succ, Nat.zero_add]
  refine lins_fn (some 7) 26 #[Operand.tmp 6] #[28] _ (neg_any C _ hC) rfl rfl rfl rfl Try.func26 (by kernel_rfl) (by kernel_rfl) (by go_simp) ?_
  rintro e w5 ⟨rfl, hb5⟩
  replace hrA := World.rowIs.of_block hrA (hb5.block _ (World.rowIs.lt hrA))
  replace hrR := World.rowIs.of_block hrR (hb5.block _ (World.rowIs.lt hrR))
  replace hbel := Below.trans hbel (hb5.mono (HGS.out _ hbel))
  refine ⟨_, rfl, fun c w' => c = 3 → w'.rowIs w.heap.size 28 4 (ewF A), fun c hc => ⟨fun _ => hrA, fun w6 h6 => ⟨fun h => by subst h; simp [writers] at hc, h6⟩⟩, ?_⟩
  simp only [Act.put, List.setIfInBounds_toArray, List.set_cons_zero, List.set_cons_succ, Nat.zero_add]
  refine lins_fn (some 8) 20 #[Operand.tmp 5, Operand.tmp 7] #[28, 28] _ (add_any A (oppP C) _ hA (oppP_lt C)) rfl rfl rfl rfl Try.func20 (by kernel_rfl) (by kernel_rfl) (by go_simp) ?_
  rintro e w6 ⟨rfl, hb6⟩
  replace hrR := World.rowIs.of_block hrR (hb6.block _ (World.rowIs.lt hrR))
  replace hbel := Below.trans hbel (hb6.mono (HGS.out _ hbel))
  refine ⟨_, rfl, fun _ _ => True, fun c hc => ⟨trivial, fun w7 _ h => by subst h; simp [writers] at hc⟩, ?_⟩
  simp only [Act.put, List.setIfInBounds_toArray, List.set_cons_zero, List.set_cons_succ, Nat.zero_add]
  refine lins_store_arr (k := 4) (off := 0) 28 (.tmp 4) (.tmp 8) rfl rfl rfl rfl hrR rfl rfl arrE (by omega) (fun _ _ => rfl) ?_
  intro w7 hr7 hg7 hs7
  refine ⟨fun _ _ => True, fun c hc => (by cases hc), ?_⟩
  try simp only [Act.put, List.setIfInBounds_toArray, List.set_cons_zero, List.set_cons_succ, Nat.zero_add]
  refine lins_end ?_
  go_wp2
  refine ret_cell_arr rfl arrE hr7 rfl (by omega) rfl ⟨?_, Below.grown hbel hg7 (HGS.out _ hbel) (by intro k hk; cases hk; exact l2)⟩
  rw [agg_putW, sub_opp]

theorem wd_inj {A B : Nat} (hA : A < p25) (hB : B < p25) : (∀ j, j < 4 → ((wd A j : Nat) : Int) = ((wd B j : Nat) : Int)) ↔ A = B := by
  constructor
  · intro h
    have h1 := valW_congr 4 (f := wd A) (g := wd B) (fun j hj => by have := h j hj; omega)
    rwa [wd_all _ (Nat.lt_trans hA p25_B4), wd_all _ (Nat.lt_trans hB p25_B4)] at h1
  · intro h j _; rw [h]
theorem run_part_words (F : Nat → Value) (w : World) : (part 26 (arrOf 4 F) 0).run Try.prog w = .ok (.agg (arrOf 4 F)) w := by
  have hg : (isAgg 26).run Try.prog w = .ok true w := by
    unfold isAgg
    rw [Sem.run_bind, run_underlying Try.underlying26 w]
    simp
  have hi : (Try.prog.info? 26).map (fun i => i.size) = some 4 := by kernel_rfl
  cases hq : Try.prog.info? 26 with
  | none => simp [hq] at hi
  | some i =>
    have hs : i.size = 4 := by simpa [hq] using hi
    simp [part, hg, sizeOf, typeInfo, hq, hs, Result.andThen]
    right
    rw [arrOf_size]
    exact Nat.le_refl _
theorem fieldsE : ∃ f : Field, Try.prog.fieldsOf 28 = #[f] ∧ f.name ≠ "_" ∧ f.type = 26 ∧ f.offset = 0 := ⟨_, rfl, by decide, rfl, rfl⟩
theorem run_eqE (w : World) (A C : Nat) (hA : A < p25) (hC : C < p25) : (Op.equalIn 10000 28 (.agg (arrOf 4 (ewF A))) (.agg (arrOf 4 (ewF C)))).run Try.prog w = .ok (decide (A = C)) w := by
  obtain ⟨f, hf, hn, ht, ho⟩ := fieldsE
  rw [run_equalIn_struct (P := Try.prog) w 9999 28 _ _ (by kernel_rfl) (by kernel_rfl), hf]
  have h2 := run_eq_arr2 (P := Try.prog) w 9997 26 23 4 .u64 (fun j => ((wd A j : Nat) : Int)) (fun j => ((wd C j : Nat) : Int)) Try.underlying26 Try.underlying23 (by kernel_rfl)
  have hp1 := run_part_words (ewF A) w
  have hp2 := run_part_words (ewF C) w
  have h3 : (Op.equalIn 9999 26 (.agg (arrOf 4 (ewF A))) (.agg (arrOf 4 (ewF C)))).run Try.prog w = .ok (decide (A = C)) w := by
    refine h2.trans ?_
    by_cases e : A = C
    · rw [decide_eq_true e, decide_eq_true ((wd_inj hA hC).2 e)]
    · rw [decide_eq_false e, decide_eq_false (fun h => e ((wd_inj hA hC).1 h))]
  simp only [Op.eqFields, ht, ho, ne_eq, hn, not_false_eq_true, if_true, Sem.run_bind, hp1, hp2, h3, Result.andThen_ok]
  cases decide (A = C) <;> simp
theorem exec_E_eql {w : World} (ρ : Operand → Value) (x y : Operand) (t : TypeId) {A C : Nat} (hA : A < p25) (hC : C < p25) (hx : ρ x = .agg (arrOf 4 (ewF A))) (hy : ρ y = .agg (arrOf 4 (ewF C))) :
    (execOp ρ (mkOp (.binOp .eql 28 x y 28) t)).run Try.prog w = .ok (.value (.bool (decide (A = C)))) w := by
  have hq := run_eqGuard_agg (P := Try.prog) w .eql 28 x y (arrOf 4 (ewF A)) (arrOf 4 (ewF C)) (by kernel_rfl)
  have hr := run_eql_struct (P := Try.prog) w 28 (arrOf 4 (ewF A)) (arrOf 4 (ewF C))
  rw [run_eqE w A C hA hC] at hr
  simp [execOp, mkOp, hx, hy, hq, hr, Result.andThen]
theorem same_any (A C : Nat) (w : World) (hA : A < p25) (hC : C < p25) : Calls Try.prog 28 #[.agg (arrOf 4 (ewF A)), .agg (arrOf 4 (ewF C))] w fun e w' => e = .returned (.bool (decide (A = C))) ∧ Below w.heap.size w w' := by
  have hrA := (rowIs_arr w 4 (ewF A) 28).alloc (.cells (arrOf 4 (ewF C)) 28)
  have hrC := rowIs_arr (w.alloc (.cells (arrOf 4 (ewF A)) 28)) 4 (ewF C) 28
  have hbel := ((Below.refl w.heap.size w).alloc (Nat.le_refl _) (.cells (arrOf 4 (ewF A)) 28)).alloc (by simp) (.cells (arrOf 4 (ewF C)) 28)
  have HQ := Lib.hid fun w x y => run_eqGuard_agg (P := Try.prog) w .eql 28 x y (arrOf 4 (ewF A)) (arrOf 4 (ewF C)) (by kernel_rfl)
  have HE : Hid (∀ w : World, (binOp .eql 28 (.agg (arrOf 4 (ewF A))) (.agg (arrOf 4 (ewF C)))).run Try.prog w = .ok (.bool (decide (A = C))) w) := Lib.hid fun w => by
    rw [run_eql_struct (P := Try.prog) w 28 (arrOf 4 (ewF A)) (arrOf 4 (ewF C)), run_eqE w A C hA hC]
    rfl
  rw [World.size_alloc] at hrC
  clear hA hC
  go_enter Try.func28, Try.ntmps28
  go_wp2_with (first
    | (refine wpList_load_arr rfl 28 (.tmp 2) rfl 4 arrE hrA rfl (by omega) ?_; simp only [Nat.zero_add])
    | (refine wpList_load_arr rfl 28 (.tmp 3) rfl 4 arrE hrC rfl (by omega) ?_; simp only [Nat.zero_add])
    | refine wpList_bin2 rfl .eql 28 28 (.tmp 5) (.tmp 6) rfl (fun w => HQ.out w _ _) (fun w => HE.out w) rfl rfl ?_)
  go_ret
  exact ⟨rfl, hbel⟩
theorem odd_any (A : Nat) (w : World) : Calls Try.prog 29 #[.agg (arrOf 4 (ewF A))] w fun e w' => e = .returned (.bool (decide (A % 2 = 1))) ∧ Below w.heap.size w w' := by
  have hrA := rowIs_arr w 4 (ewF A) 28
  have hbel := (Below.refl w.heap.size w).alloc (Nat.le_refl _) (.cells (arrOf 4 (ewF A)) 28)
  have hc0 := hrA.cell (i := 0) (by omega)
  have hm := mask64 (wd A 0) 1 (wd_lt A 0) (by decide) 1 rfl
  have hpar : wd A 0 % 2 ^ 1 = A % 2 := by rw [wd_zero]; omega
  rw [hpar] at hm
  have hc : (w.alloc (.cells (arrOf 4 (ewF A)) 28)).cell? ⟨w.heap.size, 0, none⟩ = some (.int .u64 ((wd A 0 : Nat) : Int)) := hc0
  clear hrA hc0 hpar
  by_cases h : A % 2 = 1
  · rw [decide_eq_true h]
    rw [h] at hm
    generalize wd A 0 = x at *
    clear h
    go_enter Try.func29, Try.ntmps29
    go_wp2
    go_ret
    exact ⟨rfl, hbel⟩
  · rw [decide_eq_false h]
    rw [show A % 2 = 0 by omega] at hm
    generalize wd A 0 = x at *
    clear h
    go_enter Try.func29, Try.ntmps29
    go_wp2
    go_ret
    exact ⟨rfl, hbel⟩
set_option maxHeartbeats 1000000 in
theorem pick_any (y : Bool) (A C : Nat) (w : World) : Calls Try.prog 30 #[.bool y, .agg (arrOf 4 (ewF A)), .agg (arrOf 4 (ewF C))] w fun e w' => e = .returned (.agg (arrOf 4 (ewF (if y = true then A else C)))) ∧ Below w.heap.size w w' := by
  obtain ⟨w3, hw3, hrA, hrC, hrR, hbel, hsz⟩ := rowsW3 w (ewF A) (ewF C) 28
  have HGS : Hid (∀ wq : World, Below w.heap.size w wq → w.heap.size ≤ wq.heap.size) := Lib.hid fun wq h => h.size
  have l2 : w.heap.size ≤ w.heap.size + 1 + 1 := by omega
  clear hsz
  subst hw3
  cases y
  · go_enter Try.func30, Try.ntmps30
    go_wp2_with (first
      | refine wpList_alloc_arr rfl 28 rfl (arrOf 4 (u64f fun _ => 0)) zeroE ?_
      | (refine wpList_load_arr rfl 28 (.tmp 5) rfl 4 arrE hrC rfl (by omega) ?_; simp only [Nat.zero_add, World.size_alloc])
      | (refine wpList_store_arr rfl 28 (.tmp 6) (.tmp 9) rfl 4 arrE hrR rfl rfl (by omega) (fun _ _ => rfl) ?_; intro wb hrb hgb hsb))
    refine ret_cell_arr rfl arrE hrb rfl (by omega) rfl ⟨?_, hbel.grown hgb (HGS.out _ hbel) (by intro k hk; cases hk; exact l2)⟩
    rw [agg_putW]
    try rfl
  · go_enter Try.func30, Try.ntmps30
    go_wp2_with (first
      | refine wpList_alloc_arr rfl 28 rfl (arrOf 4 (u64f fun _ => 0)) zeroE ?_
      | (refine wpList_load_arr rfl 28 (.tmp 4) rfl 4 arrE hrA rfl (by omega) ?_; simp only [Nat.zero_add, World.size_alloc])
      | (refine wpList_store_arr rfl 28 (.tmp 6) (.tmp 8) rfl 4 arrE hrR rfl rfl (by omega) (fun _ _ => rfl) ?_; intro wb hrb hgb hsb))
    refine ret_cell_arr rfl arrE hrb rfl (by omega) rfl ⟨?_, hbel.grown hgb (HGS.out _ hbel) (by intro k hk; cases hk; exact l2)⟩
    rw [agg_putW]
    try rfl
end Go.Proofs.Ythapdohblphlgaa
