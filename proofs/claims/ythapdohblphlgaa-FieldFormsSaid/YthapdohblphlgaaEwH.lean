/- The program's numbers below p: Inv, Root. -/
import Derived.Test.YthapdohblphlgaaEwG
import Derived.Test.YthapdohblphlgaaFeI
namespace Go.Proofs.Ythapdohblphlgaa
open Go.RowKit Go.Deep

theorem often_inv (A : Nat) (w : World) (hA : A < p25) : Calls Try.prog 46 #[.func (.func 24) #[] #[], .agg (arrOf 4 (ewF A)), .int .i64 255, .int .u64 21] w fun e w' => e = .returned (.agg (arrOf 4 (ewF (invP A)))) ∧ Below w.heap.size w w' :=
  often_any A 254 21 (p25 - 2) 255 21 w rfl rfl hA (by decide) (by decide) (by decide) (by decide) (by decide +kernel) (by decide +kernel)
theorem often_r1 (A : Nat) (w : World) (hA : A < p25) : Calls Try.prog 46 #[.func (.func 24) #[] #[], .agg (arrOf 4 (ewF A)), .int .i64 252, .int .u64 2] w fun e w' => e = .returned (.agg (arrOf 4 (ewF (A ^ (t25 + 1) % p25)))) ∧ Below w.heap.size w w' :=
  often_any A 251 2 (t25 + 1) 252 2 w rfl rfl hA (by decide) (by decide) (by decide) (by decide) (by decide +kernel) (by decide +kernel)
theorem often_r2 (w : World) : Calls Try.prog 46 #[.func (.func 24) #[] #[], .agg (arrOf 4 (ewF 2)), .int .i64 253, .int .u64 5] w fun e w' => e = .returned (.agg (arrOf 4 (ewF (2 ^ (2 * t25 + 1) % p25)))) ∧ Below w.heap.size w w' :=
  often_any 2 252 5 (2 * t25 + 1) 253 5 w rfl rfl (by decide +kernel) (by decide) (by decide) (by decide) (by decide) (by decide +kernel) (by decide +kernel)

set_option maxHeartbeats 1000000 in
theorem inv_any (A : Nat) (w : World) (hA : A < p25) : Calls Try.prog 33 #[.agg (arrOf 4 (ewF A))] w fun e w' => e = .returned (.agg (arrOf 4 (ewF (invP A)))) ∧ Below w.heap.size w w' := by
  obtain ⟨w2, hw2, hrA, hrR, hbel, hsz⟩ := rowsW2 w (ewF A) 28 28
  have HGS : Hid (∀ wq : World, Below w.heap.size w wq → w.heap.size ≤ wq.heap.size) := Lib.hid fun wq h => h.size
  have l1 : w.heap.size ≤ w.heap.size + 1 := by omega
  have HO := Lib.hid fun w => often_inv A w hA
  generalize invP A = T at *
  clear hsz hA
  subst hw2
  go_enter Try.func33, Try.ntmps33
  go_wp2_with (first
    | refine wpList_alloc_arr rfl 28 rfl (arrOf 4 (u64f fun _ => 0)) zeroE ?_
    | (refine wpList_load_arr rfl 28 (.tmp 1) rfl 4 arrE hrA rfl (by omega) ?_; simp only [Nat.zero_add, World.size_alloc])
    | (go_at_call 46; refine (HO.out _).mono ?_; rintro e w5 ⟨rfl, hb5⟩
       have hR5 := hrR.of_block (hb5.block _ hrR.lt)
       have hB5 := hbel.trans (hb5.mono (HGS.out _ hbel))
       clear hrA hrR hbel hb5)
    | (refine wpList_store_arr rfl 28 (.tmp 2) (.tmp 4) rfl 4 arrE hR5 rfl rfl (by omega) (fun _ _ => rfl) ?_; intro wb hrb hgb hsb))
  refine ret_cell_arr rfl arrE hrb rfl (by omega) rfl ⟨?_, hB5.grown hgb (HGS.out _ hB5) (by intro k hk; cases hk; exact l1)⟩
  rw [agg_putW]

theorem pick_even (σ : Nat) : (if decide (σ % 2 = 1) = true then oppP σ else σ) = evenOf p25 σ := by
  unfold evenOf
  by_cases h : σ % 2 = 1
  · rw [if_pos h, if_pos (decide_eq_true h), oppP_eq]
  · rw [if_neg h, if_neg (by rw [decide_eq_true_eq]; exact h)]

theorem pick_even_any (σ : Nat) (w : World) : Calls Try.prog 30 #[.bool (decide (σ % 2 = 1)), .agg (arrOf 4 (ewF (oppP σ))), .agg (arrOf 4 (ewF σ))] w fun e w' => e = .returned (.agg (arrOf 4 (ewF (evenOf p25 σ)))) ∧ Below w.heap.size w w' := by
  have h := pick_any (decide (σ % 2 = 1)) (oppP σ) σ w
  rwa [pick_even] at h

set_option maxHeartbeats 4000000 in
theorem root_any (A : Nat) (w : World) (hA : A < p25) : Calls Try.prog 31 #[.agg (arrOf 4 (ewF A))] w fun e w' =>
    e = .returned (.tuple #[.agg (arrOf 4 (ewF ((rootL p25 t25 A).getD 0))), .int .i64 (rootE (rootL p25 t25 A))]) ∧ Below w.heap.size w w' := by
  obtain ⟨w2, hw2, hrA, hrR, hbel, hsz⟩ := rowsW2 w (ewF A) 28 28
  have HGS0 : Hid (∀ wq : World, Below w.heap.size w wq → w.heap.size ≤ wq.heap.size) := Lib.hid fun wq h => h.size
  have hAp := hA
  have HO := Lib.hid fun w => often_r1 A w hA
  obtain ⟨ρ, hρ⟩ : ∃ ρ, ρ = A ^ (t25 + 1) % p25 := ⟨_, rfl⟩
  have hρp : ρ < p25 := by rw [hρ]; exact mod_p_lt _
  have hrC : rootC p25 t25 A = if mulP ρ ρ = A then ρ else ρ * (2 ^ (2 * t25 + 1) % p25) % p25 := by rw [hρ]; rfl
  have HRC := Lib.hid hrC
  rw [← hρ] at HO
  have l1 : w.heap.size ≤ w.heap.size + 1 := by omega
  clear hsz hA hρ hrC
  subst hw2
  go_enter Try.func31, Try.ntmps31
  go_wp2_with (first
    | (refine wpList_alloc_arr rfl 28 rfl (arrOf 4 (u64f fun _ => 0)) zeroE ?_; try simp only [World.size_alloc])
    | (refine wpList_load_arr rfl 28 (.tmp 1) rfl 4 arrE hrA rfl (by omega) ?_; simp only [Nat.zero_add])
    | (go_at_call 46; refine (HO.out _).mono ?_; rintro e w5 ⟨rfl, hb5⟩
       have hA5 := hrA.of_block (hb5.block _ hrA.lt)
       have hR5 := hrR.of_block (hb5.block _ hrR.lt)
       have hB5 := hbel.trans (hb5.mono (HGS0.out _ hbel))
       have hlA := hA5.lt
       have hlR := hR5.lt
       have hA6 := hA5.alloc (.cells (arrOf 4 (u64f fun _ => 0)) 28)
       have hR6 := hR5.alloc (.cells (arrOf 4 (u64f fun _ => 0)) 28)
       have hX6 := rowIs_arr w5 4 (u64f fun _ => 0) 28
       have hB6 := hB5.alloc (HGS0.out _ hB5) (.cells (arrOf 4 (u64f fun _ => 0)) 28)
       clear hrA hrR hbel hb5 hA5 hR5)
    | (refine wpList_store_arr rfl 28 (.tmp 4) (.tmp 6) rfl 4 arrE hX6 rfl rfl (by omega) (fun _ _ => rfl) ?_; intro w7 hr7 hg7 hs7
       have hX : w7.rowIs w5.heap.size 28 4 (ewF ρ) := hr7.congr fun i hi => by unfold putN; rw [if_pos (by omega), Nat.sub_zero]
       have hAr := gb_rowIs hA6 hg7 (Nat.ne_of_lt hlA)
       have hRr := gb_rowIs hR6 hg7 (Nat.ne_of_lt hlR)
       have hBel := hB6.grown hg7 (HGS0.out _ hB6) (by intro k hk; cases hk; exact HGS0.out _ hB5)
       clear hA6 hR6 hX6 hB6 hr7 hg7 hs7))
  generalize hg0 : w.heap.size = g0 at *
  generalize hg1 : g0 + 1 = g1 at *
  generalize w5.heap.size = y at *
  have HG := Lib.hid hg0
  have HGS : Hid (∀ wq : World, Below g0 w wq → g0 ≤ wq.heap.size) := Lib.hid fun wq h => by rw [← HG.out]; exact h.size
  have hyg0 : g0 ≠ y := Nat.ne_of_lt hlA
  have hyg1 : g1 ≠ y := Nat.ne_of_lt hlR
  have hlyg : g0 ≤ y := Nat.le_of_lt hlA
  clear hg0 hg1 HGS0 hB5 hlA hlR
  refine wp_region_lint (.rd 0 (.rd 1 (.rd 3 (.wr 2 (.wr 4 (.rd 5 .done)))))) (by kernel_rfl) (by kernel_rfl) (by decide) (by kernel_rfl) (fun d _ _ _ _ h => by cases d <;> exact h) ?_
  replace hX := World.rowIs.drew hX
  replace hAr := World.rowIs.drew hAr
  replace hRr := World.rowIs.drew hRr
  replace hBel := Below.drew hBel
  refine lint_pure 7 (Op.load 28 (.tmp 4)) _ (.agg (arrOf 4 fun i => ewF ρ (0 + i))) rfl rfl rfl rfl rfl (fun w0 hb0 => by exact exec_load_arr _ _ _ _ rfl arrE (hX.of_block (hb0.block _ hX.lt)) (by omega)) ?_
  simp only [Act.put, List.setIfInBounds_toArray, List.set_cons_zero, List.set_cons_succ, Nat.zero_add]
  refine lint_pure 8 (Op.load 28 (.tmp 4)) _ (.agg (arrOf 4 fun i => ewF ρ (0 + i))) rfl rfl rfl rfl rfl (fun w0 hb0 => by exact exec_load_arr _ _ _ _ rfl arrE (hX.of_block (hb0.block _ hX.lt)) (by omega)) ?_
  simp only [Act.put, List.setIfInBounds_toArray, List.set_cons_zero, List.set_cons_succ, Nat.zero_add]
  refine lint_pure 10 (Op.load 28 (.tmp 1)) _ (.agg (arrOf 4 fun i => ewF A (0 + i))) rfl rfl rfl rfl rfl (fun w0 hb0 => by exact exec_load_arr _ _ _ _ rfl arrE (hAr.of_block (hb0.block _ hAr.lt)) (by omega)) ?_
  simp only [Act.put, List.setIfInBounds_toArray, List.set_cons_zero, List.set_cons_succ, Nat.zero_add]
  refine stp_fn 9 24 #[Operand.tmp 7, Operand.tmp 8] #[28, 28] _ (mul_any ρ ρ _ hρp hρp) rfl rfl rfl rfl Try.func24 (by kernel_rfl) (by kernel_rfl) (by go_simp) ?_
  rintro e wm ⟨rfl, hbm⟩
  replace hX := World.rowIs.of_block hX (hbm.block _ (World.rowIs.lt hX))
  replace hAr := World.rowIs.of_block hAr (hbm.block _ (World.rowIs.lt hAr))
  replace hRr := World.rowIs.of_block hRr (hbm.block _ (World.rowIs.lt hRr))
  replace hBel := Below.trans hBel (hbm.mono (HGS.out _ hBel))
  refine ⟨_, rfl, hbm, ?_⟩
  clear hbm
  simp only [Act.put, List.setIfInBounds_toArray, List.set_cons_zero, List.set_cons_succ, Nat.zero_add]
  refine stp_fn 11 28 #[Operand.tmp 9, Operand.tmp 10] #[28, 28] _ (same_any (mulP ρ ρ) A _ (mod_p_lt _) hAp) rfl rfl rfl rfl Try.func28 (by kernel_rfl) (by kernel_rfl) (by go_simp) ?_
  rintro e wn ⟨rfl, hbm⟩
  replace hX := World.rowIs.of_block hX (hbm.block _ (World.rowIs.lt hX))
  replace hAr := World.rowIs.of_block hAr (hbm.block _ (World.rowIs.lt hAr))
  replace hRr := World.rowIs.of_block hRr (hbm.block _ (World.rowIs.lt hRr))
  replace hBel := Below.trans hBel (hbm.mono (HGS.out _ hBel))
  refine ⟨_, rfl, hbm, ?_⟩
  clear hbm
  simp only [Act.put, List.setIfInBounds_toArray, List.set_cons_zero, List.set_cons_succ, Nat.zero_add]
  refine lint_pure 12 (Op.unOp UnOp.not 4 (Operand.tmp 11)) _ (.bool (!decide (mulP ρ ρ = A))) rfl rfl rfl rfl rfl (fun w0 hb0 => by unfold mkOp; go_simp; all_goals (with_reducible rfl)) ?_
  simp only [Act.put, List.setIfInBounds_toArray, List.set_cons_zero, List.set_cons_succ, Nat.zero_add]
  refine lint_end ?_
  by_cases c1 : mulP ρ ρ = A
  focus
    rw [decide_eq_true c1]
    have hrC : rootC p25 t25 A = ρ := by rw [HRC.out, if_pos c1]
    obtain ⟨σ, hσ⟩ : ∃ σ, σ = ρ := ⟨_, rfl⟩
    rw [← hσ] at hX hρp hrC
    have hσp := hρp
    have HR := Lib.hid hrC
    clear hσ hρp hrC HRC c1
    go_wp2
  rotate_left
  focus
    rw [decide_eq_false c1]
    have hrC : rootC p25 t25 A = ρ * (2 ^ (2 * t25 + 1) % p25) % p25 := by rw [HRC.out, if_neg c1]
    clear HRC c1
    go_wp2
    replace hX := World.rowIs.drew hX
    replace hAr := World.rowIs.drew hAr
    replace hRr := World.rowIs.drew hRr
    replace hBel := Below.drew hBel
    refine wp_region_lins [(0, some [3, 4]), (1, none), (2, none), (3, none), (4, none)] (fun c w' => w'.rowIs y 28 4 (ewF ρ)) (by kernel_rfl) (by kernel_rfl) (by decide) (by kernel_rfl) (fun d _ _ _ _ h => by cases d <;> exact h) (fun c hc => hX) ?_
    refine lins_read 13 (Op.load 28 (Operand.tmp 4)) 28 (.agg (arrOf 4 fun i => ewF ρ (0 + i))) rfl rfl rfl rfl rfl (fun w0 hw0 => by exact exec_load_arr _ _ _ _ rfl arrE (hw0 3 (by simp)) (by omega)) ?_
    simp only [Act.put, List.setIfInBounds_toArray, List.set_cons_zero, List.set_cons_succ, Nat.zero_add]
    refine lins_fn (some 14) 18 #[Operand.const (Value.int IntKind.u64 2)] #[23] _ (small_any 2 _ (by decide)) rfl rfl rfl rfl Try.func18 (by kernel_rfl) (by kernel_rfl) (by go_simp) ?_
    rintro e wk0 ⟨rfl, hk0⟩
    replace hX := World.rowIs.of_block hX (hk0.block _ (World.rowIs.lt hX))
    replace hAr := World.rowIs.of_block hAr (hk0.block _ (World.rowIs.lt hAr))
    replace hRr := World.rowIs.of_block hRr (hk0.block _ (World.rowIs.lt hRr))
    replace hBel := Below.trans hBel (hk0.mono (HGS.out _ hBel))
    refine ⟨_, rfl, fun c w' => w'.rowIs y 28 4 (ewF ρ), fun c hc => ⟨hX, fun w6 h6 => h6⟩, ?_⟩
    simp only [Act.put, List.setIfInBounds_toArray, List.set_cons_zero, List.set_cons_succ, Nat.zero_add]
    refine lins_fn (some 15) 46 #[Operand.func 24, Operand.tmp 14, Operand.const (Value.int IntKind.i64 253), Operand.const (Value.int IntKind.u64 5)] #[51, 28, 3, 23] _ (often_r2 _) rfl rfl rfl rfl Try.func46 (by kernel_rfl) (by kernel_rfl) (by go_simp) ?_
    rintro e wk1 ⟨rfl, hk1⟩
    replace hX := World.rowIs.of_block hX (hk1.block _ (World.rowIs.lt hX))
    replace hAr := World.rowIs.of_block hAr (hk1.block _ (World.rowIs.lt hAr))
    replace hRr := World.rowIs.of_block hRr (hk1.block _ (World.rowIs.lt hRr))
    replace hBel := Below.trans hBel (hk1.mono (HGS.out _ hBel))
    refine ⟨_, rfl, fun c w' => w'.rowIs y 28 4 (ewF ρ), fun c hc => ⟨hX, fun w6 h6 => h6⟩, ?_⟩
    simp only [Act.put, List.setIfInBounds_toArray, List.set_cons_zero, List.set_cons_succ, Nat.zero_add]
    refine lins_fn (some 16) 24 #[Operand.tmp 13, Operand.tmp 15] #[28, 28] _ (mul_any ρ (2 ^ (2 * t25 + 1) % p25) _ hρp (mod_p_lt _)) rfl rfl rfl rfl Try.func24 (by kernel_rfl) (by kernel_rfl) (by go_simp) ?_
    rintro e wk2 ⟨rfl, hk2⟩
    replace hX := World.rowIs.of_block hX (hk2.block _ (World.rowIs.lt hX))
    replace hAr := World.rowIs.of_block hAr (hk2.block _ (World.rowIs.lt hAr))
    replace hRr := World.rowIs.of_block hRr (hk2.block _ (World.rowIs.lt hRr))
    replace hBel := Below.trans hBel (hk2.mono (HGS.out _ hBel))
    refine ⟨_, rfl, fun c w' => w'.rowIs y 28 4 (ewF ρ), fun c hc => ⟨hX, fun w6 h6 => h6⟩, ?_⟩
    simp only [Act.put, List.setIfInBounds_toArray, List.set_cons_zero, List.set_cons_succ, Nat.zero_add]
    refine lins_store_arr (k := 4) (off := 0) 28 (.tmp 4) (.tmp 16) rfl rfl rfl rfl hX rfl rfl arrE (by omega) (fun _ _ => rfl) ?_
    intro wk5 hr5 hg5 hs5
    refine ⟨fun _ _ => True, fun c hc => (by cases hc), ?_⟩
    refine lins_end ?_
    obtain ⟨σ, hσ⟩ : ∃ σ, σ = ρ * (2 ^ (2 * t25 + 1) % p25) % p25 := ⟨_, rfl⟩
    replace hX : wk5.rowIs y 28 4 (ewF σ) := hr5.congr fun i hi => by unfold putN; rw [if_pos (by omega), Nat.sub_zero, hσ]; rfl
    replace hAr := gb_rowIs hAr hg5 hyg0
    replace hRr := gb_rowIs hRr hg5 hyg1
    replace hBel := Below.grown hBel hg5 (HGS.out _ hBel) (by intro k hk; cases hk; exact hlyg)
    rw [← hσ] at hrC
    have hσp : σ < p25 := by rw [hσ]; exact mod_p_lt _
    have HR := Lib.hid hrC
    clear hr5 hg5 hs5 hσ hrC hk0 hk1 hk2
    go_wp2
  rotate_left
  all_goals
    refine wp_region_lint (.rd 0 (.rd 1 (.rd 3 (.wr 2 (.wr 4 (.rd 5 .done)))))) (by kernel_rfl) (by kernel_rfl) (by decide) (by kernel_rfl) (fun d _ _ _ _ h => by cases d <;> exact h) ?_
    replace hX := World.rowIs.drew hX
    replace hAr := World.rowIs.drew hAr
    replace hRr := World.rowIs.drew hRr
    replace hBel := Below.drew hBel
    refine lint_pure 17 (Op.load 28 (.tmp 4)) _ (.agg (arrOf 4 fun i => ewF σ (0 + i))) rfl rfl rfl rfl rfl (fun w0 hb0 => by exact exec_load_arr _ _ _ _ rfl arrE (hX.of_block (hb0.block _ hX.lt)) (by omega)) ?_
    simp only [Act.put, List.setIfInBounds_toArray, List.set_cons_zero, List.set_cons_succ, Nat.zero_add]
    refine lint_pure 18 (Op.load 28 (.tmp 4)) _ (.agg (arrOf 4 fun i => ewF σ (0 + i))) rfl rfl rfl rfl rfl (fun w0 hb0 => by exact exec_load_arr _ _ _ _ rfl arrE (hX.of_block (hb0.block _ hX.lt)) (by omega)) ?_
    simp only [Act.put, List.setIfInBounds_toArray, List.set_cons_zero, List.set_cons_succ, Nat.zero_add]
    refine lint_pure 20 (Op.load 28 (.tmp 1)) _ (.agg (arrOf 4 fun i => ewF A (0 + i))) rfl rfl rfl rfl rfl (fun w0 hb0 => by exact exec_load_arr _ _ _ _ rfl arrE (hAr.of_block (hb0.block _ hAr.lt)) (by omega)) ?_
    simp only [Act.put, List.setIfInBounds_toArray, List.set_cons_zero, List.set_cons_succ, Nat.zero_add]
    refine stp_fn 19 24 #[Operand.tmp 17, Operand.tmp 18] #[28, 28] _ (mul_any σ σ _ hσp hσp) rfl rfl rfl rfl Try.func24 (by kernel_rfl) (by kernel_rfl) (by go_simp) ?_
    rintro e wm ⟨rfl, hbm⟩
    replace hX := World.rowIs.of_block hX (hbm.block _ (World.rowIs.lt hX))
    replace hAr := World.rowIs.of_block hAr (hbm.block _ (World.rowIs.lt hAr))
    replace hRr := World.rowIs.of_block hRr (hbm.block _ (World.rowIs.lt hRr))
    replace hBel := Below.trans hBel (hbm.mono (HGS.out _ hBel))
    refine ⟨_, rfl, hbm, ?_⟩
    clear hbm
    simp only [Act.put, List.setIfInBounds_toArray, List.set_cons_zero, List.set_cons_succ, Nat.zero_add]
    refine stp_fn 21 28 #[Operand.tmp 19, Operand.tmp 20] #[28, 28] _ (same_any (mulP σ σ) A _ (mod_p_lt _) hAp) rfl rfl rfl rfl Try.func28 (by kernel_rfl) (by kernel_rfl) (by go_simp) ?_
    rintro e wn ⟨rfl, hbm⟩
    replace hX := World.rowIs.of_block hX (hbm.block _ (World.rowIs.lt hX))
    replace hAr := World.rowIs.of_block hAr (hbm.block _ (World.rowIs.lt hAr))
    replace hRr := World.rowIs.of_block hRr (hbm.block _ (World.rowIs.lt hRr))
    replace hBel := Below.trans hBel (hbm.mono (HGS.out _ hBel))
    refine ⟨_, rfl, hbm, ?_⟩
    clear hbm
    simp only [Act.put, List.setIfInBounds_toArray, List.set_cons_zero, List.set_cons_succ, Nat.zero_add]
    refine lint_pure 22 (Op.unOp UnOp.not 4 (Operand.tmp 21)) _ (.bool (!decide (mulP σ σ = A))) rfl rfl rfl rfl rfl (fun w0 hb0 => by unfold mkOp; go_simp; all_goals (with_reducible rfl)) ?_
    simp only [Act.put, List.setIfInBounds_toArray, List.set_cons_zero, List.set_cons_succ, Nat.zero_add]
    refine lint_end ?_
    by_cases c2 : mulP σ σ = A
    · rw [decide_eq_true c2]
      have hroot : rootL p25 t25 A = some (evenOf p25 σ) := by unfold rootL; rw [HR.out]; exact if_pos c2
      have HROOT := Lib.hid hroot
      clear hroot c2 HR
      go_wp2
      replace hX := World.rowIs.drew hX
      replace hRr := World.rowIs.drew hRr
      replace hBel := Below.drew hBel
      refine wp_region_lins [(0, some [1, 6]), (2, some [3, 6]), (4, some [5, 6]), (1, none), (3, none), (5, none), (6, none), (7, some [])] (fun c w' => w'.rowIs y 28 4 (ewF σ)) (by kernel_rfl) (by kernel_rfl) (by decide) (by kernel_rfl) (fun d _ _ _ _ h => by cases d <;> exact h) (fun c hc => hX) ?_
      refine lins_read 24 (Op.load 28 (Operand.tmp 4)) 28 (.agg (arrOf 4 fun i => ewF σ (0 + i))) rfl rfl rfl rfl rfl (fun w0 hw0 => by exact exec_load_arr _ _ _ _ rfl arrE (hw0 1 (by simp)) (by omega)) ?_
      simp only [Act.put, List.setIfInBounds_toArray, List.set_cons_zero, List.set_cons_succ, Nat.zero_add]
      refine lins_read 26 (Op.load 28 (Operand.tmp 4)) 28 (.agg (arrOf 4 fun i => ewF σ (0 + i))) rfl rfl rfl rfl rfl (fun w0 hw0 => by exact exec_load_arr _ _ _ _ rfl arrE (hw0 3 (by simp)) (by omega)) ?_
      simp only [Act.put, List.setIfInBounds_toArray, List.set_cons_zero, List.set_cons_succ, Nat.zero_add]
      refine lins_read 28 (Op.load 28 (Operand.tmp 4)) 28 (.agg (arrOf 4 fun i => ewF σ (0 + i))) rfl rfl rfl rfl rfl (fun w0 hw0 => by exact exec_load_arr _ _ _ _ rfl arrE (hw0 5 (by simp)) (by omega)) ?_
      simp only [Act.put, List.setIfInBounds_toArray, List.set_cons_zero, List.set_cons_succ, Nat.zero_add]
      refine lins_fn (some 25) 29 #[Operand.tmp 24] #[28] _ (odd_any σ _) rfl rfl rfl rfl Try.func29 (by kernel_rfl) (by kernel_rfl) (by go_simp) ?_
      rintro e wj0 ⟨rfl, hj0⟩
      replace hX := World.rowIs.of_block hX (hj0.block _ (World.rowIs.lt hX))
      replace hRr := World.rowIs.of_block hRr (hj0.block _ (World.rowIs.lt hRr))
      replace hBel := Below.trans hBel (hj0.mono (HGS.out _ hBel))
      refine ⟨_, rfl, fun c w' => w'.rowIs y 28 4 (ewF σ), fun c hc => ⟨hX, fun w6 h6 => h6⟩, ?_⟩
      simp only [Act.put, List.setIfInBounds_toArray, List.set_cons_zero, List.set_cons_succ, Nat.zero_add]
      refine lins_fn (some 27) 26 #[Operand.tmp 26] #[28] _ (neg_any σ _ hσp) rfl rfl rfl rfl Try.func26 (by kernel_rfl) (by kernel_rfl) (by go_simp) ?_
      rintro e wj1 ⟨rfl, hj1⟩
      replace hX := World.rowIs.of_block hX (hj1.block _ (World.rowIs.lt hX))
      replace hRr := World.rowIs.of_block hRr (hj1.block _ (World.rowIs.lt hRr))
      replace hBel := Below.trans hBel (hj1.mono (HGS.out _ hBel))
      refine ⟨_, rfl, fun c w' => w'.rowIs y 28 4 (ewF σ), fun c hc => ⟨hX, fun w6 h6 => h6⟩, ?_⟩
      simp only [Act.put, List.setIfInBounds_toArray, List.set_cons_zero, List.set_cons_succ, Nat.zero_add]
      refine lins_fn (some 29) 30 #[Operand.tmp 25, Operand.tmp 27, Operand.tmp 28] #[4, 28, 28] _ (pick_even_any σ _) rfl rfl rfl rfl Try.func30 (by kernel_rfl) (by kernel_rfl) (by go_simp) ?_
      rintro e wj2 ⟨rfl, hj2⟩
      replace hX := World.rowIs.of_block hX (hj2.block _ (World.rowIs.lt hX))
      replace hRr := World.rowIs.of_block hRr (hj2.block _ (World.rowIs.lt hRr))
      replace hBel := Below.trans hBel (hj2.mono (HGS.out _ hBel))
      refine ⟨_, rfl, fun c w' => w'.rowIs y 28 4 (ewF σ), fun c hc => ⟨hX, fun w6 h6 => h6⟩, ?_⟩
      simp only [Act.put, List.setIfInBounds_toArray, List.set_cons_zero, List.set_cons_succ, Nat.zero_add]
      refine lins_store_arr (k := 4) (off := 0) 28 (.tmp 2) (.tmp 29) rfl rfl rfl rfl hRr rfl rfl arrE (by omega) (fun _ _ => rfl) ?_
      intro wz hrz hgz hsz
      refine ⟨fun _ _ => True, fun c hc => (by cases hc), ?_⟩
      refine lins_read 3 (Op.assign (Operand.const (Value.int IntKind.i64 0))) 33 _ rfl rfl rfl rfl rfl (fun w0 hw0 => by unfold mkOp; go_simp; all_goals (with_reducible rfl)) ?_
      simp only [Act.put, List.setIfInBounds_toArray, List.set_cons_zero, List.set_cons_succ, Nat.zero_add]
      refine lins_end ?_
      go_wp2
      refine ret_cell_arr_tmp rfl arrE hrz rfl rfl (by omega) rfl ⟨?_, by rw [HG.out]; exact Below.grown hBel hgz (HGS.out _ hBel) (by intro k hk; cases hk; exact l1)⟩
      rw [agg_putW, HROOT.out]
      rfl
    · rw [decide_eq_false c2]
      have hroot : rootL p25 t25 A = none := by unfold rootL; rw [HR.out]; exact if_neg c2
      have HROOT := Lib.hid hroot
      clear hroot c2 HR
      go_wp2_with (first
        | refine wpList_build_arr rfl 28 _ rfl (arrOf 4 (ewF 0)) (by kernel_rfl) ?_
        | (refine wpList_store_arr rfl 28 (.tmp 2) (.tmp 23) rfl 4 arrE hRr rfl rfl (by omega) (fun _ _ => rfl) ?_; intro wz hrz hgz hsz))
      refine ret_cell_arr_tmp rfl arrE hrz rfl rfl (by omega) rfl ⟨?_, by rw [HG.out]; exact Below.grown hBel hgz (HGS.out _ hBel) (by intro k hk; cases hk; exact l1)⟩
      rw [agg_putW, HROOT.out]
      rfl
end Go.Proofs.Ythapdohblphlgaa
