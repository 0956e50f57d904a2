/- Texts joined: what they are for stands ahead of each. -/
import Derived.Test.YtphkmaihnbhgoaaMM2
set_option linter.unusedSimpArgs false
set_option linter.unusedVariables false

/- The program's numbers below p: Inv, Root. -/
set_option linter.unusedSimpArgs false
set_option linter.unusedVariables false
namespace Go.Proofs.Ytphkmaihnbhgoaa
open Go.RowKit Go.Deep

theorem often_inv (A : Nat) (w : World) (hA : A < p25) : Calls Try.prog 86 #[.func (.func 55) #[] #[], .agg (arrOf 4 (ewF A)), .int .i64 255, .int .u64 21] w fun e w' => e = .returned (.agg (arrOf 4 (ewF (invP A)))) ∧ Below w.heap.size w w' :=
  often_any A 254 21 (p25 - 2) 255 21 w rfl rfl hA (by decide) (by decide) (by decide) (by decide) (by decide +kernel) (by decide +kernel)
theorem often_r1 (A : Nat) (w : World) (hA : A < p25) : Calls Try.prog 86 #[.func (.func 55) #[] #[], .agg (arrOf 4 (ewF A)), .int .i64 252, .int .u64 2] w fun e w' => e = .returned (.agg (arrOf 4 (ewF (A ^ (t25 + 1) % p25)))) ∧ Below w.heap.size w w' :=
  often_any A 251 2 (t25 + 1) 252 2 w rfl rfl hA (by decide) (by decide) (by decide) (by decide) (by decide +kernel) (by decide +kernel)
theorem often_r2 (w : World) : Calls Try.prog 86 #[.func (.func 55) #[] #[], .agg (arrOf 4 (ewF 2)), .int .i64 253, .int .u64 5] w fun e w' => e = .returned (.agg (arrOf 4 (ewF (2 ^ (2 * t25 + 1) % p25)))) ∧ Below w.heap.size w w' :=
  often_any 2 252 5 (2 * t25 + 1) 253 5 w rfl rfl (by decide +kernel) (by decide) (by decide) (by decide) (by decide) (by decide +kernel) (by decide +kernel)

set_option maxHeartbeats 1000000 in
theorem inv_any (A : Nat) (w : World) (hA : A < p25) : Calls Try.prog 54 #[.agg (arrOf 4 (ewF A))] w fun e w' => e = .returned (.agg (arrOf 4 (ewF (invP A)))) ∧ Below w.heap.size w w' := by
  obtain ⟨w2, hw2, hrA, hrR, hbel, hsz⟩ := rowsW2 w (ewF A) 27 27
  have HGS : Hid (∀ wq : World, Below w.heap.size w wq → w.heap.size ≤ wq.heap.size) := Lib.hid fun wq h => h.size
  have l1 : w.heap.size ≤ w.heap.size + 1 := by omega
  have HO := Lib.hid fun w => often_inv A w hA
  generalize invP A = T at *
  clear hsz hA
  subst hw2
  go_enter Try.func54, Try.ntmps54
  go_wp2_with (first
    | refine wpList_alloc_arr rfl 27 rfl (arrOf 4 (u64f fun _ => 0)) zeroE ?_
    | (refine wpList_load_arr rfl 27 (.tmp 1) rfl 4 arrE hrA rfl (by omega) ?_; simp only [Nat.zero_add, World.size_alloc])
    | (go_at_call 86; refine (HO.out _).mono ?_; rintro e w5 ⟨rfl, hb5⟩
       have hR5 := hrR.of_block (hb5.block _ hrR.lt)
       have hB5 := hbel.trans (hb5.mono (HGS.out _ hbel))
       clear hrA hrR hbel hb5)
    | (refine wpList_store_arr rfl 27 (.tmp 2) (.tmp 4) rfl 4 arrE hR5 rfl rfl (by omega) (fun _ _ => rfl) ?_; intro wb hrb hgb hsb))
  refine ret_cell_arr rfl arrE hrb rfl (by omega) rfl ⟨?_, hB5.grown hgb (HGS.out _ hB5) (by intro k hk; cases hk; exact l1)⟩
  rw [agg_putW]

theorem pick_even (σ : Nat) : (if decide (σ % 2 = 1) = true then oppP σ else σ) = evenOf p25 σ := by
  unfold evenOf
  by_cases h : σ % 2 = 1
  · rw [if_pos h, if_pos (decide_eq_true h), oppP_eq]
  · rw [if_neg h, if_neg (by rw [decide_eq_true_eq]; exact h)]

theorem pick_even_any (σ : Nat) (w : World) : Calls Try.prog 39 #[.bool (decide (σ % 2 = 1)), .agg (arrOf 4 (ewF (oppP σ))), .agg (arrOf 4 (ewF σ))] w fun e w' => e = .returned (.agg (arrOf 4 (ewF (evenOf p25 σ)))) ∧ Below w.heap.size w w' := by
  have h := pick_any (decide (σ % 2 = 1)) (oppP σ) σ w
  rwa [pick_even] at h

set_option maxHeartbeats 4000000 in
theorem root_any (A : Nat) (w : World) (hA : A < p25) : Calls Try.prog 78 #[.agg (arrOf 4 (ewF A))] w fun e w' =>
    e = .returned (.tuple #[.agg (arrOf 4 (ewF ((rootL p25 t25 A).getD 0))), .int .i64 (rootE (rootL p25 t25 A))]) ∧ Below w.heap.size w w' := by
  obtain ⟨w2, hw2, hrA, hrR, hbel, hsz⟩ := rowsW2 w (ewF A) 27 27
  have HGS0 : Hid (∀ wq : World, Below w.heap.size w wq → w.heap.size ≤ wq.heap.size) := Lib.hid fun wq h => h.size
  have hAp := hA
  have HO := Lib.hid fun w => often_r1 A w hA
  obtain ⟨ρ, hρ⟩ : ∃ ρ, ρ = A ^ (t25 + 1) % p25 := ⟨_, rfl⟩
  have hρp : ρ < p25 := by rw [hρ]; exact mod_p_lt _
  have hrC : rootC p25 t25 A = if mulP ρ ρ = A then ρ else ρ * (2 ^ (2 * t25 + 1) % p25) % p25 := by rw [hρ]; rfl
  have HRC := Lib.hid hrC
  rw [← hρ] at HO
  have l1 : w.heap.size ≤ w.heap.size + 1 := by omega
  clear hsz hA hρ hrC
  subst hw2
  go_enter Try.func78, Try.ntmps78
  go_wp2_with (first
    | (refine wpList_alloc_arr rfl 27 rfl (arrOf 4 (u64f fun _ => 0)) zeroE ?_; try simp only [World.size_alloc])
    | (refine wpList_load_arr rfl 27 (.tmp 1) rfl 4 arrE hrA rfl (by omega) ?_; simp only [Nat.zero_add])
    | (go_at_call 86; refine (HO.out _).mono ?_; rintro e w5 ⟨rfl, hb5⟩
       have hA5 := hrA.of_block (hb5.block _ hrA.lt)
       have hR5 := hrR.of_block (hb5.block _ hrR.lt)
       have hB5 := hbel.trans (hb5.mono (HGS0.out _ hbel))
       have hlA := hA5.lt
       have hlR := hR5.lt
       have hA6 := hA5.alloc (.cells (arrOf 4 (u64f fun _ => 0)) 27)
       have hR6 := hR5.alloc (.cells (arrOf 4 (u64f fun _ => 0)) 27)
       have hX6 := rowIs_arr w5 4 (u64f fun _ => 0) 27
       have hB6 := hB5.alloc (HGS0.out _ hB5) (.cells (arrOf 4 (u64f fun _ => 0)) 27)
       clear hrA hrR hbel hb5 hA5 hR5)
    | (refine wpList_store_arr rfl 27 (.tmp 4) (.tmp 6) rfl 4 arrE hX6 rfl rfl (by omega) (fun _ _ => rfl) ?_; intro w7 hr7 hg7 hs7
       have hX : w7.rowIs w5.heap.size 27 4 (ewF ρ) := hr7.congr fun i hi => by unfold putN; rw [if_pos (by omega), Nat.sub_zero]
       have hAr := gb_rowIs hA6 hg7 (Nat.ne_of_lt hlA)
       have hRr := gb_rowIs hR6 hg7 (Nat.ne_of_lt hlR)
       have hBel := hB6.grown hg7 (HGS0.out _ hB6) (by intro k hk; cases hk; exact HGS0.out _ hB5)
       clear hA6 hR6 hX6 hB6 hr7 hg7 hs7))
  generalize hg0 : w.heap.size = g0 at *
  generalize hg1 : g0 + 1 = g1 at *
  generalize w5.heap.size = y at *
  have HG := Lib.hid hg0
  have HGS : Hid (∀ wq : World, Below g0 w wq → g0 ≤ wq.heap.size) := Lib.hid fun wq h => by rw [← HG.out]; exact h.size
  have hyg0 : g0 ≠ y := Nat.ne_of_lt hlA
  have hyg1 : g1 ≠ y := Nat.ne_of_lt hlR
  have hlyg : g0 ≤ y := Nat.le_of_lt hlA
  clear hg0 hg1 HGS0 hB5 hlA hlR
  refine wp_region_lint (.rd 0 (.rd 1 (.rd 3 (.wr 2 (.wr 4 (.rd 5 .done)))))) (by kernel_rfl) (by kernel_rfl) (by decide) (by kernel_rfl) (fun d _ _ _ _ h => by cases d <;> exact h) ?_
  replace hX := World.rowIs.drew hX
  replace hAr := World.rowIs.drew hAr
  replace hRr := World.rowIs.drew hRr
  replace hBel := Below.drew hBel
  refine lint_pure 7 (Op.load 27 (.tmp 4)) _ (.agg (arrOf 4 fun i => ewF ρ (0 + i))) rfl rfl rfl rfl rfl (fun w0 hb0 => by exact exec_load_arr _ _ _ _ rfl arrE (hX.of_block (hb0.block _ hX.lt)) (by omega)) ?_
  simp only [Act.put, List.setIfInBounds_toArray, List.set_cons_zero, List.set_cons_succ, Nat.zero_add]
  refine lint_pure 8 (Op.load 27 (.tmp 4)) _ (.agg (arrOf 4 fun i => ewF ρ (0 + i))) rfl rfl rfl rfl rfl (fun w0 hb0 => by exact exec_load_arr _ _ _ _ rfl arrE (hX.of_block (hb0.block _ hX.lt)) (by omega)) ?_
  simp only [Act.put, List.setIfInBounds_toArray, List.set_cons_zero, List.set_cons_succ, Nat.zero_add]
  refine lint_pure 10 (Op.load 27 (.tmp 1)) _ (.agg (arrOf 4 fun i => ewF A (0 + i))) rfl rfl rfl rfl rfl (fun w0 hb0 => by exact exec_load_arr _ _ _ _ rfl arrE (hAr.of_block (hb0.block _ hAr.lt)) (by omega)) ?_
  simp only [Act.put, List.setIfInBounds_toArray, List.set_cons_zero, List.set_cons_succ, Nat.zero_add]
  refine stp_fn 9 55 #[Operand.tmp 7, Operand.tmp 8] #[27, 27] _ (mul_any ρ ρ _ hρp hρp) rfl rfl rfl rfl Try.func55 (by kernel_rfl) (by kernel_rfl) (by go_simp) ?_
  rintro e wm ⟨rfl, hbm⟩
  replace hX := World.rowIs.of_block hX (hbm.block _ (World.rowIs.lt hX))
  replace hAr := World.rowIs.of_block hAr (hbm.block _ (World.rowIs.lt hAr))
  replace hRr := World.rowIs.of_block hRr (hbm.block _ (World.rowIs.lt hRr))
  replace hBel := Below.trans hBel (hbm.mono (HGS.out _ hBel))
  refine ⟨_, rfl, hbm, ?_⟩
  clear hbm
  simp only [Act.put, List.setIfInBounds_toArray, List.set_cons_zero, List.set_cons_succ, Nat.zero_add]
  refine stp_fn 11 38 #[Operand.tmp 9, Operand.tmp 10] #[27, 27] _ (same_any (mulP ρ ρ) A _ (mod_p_lt _) hAp) rfl rfl rfl rfl Try.func38 (by kernel_rfl) (by kernel_rfl) (by go_simp) ?_
  rintro e wn ⟨rfl, hbm⟩
  replace hX := World.rowIs.of_block hX (hbm.block _ (World.rowIs.lt hX))
  replace hAr := World.rowIs.of_block hAr (hbm.block _ (World.rowIs.lt hAr))
  replace hRr := World.rowIs.of_block hRr (hbm.block _ (World.rowIs.lt hRr))
  replace hBel := Below.trans hBel (hbm.mono (HGS.out _ hBel))
  refine ⟨_, rfl, hbm, ?_⟩
  clear hbm
  simp only [Act.put, List.setIfInBounds_toArray, List.set_cons_zero, List.set_cons_succ, Nat.zero_add]
  refine lint_pure 12 (Op.unOp UnOp.not 4 (Operand.tmp 11)) _ (.bool (!decide (mulP ρ ρ = A))) rfl rfl rfl rfl rfl (fun w0 hb0 => by unfold mkOp; go_simp; all_goals (with_reducible rfl)) ?_
  simp only [Act.put, List.setIfInBounds_toArray, List.set_cons_zero, List.set_cons_succ, Nat.zero_add]
  refine lint_end ?_
  by_cases c1 : mulP ρ ρ = A
  focus
    rw [decide_eq_true c1]
    have hrC : rootC p25 t25 A = ρ := by rw [HRC.out, if_pos c1]
    obtain ⟨σ, hσ⟩ : ∃ σ, σ = ρ := ⟨_, rfl⟩
    rw [← hσ] at hX hρp hrC
    have hσp := hρp
    have HR := Lib.hid hrC
    clear hσ hρp hrC HRC c1
    go_wp2
  rotate_left
  focus
    rw [decide_eq_false c1]
    have hrC : rootC p25 t25 A = ρ * (2 ^ (2 * t25 + 1) % p25) % p25 := by rw [HRC.out, if_neg c1]
    clear HRC c1
    go_wp2
    replace hX := World.rowIs.drew hX
    replace hAr := World.rowIs.drew hAr
    replace hRr := World.rowIs.drew hRr
    replace hBel := Below.drew hBel
    refine wp_region_lins [(0, some [3, 4]), (1, none), (2, none), (3, none), (4, none)] (fun c w' => w'.rowIs y 27 4 (ewF ρ)) (by kernel_rfl) (by kernel_rfl) (by decide) (by kernel_rfl) (fun d _ _ _ _ h => by cases d <;> exact h) (fun c hc => hX) ?_
    refine lins_read 13 (Op.load 27 (Operand.tmp 4)) 27 (.agg (arrOf 4 fun i => ewF ρ (0 + i))) rfl rfl rfl rfl rfl (fun w0 hw0 => by exact exec_load_arr _ _ _ _ rfl arrE (hw0 3 (by simp)) (by omega)) ?_
    simp only [Act.put, List.setIfInBounds_toArray, List.set_cons_zero, List.set_cons_succ, Nat.zero_add]
    refine lins_fn (some 14) 41 #[Operand.const (Value.int IntKind.u64 2)] #[24] _ (small_any 2 _ (by decide)) rfl rfl rfl rfl Try.func41 (by kernel_rfl) (by kernel_rfl) (by go_simp) ?_
    rintro e wk0 ⟨rfl, hk0⟩
    replace hX := World.rowIs.of_block hX (hk0.block _ (World.rowIs.lt hX))
    replace hAr := World.rowIs.of_block hAr (hk0.block _ (World.rowIs.lt hAr))
    replace hRr := World.rowIs.of_block hRr (hk0.block _ (World.rowIs.lt hRr))
    replace hBel := Below.trans hBel (hk0.mono (HGS.out _ hBel))
    refine ⟨_, rfl, fun c w' => w'.rowIs y 27 4 (ewF ρ), fun c hc => ⟨hX, fun w6 h6 => h6⟩, ?_⟩
    simp only [Act.put, List.setIfInBounds_toArray, List.set_cons_zero, List.set_cons_succ, Nat.zero_add]
    refine lins_fn (some 15) 86 #[Operand.func 55, Operand.tmp 14, Operand.const (Value.int IntKind.i64 253), Operand.const (Value.int IntKind.u64 5)] #[110, 27, 3, 24] _ (often_r2 _) rfl rfl rfl rfl Try.func86 (by kernel_rfl) (by kernel_rfl) (by go_simp) ?_
    rintro e wk1 ⟨rfl, hk1⟩
    replace hX := World.rowIs.of_block hX (hk1.block _ (World.rowIs.lt hX))
    replace hAr := World.rowIs.of_block hAr (hk1.block _ (World.rowIs.lt hAr))
    replace hRr := World.rowIs.of_block hRr (hk1.block _ (World.rowIs.lt hRr))
    replace hBel := Below.trans hBel (hk1.mono (HGS.out _ hBel))
    refine ⟨_, rfl, fun c w' => w'.rowIs y 27 4 (ewF ρ), fun c hc => ⟨hX, fun w6 h6 => h6⟩, ?_⟩
    simp only [Act.put, List.setIfInBounds_toArray, List.set_cons_zero, List.set_cons_succ, Nat.zero_add]
    refine lins_fn (some 16) 55 #[Operand.tmp 13, Operand.tmp 15] #[27, 27] _ (mul_any ρ (2 ^ (2 * t25 + 1) % p25) _ hρp (mod_p_lt _)) rfl rfl rfl rfl Try.func55 (by kernel_rfl) (by kernel_rfl) (by go_simp) ?_
    rintro e wk2 ⟨rfl, hk2⟩
    replace hX := World.rowIs.of_block hX (hk2.block _ (World.rowIs.lt hX))
    replace hAr := World.rowIs.of_block hAr (hk2.block _ (World.rowIs.lt hAr))
    replace hRr := World.rowIs.of_block hRr (hk2.block _ (World.rowIs.lt hRr))
    replace hBel := Below.trans hBel (hk2.mono (HGS.out _ hBel))
    refine ⟨_, rfl, fun c w' => w'.rowIs y 27 4 (ewF ρ), fun c hc => ⟨hX, fun w6 h6 => h6⟩, ?_⟩
    simp only [Act.put, List.setIfInBounds_toArray, List.set_cons_zero, List.set_cons_succ, Nat.zero_add]
    refine lins_store_arr (k := 4) (off := 0) 27 (.tmp 4) (.tmp 16) rfl rfl rfl rfl hX rfl rfl arrE (by omega) (fun _ _ => rfl) ?_
    intro wk5 hr5 hg5 hs5
    refine ⟨fun _ _ => True, fun c hc => (by cases hc), ?_⟩
    refine lins_end ?_
    obtain ⟨σ, hσ⟩ : ∃ σ, σ = ρ * (2 ^ (2 * t25 + 1) % p25) % p25 := ⟨_, rfl⟩
    replace hX : wk5.rowIs y 27 4 (ewF σ) := hr5.congr fun i hi => by unfold putN; rw [if_pos (by omega), Nat.sub_zero, hσ]; rfl
    replace hAr := gb_rowIs hAr hg5 hyg0
    replace hRr := gb_rowIs hRr hg5 hyg1
    replace hBel := Below.grown hBel hg5 (HGS.out _ hBel) (by intro k hk; cases hk; exact hlyg)
    rw [← hσ] at hrC
    have hσp : σ < p25 := by rw [hσ]; exact mod_p_lt _
    have HR := Lib.hid hrC
    clear hr5 hg5 hs5 hσ hrC hk0 hk1 hk2
    go_wp2
  rotate_left
  all_goals
    refine wp_region_lint (.rd 0 (.rd 1 (.rd 3 (.wr 2 (.wr 4 (.rd 5 .done)))))) (by kernel_rfl) (by kernel_rfl) (by decide) (by kernel_rfl) (fun d _ _ _ _ h => by cases d <;> exact h) ?_
    replace hX := World.rowIs.drew hX
    replace hAr := World.rowIs.drew hAr
    replace hRr := World.rowIs.drew hRr
    replace hBel := Below.drew hBel
    refine lint_pure 17 (Op.load 27 (.tmp 4)) _ (.agg (arrOf 4 fun i => ewF σ (0 + i))) rfl rfl rfl rfl rfl (fun w0 hb0 => by exact exec_load_arr _ _ _ _ rfl arrE (hX.of_block (hb0.block _ hX.lt)) (by omega)) ?_
    simp only [Act.put, List.setIfInBounds_toArray, List.set_cons_zero, List.set_cons_succ, Nat.zero_add]
    refine lint_pure 18 (Op.load 27 (.tmp 4)) _ (.agg (arrOf 4 fun i => ewF σ (0 + i))) rfl rfl rfl rfl rfl (fun w0 hb0 => by exact exec_load_arr _ _ _ _ rfl arrE (hX.of_block (hb0.block _ hX.lt)) (by omega)) ?_
    simp only [Act.put, List.setIfInBounds_toArray, List.set_cons_zero, List.set_cons_succ, Nat.zero_add]
    refine lint_pure 20 (Op.load 27 (.tmp 1)) _ (.agg (arrOf 4 fun i => ewF A (0 + i))) rfl rfl rfl rfl rfl (fun w0 hb0 => by exact exec_load_arr _ _ _ _ rfl arrE (hAr.of_block (hb0.block _ hAr.lt)) (by omega)) ?_
    simp only [Act.put, List.setIfInBounds_toArray, List.set_cons_zero, List.set_cons_succ, Nat.zero_add]
    refine stp_fn 19 55 #[Operand.tmp 17, Operand.tmp 18] #[27, 27] _ (mul_any σ σ _ hσp hσp) rfl rfl rfl rfl Try.func55 (by kernel_rfl) (by kernel_rfl) (by go_simp) ?_
    rintro e wm ⟨rfl, hbm⟩
    replace hX := World.rowIs.of_block hX (hbm.block _ (World.rowIs.lt hX))
    replace hAr := World.rowIs.of_block hAr (hbm.block _ (World.rowIs.lt hAr))
    replace hRr := World.rowIs.of_block hRr (hbm.block _ (World.rowIs.lt hRr))
    replace hBel := Below.trans hBel (hbm.mono (HGS.out _ hBel))
    refine ⟨_, rfl, hbm, ?_⟩
    clear hbm
    simp only [Act.put, List.setIfInBounds_toArray, List.set_cons_zero, List.set_cons_succ, Nat.zero_add]
    refine stp_fn 21 38 #[Operand.tmp 19, Operand.tmp 20] #[27, 27] _ (same_any (mulP σ σ) A _ (mod_p_lt _) hAp) rfl rfl rfl rfl Try.func38 (by kernel_rfl) (by kernel_rfl) (by go_simp) ?_
    rintro e wn ⟨rfl, hbm⟩
    replace hX := World.rowIs.of_block hX (hbm.block _ (World.rowIs.lt hX))
    replace hAr := World.rowIs.of_block hAr (hbm.block _ (World.rowIs.lt hAr))
    replace hRr := World.rowIs.of_block hRr (hbm.block _ (World.rowIs.lt hRr))
    replace hBel := Below.trans hBel (hbm.mono (HGS.out _ hBel))
    refine ⟨_, rfl, hbm, ?_⟩
    clear hbm
    simp only [Act.put, List.setIfInBounds_toArray, List.set_cons_zero, List.set_cons_succ, Nat.zero_add]
    refine lint_pure 22 (Op.unOp UnOp.not 4 (Operand.tmp 21)) _ (.bool (!decide (mulP σ σ = A))) rfl rfl rfl rfl rfl (fun w0 hb0 => by unfold mkOp; go_simp; all_goals (with_reducible rfl)) ?_
    simp only [Act.put, List.setIfInBounds_toArray, List.set_cons_zero, List.set_cons_succ, Nat.zero_add]
    refine lint_end ?_
    by_cases c2 : mulP σ σ = A
    · rw [decide_eq_true c2]
      have hroot : rootL p25 t25 A = some (evenOf p25 σ) := by unfold rootL; rw [HR.out]; exact if_pos c2
      have HROOT := Lib.hid hroot
      clear hroot c2 HR
      go_wp2
      replace hX := World.rowIs.drew hX
      replace hRr := World.rowIs.drew hRr
      replace hBel := Below.drew hBel
      refine wp_region_lins [(0, some [1, 6]), (2, some [3, 6]), (4, some [5, 6]), (1, none), (3, none), (5, none), (6, none), (7, some [])] (fun c w' => w'.rowIs y 27 4 (ewF σ)) (by kernel_rfl) (by kernel_rfl) (by decide) (by kernel_rfl) (fun d _ _ _ _ h => by cases d <;> exact h) (fun c hc => hX) ?_
      refine lins_read 24 (Op.load 27 (Operand.tmp 4)) 27 (.agg (arrOf 4 fun i => ewF σ (0 + i))) rfl rfl rfl rfl rfl (fun w0 hw0 => by exact exec_load_arr _ _ _ _ rfl arrE (hw0 1 (by simp)) (by omega)) ?_
      simp only [Act.put, List.setIfInBounds_toArray, List.set_cons_zero, List.set_cons_succ, Nat.zero_add]
      refine lins_read 26 (Op.load 27 (Operand.tmp 4)) 27 (.agg (arrOf 4 fun i => ewF σ (0 + i))) rfl rfl rfl rfl rfl (fun w0 hw0 => by exact exec_load_arr _ _ _ _ rfl arrE (hw0 3 (by simp)) (by omega)) ?_
      simp only [Act.put, List.setIfInBounds_toArray, List.set_cons_zero, List.set_cons_succ, Nat.zero_add]
      refine lins_read 28 (Op.load 27 (Operand.tmp 4)) 27 (.agg (arrOf 4 fun i => ewF σ (0 + i))) rfl rfl rfl rfl rfl (fun w0 hw0 => by exact exec_load_arr _ _ _ _ rfl arrE (hw0 5 (by simp)) (by omega)) ?_
      simp only [Act.put, List.setIfInBounds_toArray, List.set_cons_zero, List.set_cons_succ, Nat.zero_add]
      refine lins_fn (some 25) 57 #[Operand.tmp 24] #[27] _ (odd_any σ _) rfl rfl rfl rfl Try.func57 (by kernel_rfl) (by kernel_rfl) (by go_simp) ?_
      rintro e wj0 ⟨rfl, hj0⟩
      replace hX := World.rowIs.of_block hX (hj0.block _ (World.rowIs.lt hX))
      replace hRr := World.rowIs.of_block hRr (hj0.block _ (World.rowIs.lt hRr))
      replace hBel := Below.trans hBel (hj0.mono (HGS.out _ hBel))
      refine ⟨_, rfl, fun c w' => w'.rowIs y 27 4 (ewF σ), fun c hc => ⟨hX, fun w6 h6 => h6⟩, ?_⟩
      simp only [Act.put, List.setIfInBounds_toArray, List.set_cons_zero, List.set_cons_succ, Nat.zero_add]
      refine lins_fn (some 27) 40 #[Operand.tmp 26] #[27] _ (neg_any σ _ hσp) rfl rfl rfl rfl Try.func40 (by kernel_rfl) (by kernel_rfl) (by go_simp) ?_
      rintro e wj1 ⟨rfl, hj1⟩
      replace hX := World.rowIs.of_block hX (hj1.block _ (World.rowIs.lt hX))
      replace hRr := World.rowIs.of_block hRr (hj1.block _ (World.rowIs.lt hRr))
      replace hBel := Below.trans hBel (hj1.mono (HGS.out _ hBel))
      refine ⟨_, rfl, fun c w' => w'.rowIs y 27 4 (ewF σ), fun c hc => ⟨hX, fun w6 h6 => h6⟩, ?_⟩
      simp only [Act.put, List.setIfInBounds_toArray, List.set_cons_zero, List.set_cons_succ, Nat.zero_add]
      refine lins_fn (some 29) 39 #[Operand.tmp 25, Operand.tmp 27, Operand.tmp 28] #[4, 27, 27] _ (pick_even_any σ _) rfl rfl rfl rfl Try.func39 (by kernel_rfl) (by kernel_rfl) (by go_simp) ?_
      rintro e wj2 ⟨rfl, hj2⟩
      replace hX := World.rowIs.of_block hX (hj2.block _ (World.rowIs.lt hX))
      replace hRr := World.rowIs.of_block hRr (hj2.block _ (World.rowIs.lt hRr))
      replace hBel := Below.trans hBel (hj2.mono (HGS.out _ hBel))
      refine ⟨_, rfl, fun c w' => w'.rowIs y 27 4 (ewF σ), fun c hc => ⟨hX, fun w6 h6 => h6⟩, ?_⟩
      simp only [Act.put, List.setIfInBounds_toArray, List.set_cons_zero, List.set_cons_succ, Nat.zero_add]
      refine lins_store_arr (k := 4) (off := 0) 27 (.tmp 2) (.tmp 29) rfl rfl rfl rfl hRr rfl rfl arrE (by omega) (fun _ _ => rfl) ?_
      intro wz hrz hgz hsz
      refine ⟨fun _ _ => True, fun c hc => (by cases hc), ?_⟩
      refine lins_read 3 (Op.assign (Operand.const (Value.int IntKind.i64 0))) 30 _ rfl rfl rfl rfl rfl (fun w0 hw0 => by unfold mkOp; go_simp; all_goals (with_reducible rfl)) ?_
      simp only [Act.put, List.setIfInBounds_toArray, List.set_cons_zero, List.set_cons_succ, Nat.zero_add]
      refine lins_end ?_
      go_wp2
      refine ret_cell_arr_tmp rfl arrE hrz rfl rfl (by omega) rfl ⟨?_, by rw [HG.out]; exact Below.grown hBel hgz (HGS.out _ hBel) (by intro k hk; cases hk; exact l1)⟩
      rw [agg_putW, HROOT.out]
      rfl
    · rw [decide_eq_false c2]
      have hroot : rootL p25 t25 A = none := by unfold rootL; rw [HR.out]; exact if_neg c2
      have HROOT := Lib.hid hroot
      clear hroot c2 HR
      go_wp2_with (first
        | refine wpList_build_arr rfl 27 _ rfl (arrOf 4 (ewF 0)) (by kernel_rfl) ?_
        | (refine wpList_store_arr rfl 27 (.tmp 2) (.tmp 23) rfl 4 arrE hRr rfl rfl (by omega) (fun _ _ => rfl) ?_; intro wz hrz hgz hsz))
      refine ret_cell_arr_tmp rfl arrE hrz rfl rfl (by omega) rfl ⟨?_, by rw [HG.out]; exact Below.grown hBel hgz (HGS.out _ hBel) (by intro k hk; cases hk; exact l1)⟩
      rw [agg_putW, HROOT.out]
      rfl
end Go.Proofs.Ytphkmaihnbhgoaa

/- The program's numbers below p: Bytes. -/
set_option linter.unusedSimpArgs false
set_option linter.unusedVariables false
namespace Go.Proofs.Ytphkmaihnbhgoaa
open Go.RowKit Go.Deep

theorem litB_word (V j : Nat) : litB V (8 * (j + 1)) = litB V (8 * j) ++ litB (wd V j) 8 := by
  unfold litB
  rw [show 8 * (j + 1) = 8 * j + 8 by omega, List.range_add, List.map_append, List.map_map]
  congr 1
  refine List.map_congr_left fun i hi => ?_
  have hi8 : i < 8 := List.mem_range.1 hi
  show UInt8.ofNat (V / 2 ^ (8 * (8 * j + i))) = UInt8.ofNat (wd V j / 2 ^ (8 * i))
  have e1 : V / 2 ^ (8 * (8 * j + i)) = V / 18446744073709551616 ^ j / 2 ^ (8 * i) := by
    rw [show 8 * (8 * j + i) = 64 * j + 8 * i by omega, Nat.pow_add, Nat.pow_mul, ← Nat.div_div_eq_div_mul]
  rw [e1]
  apply UInt8.toNat_inj.1
  simp only [UInt8.toNat_ofNat']
  unfold wd
  generalize V / 18446744073709551616 ^ j = U
  have h8 : i = 0 ∨ i = 1 ∨ i = 2 ∨ i = 3 ∨ i = 4 ∨ i = 5 ∨ i = 6 ∨ i = 7 := by omega
  rcases h8 with rfl | rfl | rfl | rfl | rfl | rfl | rfl | rfl <;> omega
theorem run_make32 (w : World) : (Instr.makeSlice 22 (.int .i64 0) (.int .i64 32)).run Try.prog w = .ok (.slice (some ⟨w.heap.size, 0, none⟩) 0 32) (w.alloc (.cells (madeCells #[.int .u8 0] 32) 5)) := by kernel_rfl
theorem Owns.made (w : World) : Owns (w.alloc (.cells (madeCells #[.int .u8 0] 32) 5)) w.heap.size (.slice (some ⟨w.heap.size, 0, none⟩) 0 32) [] :=
  World.ownsRow_made w _ 32 (Nat.le_refl _) (by decide) (by simp [madeCells])
theorem Owns.past {w w' : World} {base : Nat} {v : Value} {l : List UInt8} (h : Owns w base v l) (hb : Below w.heap.size w w') : Owns w' base v l := by
  obtain ⟨h1, h2⟩ := h
  refine ⟨h1, ?_⟩
  rcases h2 with h2 | ⟨g, cap, cur, rfl, hbg, hg, h3⟩
  · exact .inl h2
  · exact .inr ⟨g, cap, cur, rfl, hbg, (hb.block g (Array.getElem?_eq_some_iff.1 hg).1).trans hg, h3⟩
set_option maxHeartbeats 1000000 in
theorem bytes_any (V : Nat) (w : World) : Calls Try.prog 56 #[.agg (arrOf 4 (ewF V))] w fun e w' => ∃ v, e = .returned v ∧ Owns w' w.heap.size v (litB V 32) ∧ Below w.heap.size w w' := by
  have hrA := (rowIs_arr w 4 (ewF V) 27).alloc (.cells (madeCells #[.int .u8 0] 32) 5)
  have hbel := ((Below.refl w.heap.size w).alloc (Nat.le_refl _) (.cells (arrOf 4 (ewF V)) 27)).alloc (by simp) (.cells (madeCells #[.int .u8 0] 32) 5)
  have hown := Owns.made (w.alloc (.cells (arrOf 4 (ewF V)) 27))
  have hsz : ((w.alloc (.cells (arrOf 4 (ewF V)) 27)).alloc (.cells (madeCells #[.int .u8 0] 32) 5)).heap.size = w.heap.size + 1 + 1 := by simp only [World.size_alloc]
  have hmk := run_make32
  rw [World.size_alloc] at hown
  go_enter Try.func56, Try.ntmps56
  go_wp2_with (refine wpList_load_arr rfl 25 (.tmp 7) rfl 4 arrW hrA rfl (by omega) ?_; simp only [Nat.zero_add])
  generalize ((w.alloc (.cells (arrOf 4 (ewF V)) 27)).alloc (.cells (madeCells #[.int .u8 0] 32) 5)) = w1 at *
  generalize hg0 : w.heap.size = g0 at *
  have HG := Lib.hid hg0
  clear hg0 hrA hmk
  go_loopw [3, 5, 9] (fun out _ ii wr => ∃ j : Nat, j ≤ 4 ∧ ii = .int .i64 j ∧ Owns wr (g0 + 1) out (litB V (8 * j)) ∧ Below g0 w wr ∧ g0 + 1 ≤ wr.heap.size) (fun _ _ ii _ => 4 - (intOf ii).toNat)
  case atStart => exact ⟨0, Nat.zero_le _, rfl, hown, hbel, by omega⟩
  case round =>
    clear hown hbel hsz
    obtain ⟨j, hj, rfl, hown, hbel, hge⟩ := hrel
    by_cases hlt : j < 4
    · have hjI : 0 ≤ (j : Int) ∧ (j : Int) < 4 := by omega
      obtain ⟨x, hx⟩ := nat_var (wd V j)
      have hxl := wd_lt V j
      rw [← hx] at hxl
      have HX := Lib.hid hx.symm
      have HXL := Lib.hid hxl
      have hll : (litB V (8 * j)).length = 8 * j := litB_length _ _
      have HW := Lib.hid (litB_word V j)
      clear hx hxl
      go_wp2_with (first
        | refine wpList_indexW rfl (.tmp 8) (.tmp 9) rfl (wd V) x HX.out rfl rfl hlt ?_
        | (go_at_call 70; refine (little64_any x _ HXL.out).mono ?_; rintro e w5 ⟨vb, rfl, hb5, hbl5⟩
           have hown5 := hown.past hbl5
           have hbel5 := hbel.trans (hbl5.mono (by rw [← HG.out]; exact hbel.size))
           have hge5 := Nat.le_trans hge hbl5.size
           clear hown hbel)
        | (refine wpList_app rfl (.tmp 12) (.tmp 14) rfl (g0 + 1) _ vb (litB V (8 * j)) (litB x 8) hown5 hb5 rfl rfl (by rw [hll, litB_length]; omega) hge5 ?_; intro v6 w6 hown6 hg6))
      have hbel6 : Below g0 w w6 := hbel5.grown hg6 (by rw [← HG.out]; exact hbel5.size) (fun k hk => Nat.le_of_succ_le (Owns.block hown5 k hk))
      have hge6 : g0 + 1 ≤ w6.heap.size := Nat.le_trans hge5 hg6.size
      have hown7 : Owns w6 (g0 + 1) v6 (litB V (8 * (j + 1))) := by rw [HW.out, HX.out]; exact hown6
      clear hown6 hown5 hbel5
      go_roundw
      case rel => exact ⟨j + 1, by omega, by go_num, hown7, hbel6, hge6⟩
      case measure => simp [intOf]; omega
    · obtain rfl : j = 4 := by omega
      go_wp2
      go_ret
      exact ⟨_, rfl, by rw [HG.out]; exact hown.lower (Nat.le_succ _), by rw [HG.out]; exact hbel⟩
end Go.Proofs.Ytphkmaihnbhgoaa

/- The program's numbers below p: Of. -/
set_option linter.unusedSimpArgs false
set_option linter.unusedVariables false
namespace Go.Proofs.Ytphkmaihnbhgoaa
open Go.RowKit Go.Deep

theorem pow256_W (q : Nat) : (256 : Nat) ^ (8 * q) = 18446744073709551616 ^ q := by rw [Nat.pow_mul]
theorem of_step (V x i j : Nat) (hV : V < 256 ^ i) (hx : x < 256) : wd (V + x * 256 ^ i) j = if j = i / 8 then 2 ^ (8 * (i % 8)) * x + wd V (i / 8) else wd V j := by
  obtain ⟨q, hq⟩ := nat_var (i / 8)
  obtain ⟨s, hs⟩ := nat_var (i % 8)
  have hi : i = 8 * q + s := by omega
  have hs8 : s < 8 := by omega
  rw [← hq, ← hs]
  clear hq hs
  subst hi
  rw [Nat.pow_add, pow256_W] at hV ⊢
  have hsp : (256 : Nat) ^ s * 256 ≤ 18446744073709551616 := by
    have h := Nat.pow_le_pow_right (show 0 < 256 by decide) (show s + 1 ≤ 8 by omega)
    rw [Nat.pow_succ] at h
    exact Nat.le_trans h (by decide)
  have hsh : (2 : Nat) ^ (8 * s) = 256 ^ s := by rw [Nat.pow_mul]
  rw [hsh]
  have hsz : 0 < (256 : Nat) ^ s := Nat.pow_pos (by decide)
  generalize (256 : Nat) ^ s = Z at *
  have hxZ : x * Z ≤ 255 * Z := Nat.mul_le_mul_right _ (by omega)
  unfold wd
  by_cases h1 : j = q
  · subst h1
    rw [if_pos rfl, show x * (18446744073709551616 ^ j * Z) = 18446744073709551616 ^ j * (x * Z) by ac_rfl, Nat.add_mul_div_left _ _ (powW_pos j)]
    have h2 : V / 18446744073709551616 ^ j < Z := Nat.div_lt_of_lt_mul hV
    generalize V / 18446744073709551616 ^ j = y at *
    rw [Nat.mul_comm Z x]
    omega
  · rw [if_neg h1]
    by_cases h2 : j < q
    · obtain ⟨d, rfl⟩ : ∃ d, q = j + 1 + d := ⟨q - (j + 1), by omega⟩
      have e : x * (18446744073709551616 ^ (j + 1 + d) * Z) = 18446744073709551616 ^ j * (18446744073709551616 * (18446744073709551616 ^ d * (x * Z))) := by
        rw [Nat.pow_add, Nat.pow_succ]; ac_rfl
      rw [e, Nat.add_mul_div_left _ _ (powW_pos j), Nat.add_mul_mod_self_left]
    · obtain ⟨d, rfl⟩ : ∃ d, j = q + 1 + d := ⟨j - (q + 1), by omega⟩
      have hup : V + x * (18446744073709551616 ^ q * Z) < 18446744073709551616 ^ (q + 1 + d) := by
        have h3 : x * (18446744073709551616 ^ q * Z) ≤ 255 * (18446744073709551616 ^ q * Z) := Nat.mul_le_mul_right _ (by omega)
        have h4 : 18446744073709551616 ^ q * (Z * 256) ≤ 18446744073709551616 ^ q * 18446744073709551616 := Nat.mul_le_mul_left _ hsp
        rw [← Nat.pow_succ, ← Nat.mul_assoc] at h4
        have h5 : (18446744073709551616 : Nat) ^ (q + 1) ≤ 18446744073709551616 ^ (q + 1 + d) := Nat.pow_le_pow_right (by decide) (by omega)
        omega
      rw [Nat.div_eq_of_lt hup, Nat.div_eq_of_lt (Nat.lt_of_le_of_lt (Nat.le_add_right _ _) hup)]
theorem of_low (V i : Nat) (hV : V < 256 ^ i) : wd V (i / 8) < 2 ^ (8 * (i % 8)) := by
  obtain ⟨q, hq⟩ := nat_var (i / 8)
  obtain ⟨s, hs⟩ := nat_var (i % 8)
  have hi : i = 8 * q + s := by omega
  rw [← hq, ← hs]
  clear hq hs
  subst hi
  rw [Nat.pow_add, pow256_W] at hV
  rw [Nat.pow_mul]
  exact Nat.lt_of_le_of_lt (Nat.mod_le _ _) (Nat.div_lt_of_lt_mul hV)
theorem numL_wanting (l : List UInt8) (k : Nat) (h : l.length ≤ k) : ∀ d, numL l (k + d) = numL l k
  | 0 => rfl
  | d + 1 => by
    show numL l (k + d) + (l.getD (k + d) 0).toNat * 256 ^ (k + d) = _
    rw [numL_wanting l k h d, List.getD_eq_getElem?_getD, List.getElem?_eq_none (by omega)]
    simp
theorem numL_min (l : List UInt8) : numL l (min l.length 32) = numL l 32 := by
  by_cases h : l.length ≤ 32
  · rw [Nat.min_eq_left h]
    have := numL_wanting l l.length (Nat.le_refl _) (32 - l.length)
    rw [show l.length + (32 - l.length) = 32 by omega] at this
    exact this.symm
  · rw [Nat.min_eq_right (by omega)]

set_option maxHeartbeats 4000000 in
theorem of_any (v : Value) (l : List UInt8) (w : World) (hv : Bs w v l) : Calls Try.prog 59 #[v] w fun e w' => e = .returned (.agg (arrOf 4 (ewF (ofL l)))) ∧ Below w.heap.size w w' := by
  obtain ⟨a, n, cap, rfl, hn, hc1, hc2, hB0⟩ := hv.shape
  have hR := (rowIs_arr w 4 (u64f fun _ => 0) 27).alloc (.cells (arrOf 4 (u64f fun _ => 0)) 25)
  have hL := rowIs_arr (w.alloc (.cells (arrOf 4 (u64f fun _ => 0)) 27)) 4 (u64f fun _ => 0) 25
  have hbel := ((Below.refl w.heap.size w).alloc (Nat.le_refl _) (.cells (arrOf 4 (u64f fun _ => 0)) 27)).alloc (by simp) (.cells (arrOf 4 (u64f fun _ => 0)) 25)
  rw [World.size_alloc] at hL
  have HB := Lib.hid hB0
  have HN := Lib.hid hn
  obtain ⟨k, hk⟩ := nat_var (min n 32)
  have hkn : k ≤ n := by omega
  have hk32 : k ≤ 32 := by omega
  have HK : Hid ((k : Int) = if (32 : Int) < (n : Int) then 32 else (n : Int)) := Lib.hid (by split <;> omega)
  have hkI : (k : Int) ≤ (cap : Int) := by omega
  have HKN : Hid (numL l k = numL l 32) := Lib.hid (by rw [hk, ← hn]; exact numL_min l)
  clear hv hB0 hn hk
  go_enter Try.func59, Try.ntmps59
  go_wp2_with (first
    | refine wpList_alloc_arr rfl 27 rfl (arrOf 4 (u64f fun _ => 0)) zeroE ?_
    | (refine wpList_alloc_arr rfl 25 rfl (arrOf 4 (u64f fun _ => 0)) zeroW ?_; simp only [World.size_alloc])
    | (refine wpList_lesser rfl (.tmp 8) (.const (.int .i64 32)) rfl (m := (k : Int)) rfl rfl HK.out ?_))
  generalize ((w.alloc (.cells (arrOf 4 (u64f fun _ => 0)) 27)).alloc (.cells (arrOf 4 (u64f fun _ => 0)) 25)) = w2 at *
  generalize hg0 : w.heap.size = g0 at *
  generalize hg1 : g0 + 1 = g1 at *
  have n01 : g0 ≠ g1 := by omega
  have l1 : g0 ≤ g1 := by omega
  have HG := Lib.hid hg0
  have HGS : Hid (∀ wq : World, Below g0 w wq → g0 ≤ wq.heap.size) := Lib.hid fun wq h => by rw [← HG.out]; exact h.size
  clear hg0 hg1
  go_loopw [4, 5, 12] (fun _ _ ii wr => ∃ i : Nat, i ≤ k ∧ ii = .int .i64 i ∧ wr.rowIs g1 25 4 (ewF (numL l i)) ∧ wr.rowIs g0 27 4 (u64f fun _ => 0) ∧ Below g0 w wr) (fun _ _ ii _ => k - (intOf ii).toNat)
  case atStart => exact ⟨0, Nat.zero_le _, rfl, hL.congr fun j _ => by unfold ewF u64f; rw [show numL l 0 = 0 from rfl, wd_small 0 j (by decide)]; split <;> rfl, hR, hbel⟩
  case round =>
    clear hL hR hbel
    obtain ⟨i, hi, rfl, hL, hR, hbel⟩ := hrel
    by_cases hlt : i < k
    · have hiI : 0 ≤ (i : Int) ∧ (i : Int) < (k : Int) := by omega
      obtain ⟨b, off, cap', he, _, _, hbl, hc⟩ := HB.out.open_n HN.out (by omega)
      cases he
      have hil : i < l.length := by rw [HN.out]; omega
      have hci := hc i hil
      rw [← getD_at l i hil] at hci
      have hbw : b < g0 := by rw [← HG.out]; exact hbl
      obtain ⟨x, hx⟩ := nat_var (l.getD i 0).toNat
      have hx1 : x < 256 := by rw [hx]; exact UInt8.toNat_lt _
      rw [← hx] at hci
      have hcx := (hbel.cell (p := ⟨b, off + i, none⟩) hbw).trans hci
      obtain ⟨q, hq⟩ := nat_var (i / 8)
      obtain ⟨s, hs⟩ := nat_var (i % 8)
      obtain ⟨s8, hs8⟩ := nat_var (8 * (i % 8))
      have hV := numL_lt l i
      have hnext : numL l (i + 1) = numL l i + x * 256 ^ i := by rw [hx]; rfl
      have hlow := of_low _ _ hV
      have hstep := fun j => of_step (numL l i) x i j hV hx1
      rw [← hs8, ← hq] at hlow
      have hul := wd_lt (numL l i) q
      have hvl := wd_lt (numL l (i + 1)) q
      have hvq := hstep q
      rw [← hnext, if_pos hq, ← hs8, ← hq] at hvq
      obtain ⟨u, hu⟩ := nat_var (wd (numL l i) q)
      obtain ⟨v, hv⟩ := nat_var (wd (numL l (i + 1)) q)
      have hset : (wr.drew.setCell ⟨g1, q, none⟩ (.int .u64 (v : Int))).rowIs g1 25 4 (ewF (numL l (i + 1))) := row_set_drew hL q v _ (fun j hj => by
        have h := hstep j
        rw [← hnext, ← hs8, ← hq, ← hvq, ← hv] at h
        exact h)
      have hcD : wr.drew.cell? ⟨g1, q, none⟩ = some (.int .u64 (u : Int)) := by
        have h := hL.drew.cell (i := q) (by omega)
        rw [hu]; exact h
      have hfr := hL.drew.frozen q
      rw [← hu, ← hv] at hvq
      rw [← hu] at hlow hul
      rw [← hv] at hvl
      obtain ⟨xs, hxs⟩ := nat_var (2 ^ s8 * x)
      have hor := or_add64' s8 x u hlow (by omega)
      rw [← hvq, ← hxs] at hor
      have hxl : xs < 18446744073709551616 := by omega
      have hshl : IntKind.u64.wrap ((x : Int) * 2 ^ s8) = (xs : Int) := by
        have e : (x : Int) * 2 ^ s8 = (xs : Int) := by rw [hxs, Int.natCast_mul, Int.natCast_pow, Int.mul_comm]; rfl
        rw [e, wrap_nat _ hxl]
      have hquo : IntKind.i64.wrap ((i : Int).tdiv 8) = (q : Int) := by rw [Int.tdiv_eq_ediv_of_nonneg (by omega), IntWalk.i64_in _ (by omega)]; omega
      have hquo2 : IntKind.i64.wrap ((i : Int) / 8) = (q : Int) := by rw [IntWalk.i64_in _ (by omega)]; omega
      have hrem : IntKind.i64.wrap ((i : Int).tmod 8) = (s : Int) := by rw [Int.tmod_eq_emod_of_nonneg (by omega), IntWalk.i64_in _ (by omega)]; omega
      have hrem2 : (i : Int).tmod 8 = (s : Int) := by rw [Int.tmod_eq_emod_of_nonneg (by omega)]; omega
      have hmul : IntKind.i64.wrap (8 * (s : Int)) = (s8 : Int) := by rw [IntWalk.i64_in _ (by omega)]; omega
      have hcv : IntKind.u64.wrap (x : Int) = (x : Int) := wrap_nat _ (by omega)
      have hqI : 0 ≤ (q : Int) ∧ (q : Int) < 4 := by omega
      have hq4 : (q : Int) < 4 := by omega
      have hs8I : 0 ≤ (s8 : Int) := by omega
      have hs8J : (s8 : Int) < 64 := by omega
      have HSET := Lib.hid hset
      clear hset hstep hnext hlow hul hvl hvq hu hv hxs hxl hx hV hci hc hq hs hs8
      go_wp2
      refine wp_region_lins [(0, some [12]), (1, some [12]), (2, some [12]), (3, some [12]), (4, some [12]), (5, some [12]), (6, some [12]), (7, some [12]), (8, some [12]), (9, some [12]), (10, some [12]), (11, some [12]), (12, none)] (fun c w' => w'.cell? ⟨g1, q, none⟩ = some (.int .u64 (u : Int))) (by kernel_rfl) (by kernel_rfl) (by decide) (by kernel_rfl) (fun d _ _ _ _ h => by cases d <;> exact h) (fun c hc => hcD) ?_
      refine lins_read 17 (Op.move (Operand.tmp 4)) 3 _ rfl rfl rfl rfl rfl (fun w0 hw0 => by unfold mkOp; go_simp; all_goals (with_reducible rfl)) ?_
      simp only [Act.put, List.setIfInBounds_toArray, List.set_cons_zero, List.set_cons_succ]
      refine lins_read 18 (Op.binOp BinOp.quo 3 (Operand.tmp 17) (Operand.const (Value.int IntKind.i64 8)) 3) 3 (.int .i64 (q : Int)) rfl rfl rfl rfl rfl (fun w0 hw0 => by unfold mkOp; go_simp; all_goals (with_reducible rfl)) ?_
      simp only [Act.put, List.setIfInBounds_toArray, List.set_cons_zero, List.set_cons_succ]
      refine lins_read 19 (Op.indexAddr 25 (Operand.tmp 3) (Operand.tmp 18)) 0 _ rfl rfl rfl rfl rfl (fun w0 hw0 => by unfold mkOp; go_simp; all_goals (with_reducible rfl)) ?_
      simp only [Act.put, List.setIfInBounds_toArray, List.set_cons_zero, List.set_cons_succ]
      refine lins_read 20 (Op.load 24 (Operand.tmp 19)) 24 (.int .u64 (u : Int)) rfl rfl rfl rfl rfl (fun w0 hw0 => by have hc0 := hw0 12 (by simp); unfold mkOp; go_simp; all_goals (with_reducible rfl)) ?_
      simp only [Act.put, List.setIfInBounds_toArray, List.set_cons_zero, List.set_cons_succ]
      refine lins_read 21 (Op.move (Operand.tmp 5)) 5 _ rfl rfl rfl rfl rfl (fun w0 hw0 => by unfold mkOp; go_simp; all_goals (with_reducible rfl)) ?_
      simp only [Act.put, List.setIfInBounds_toArray, List.set_cons_zero, List.set_cons_succ]
      refine lins_read 22 (Op.convert 5 24 (Operand.tmp 21)) 24 (.int .u64 (x : Int)) rfl rfl rfl rfl rfl (fun w0 hw0 => by unfold mkOp; go_simp; all_goals (with_reducible rfl)) ?_
      simp only [Act.put, List.setIfInBounds_toArray, List.set_cons_zero, List.set_cons_succ]
      refine lins_read 23 (Op.move (Operand.tmp 4)) 3 _ rfl rfl rfl rfl rfl (fun w0 hw0 => by unfold mkOp; go_simp; all_goals (with_reducible rfl)) ?_
      simp only [Act.put, List.setIfInBounds_toArray, List.set_cons_zero, List.set_cons_succ]
      refine lins_read 24 (Op.binOp BinOp.rem 3 (Operand.tmp 23) (Operand.const (Value.int IntKind.i64 8)) 3) 3 (.int .i64 (s : Int)) rfl rfl rfl rfl rfl (fun w0 hw0 => by unfold mkOp; go_simp; all_goals (with_reducible rfl)) ?_
      simp only [Act.put, List.setIfInBounds_toArray, List.set_cons_zero, List.set_cons_succ]
      refine lins_read 25 (Op.binOp BinOp.mul 3 (Operand.const (Value.int IntKind.i64 8)) (Operand.tmp 24) 3) 3 (.int .i64 (s8 : Int)) rfl rfl rfl rfl rfl (fun w0 hw0 => by unfold mkOp; go_simp; all_goals (with_reducible rfl)) ?_
      simp only [Act.put, List.setIfInBounds_toArray, List.set_cons_zero, List.set_cons_succ]
      refine lins_read 26 (Op.binOp BinOp.shl 24 (Operand.tmp 22) (Operand.tmp 25) 3) 24 (.int .u64 (xs : Int)) rfl rfl rfl rfl rfl (fun w0 hw0 => by unfold mkOp; go_simp; all_goals (with_reducible rfl)) ?_
      simp only [Act.put, List.setIfInBounds_toArray, List.set_cons_zero, List.set_cons_succ]
      refine lins_read 27 (Op.binOp BinOp.or 24 (Operand.tmp 20) (Operand.tmp 26) 24) 24 (.int .u64 (v : Int)) rfl rfl rfl rfl rfl (fun w0 hw0 => by unfold mkOp; go_simp; all_goals (with_reducible rfl)) ?_
      simp only [Act.put, List.setIfInBounds_toArray, List.set_cons_zero, List.set_cons_succ]
      refine lins_read 28 (Op.indexAddr 25 (Operand.tmp 3) (Operand.tmp 18)) 0 _ rfl rfl rfl rfl rfl (fun w0 hw0 => by unfold mkOp; go_simp; all_goals (with_reducible rfl)) ?_
      simp only [Act.put, List.setIfInBounds_toArray, List.set_cons_zero, List.set_cons_succ]
      refine lins_store (Op.store 24 (Operand.tmp 28) (Operand.tmp 27)) 0 (_) rfl rfl rfl rfl rfl (by unfold mkOp; go_simp; all_goals (with_reducible rfl)) (fun _ _ => True) (fun c hc => by cases hc) ?_
      try simp only [Act.put, List.setIfInBounds_toArray, List.set_cons_zero, List.set_cons_succ]
      refine lins_end ?_
      go_wp2
      go_roundw
      case rel => exact ⟨i + 1, by omega, by go_num, HSET.out, hR.drew.setOther n01 _, hbel.drew.setCell (show g0 ≤ (⟨g1, q, none⟩ : Addr).block from l1) _⟩
      case measure => simp [intOf]; omega
    · obtain rfl : i = k := by omega
      obtain ⟨Z, hZ⟩ := nat_var (numL l 32)
      have hV : Z < B4 := by rw [hZ]; have h := numL_lt l 32; exact Nat.lt_of_lt_of_le h (by decide +kernel)
      have hkz := HKN.out
      rw [← hZ] at hkz
      rw [hkz] at hL
      have HRES := Lib.hid (show Z % top % p25 = ofL l by rw [hZ]; rfl)
      clear hZ hkz HKN
      have hc3 : wr.cell? ⟨g1, 3, none⟩ = some (.int .u64 ((wd Z 3 : Nat) : Int)) := hL.cell (i := 3) (by omega)
      have hf3 := hL.frozen 3
      have hand := andnot_top (wd Z 3) (wd_lt _ _)
      have hrT := row_top hL
      have hbT := hbel.setCell (p := ⟨g1, 3, none⟩) l1 (.int .u64 ((wd Z 3 % 9223372036854775808 : Nat) : Int))
      have hRT := hR.setOther (show g0 ≠ (⟨g1, 3, none⟩ : Addr).block from n01) (.int .u64 ((wd Z 3 % 9223372036854775808 : Nat) : Int))
      have HR := Lib.hid fun w => reduced_any (Z % top) 0 w (Nat.lt_trans (Nat.mod_lt _ top_pos) top_B4) (by decide)
      generalize Z % top = T at *
      generalize wd Z 3 % 9223372036854775808 = z at *
      generalize wd Z 3 = y at *
      clear hL hR hbel hV
      go_wp2_with (first
        | (refine wpList_load_arr rfl 25 (.tmp 3) rfl 4 arrW hrT rfl (by omega) ?_; simp only [Nat.zero_add])
        | (go_at_call 80; refine (HR.out _).mono ?_; rintro e wa ⟨rfl, hba⟩
           have hRa := hRT.of_block (hba.block _ hRT.lt)
           have hBa := hbT.trans (hba.mono (HGS.out _ hbT))
           clear hRT hbT hba hrT HR)
        | (refine wpList_store_arr rfl 27 (.tmp 2) (.tmp 35) rfl 4 arrE hRa rfl rfl (by omega) (fun _ _ => rfl) ?_; intro wb hrb hgb hsb))
      refine ret_cell_arr rfl arrE hrb rfl (by omega) rfl ⟨?_, by rw [HG.out]; exact hBa.grown hgb (HGS.out _ hBa) (by intro k hk; cases hk; exact Nat.le_refl _)⟩
      rw [agg_putW, HRES.out]
end Go.Proofs.Ytphkmaihnbhgoaa

/- The program's numbers below p: Strict. -/
set_option linter.unusedSimpArgs false
set_option linter.unusedVariables false
namespace Go.Proofs.Ytphkmaihnbhgoaa
open Go.RowKit Go.Deep

theorem bytesSame_any (v1 v2 : Value) (l1 l2 : List UInt8) (w : World) (h1 : Bs w v1 l1) (h2 : Bs w v2 l2) :
    Calls Try.prog 92 #[v1, v2] w fun e w' => e = .returned (.bool (l1 == l2)) ∧ w' = w := by
  have c1 := h1.conv
  have c2 := h2.conv
  clear h1 h2
  go_enter Try.func92, Try.ntmps92
  go_wp2
  go_ret
  exact ⟨rfl, rfl⟩
theorem flatSame_any (v1 v2 : Value) (l1 l2 : List UInt8) (w : World) (h1 : Bs w v1 l1) (h2 : Bs w v2 l2) :
    Calls Try.prog 77 #[v1, v2] w fun e w' => e = .returned (.bool (decide (l1 = l2))) ∧ w' = w := by
  have hd : decide (l1 = l2) = (l1 == l2) := by
    by_cases h : l1 = l2
    · rw [decide_eq_true h, h]; simp
    · rw [decide_eq_false h, beq_eq_false_iff_ne.2 h]
  rw [hd]
  go_enter Try.func77, Try.ntmps77
  go_wp2_with fail
  refine (bytesSame_any v1 v2 l1 l2 _ h1 h2).mono ?_
  rintro e w' ⟨rfl, rfl⟩
  go_wp2
  go_ret
  exact ⟨rfl, rfl⟩
theorem strict_same (l : List UInt8) : strictL l = if litB (ofL l) 32 = l then some (ofL l) else none := by
  rw [strictL_eq]
  by_cases h : litB (ofL l) 32 = l
  · have hp : ofL l < p25 := mod_p_lt _
    have h1 : l.length = 32 := by rw [← h, litB_length]
    have h2 : numL l 32 = ofL l := by
      have h3 := numL_own (ofL l) hp
      rw [h] at h3
      exact h3
    rw [if_pos h, if_pos ⟨h1, by rw [h2]; exact hp⟩, h2]
  · rw [if_neg h, if_neg]
    rintro ⟨h1, h2⟩
    apply h
    rw [ofL_low l h2]
    exact litB_numL l 32 h1

set_option maxHeartbeats 2000000 in
theorem strict_any (v : Value) (l : List UInt8) (w : World) (hv : Bs w v l) : Calls Try.prog 36 #[v] w fun e w' =>
    e = .returned (.tuple #[.agg (arrOf 4 (ewF ((strictL l).getD 0))), .int .i64 (strictE (strictL l))]) ∧ Below w.heap.size w w' := by
  have hR0 := rowIs_arr w 4 (u64f fun _ => 0) 27
  have hb0 := (Below.refl w.heap.size w).alloc (Nat.le_refl _) (.cells (arrOf 4 (u64f fun _ => 0)) 27)
  have HV := Lib.hid (hv.below hb0 (Nat.le_refl _))
  have HV0 := Lib.hid hv
  have HGS : Hid (∀ wq : World, Below w.heap.size w wq → w.heap.size ≤ wq.heap.size) := Lib.hid fun wq h => h.size
  have hst := strict_same l
  obtain ⟨T, hT⟩ := nat_var (ofL l)
  rw [← hT] at hst
  have HOF := Lib.hid fun w (h : Bs w v l) => of_any v l w h
  rw [← hT] at HOF
  obtain ⟨bl, hbl⟩ : ∃ bl, bl = litB T 32 := ⟨_, rfl⟩
  have HBY := Lib.hid fun w => bytes_any T w
  rw [← hbl] at HBY hst
  have HST := Lib.hid hst
  clear hT hbl hst hv
  by_cases hs : bl = l
  · have hres := HST.out
    rw [if_pos hs] at hres
    have HRES := Lib.hid hres
    have HEQ := Lib.hid fun v1 v2 (w : World) (h1 : Bs w v1 bl) (h2 : Bs w v2 l) => flatSame_any v1 v2 bl l w h1 h2
    rw [decide_eq_true hs] at HEQ
    clear hres hs HST
    go_enter Try.func36, Try.ntmps36
    go_wp2_with (first
      | refine wpList_alloc_arr rfl 27 rfl (arrOf 4 (u64f fun _ => 0)) zeroE ?_
      | (go_at_call 59; refine (HOF.out _ HV.out).mono ?_; rintro e w5 ⟨rfl, hb5⟩
         have hR5 := hR0.of_block (hb5.block _ hR0.lt)
         have hB5 := hb0.trans (hb5.mono (HGS.out _ hb0))
         have hl5 := hR5.lt
         have hR6 := hR5.alloc (.cells (arrOf 4 (u64f fun _ => 0)) 27)
         have hX6 := rowIs_arr w5 4 (u64f fun _ => 0) 27
         have hB6 := hB5.alloc (HGS.out _ hB5) (.cells (arrOf 4 (u64f fun _ => 0)) 27)
         clear hR0 hb0 hb5 hR5 HOF)
      | (refine wpList_store_arr rfl 27 (.tmp 4) (.tmp 6) rfl 4 arrE hX6 rfl rfl (by omega) (fun _ _ => rfl) ?_; intro w7 hr7 hg7 hs7
         have hX7 : w7.rowIs w5.heap.size 27 4 (ewF T) := hr7.congr fun i hi => by unfold putN; rw [if_pos (by omega), Nat.sub_zero]
         have hR7 := gb_rowIs hR6 hg7 (Nat.ne_of_lt hl5)
         have hB7 := hB6.grown hg7 (HGS.out _ hB6) (by intro k hk; cases hk; exact HGS.out _ hB5)
         clear hR6 hX6 hB6 hr7 hg7 hs7 hB5)
      | (refine wpList_load_arr rfl 27 (.tmp 4) rfl 4 arrE hX7 rfl (by omega) ?_; simp only [Nat.zero_add])
      | (go_at_call 56; refine (HBY.out _).mono ?_; rintro e w8 ⟨vb, rfl, hown8, hb8⟩
         have hR8 := hR7.of_block (hb8.block _ hR7.lt)
         have hX8 := hX7.of_block (hb8.block _ hX7.lt)
         have hB8 := hB7.trans (hb8.mono (HGS.out _ hB7))
         have hv8 := HV0.out.below hB8 (Nat.le_refl _)
         have hbs8 := hown8.bs
         clear hR7 hX7 hB7 hb8 hown8 HBY)
      | (go_at_call 77; refine (HEQ.out _ _ _ hbs8 hv8).mono ?_; rintro e w9 ⟨rfl, rfl⟩)
      | (refine wpList_load_arr rfl 27 (.tmp 4) rfl 4 arrE hX8 rfl (by omega) ?_; simp only [Nat.zero_add])
      | (refine wpList_store_arr rfl 27 (.tmp 2) (.tmp 13) rfl 4 arrE hR8 rfl rfl (by omega) (fun _ _ => rfl) ?_; intro wz hrz hgz hsz))
    refine ret_cell_arr_tmp rfl arrE hrz rfl rfl (by omega) rfl ⟨?_, hB8.grown hgz (HGS.out _ hB8) (by intro k hk; cases hk; exact Nat.le_refl _)⟩
    rw [agg_putW, HRES.out]
    rfl
  · have hres := HST.out
    rw [if_neg hs] at hres
    have HRES := Lib.hid hres
    have HEQ := Lib.hid fun v1 v2 (w : World) (h1 : Bs w v1 bl) (h2 : Bs w v2 l) => flatSame_any v1 v2 bl l w h1 h2
    rw [decide_eq_false hs] at HEQ
    clear hres hs HST
    go_enter Try.func36, Try.ntmps36
    go_wp2_with (first
      | refine wpList_alloc_arr rfl 27 rfl (arrOf 4 (u64f fun _ => 0)) zeroE ?_
      | (go_at_call 59; refine (HOF.out _ HV.out).mono ?_; rintro e w5 ⟨rfl, hb5⟩
         have hR5 := hR0.of_block (hb5.block _ hR0.lt)
         have hB5 := hb0.trans (hb5.mono (HGS.out _ hb0))
         have hl5 := hR5.lt
         have hR6 := hR5.alloc (.cells (arrOf 4 (u64f fun _ => 0)) 27)
         have hX6 := rowIs_arr w5 4 (u64f fun _ => 0) 27
         have hB6 := hB5.alloc (HGS.out _ hB5) (.cells (arrOf 4 (u64f fun _ => 0)) 27)
         clear hR0 hb0 hb5 hR5 HOF)
      | (refine wpList_store_arr rfl 27 (.tmp 4) (.tmp 6) rfl 4 arrE hX6 rfl rfl (by omega) (fun _ _ => rfl) ?_; intro w7 hr7 hg7 hs7
         have hX7 : w7.rowIs w5.heap.size 27 4 (ewF T) := hr7.congr fun i hi => by unfold putN; rw [if_pos (by omega), Nat.sub_zero]
         have hR7 := gb_rowIs hR6 hg7 (Nat.ne_of_lt hl5)
         have hB7 := hB6.grown hg7 (HGS.out _ hB6) (by intro k hk; cases hk; exact HGS.out _ hB5)
         clear hR6 hX6 hB6 hr7 hg7 hs7 hB5)
      | (refine wpList_load_arr rfl 27 (.tmp 4) rfl 4 arrE hX7 rfl (by omega) ?_; simp only [Nat.zero_add])
      | (go_at_call 56; refine (HBY.out _).mono ?_; rintro e w8 ⟨vb, rfl, hown8, hb8⟩
         have hR8 := hR7.of_block (hb8.block _ hR7.lt)
         have hB8 := hB7.trans (hb8.mono (HGS.out _ hB7))
         have hv8 := HV0.out.below hB8 (Nat.le_refl _)
         have hbs8 := hown8.bs
         clear hR7 hX7 hB7 hb8 hown8 HBY)
      | (go_at_call 77; refine (HEQ.out _ _ _ hbs8 hv8).mono ?_; rintro e w9 ⟨rfl, rfl⟩)
      | refine wpList_build_arr rfl 27 _ rfl (arrOf 4 (ewF 0)) (by kernel_rfl) ?_
      | (refine wpList_store_arr rfl 27 (.tmp 2) (.tmp 12) rfl 4 arrE hR8 rfl rfl (by omega) (fun _ _ => rfl) ?_; intro wz hrz hgz hsz))
    refine ret_cell_arr_tmp rfl arrE hrz rfl rfl (by omega) rfl ⟨?_, hB8.grown hgz (HGS.out _ hB8) (by intro k hk; cases hk; exact Nat.le_refl _)⟩
    rw [agg_putW, HRES.out]
    rfl
end Go.Proofs.Ytphkmaihnbhgoaa

/- What the laws of chapter 5 ask: few, is, awake. -/
set_option linter.unusedSimpArgs false
set_option linter.unusedVariables false
namespace Go.Proofs.Ytphkmaihnbhgoaa
open Go.RowKit Go.Deep

theorem refInv5_any (A : Nat) (w : World) (hA : A < p25) : Calls Try.prog 49 #[.agg (arrOf 16 (feF A))] w fun e w' => e = .returned (.agg (arrOf 16 (feF (invP A)))) ∧ Below w.heap.size w w' := refInv_any A w hA
theorem refAdd5_any (A B : Nat) (w : World) (hA : A < p25) (hB : B < p25) : Calls Try.prog 48 #[.agg (arrOf 16 (feF A)), .agg (arrOf 16 (feF B))] w fun e w' => e = .returned (.agg (arrOf 16 (feF (addP A B)))) ∧ Below w.heap.size w w' := refAdd_any A B w hA hB
theorem refMul5_any (A B : Nat) (w : World) (hA : A < p25) (hB : B < p25) : Calls Try.prog 44 #[.agg (arrOf 16 (feF A)), .agg (arrOf 16 (feF B))] w fun e w' => e = .returned (.agg (arrOf 16 (feF (mulP A B)))) ∧ Below w.heap.size w w' := refMul_any A B w hA hB
theorem refNeg5_any (A : Nat) (w : World) (hA : A < p25) : Calls Try.prog 51 #[.agg (arrOf 16 (feF A))] w fun e w' => e = .returned (.agg (arrOf 16 (feF (oppP A)))) ∧ Below w.heap.size w w' := refNeg_any A w hA
section
variable {P : Program} {ops : Array Oper} {Q : Exit → Act → World → Prop}
end
theorem exec_str_yes {w : World} (ρ : Operand → Value) (x y : Operand) (t : TypeId) {l m : List UInt8} (h : l = m) (hx : ρ x = .string ⟨l.toArray⟩) (hy : ρ y = .string ⟨m.toArray⟩) :
    (execOp ρ (mkOp (.binOp .eql 9 x y 9) t)).run Try.prog w = .ok (.value (.bool true)) w := by
  subst h
  simp only [execOp, mkOp, hx, hy]
  all_goals go_simp
end Go.Proofs.Ytphkmaihnbhgoaa

/- The document's points: what they are in memory; curve, Zero, add, Add, NegPt, Same, Small. -/
set_option linter.unusedSimpArgs false
set_option linter.unusedVariables false
namespace Go.Proofs.Ytphkmaihnbhgoaa
open Go.RowKit Go.Deep

/-- The cells of the point told by x, y and z. -/
def ptF (x y z : Nat) : Nat → Value := fun i => if i < 16 then feF x i else if i < 32 then feF y (i - 16) else feF z (i - 32)
theorem ptF_x (x y z i : Nat) (h : i < 16) : ptF x y z (0 + i) = feF x i := by
  unfold ptF
  rw [Nat.zero_add, if_pos h]
theorem ptF_y (x y z i : Nat) (h : i < 16) : ptF x y z (16 + i) = feF y i := by
  unfold ptF
  rw [if_neg (by omega), if_pos (by omega), Nat.add_sub_cancel_left]
theorem ptF_z (x y z i : Nat) (h : i < 16) : ptF x y z (32 + i) = feF z i := by
  unfold ptF
  rw [if_neg (by omega), if_neg (by omega), Nat.add_sub_cancel_left]
theorem ptF_one (x y z j : Nat) : (ptF x y z j).oneCell' = true := by
  unfold ptF
  split
  · rfl
  · split <;> rfl
theorem arrP : IsArr Try.prog 36 48 := ⟨by kernel_rfl, by kernel_rfl⟩
theorem zeroPt : (Try.prog.info? 36).map (fun i => i.zero) = some (some (.agg (arrOf 48 (u64f fun _ => 0)))) := by kernel_rfl
theorem builtP (x y z : Nat) : Try.prog.built 36 [(0, .agg (arrOf 16 (feF x))), (1, .agg (arrOf 16 (feF y))), (2, .agg (arrOf 16 (feF z)))] = some (arrOf 48 (ptF x y z)) := by kernel_rfl
theorem builtP2 (y z : Nat) : Try.prog.built 36 [(1, .agg (arrOf 16 (feF y))), (2, .agg (arrOf 16 (feF z)))] = some (arrOf 48 (ptF 0 y z)) := by kernel_rfl
theorem exec_Fe_eq2 {w : World} (ρ : Operand → Value) (x y : Operand) (t : TypeId) {A C : Nat} {o : Bool} (hA : A < p25) (hC : C < p25) (ho : decide (A = C) = o) (hx : ρ x = .agg (arrOf 16 (feF A))) (hy : ρ y = .agg (arrOf 16 (feF C))) :
    (execOp ρ (mkOp (.binOp .eql 34 x y 34) t)).run Try.prog w = .ok (.value (.bool o)) w := by
  have hq := run_eqGuard_agg (P := Try.prog) w .eql 34 x y (arrOf 16 (feF A)) (arrOf 16 (feF C)) (by kernel_rfl)
  have hr := run_eql_arr2 (P := Try.prog) w 34 24 16 .u64 (fun i => (dig A i : Int)) (fun i => (dig C i : Int)) (by kernel_rfl) (by kernel_rfl) (by kernel_rfl)
  rw [← ho]
  have hr' : (binOp .eql 34 (.agg (arrOf 16 (feF A))) (.agg (arrOf 16 (feF C)))).run Try.prog w = .ok (.bool (decide (A = C))) w := by
    rw [← decide_eq_decide.2 (dig_inj hA hC)]; exact hr
  simp [execOp, mkOp, hx, hy, hq, hr', Result.andThen]
def pSame (a b : Nat × Nat × Nat) : Bool := decide (mulP a.1 b.2.2 = mulP b.1 a.2.2) && decide (mulP a.2.1 b.2.2 = mulP b.2.1 a.2.2)
def pEight (a : Nat × Nat × Nat) : Nat × Nat × Nat := let b := padd dP a a; let c := padd dP b b; padd dP c c
def pSmall (a : Nat × Nat × Nat) : Bool := pSame (pEight a) (0, 1, 1)

set_option maxHeartbeats 4000000 in
set_option maxRecDepth 10000 in
theorem curve_any (w : World) : Calls Try.prog 47 #[] w fun e w' => e = .returned (.agg (arrOf 16 (feF dP))) ∧ Below w.heap.size w w' := by
  have Bw0 := Below.refl w.heap.size w
  have HGS : Hid (∀ wq : World, Below w.heap.size w wq → w.heap.size ≤ wq.heap.size) := Lib.hid fun wq h => h.size
  go_enter Try.func47, Try.ntmps47
  go_wp2_with (first
    | (have hgo := Bw0; clear hgo
       refine wpList_alloc_row rfl 34 rfl 16 (u64f fun _ => 0) zeroFe ?_
       intro b_t0 w1 lk r_t0 kk
       have l_t0 := Nat.le_trans (HGS.out _ Bw0) lk
       have Bw1 := Bw0.trans (kk.mono (HGS.out _ Bw0))
       clear Bw0 kk lk)
    | (have hgo := Bw1; clear hgo
       go_at_call 46
       refine (refSmall_any 121665 _ (by decide)).mono ?_
       rintro e w2 ⟨rfl, kk⟩
       replace r_t0 := World.rowIs.of_block r_t0 (kk.block _ (World.rowIs.lt r_t0))
       have Bw2 := Bw1.trans (kk.mono (HGS.out _ Bw1))
       clear Bw1 kk)
    | (have hgo := Bw2; clear hgo
       go_at_call 51
       refine (refNeg5_any 121665 _ (by decide +kernel)).mono ?_
       rintro e w3 ⟨rfl, kk⟩
       replace r_t0 := World.rowIs.of_block r_t0 (kk.block _ (World.rowIs.lt r_t0))
       have Bw3 := Bw2.trans (kk.mono (HGS.out _ Bw2))
       clear Bw2 kk)
    | (have hgo := Bw3; clear hgo
       go_at_call 46
       refine (refSmall_any 121666 _ (by decide)).mono ?_
       rintro e w4 ⟨rfl, kk⟩
       replace r_t0 := World.rowIs.of_block r_t0 (kk.block _ (World.rowIs.lt r_t0))
       have Bw4 := Bw3.trans (kk.mono (HGS.out _ Bw3))
       clear Bw3 kk)
    | (have hgo := Bw4; clear hgo
       go_at_call 49
       refine (refInv5_any 121666 _ (by decide +kernel)).mono ?_
       rintro e w5 ⟨rfl, kk⟩
       replace r_t0 := World.rowIs.of_block r_t0 (kk.block _ (World.rowIs.lt r_t0))
       have Bw5 := Bw4.trans (kk.mono (HGS.out _ Bw4))
       clear Bw4 kk)
    | (have hgo := Bw5; clear hgo
       go_at_call 44
       refine (refMul5_any (oppP 121665) (invP 121666) _ (oppP_lt _) (invP_lt _)).mono ?_
       rintro e w6 ⟨rfl, kk⟩
       replace r_t0 := World.rowIs.of_block r_t0 (kk.block _ (World.rowIs.lt r_t0))
       have Bw6 := Bw5.trans (kk.mono (HGS.out _ Bw5))
       clear Bw5 kk)
    | (have hgo := Bw6; clear hgo
       refine wpList_store_as rfl 34 (.tmp 0) (.tmp 5) rfl 16 (feF (mulP (oppP 121665) (invP 121666))) arrFe r_t0 rfl rfl (by omega) (fun _ _ => rfl) (fun i hi => putN_whole hi) ?_
       intro w7 q gk
       replace r_t0 := q
       have Bw7 := Bw6.grown gk (HGS.out _ Bw6) (by intro k hk; cases hk; exact l_t0)
       clear Bw6 gk q))
  exact ret_cell_as _ rfl arrFe r_t0 rfl (by omega) (fun _ _ => rfl) rfl ⟨rfl, Bw7⟩
set_option maxHeartbeats 4000000 in
set_option maxRecDepth 10000 in
theorem refZero_any (w : World) : Calls Try.prog 42 #[] w fun e w' => e = .returned (.agg (arrOf 48 (ptF 0 1 1))) ∧ Below w.heap.size w w' := by
  have Bw0 := Below.refl w.heap.size w
  have HGS : Hid (∀ wq : World, Below w.heap.size w wq → w.heap.size ≤ wq.heap.size) := Lib.hid fun wq h => h.size
  go_enter Try.func42, Try.ntmps42
  go_wp2_with (first
    | (have hgo := Bw0; clear hgo
       refine wpList_alloc_row rfl 36 rfl 48 (u64f fun _ => 0) zeroPt ?_
       intro b_t0 w1 lk r_t0 kk
       have l_t0 := Nat.le_trans (HGS.out _ Bw0) lk
       have Bw1 := Bw0.trans (kk.mono (HGS.out _ Bw0))
       clear Bw0 kk lk)
    | (have hgo := Bw1; clear hgo
       go_at_call 46
       refine (refSmall_any 1 _ (by decide)).mono ?_
       rintro e w2 ⟨rfl, kk⟩
       replace r_t0 := World.rowIs.of_block r_t0 (kk.block _ (World.rowIs.lt r_t0))
       have Bw2 := Bw1.trans (kk.mono (HGS.out _ Bw1))
       clear Bw1 kk)
    | (have hgo := Bw2; clear hgo
       go_at_call 46
       refine (refSmall_any 1 _ (by decide)).mono ?_
       rintro e w3 ⟨rfl, kk⟩
       replace r_t0 := World.rowIs.of_block r_t0 (kk.block _ (World.rowIs.lt r_t0))
       have Bw3 := Bw2.trans (kk.mono (HGS.out _ Bw2))
       clear Bw2 kk)
    | (have hgo := Bw3; clear hgo
       refine wpList_build_arr rfl 36 #[(1, Operand.tmp 1), (2, Operand.tmp 2)] rfl (arrOf 48 (ptF 0 1 1)) (by simp only [List.map_toArray, List.map_cons, List.map_nil]; exact builtP2 1 1) ?_
       have Bw4 := Bw3
       clear Bw3)
    | (have hgo := Bw4; clear hgo
       refine wpList_store_as rfl 36 (.tmp 0) (.tmp 3) rfl 48 (ptF 0 1 1) arrP r_t0 rfl rfl (by omega) (fun j _ => ptF_one _ _ _ j) (fun i hi => putN_whole hi) ?_
       intro w5 q gk
       replace r_t0 := q
       have Bw5 := Bw4.grown gk (HGS.out _ Bw4) (by intro k hk; cases hk; exact l_t0)
       clear Bw4 gk q))
  exact ret_cell_as _ rfl arrP r_t0 rfl (by omega) (fun _ _ => rfl) rfl ⟨rfl, Bw5⟩
set_option maxHeartbeats 4000000 in
set_option maxRecDepth 10000 in
theorem refPadd_any (X Y Z V Q T D : Nat) (w : World) (HX : X < p25) (HY : Y < p25) (HZ : Z < p25) (HV : V < p25) (HQ : Q < p25) (HT : T < p25) (HD : D < p25) : Calls Try.prog 58 #[.agg (arrOf 48 (ptF X Y Z)), .agg (arrOf 48 (ptF V Q T)), .agg (arrOf 16 (feF D))] w fun e w' => e = .returned (.agg (arrOf 48 (ptF (padd D (X, Y, Z) (V, Q, T)).1 (padd D (X, Y, Z) (V, Q, T)).2.1 (padd D (X, Y, Z) (V, Q, T)).2.2))) ∧ Below w.heap.size w w' := by
  have Bw0 := Below.refl w.heap.size w
  have HGS : Hid (∀ wq : World, Below w.heap.size w wq → w.heap.size ≤ wq.heap.size) := Lib.hid fun wq h => h.size
  replace HX := Lib.hid HX
  replace HY := Lib.hid HY
  replace HZ := Lib.hid HZ
  replace HV := Lib.hid HV
  replace HQ := Lib.hid HQ
  replace HT := Lib.hid HT
  replace HD := Lib.hid HD
  go_enter Try.func58, Try.ntmps58
  go_wp2_with (first
    | (have hgo := Bw0; clear hgo
       refine wpList_box_row rfl 36 (.tmp 0) rfl 48 (ptF X Y Z) rfl ?_
       intro b_t3 w1 lk r_t3 kk
       have l_t3 := Nat.le_trans (HGS.out _ Bw0) lk
       have Bw1 := Bw0.trans (kk.mono (HGS.out _ Bw0))
       clear Bw0 kk lk)
    | (have hgo := Bw1; clear hgo
       refine wpList_box_row rfl 36 (.tmp 1) rfl 48 (ptF V Q T) rfl ?_
       intro b_t4 w2 lk r_t4 kk
       have n_t3_t4 : b_t3 ≠ b_t4 := Nat.ne_of_lt (Nat.lt_of_lt_of_le (World.rowIs.lt r_t3) lk)
       have l_t4 := Nat.le_trans (HGS.out _ Bw1) lk
       replace r_t3 := World.rowIs.of_block r_t3 (kk.block _ (World.rowIs.lt r_t3))
       have Bw2 := Bw1.trans (kk.mono (HGS.out _ Bw1))
       clear Bw1 kk lk)
    | (have hgo := Bw2; clear hgo
       refine wpList_box_row rfl 34 (.tmp 2) rfl 16 (feF D) rfl ?_
       intro b_t5 w3 lk r_t5 kk
       have n_t3_t5 : b_t3 ≠ b_t5 := Nat.ne_of_lt (Nat.lt_of_lt_of_le (World.rowIs.lt r_t3) lk)
       have n_t4_t5 : b_t4 ≠ b_t5 := Nat.ne_of_lt (Nat.lt_of_lt_of_le (World.rowIs.lt r_t4) lk)
       have l_t5 := Nat.le_trans (HGS.out _ Bw2) lk
       replace r_t3 := World.rowIs.of_block r_t3 (kk.block _ (World.rowIs.lt r_t3))
       replace r_t4 := World.rowIs.of_block r_t4 (kk.block _ (World.rowIs.lt r_t4))
       have Bw3 := Bw2.trans (kk.mono (HGS.out _ Bw2))
       clear Bw2 kk lk)
    | (have hgo := Bw3; clear hgo
       refine wpList_alloc_row rfl 36 rfl 48 (u64f fun _ => 0) zeroPt ?_
       intro b_t6 w4 lk r_t6 kk
       have n_t3_t6 : b_t3 ≠ b_t6 := Nat.ne_of_lt (Nat.lt_of_lt_of_le (World.rowIs.lt r_t3) lk)
       have n_t4_t6 : b_t4 ≠ b_t6 := Nat.ne_of_lt (Nat.lt_of_lt_of_le (World.rowIs.lt r_t4) lk)
       have n_t5_t6 : b_t5 ≠ b_t6 := Nat.ne_of_lt (Nat.lt_of_lt_of_le (World.rowIs.lt r_t5) lk)
       have l_t6 := Nat.le_trans (HGS.out _ Bw3) lk
       replace r_t3 := World.rowIs.of_block r_t3 (kk.block _ (World.rowIs.lt r_t3))
       replace r_t4 := World.rowIs.of_block r_t4 (kk.block _ (World.rowIs.lt r_t4))
       replace r_t5 := World.rowIs.of_block r_t5 (kk.block _ (World.rowIs.lt r_t5))
       have Bw4 := Bw3.trans (kk.mono (HGS.out _ Bw3))
       clear Bw3 kk lk)
    | (have hgo := Bw4; clear hgo
       refine wpList_load_as rfl 34 (.tmp 15) rfl 16 (feF Z) arrFe r_t3 rfl (by omega) (fun i hi => ptF_z _ _ _ i hi) ?_
       have Bw5 := Bw4
       clear Bw4)
    | (have hgo := Bw5; clear hgo
       refine wpList_load_as rfl 34 (.tmp 17) rfl 16 (feF T) arrFe r_t4 rfl (by omega) (fun i hi => ptF_z _ _ _ i hi) ?_
       have Bw6 := Bw5
       clear Bw5)
    | (have hgo := Bw6; clear hgo
       go_at_call 44
       refine (refMul5_any Z T _ HZ.out HT.out).mono ?_
       rintro e w9 ⟨rfl, kk⟩
       replace r_t3 := World.rowIs.of_block r_t3 (kk.block _ (World.rowIs.lt r_t3))
       replace r_t4 := World.rowIs.of_block r_t4 (kk.block _ (World.rowIs.lt r_t4))
       replace r_t5 := World.rowIs.of_block r_t5 (kk.block _ (World.rowIs.lt r_t5))
       replace r_t6 := World.rowIs.of_block r_t6 (kk.block _ (World.rowIs.lt r_t6))
       have Bw7 := Bw6.trans (kk.mono (HGS.out _ Bw6))
       clear Bw6 kk)
    | (have hgo := Bw7; clear hgo
       refine wpList_alloc_row rfl 34 rfl 16 (u64f fun _ => 0) zeroFe ?_
       intro b_t7 w10 lk r_t7 kk
       have n_t3_t7 : b_t3 ≠ b_t7 := Nat.ne_of_lt (Nat.lt_of_lt_of_le (World.rowIs.lt r_t3) lk)
       have n_t4_t7 : b_t4 ≠ b_t7 := Nat.ne_of_lt (Nat.lt_of_lt_of_le (World.rowIs.lt r_t4) lk)
       have n_t5_t7 : b_t5 ≠ b_t7 := Nat.ne_of_lt (Nat.lt_of_lt_of_le (World.rowIs.lt r_t5) lk)
       have n_t6_t7 : b_t6 ≠ b_t7 := Nat.ne_of_lt (Nat.lt_of_lt_of_le (World.rowIs.lt r_t6) lk)
       have l_t7 := Nat.le_trans (HGS.out _ Bw7) lk
       replace r_t3 := World.rowIs.of_block r_t3 (kk.block _ (World.rowIs.lt r_t3))
       replace r_t4 := World.rowIs.of_block r_t4 (kk.block _ (World.rowIs.lt r_t4))
       replace r_t5 := World.rowIs.of_block r_t5 (kk.block _ (World.rowIs.lt r_t5))
       replace r_t6 := World.rowIs.of_block r_t6 (kk.block _ (World.rowIs.lt r_t6))
       have Bw8 := Bw7.trans (kk.mono (HGS.out _ Bw7))
       clear Bw7 kk lk)
    | (have hgo := Bw8; clear hgo
       refine wpList_store_as rfl 34 (.tmp 7) (.tmp 19) rfl 16 (feF (mulP Z T)) arrFe r_t7 rfl rfl (by omega) (fun _ _ => rfl) (fun i hi => putN_whole hi) ?_
       intro w11 q gk
       replace r_t3 := gb_rowIs r_t3 gk n_t3_t7
       replace r_t4 := gb_rowIs r_t4 gk n_t4_t7
       replace r_t5 := gb_rowIs r_t5 gk n_t5_t7
       replace r_t6 := gb_rowIs r_t6 gk n_t6_t7
       replace r_t7 := q
       have Bw9 := Bw8.grown gk (HGS.out _ Bw8) (by intro k hk; cases hk; exact l_t7)
       clear Bw8 gk q)
    | (have hgo := Bw9; clear hgo
       refine wpList_load_as rfl 34 (.tmp 7) rfl 16 (feF (mulP Z T)) arrFe r_t7 rfl (by omega) (fun i hi => by rw [Nat.zero_add]) ?_
       have Bw10 := Bw9
       clear Bw9)
    | (have hgo := Bw10; clear hgo
       refine wpList_load_as rfl 34 (.tmp 7) rfl 16 (feF (mulP Z T)) arrFe r_t7 rfl (by omega) (fun i hi => by rw [Nat.zero_add]) ?_
       have Bw11 := Bw10
       clear Bw10)
    | (have hgo := Bw11; clear hgo
       go_at_call 44
       refine (refMul5_any (mulP Z T) (mulP Z T) _ (mulP_lt _ _) (mulP_lt _ _)).mono ?_
       rintro e w14 ⟨rfl, kk⟩
       replace r_t3 := World.rowIs.of_block r_t3 (kk.block _ (World.rowIs.lt r_t3))
       replace r_t4 := World.rowIs.of_block r_t4 (kk.block _ (World.rowIs.lt r_t4))
       replace r_t5 := World.rowIs.of_block r_t5 (kk.block _ (World.rowIs.lt r_t5))
       replace r_t6 := World.rowIs.of_block r_t6 (kk.block _ (World.rowIs.lt r_t6))
       replace r_t7 := World.rowIs.of_block r_t7 (kk.block _ (World.rowIs.lt r_t7))
       have Bw12 := Bw11.trans (kk.mono (HGS.out _ Bw11))
       clear Bw11 kk)
    | (have hgo := Bw12; clear hgo
       refine wpList_alloc_row rfl 34 rfl 16 (u64f fun _ => 0) zeroFe ?_
       intro b_t8 w15 lk r_t8 kk
       have n_t3_t8 : b_t3 ≠ b_t8 := Nat.ne_of_lt (Nat.lt_of_lt_of_le (World.rowIs.lt r_t3) lk)
       have n_t4_t8 : b_t4 ≠ b_t8 := Nat.ne_of_lt (Nat.lt_of_lt_of_le (World.rowIs.lt r_t4) lk)
       have n_t5_t8 : b_t5 ≠ b_t8 := Nat.ne_of_lt (Nat.lt_of_lt_of_le (World.rowIs.lt r_t5) lk)
       have n_t6_t8 : b_t6 ≠ b_t8 := Nat.ne_of_lt (Nat.lt_of_lt_of_le (World.rowIs.lt r_t6) lk)
       have n_t7_t8 : b_t7 ≠ b_t8 := Nat.ne_of_lt (Nat.lt_of_lt_of_le (World.rowIs.lt r_t7) lk)
       have l_t8 := Nat.le_trans (HGS.out _ Bw12) lk
       replace r_t3 := World.rowIs.of_block r_t3 (kk.block _ (World.rowIs.lt r_t3))
       replace r_t4 := World.rowIs.of_block r_t4 (kk.block _ (World.rowIs.lt r_t4))
       replace r_t5 := World.rowIs.of_block r_t5 (kk.block _ (World.rowIs.lt r_t5))
       replace r_t6 := World.rowIs.of_block r_t6 (kk.block _ (World.rowIs.lt r_t6))
       replace r_t7 := World.rowIs.of_block r_t7 (kk.block _ (World.rowIs.lt r_t7))
       have Bw13 := Bw12.trans (kk.mono (HGS.out _ Bw12))
       clear Bw12 kk lk)
    | (have hgo := Bw13; clear hgo
       refine wpList_store_as rfl 34 (.tmp 8) (.tmp 22) rfl 16 (feF (mulP (mulP Z T) (mulP Z T))) arrFe r_t8 rfl rfl (by omega) (fun _ _ => rfl) (fun i hi => putN_whole hi) ?_
       intro w16 q gk
       replace r_t3 := gb_rowIs r_t3 gk n_t3_t8
       replace r_t4 := gb_rowIs r_t4 gk n_t4_t8
       replace r_t5 := gb_rowIs r_t5 gk n_t5_t8
       replace r_t6 := gb_rowIs r_t6 gk n_t6_t8
       replace r_t7 := gb_rowIs r_t7 gk n_t7_t8
       replace r_t8 := q
       have Bw14 := Bw13.grown gk (HGS.out _ Bw13) (by intro k hk; cases hk; exact l_t8)
       clear Bw13 gk q)
    | (have hgo := Bw14; clear hgo
       refine wpList_load_as rfl 34 (.tmp 23) rfl 16 (feF X) arrFe r_t3 rfl (by omega) (fun i hi => ptF_x _ _ _ i hi) ?_
       have Bw15 := Bw14
       clear Bw14)
    | (have hgo := Bw15; clear hgo
       refine wpList_load_as rfl 34 (.tmp 25) rfl 16 (feF V) arrFe r_t4 rfl (by omega) (fun i hi => ptF_x _ _ _ i hi) ?_
       have Bw16 := Bw15
       clear Bw15)
    | (have hgo := Bw16; clear hgo
       go_at_call 44
       refine (refMul5_any X V _ HX.out HV.out).mono ?_
       rintro e w21 ⟨rfl, kk⟩
       replace r_t3 := World.rowIs.of_block r_t3 (kk.block _ (World.rowIs.lt r_t3))
       replace r_t4 := World.rowIs.of_block r_t4 (kk.block _ (World.rowIs.lt r_t4))
       replace r_t5 := World.rowIs.of_block r_t5 (kk.block _ (World.rowIs.lt r_t5))
       replace r_t6 := World.rowIs.of_block r_t6 (kk.block _ (World.rowIs.lt r_t6))
       replace r_t7 := World.rowIs.of_block r_t7 (kk.block _ (World.rowIs.lt r_t7))
       replace r_t8 := World.rowIs.of_block r_t8 (kk.block _ (World.rowIs.lt r_t8))
       have Bw17 := Bw16.trans (kk.mono (HGS.out _ Bw16))
       clear Bw16 kk)
    | (have hgo := Bw17; clear hgo
       refine wpList_alloc_row rfl 34 rfl 16 (u64f fun _ => 0) zeroFe ?_
       intro b_t9 w22 lk r_t9 kk
       have n_t3_t9 : b_t3 ≠ b_t9 := Nat.ne_of_lt (Nat.lt_of_lt_of_le (World.rowIs.lt r_t3) lk)
       have n_t4_t9 : b_t4 ≠ b_t9 := Nat.ne_of_lt (Nat.lt_of_lt_of_le (World.rowIs.lt r_t4) lk)
       have n_t5_t9 : b_t5 ≠ b_t9 := Nat.ne_of_lt (Nat.lt_of_lt_of_le (World.rowIs.lt r_t5) lk)
       have n_t6_t9 : b_t6 ≠ b_t9 := Nat.ne_of_lt (Nat.lt_of_lt_of_le (World.rowIs.lt r_t6) lk)
       have n_t7_t9 : b_t7 ≠ b_t9 := Nat.ne_of_lt (Nat.lt_of_lt_of_le (World.rowIs.lt r_t7) lk)
       have n_t8_t9 : b_t8 ≠ b_t9 := Nat.ne_of_lt (Nat.lt_of_lt_of_le (World.rowIs.lt r_t8) lk)
       have l_t9 := Nat.le_trans (HGS.out _ Bw17) lk
       replace r_t3 := World.rowIs.of_block r_t3 (kk.block _ (World.rowIs.lt r_t3))
       replace r_t4 := World.rowIs.of_block r_t4 (kk.block _ (World.rowIs.lt r_t4))
       replace r_t5 := World.rowIs.of_block r_t5 (kk.block _ (World.rowIs.lt r_t5))
       replace r_t6 := World.rowIs.of_block r_t6 (kk.block _ (World.rowIs.lt r_t6))
       replace r_t7 := World.rowIs.of_block r_t7 (kk.block _ (World.rowIs.lt r_t7))
       replace r_t8 := World.rowIs.of_block r_t8 (kk.block _ (World.rowIs.lt r_t8))
       have Bw18 := Bw17.trans (kk.mono (HGS.out _ Bw17))
       clear Bw17 kk lk)
    | (have hgo := Bw18; clear hgo
       refine wpList_store_as rfl 34 (.tmp 9) (.tmp 27) rfl 16 (feF (mulP X V)) arrFe r_t9 rfl rfl (by omega) (fun _ _ => rfl) (fun i hi => putN_whole hi) ?_
       intro w23 q gk
       replace r_t3 := gb_rowIs r_t3 gk n_t3_t9
       replace r_t4 := gb_rowIs r_t4 gk n_t4_t9
       replace r_t5 := gb_rowIs r_t5 gk n_t5_t9
       replace r_t6 := gb_rowIs r_t6 gk n_t6_t9
       replace r_t7 := gb_rowIs r_t7 gk n_t7_t9
       replace r_t8 := gb_rowIs r_t8 gk n_t8_t9
       replace r_t9 := q
       have Bw19 := Bw18.grown gk (HGS.out _ Bw18) (by intro k hk; cases hk; exact l_t9)
       clear Bw18 gk q)
    | (have hgo := Bw19; clear hgo
       refine wpList_load_as rfl 34 (.tmp 28) rfl 16 (feF Y) arrFe r_t3 rfl (by omega) (fun i hi => ptF_y _ _ _ i hi) ?_
       have Bw20 := Bw19
       clear Bw19)
    | (have hgo := Bw20; clear hgo
       refine wpList_load_as rfl 34 (.tmp 30) rfl 16 (feF Q) arrFe r_t4 rfl (by omega) (fun i hi => ptF_y _ _ _ i hi) ?_
       have Bw21 := Bw20
       clear Bw20)
    | (have hgo := Bw21; clear hgo
       go_at_call 44
       refine (refMul5_any Y Q _ HY.out HQ.out).mono ?_
       rintro e w28 ⟨rfl, kk⟩
       replace r_t3 := World.rowIs.of_block r_t3 (kk.block _ (World.rowIs.lt r_t3))
       replace r_t4 := World.rowIs.of_block r_t4 (kk.block _ (World.rowIs.lt r_t4))
       replace r_t5 := World.rowIs.of_block r_t5 (kk.block _ (World.rowIs.lt r_t5))
       replace r_t6 := World.rowIs.of_block r_t6 (kk.block _ (World.rowIs.lt r_t6))
       replace r_t7 := World.rowIs.of_block r_t7 (kk.block _ (World.rowIs.lt r_t7))
       replace r_t8 := World.rowIs.of_block r_t8 (kk.block _ (World.rowIs.lt r_t8))
       replace r_t9 := World.rowIs.of_block r_t9 (kk.block _ (World.rowIs.lt r_t9))
       have Bw22 := Bw21.trans (kk.mono (HGS.out _ Bw21))
       clear Bw21 kk)
    | (have hgo := Bw22; clear hgo
       refine wpList_alloc_row rfl 34 rfl 16 (u64f fun _ => 0) zeroFe ?_
       intro b_t10 w29 lk r_t10 kk
       have n_t3_t10 : b_t3 ≠ b_t10 := Nat.ne_of_lt (Nat.lt_of_lt_of_le (World.rowIs.lt r_t3) lk)
       have n_t4_t10 : b_t4 ≠ b_t10 := Nat.ne_of_lt (Nat.lt_of_lt_of_le (World.rowIs.lt r_t4) lk)
       have n_t5_t10 : b_t5 ≠ b_t10 := Nat.ne_of_lt (Nat.lt_of_lt_of_le (World.rowIs.lt r_t5) lk)
       have n_t6_t10 : b_t6 ≠ b_t10 := Nat.ne_of_lt (Nat.lt_of_lt_of_le (World.rowIs.lt r_t6) lk)
       have n_t7_t10 : b_t7 ≠ b_t10 := Nat.ne_of_lt (Nat.lt_of_lt_of_le (World.rowIs.lt r_t7) lk)
       have n_t8_t10 : b_t8 ≠ b_t10 := Nat.ne_of_lt (Nat.lt_of_lt_of_le (World.rowIs.lt r_t8) lk)
       have n_t9_t10 : b_t9 ≠ b_t10 := Nat.ne_of_lt (Nat.lt_of_lt_of_le (World.rowIs.lt r_t9) lk)
       have l_t10 := Nat.le_trans (HGS.out _ Bw22) lk
       replace r_t3 := World.rowIs.of_block r_t3 (kk.block _ (World.rowIs.lt r_t3))
       replace r_t4 := World.rowIs.of_block r_t4 (kk.block _ (World.rowIs.lt r_t4))
       replace r_t5 := World.rowIs.of_block r_t5 (kk.block _ (World.rowIs.lt r_t5))
       replace r_t6 := World.rowIs.of_block r_t6 (kk.block _ (World.rowIs.lt r_t6))
       replace r_t7 := World.rowIs.of_block r_t7 (kk.block _ (World.rowIs.lt r_t7))
       replace r_t8 := World.rowIs.of_block r_t8 (kk.block _ (World.rowIs.lt r_t8))
       replace r_t9 := World.rowIs.of_block r_t9 (kk.block _ (World.rowIs.lt r_t9))
       have Bw23 := Bw22.trans (kk.mono (HGS.out _ Bw22))
       clear Bw22 kk lk)
    | (have hgo := Bw23; clear hgo
       refine wpList_store_as rfl 34 (.tmp 10) (.tmp 32) rfl 16 (feF (mulP Y Q)) arrFe r_t10 rfl rfl (by omega) (fun _ _ => rfl) (fun i hi => putN_whole hi) ?_
       intro w30 q gk
       replace r_t3 := gb_rowIs r_t3 gk n_t3_t10
       replace r_t4 := gb_rowIs r_t4 gk n_t4_t10
       replace r_t5 := gb_rowIs r_t5 gk n_t5_t10
       replace r_t6 := gb_rowIs r_t6 gk n_t6_t10
       replace r_t7 := gb_rowIs r_t7 gk n_t7_t10
       replace r_t8 := gb_rowIs r_t8 gk n_t8_t10
       replace r_t9 := gb_rowIs r_t9 gk n_t9_t10
       replace r_t10 := q
       have Bw24 := Bw23.grown gk (HGS.out _ Bw23) (by intro k hk; cases hk; exact l_t10)
       clear Bw23 gk q))
  have Bw25 := Bw24.drew
  replace r_t3 := World.rowIs.drew r_t3
  replace r_t4 := World.rowIs.drew r_t4
  replace r_t5 := World.rowIs.drew r_t5
  replace r_t6 := World.rowIs.drew r_t6
  replace r_t7 := World.rowIs.drew r_t7
  replace r_t8 := World.rowIs.drew r_t8
  replace r_t9 := World.rowIs.drew r_t9
  replace r_t10 := World.rowIs.drew r_t10
  clear Bw24
  refine wp_region_po (Keep []) (Keep.refl _) (fun _ _ _ h1 h2 => h1.trans h2) (.rd 0 (.rd 1 (.rd 2 .done))) #[true, true, true, false, false, false, false] [3, 4, 5, 6] [some 36, some 37, some 11, none] [[], [0], [], [0, 1, 2]] [(0, []), (1, []), (2, []), (3, [1, 2]), (4, [0, 3, 3]), (5, []), (6, [5, 4, 4, 0, 1, 2, 3, 4, 5])] 7 (by kernel_rfl) (by kernel_rfl) (by decide) (by kernel_rfl) (by kernel_rfl) (by kernel_rfl) rfl (fun d _ _ _ _ h => by cases d <;> exact h) ?_
  refine lintz_pure 33 (Op.load 34 (Operand.tmp 5)) 34 (.agg (arrOf 16 (feF D))) rfl rfl rfl rfl rfl (fun w0 hb => by exact exec_load_as _ _ _ _ (feF D) rfl arrFe (Keep.row hb r_t5 rfl) (by omega) (fun i hi => by rw [Nat.zero_add])) ?_
  simp only [Act.put, List.setIfInBounds_toArray, List.set_cons_zero, List.set_cons_succ]
  refine lintz_pure 34 (Op.load 34 (Operand.tmp 9)) 34 (.agg (arrOf 16 (feF (mulP X V)))) rfl rfl rfl rfl rfl (fun w0 hb => by exact exec_load_as _ _ _ _ (feF (mulP X V)) rfl arrFe (Keep.row hb r_t9 rfl) (by omega) (fun i hi => by rw [Nat.zero_add])) ?_
  simp only [Act.put, List.setIfInBounds_toArray, List.set_cons_zero, List.set_cons_succ]
  refine lintz_pure 35 (Op.load 34 (Operand.tmp 10)) 34 (.agg (arrOf 16 (feF (mulP Y Q)))) rfl rfl rfl rfl rfl (fun w0 hb => by exact exec_load_as _ _ _ _ (feF (mulP Y Q)) rfl arrFe (Keep.row hb r_t10 rfl) (by omega) (fun i hi => by rw [Nat.zero_add])) ?_
  simp only [Act.put, List.setIfInBounds_toArray, List.set_cons_zero, List.set_cons_succ]
  refine lintz_leaf ?_
  have HWF : poWf [.val (.agg (arrOf 16 (feF (mulP (mulP X V) (mulP Y Q))))), .val (.agg (arrOf 16 (feF (mulP D (mulP (mulP X V) (mulP Y Q)))))), .row 34 16 (u64f fun _ => 0) 3 (feF (mulP D (mulP (mulP X V) (mulP Y Q)))), .nil] [] = true := by kernel_rfl
  refine ⟨JG [.val (.agg (arrOf 16 (feF (mulP (mulP X V) (mulP Y Q))))), .val (.agg (arrOf 16 (feF (mulP D (mulP (mulP X V) (mulP Y Q)))))), .row 34 16 (u64f fun _ => 0) 3 (feF (mulP D (mulP (mulP X V) (mulP Y Q)))), .nil] [] _, JG.start (Nat.le_refl _) (fun i hi => absurd hi (Nat.not_lt_zero _)), fun m gz wa p az hp hm hmp hcl hdn hE hJ hS hO => ?_, fun gz wa hE hJ => ?_⟩
  · rcases (show p = 0 ∨ p = 1 ∨ p = 2 ∨ p = 3 by have h9 : p < 4 := hp; omega) with rfl | rfl | rfl | rfl
    · have e34 : az.eval (.tmp 34) = .agg (arrOf 16 (feF (mulP X V))) := hO 34 rfl
      have e35 : az.eval (.tmp 35) = .agg (arrOf 16 (feF (mulP Y Q))) := hO 35 rfl
      exact po_call 36 44 #[Operand.tmp 34, Operand.tmp 35] #[34, 34] _ HWF hJ rfl hE (refMul5_any (mulP X V) (mulP Y Q) _ (mulP_lt _ _) (mulP_lt _ _)) rfl rfl rfl rfl rfl Try.func44 (by kernel_rfl) (by kernel_rfl) (by simp only [List.map_toArray, List.map_cons, List.map_nil, eval_const, eval_func, e34, e35] <;> rfl)
    · have e33 : az.eval (.tmp 33) = .agg (arrOf 16 (feF D)) := hO 33 rfl
      have e36 := (hS 0 36 rfl (hdn 0 (by decide)) (Nat.le_of_ble_eq_true rfl)).trans (hJ.says (hdn 0 (by decide)) rfl)
      exact po_call 37 44 #[Operand.tmp 33, Operand.tmp 36] #[34, 34] _ HWF hJ rfl hE (refMul5_any D (mulP (mulP X V) (mulP Y Q)) _ HD.out (mulP_lt _ _)) rfl rfl rfl rfl rfl Try.func44 (by kernel_rfl) (by kernel_rfl) (by simp only [List.map_toArray, List.map_cons, List.map_nil, eval_const, eval_func, e33, e36] <;> rfl)
    · exact po_alloc 11 _ 34 16 (u64f fun _ => 0) _ _ HWF hJ rfl (po_notyet hcl hmp (by rw [hm]; exact hp) (by decide)) hE rfl rfl rfl rfl rfl rfl zeroFe
    · have e37 := (hS 1 37 rfl (hdn 1 (by decide)) (Nat.le_of_ble_eq_true rfl)).trans (hJ.says (hdn 1 (by decide)) rfl)
      exact po_storeRow 2 (.tmp 11) (.tmp 37) 34 16 _ _ (by rw [hm]; exact hp) hmp hJ rfl rfl (hdn 2 (by decide)) (by kernel_rfl) (fun i hi => absurd hi (Nat.not_lt_zero _)) hE rfl rfl rfl rfl rfl (hS 2 11 rfl (hdn 2 (by decide)) (Nat.le_of_ble_eq_true rfl)) e37 arrFe (fun _ _ => rfl)
  · have q0 := hJ.told 0 (by decide) rfl
    have q1 := hJ.told 1 (by decide) rfl
    obtain ⟨b_t11, p_t11, lk_t11, r_t11, d_t11⟩ := hJ.row 2 (by decide) rfl (by decide)
    show PoEnd _ (Act.put (Act.put (Act.put (Act.put _ (some 36) (gz 0)) (some 37) (gz 1)) (some 11) (gz 2)) none (gz 3)) wa
    rw [q0, q1, p_t11]
    simp only [Act.put, List.setIfInBounds_toArray, List.set_cons_zero, List.set_cons_succ]
    refine po_end ?_
    have n_t3_t11 : b_t3 ≠ b_t11 := Nat.ne_of_lt (Nat.lt_of_lt_of_le (World.rowIs.lt r_t3) lk_t11)
    have n_t4_t11 : b_t4 ≠ b_t11 := Nat.ne_of_lt (Nat.lt_of_lt_of_le (World.rowIs.lt r_t4) lk_t11)
    have n_t5_t11 : b_t5 ≠ b_t11 := Nat.ne_of_lt (Nat.lt_of_lt_of_le (World.rowIs.lt r_t5) lk_t11)
    have n_t6_t11 : b_t6 ≠ b_t11 := Nat.ne_of_lt (Nat.lt_of_lt_of_le (World.rowIs.lt r_t6) lk_t11)
    have n_t7_t11 : b_t7 ≠ b_t11 := Nat.ne_of_lt (Nat.lt_of_lt_of_le (World.rowIs.lt r_t7) lk_t11)
    have n_t8_t11 : b_t8 ≠ b_t11 := Nat.ne_of_lt (Nat.lt_of_lt_of_le (World.rowIs.lt r_t8) lk_t11)
    have n_t9_t11 : b_t9 ≠ b_t11 := Nat.ne_of_lt (Nat.lt_of_lt_of_le (World.rowIs.lt r_t9) lk_t11)
    have n_t10_t11 : b_t10 ≠ b_t11 := Nat.ne_of_lt (Nat.lt_of_lt_of_le (World.rowIs.lt r_t10) lk_t11)
    have l_t11 := Nat.le_trans (HGS.out _ Bw25) lk_t11
    replace r_t3 := Keep.row hE r_t3 rfl
    replace r_t4 := Keep.row hE r_t4 rfl
    replace r_t5 := Keep.row hE r_t5 rfl
    replace r_t6 := Keep.row hE r_t6 rfl
    replace r_t7 := Keep.row hE r_t7 rfl
    replace r_t8 := Keep.row hE r_t8 rfl
    replace r_t9 := Keep.row hE r_t9 rfl
    replace r_t10 := Keep.row hE r_t10 rfl
    have Bw26 := hE.below Bw25 (HGS.out _ Bw25) rfl
    clear Bw25 hE hJ HWF q0 q1 p_t11 lk_t11 d_t11
    go_wp2_with (first
      | (have hgo := Bw26; clear hgo
         refine wpList_load_as rfl 34 (.tmp 8) rfl 16 (feF (mulP (mulP Z T) (mulP Z T))) arrFe r_t8 rfl (by omega) (fun i hi => by rw [Nat.zero_add]) ?_
         have Bw27 := Bw26
         clear Bw26)
      | (have hgo := Bw27; clear hgo
         refine wpList_load_as rfl 34 (.tmp 11) rfl 16 (feF (mulP D (mulP (mulP X V) (mulP Y Q)))) arrFe r_t11 rfl (by omega) (fun i hi => by rw [Nat.zero_add]) ?_
         have Bw28 := Bw27
         clear Bw27)
      | (have hgo := Bw28; clear hgo
         go_at_call 45
         refine (refSub_any (mulP (mulP Z T) (mulP Z T)) (mulP D (mulP (mulP X V) (mulP Y Q))) _ (mulP_lt _ _) (mulP_lt _ _)).mono ?_
         rintro e w33 ⟨rfl, kk⟩
         replace r_t3 := World.rowIs.of_block r_t3 (kk.block _ (World.rowIs.lt r_t3))
         replace r_t4 := World.rowIs.of_block r_t4 (kk.block _ (World.rowIs.lt r_t4))
         replace r_t5 := World.rowIs.of_block r_t5 (kk.block _ (World.rowIs.lt r_t5))
         replace r_t6 := World.rowIs.of_block r_t6 (kk.block _ (World.rowIs.lt r_t6))
         replace r_t7 := World.rowIs.of_block r_t7 (kk.block _ (World.rowIs.lt r_t7))
         replace r_t8 := World.rowIs.of_block r_t8 (kk.block _ (World.rowIs.lt r_t8))
         replace r_t9 := World.rowIs.of_block r_t9 (kk.block _ (World.rowIs.lt r_t9))
         replace r_t10 := World.rowIs.of_block r_t10 (kk.block _ (World.rowIs.lt r_t10))
         replace r_t11 := World.rowIs.of_block r_t11 (kk.block _ (World.rowIs.lt r_t11))
         have Bw29 := Bw28.trans (kk.mono (HGS.out _ Bw28))
         clear Bw28 kk)
      | (have hgo := Bw29; clear hgo
         refine wpList_alloc_row rfl 34 rfl 16 (u64f fun _ => 0) zeroFe ?_
         intro b_t12 w34 lk r_t12 kk
         have n_t3_t12 : b_t3 ≠ b_t12 := Nat.ne_of_lt (Nat.lt_of_lt_of_le (World.rowIs.lt r_t3) lk)
         have n_t4_t12 : b_t4 ≠ b_t12 := Nat.ne_of_lt (Nat.lt_of_lt_of_le (World.rowIs.lt r_t4) lk)
         have n_t5_t12 : b_t5 ≠ b_t12 := Nat.ne_of_lt (Nat.lt_of_lt_of_le (World.rowIs.lt r_t5) lk)
         have n_t6_t12 : b_t6 ≠ b_t12 := Nat.ne_of_lt (Nat.lt_of_lt_of_le (World.rowIs.lt r_t6) lk)
         have n_t7_t12 : b_t7 ≠ b_t12 := Nat.ne_of_lt (Nat.lt_of_lt_of_le (World.rowIs.lt r_t7) lk)
         have n_t8_t12 : b_t8 ≠ b_t12 := Nat.ne_of_lt (Nat.lt_of_lt_of_le (World.rowIs.lt r_t8) lk)
         have n_t9_t12 : b_t9 ≠ b_t12 := Nat.ne_of_lt (Nat.lt_of_lt_of_le (World.rowIs.lt r_t9) lk)
         have n_t10_t12 : b_t10 ≠ b_t12 := Nat.ne_of_lt (Nat.lt_of_lt_of_le (World.rowIs.lt r_t10) lk)
         have n_t11_t12 : b_t11 ≠ b_t12 := Nat.ne_of_lt (Nat.lt_of_lt_of_le (World.rowIs.lt r_t11) lk)
         have l_t12 := Nat.le_trans (HGS.out _ Bw29) lk
         replace r_t3 := World.rowIs.of_block r_t3 (kk.block _ (World.rowIs.lt r_t3))
         replace r_t4 := World.rowIs.of_block r_t4 (kk.block _ (World.rowIs.lt r_t4))
         replace r_t5 := World.rowIs.of_block r_t5 (kk.block _ (World.rowIs.lt r_t5))
         replace r_t6 := World.rowIs.of_block r_t6 (kk.block _ (World.rowIs.lt r_t6))
         replace r_t7 := World.rowIs.of_block r_t7 (kk.block _ (World.rowIs.lt r_t7))
         replace r_t8 := World.rowIs.of_block r_t8 (kk.block _ (World.rowIs.lt r_t8))
         replace r_t9 := World.rowIs.of_block r_t9 (kk.block _ (World.rowIs.lt r_t9))
         replace r_t10 := World.rowIs.of_block r_t10 (kk.block _ (World.rowIs.lt r_t10))
         replace r_t11 := World.rowIs.of_block r_t11 (kk.block _ (World.rowIs.lt r_t11))
         have Bw30 := Bw29.trans (kk.mono (HGS.out _ Bw29))
         clear Bw29 kk lk)
      | (have hgo := Bw30; clear hgo
         refine wpList_store_as rfl 34 (.tmp 12) (.tmp 40) rfl 16 (feF (subP p25 (mulP (mulP Z T) (mulP Z T)) (mulP D (mulP (mulP X V) (mulP Y Q))))) arrFe r_t12 rfl rfl (by omega) (fun _ _ => rfl) (fun i hi => putN_whole hi) ?_
         intro w35 q gk
         replace r_t3 := gb_rowIs r_t3 gk n_t3_t12
         replace r_t4 := gb_rowIs r_t4 gk n_t4_t12
         replace r_t5 := gb_rowIs r_t5 gk n_t5_t12
         replace r_t6 := gb_rowIs r_t6 gk n_t6_t12
         replace r_t7 := gb_rowIs r_t7 gk n_t7_t12
         replace r_t8 := gb_rowIs r_t8 gk n_t8_t12
         replace r_t9 := gb_rowIs r_t9 gk n_t9_t12
         replace r_t10 := gb_rowIs r_t10 gk n_t10_t12
         replace r_t11 := gb_rowIs r_t11 gk n_t11_t12
         replace r_t12 := q
         have Bw31 := Bw30.grown gk (HGS.out _ Bw30) (by intro k hk; cases hk; exact l_t12)
         clear Bw30 gk q)
      | (have hgo := Bw31; clear hgo
         refine wpList_load_as rfl 34 (.tmp 8) rfl 16 (feF (mulP (mulP Z T) (mulP Z T))) arrFe r_t8 rfl (by omega) (fun i hi => by rw [Nat.zero_add]) ?_
         have Bw32 := Bw31
         clear Bw31)
      | (have hgo := Bw32; clear hgo
         refine wpList_load_as rfl 34 (.tmp 11) rfl 16 (feF (mulP D (mulP (mulP X V) (mulP Y Q)))) arrFe r_t11 rfl (by omega) (fun i hi => by rw [Nat.zero_add]) ?_
         have Bw33 := Bw32
         clear Bw32)
      | (have hgo := Bw33; clear hgo
         go_at_call 48
         refine (refAdd5_any (mulP (mulP Z T) (mulP Z T)) (mulP D (mulP (mulP X V) (mulP Y Q))) _ (mulP_lt _ _) (mulP_lt _ _)).mono ?_
         rintro e w38 ⟨rfl, kk⟩
         replace r_t3 := World.rowIs.of_block r_t3 (kk.block _ (World.rowIs.lt r_t3))
         replace r_t4 := World.rowIs.of_block r_t4 (kk.block _ (World.rowIs.lt r_t4))
         replace r_t5 := World.rowIs.of_block r_t5 (kk.block _ (World.rowIs.lt r_t5))
         replace r_t6 := World.rowIs.of_block r_t6 (kk.block _ (World.rowIs.lt r_t6))
         replace r_t7 := World.rowIs.of_block r_t7 (kk.block _ (World.rowIs.lt r_t7))
         replace r_t8 := World.rowIs.of_block r_t8 (kk.block _ (World.rowIs.lt r_t8))
         replace r_t9 := World.rowIs.of_block r_t9 (kk.block _ (World.rowIs.lt r_t9))
         replace r_t10 := World.rowIs.of_block r_t10 (kk.block _ (World.rowIs.lt r_t10))
         replace r_t11 := World.rowIs.of_block r_t11 (kk.block _ (World.rowIs.lt r_t11))
         replace r_t12 := World.rowIs.of_block r_t12 (kk.block _ (World.rowIs.lt r_t12))
         have Bw34 := Bw33.trans (kk.mono (HGS.out _ Bw33))
         clear Bw33 kk)
      | (have hgo := Bw34; clear hgo
         refine wpList_alloc_row rfl 34 rfl 16 (u64f fun _ => 0) zeroFe ?_
         intro b_t13 w39 lk r_t13 kk
         have n_t3_t13 : b_t3 ≠ b_t13 := Nat.ne_of_lt (Nat.lt_of_lt_of_le (World.rowIs.lt r_t3) lk)
         have n_t4_t13 : b_t4 ≠ b_t13 := Nat.ne_of_lt (Nat.lt_of_lt_of_le (World.rowIs.lt r_t4) lk)
         have n_t5_t13 : b_t5 ≠ b_t13 := Nat.ne_of_lt (Nat.lt_of_lt_of_le (World.rowIs.lt r_t5) lk)
         have n_t6_t13 : b_t6 ≠ b_t13 := Nat.ne_of_lt (Nat.lt_of_lt_of_le (World.rowIs.lt r_t6) lk)
         have n_t7_t13 : b_t7 ≠ b_t13 := Nat.ne_of_lt (Nat.lt_of_lt_of_le (World.rowIs.lt r_t7) lk)
         have n_t8_t13 : b_t8 ≠ b_t13 := Nat.ne_of_lt (Nat.lt_of_lt_of_le (World.rowIs.lt r_t8) lk)
         have n_t9_t13 : b_t9 ≠ b_t13 := Nat.ne_of_lt (Nat.lt_of_lt_of_le (World.rowIs.lt r_t9) lk)
         have n_t10_t13 : b_t10 ≠ b_t13 := Nat.ne_of_lt (Nat.lt_of_lt_of_le (World.rowIs.lt r_t10) lk)
         have n_t11_t13 : b_t11 ≠ b_t13 := Nat.ne_of_lt (Nat.lt_of_lt_of_le (World.rowIs.lt r_t11) lk)
         have n_t12_t13 : b_t12 ≠ b_t13 := Nat.ne_of_lt (Nat.lt_of_lt_of_le (World.rowIs.lt r_t12) lk)
         have l_t13 := Nat.le_trans (HGS.out _ Bw34) lk
         replace r_t3 := World.rowIs.of_block r_t3 (kk.block _ (World.rowIs.lt r_t3))
         replace r_t4 := World.rowIs.of_block r_t4 (kk.block _ (World.rowIs.lt r_t4))
         replace r_t5 := World.rowIs.of_block r_t5 (kk.block _ (World.rowIs.lt r_t5))
         replace r_t6 := World.rowIs.of_block r_t6 (kk.block _ (World.rowIs.lt r_t6))
         replace r_t7 := World.rowIs.of_block r_t7 (kk.block _ (World.rowIs.lt r_t7))
         replace r_t8 := World.rowIs.of_block r_t8 (kk.block _ (World.rowIs.lt r_t8))
         replace r_t9 := World.rowIs.of_block r_t9 (kk.block _ (World.rowIs.lt r_t9))
         replace r_t10 := World.rowIs.of_block r_t10 (kk.block _ (World.rowIs.lt r_t10))
         replace r_t11 := World.rowIs.of_block r_t11 (kk.block _ (World.rowIs.lt r_t11))
         replace r_t12 := World.rowIs.of_block r_t12 (kk.block _ (World.rowIs.lt r_t12))
         have Bw35 := Bw34.trans (kk.mono (HGS.out _ Bw34))
         clear Bw34 kk lk)
      | (have hgo := Bw35; clear hgo
         refine wpList_store_as rfl 34 (.tmp 13) (.tmp 43) rfl 16 (feF (addP (mulP (mulP Z T) (mulP Z T)) (mulP D (mulP (mulP X V) (mulP Y Q))))) arrFe r_t13 rfl rfl (by omega) (fun _ _ => rfl) (fun i hi => putN_whole hi) ?_
         intro w40 q gk
         replace r_t3 := gb_rowIs r_t3 gk n_t3_t13
         replace r_t4 := gb_rowIs r_t4 gk n_t4_t13
         replace r_t5 := gb_rowIs r_t5 gk n_t5_t13
         replace r_t6 := gb_rowIs r_t6 gk n_t6_t13
         replace r_t7 := gb_rowIs r_t7 gk n_t7_t13
         replace r_t8 := gb_rowIs r_t8 gk n_t8_t13
         replace r_t9 := gb_rowIs r_t9 gk n_t9_t13
         replace r_t10 := gb_rowIs r_t10 gk n_t10_t13
         replace r_t11 := gb_rowIs r_t11 gk n_t11_t13
         replace r_t12 := gb_rowIs r_t12 gk n_t12_t13
         replace r_t13 := q
         have Bw36 := Bw35.grown gk (HGS.out _ Bw35) (by intro k hk; cases hk; exact l_t13)
         clear Bw35 gk q))
    have Bw37 := Bw36.drew
    replace r_t3 := World.rowIs.drew r_t3
    replace r_t4 := World.rowIs.drew r_t4
    replace r_t5 := World.rowIs.drew r_t5
    replace r_t6 := World.rowIs.drew r_t6
    replace r_t7 := World.rowIs.drew r_t7
    replace r_t8 := World.rowIs.drew r_t8
    replace r_t9 := World.rowIs.drew r_t9
    replace r_t10 := World.rowIs.drew r_t10
    replace r_t11 := World.rowIs.drew r_t11
    replace r_t12 := World.rowIs.drew r_t12
    replace r_t13 := World.rowIs.drew r_t13
    clear Bw36
    refine wp_region_po (Keep []) (Keep.refl _) (fun _ _ _ h1 h2 => h1.trans h2) (.rd 0 (.rd 1 (.rd 2 (.rd 3 (.rd 5 (.rd 6 (.rd 7 (.rd 8 .done)))))))) #[true, true, true, true, false, true, true, true, true, false, false, false, false] [4, 9, 10, 11, 12] [some 48, some 53, some 54, some 14, none] [[], [0], [0, 1], [], [0, 1, 2, 3]] [(0, []), (1, [0]), (2, []), (3, [2]), (4, [1, 3]), (5, []), (6, [5]), (7, []), (8, [7]), (9, [6, 8, 4]), (10, [4, 9, 9]), (11, []), (12, [11, 10, 10, 0, 1, 2, 3, 4, 5, 6, 7, 8, 9, 10, 11])] 495 (by kernel_rfl) (by kernel_rfl) (by decide) (by kernel_rfl) (by kernel_rfl) (by kernel_rfl) rfl (fun d _ _ _ _ h => by cases d <;> exact h) ?_
    refine lintz_pure 44 (Op.fieldAddr 36 (Operand.tmp 3) 0) 0 (.pointer (some ⟨b_t3, 0, none⟩)) rfl rfl rfl rfl rfl (fun w0 hb => by unfold mkOp; go_simp; all_goals (with_reducible rfl)) ?_
    simp only [Act.put, List.setIfInBounds_toArray, List.set_cons_zero, List.set_cons_succ]
    refine lintz_pure 45 (Op.load 34 (Operand.tmp 44)) 34 (.agg (arrOf 16 (feF X))) rfl rfl rfl rfl rfl (fun w0 hb => by exact exec_load_as _ _ _ _ (feF X) rfl arrFe (Keep.row hb r_t3 rfl) (by omega) (fun i hi => ptF_x _ _ _ i hi)) ?_
    simp only [Act.put, List.setIfInBounds_toArray, List.set_cons_zero, List.set_cons_succ]
    refine lintz_pure 46 (Op.fieldAddr 36 (Operand.tmp 4) 1) 0 (.pointer (some ⟨b_t4, 16, none⟩)) rfl rfl rfl rfl rfl (fun w0 hb => by unfold mkOp; go_simp; all_goals (with_reducible rfl)) ?_
    simp only [Act.put, List.setIfInBounds_toArray, List.set_cons_zero, List.set_cons_succ]
    refine lintz_pure 47 (Op.load 34 (Operand.tmp 46)) 34 (.agg (arrOf 16 (feF Q))) rfl rfl rfl rfl rfl (fun w0 hb => by exact exec_load_as _ _ _ _ (feF Q) rfl arrFe (Keep.row hb r_t4 rfl) (by omega) (fun i hi => ptF_y _ _ _ i hi)) ?_
    simp only [Act.put, List.setIfInBounds_toArray, List.set_cons_zero, List.set_cons_succ]
    refine lintz_pure 49 (Op.fieldAddr 36 (Operand.tmp 4) 0) 0 (.pointer (some ⟨b_t4, 0, none⟩)) rfl rfl rfl rfl rfl (fun w0 hb => by unfold mkOp; go_simp; all_goals (with_reducible rfl)) ?_
    simp only [Act.put, List.setIfInBounds_toArray, List.set_cons_zero, List.set_cons_succ]
    refine lintz_pure 50 (Op.load 34 (Operand.tmp 49)) 34 (.agg (arrOf 16 (feF V))) rfl rfl rfl rfl rfl (fun w0 hb => by exact exec_load_as _ _ _ _ (feF V) rfl arrFe (Keep.row hb r_t4 rfl) (by omega) (fun i hi => ptF_x _ _ _ i hi)) ?_
    simp only [Act.put, List.setIfInBounds_toArray, List.set_cons_zero, List.set_cons_succ]
    refine lintz_pure 51 (Op.fieldAddr 36 (Operand.tmp 3) 1) 0 (.pointer (some ⟨b_t3, 16, none⟩)) rfl rfl rfl rfl rfl (fun w0 hb => by unfold mkOp; go_simp; all_goals (with_reducible rfl)) ?_
    simp only [Act.put, List.setIfInBounds_toArray, List.set_cons_zero, List.set_cons_succ]
    refine lintz_pure 52 (Op.load 34 (Operand.tmp 51)) 34 (.agg (arrOf 16 (feF Y))) rfl rfl rfl rfl rfl (fun w0 hb => by exact exec_load_as _ _ _ _ (feF Y) rfl arrFe (Keep.row hb r_t3 rfl) (by omega) (fun i hi => ptF_y _ _ _ i hi)) ?_
    simp only [Act.put, List.setIfInBounds_toArray, List.set_cons_zero, List.set_cons_succ]
    refine lintz_leaf ?_
    have HWF : poWf [.val (.agg (arrOf 16 (feF (mulP X Q)))), .val (.agg (arrOf 16 (feF (mulP V Y)))), .val (.agg (arrOf 16 (feF (addP (mulP X Q) (mulP V Y))))), .row 34 16 (u64f fun _ => 0) 4 (feF (addP (mulP X Q) (mulP V Y))), .nil] [] = true := by kernel_rfl
    refine ⟨JG [.val (.agg (arrOf 16 (feF (mulP X Q)))), .val (.agg (arrOf 16 (feF (mulP V Y)))), .val (.agg (arrOf 16 (feF (addP (mulP X Q) (mulP V Y))))), .row 34 16 (u64f fun _ => 0) 4 (feF (addP (mulP X Q) (mulP V Y))), .nil] [] _, JG.start (Nat.le_refl _) (fun i hi => absurd hi (Nat.not_lt_zero _)), fun m gz wa p az hp hm hmp hcl hdn hE hJ hS hO => ?_, fun gz wa hE hJ => ?_⟩
    · rcases (show p = 0 ∨ p = 1 ∨ p = 2 ∨ p = 3 ∨ p = 4 by have h9 : p < 5 := hp; omega) with rfl | rfl | rfl | rfl | rfl
      · have e45 : az.eval (.tmp 45) = .agg (arrOf 16 (feF X)) := hO 45 rfl
        have e47 : az.eval (.tmp 47) = .agg (arrOf 16 (feF Q)) := hO 47 rfl
        exact po_call 48 44 #[Operand.tmp 45, Operand.tmp 47] #[34, 34] _ HWF hJ rfl hE (refMul5_any X Q _ HX.out HQ.out) rfl rfl rfl rfl rfl Try.func44 (by kernel_rfl) (by kernel_rfl) (by simp only [List.map_toArray, List.map_cons, List.map_nil, eval_const, eval_func, e45, e47] <;> rfl)
      · have e50 : az.eval (.tmp 50) = .agg (arrOf 16 (feF V)) := hO 50 rfl
        have e52 : az.eval (.tmp 52) = .agg (arrOf 16 (feF Y)) := hO 52 rfl
        exact po_call 53 44 #[Operand.tmp 50, Operand.tmp 52] #[34, 34] _ HWF hJ rfl hE (refMul5_any V Y _ HV.out HY.out) rfl rfl rfl rfl rfl Try.func44 (by kernel_rfl) (by kernel_rfl) (by simp only [List.map_toArray, List.map_cons, List.map_nil, eval_const, eval_func, e50, e52] <;> rfl)
      · have e48 := (hS 0 48 rfl (hdn 0 (by decide)) (Nat.le_of_ble_eq_true rfl)).trans (hJ.says (hdn 0 (by decide)) rfl)
        have e53 := (hS 1 53 rfl (hdn 1 (by decide)) (Nat.le_of_ble_eq_true rfl)).trans (hJ.says (hdn 1 (by decide)) rfl)
        exact po_call 54 48 #[Operand.tmp 48, Operand.tmp 53] #[34, 34] _ HWF hJ rfl hE (refAdd5_any (mulP X Q) (mulP V Y) _ (mulP_lt _ _) (mulP_lt _ _)) rfl rfl rfl rfl rfl Try.func48 (by kernel_rfl) (by kernel_rfl) (by simp only [List.map_toArray, List.map_cons, List.map_nil, eval_const, eval_func, e48, e53] <;> rfl)
      · exact po_alloc 14 _ 34 16 (u64f fun _ => 0) _ _ HWF hJ rfl (po_notyet hcl hmp (by rw [hm]; exact hp) (by decide)) hE rfl rfl rfl rfl rfl rfl zeroFe
      · have e54 := (hS 2 54 rfl (hdn 2 (by decide)) (Nat.le_of_ble_eq_true rfl)).trans (hJ.says (hdn 2 (by decide)) rfl)
        exact po_storeRow 3 (.tmp 14) (.tmp 54) 34 16 _ _ (by rw [hm]; exact hp) hmp hJ rfl rfl (hdn 3 (by decide)) (by kernel_rfl) (fun i hi => absurd hi (Nat.not_lt_zero _)) hE rfl rfl rfl rfl rfl (hS 3 14 rfl (hdn 3 (by decide)) (Nat.le_of_ble_eq_true rfl)) e54 arrFe (fun _ _ => rfl)
    · have q0 := hJ.told 0 (by decide) rfl
      have q1 := hJ.told 1 (by decide) rfl
      have q2 := hJ.told 2 (by decide) rfl
      obtain ⟨b_t14, p_t14, lk_t14, r_t14, d_t14⟩ := hJ.row 3 (by decide) rfl (by decide)
      show PoEnd _ (Act.put (Act.put (Act.put (Act.put (Act.put _ (some 48) (gz 0)) (some 53) (gz 1)) (some 54) (gz 2)) (some 14) (gz 3)) none (gz 4)) wa
      rw [q0, q1, q2, p_t14]
      simp only [Act.put, List.setIfInBounds_toArray, List.set_cons_zero, List.set_cons_succ]
      refine po_end ?_
      have n_t3_t14 : b_t3 ≠ b_t14 := Nat.ne_of_lt (Nat.lt_of_lt_of_le (World.rowIs.lt r_t3) lk_t14)
      have n_t4_t14 : b_t4 ≠ b_t14 := Nat.ne_of_lt (Nat.lt_of_lt_of_le (World.rowIs.lt r_t4) lk_t14)
      have n_t5_t14 : b_t5 ≠ b_t14 := Nat.ne_of_lt (Nat.lt_of_lt_of_le (World.rowIs.lt r_t5) lk_t14)
      have n_t6_t14 : b_t6 ≠ b_t14 := Nat.ne_of_lt (Nat.lt_of_lt_of_le (World.rowIs.lt r_t6) lk_t14)
      have n_t7_t14 : b_t7 ≠ b_t14 := Nat.ne_of_lt (Nat.lt_of_lt_of_le (World.rowIs.lt r_t7) lk_t14)
      have n_t8_t14 : b_t8 ≠ b_t14 := Nat.ne_of_lt (Nat.lt_of_lt_of_le (World.rowIs.lt r_t8) lk_t14)
      have n_t9_t14 : b_t9 ≠ b_t14 := Nat.ne_of_lt (Nat.lt_of_lt_of_le (World.rowIs.lt r_t9) lk_t14)
      have n_t10_t14 : b_t10 ≠ b_t14 := Nat.ne_of_lt (Nat.lt_of_lt_of_le (World.rowIs.lt r_t10) lk_t14)
      have n_t11_t14 : b_t11 ≠ b_t14 := Nat.ne_of_lt (Nat.lt_of_lt_of_le (World.rowIs.lt r_t11) lk_t14)
      have n_t12_t14 : b_t12 ≠ b_t14 := Nat.ne_of_lt (Nat.lt_of_lt_of_le (World.rowIs.lt r_t12) lk_t14)
      have n_t13_t14 : b_t13 ≠ b_t14 := Nat.ne_of_lt (Nat.lt_of_lt_of_le (World.rowIs.lt r_t13) lk_t14)
      have l_t14 := Nat.le_trans (HGS.out _ Bw37) lk_t14
      replace r_t3 := Keep.row hE r_t3 rfl
      replace r_t4 := Keep.row hE r_t4 rfl
      replace r_t5 := Keep.row hE r_t5 rfl
      replace r_t6 := Keep.row hE r_t6 rfl
      replace r_t7 := Keep.row hE r_t7 rfl
      replace r_t8 := Keep.row hE r_t8 rfl
      replace r_t9 := Keep.row hE r_t9 rfl
      replace r_t10 := Keep.row hE r_t10 rfl
      replace r_t11 := Keep.row hE r_t11 rfl
      replace r_t12 := Keep.row hE r_t12 rfl
      replace r_t13 := Keep.row hE r_t13 rfl
      have Bw38 := hE.below Bw37 (HGS.out _ Bw37) rfl
      clear Bw37 hE hJ HWF q0 q1 q2 p_t14 lk_t14 d_t14
      go_wp2
      have Bw39 := Bw38.drew
      replace r_t3 := World.rowIs.drew r_t3
      replace r_t4 := World.rowIs.drew r_t4
      replace r_t5 := World.rowIs.drew r_t5
      replace r_t6 := World.rowIs.drew r_t6
      replace r_t7 := World.rowIs.drew r_t7
      replace r_t8 := World.rowIs.drew r_t8
      replace r_t9 := World.rowIs.drew r_t9
      replace r_t10 := World.rowIs.drew r_t10
      replace r_t11 := World.rowIs.drew r_t11
      replace r_t12 := World.rowIs.drew r_t12
      replace r_t13 := World.rowIs.drew r_t13
      replace r_t14 := World.rowIs.drew r_t14
      clear Bw38
      refine wp_region_po (Keep [b_t6]) (Keep.refl _) (fun _ _ _ h1 h2 => h1.trans h2) (.rd 0 (.rd 1 (.rd 3 (.rd 5 (.rd 6 (.rd 8 (.rd 9 (.rd 12 (.rd 13 .done))))))))) #[true, true, false, true, false, true, true, false, true, true, false, false, true, true, false, false, false] [2, 4, 7, 10, 11, 14, 15, 16] [some 57, some 59, some 62, some 65, some 66, some 69, some 70, none] [[], [0], [1], [2], [2, 3], [4], [1, 4, 5], [0, 1, 2, 3, 4, 5, 6]] [(0, []), (1, []), (2, [0, 1]), (3, []), (4, [2, 3, 2]), (5, []), (6, []), (7, [5, 6, 4]), (8, []), (9, []), (10, [8, 9, 7]), (11, [7, 10, 10]), (12, []), (13, []), (14, [12, 13, 11]), (15, [4, 11, 14]), (16, [15, 14, 0, 1, 2, 3, 4, 5, 6, 7, 8, 9, 10, 11, 12, 13, 14, 15])] 13163 (by kernel_rfl) (by kernel_rfl) (by decide) (by kernel_rfl) (by kernel_rfl) (by kernel_rfl) rfl (fun d _ _ _ _ h => by cases d <;> exact h) ?_
      refine lintz_pure 55 (Op.load 34 (Operand.tmp 7)) 34 (.agg (arrOf 16 (feF (mulP Z T)))) rfl rfl rfl rfl rfl (fun w0 hb => by exact exec_load_as _ _ _ _ (feF (mulP Z T)) rfl arrFe (Keep.row hb r_t7 (cont1 (Ne.symm n_t6_t7))) (by omega) (fun i hi => by rw [Nat.zero_add])) ?_
      simp only [Act.put, List.setIfInBounds_toArray, List.set_cons_zero, List.set_cons_succ]
      refine lintz_pure 56 (Op.load 34 (Operand.tmp 12)) 34 (.agg (arrOf 16 (feF (subP p25 (mulP (mulP Z T) (mulP Z T)) (mulP D (mulP (mulP X V) (mulP Y Q))))))) rfl rfl rfl rfl rfl (fun w0 hb => by exact exec_load_as _ _ _ _ (feF (subP p25 (mulP (mulP Z T) (mulP Z T)) (mulP D (mulP (mulP X V) (mulP Y Q))))) rfl arrFe (Keep.row hb r_t12 (cont1 (Ne.symm n_t6_t12))) (by omega) (fun i hi => by rw [Nat.zero_add])) ?_
      simp only [Act.put, List.setIfInBounds_toArray, List.set_cons_zero, List.set_cons_succ]
      refine lintz_pure 58 (Op.load 34 (Operand.tmp 14)) 34 (.agg (arrOf 16 (feF (addP (mulP X Q) (mulP V Y))))) rfl rfl rfl rfl rfl (fun w0 hb => by exact exec_load_as _ _ _ _ (feF (addP (mulP X Q) (mulP V Y))) rfl arrFe (Keep.row hb r_t14 (cont1 (Ne.symm n_t6_t14))) (by omega) (fun i hi => by rw [Nat.zero_add])) ?_
      simp only [Act.put, List.setIfInBounds_toArray, List.set_cons_zero, List.set_cons_succ]
      refine lintz_pure 60 (Op.load 34 (Operand.tmp 7)) 34 (.agg (arrOf 16 (feF (mulP Z T)))) rfl rfl rfl rfl rfl (fun w0 hb => by exact exec_load_as _ _ _ _ (feF (mulP Z T)) rfl arrFe (Keep.row hb r_t7 (cont1 (Ne.symm n_t6_t7))) (by omega) (fun i hi => by rw [Nat.zero_add])) ?_
      simp only [Act.put, List.setIfInBounds_toArray, List.set_cons_zero, List.set_cons_succ]
      refine lintz_pure 61 (Op.load 34 (Operand.tmp 13)) 34 (.agg (arrOf 16 (feF (addP (mulP (mulP Z T) (mulP Z T)) (mulP D (mulP (mulP X V) (mulP Y Q))))))) rfl rfl rfl rfl rfl (fun w0 hb => by exact exec_load_as _ _ _ _ (feF (addP (mulP (mulP Z T) (mulP Z T)) (mulP D (mulP (mulP X V) (mulP Y Q))))) rfl arrFe (Keep.row hb r_t13 (cont1 (Ne.symm n_t6_t13))) (by omega) (fun i hi => by rw [Nat.zero_add])) ?_
      simp only [Act.put, List.setIfInBounds_toArray, List.set_cons_zero, List.set_cons_succ]
      refine lintz_pure 63 (Op.load 34 (Operand.tmp 10)) 34 (.agg (arrOf 16 (feF (mulP Y Q)))) rfl rfl rfl rfl rfl (fun w0 hb => by exact exec_load_as _ _ _ _ (feF (mulP Y Q)) rfl arrFe (Keep.row hb r_t10 (cont1 (Ne.symm n_t6_t10))) (by omega) (fun i hi => by rw [Nat.zero_add])) ?_
      simp only [Act.put, List.setIfInBounds_toArray, List.set_cons_zero, List.set_cons_succ]
      refine lintz_pure 64 (Op.load 34 (Operand.tmp 9)) 34 (.agg (arrOf 16 (feF (mulP X V)))) rfl rfl rfl rfl rfl (fun w0 hb => by exact exec_load_as _ _ _ _ (feF (mulP X V)) rfl arrFe (Keep.row hb r_t9 (cont1 (Ne.symm n_t6_t9))) (by omega) (fun i hi => by rw [Nat.zero_add])) ?_
      simp only [Act.put, List.setIfInBounds_toArray, List.set_cons_zero, List.set_cons_succ]
      refine lintz_pure 67 (Op.load 34 (Operand.tmp 12)) 34 (.agg (arrOf 16 (feF (subP p25 (mulP (mulP Z T) (mulP Z T)) (mulP D (mulP (mulP X V) (mulP Y Q))))))) rfl rfl rfl rfl rfl (fun w0 hb => by exact exec_load_as _ _ _ _ (feF (subP p25 (mulP (mulP Z T) (mulP Z T)) (mulP D (mulP (mulP X V) (mulP Y Q))))) rfl arrFe (Keep.row hb r_t12 (cont1 (Ne.symm n_t6_t12))) (by omega) (fun i hi => by rw [Nat.zero_add])) ?_
      simp only [Act.put, List.setIfInBounds_toArray, List.set_cons_zero, List.set_cons_succ]
      refine lintz_pure 68 (Op.load 34 (Operand.tmp 13)) 34 (.agg (arrOf 16 (feF (addP (mulP (mulP Z T) (mulP Z T)) (mulP D (mulP (mulP X V) (mulP Y Q))))))) rfl rfl rfl rfl rfl (fun w0 hb => by exact exec_load_as _ _ _ _ (feF (addP (mulP (mulP Z T) (mulP Z T)) (mulP D (mulP (mulP X V) (mulP Y Q))))) rfl arrFe (Keep.row hb r_t13 (cont1 (Ne.symm n_t6_t13))) (by omega) (fun i hi => by rw [Nat.zero_add])) ?_
      simp only [Act.put, List.setIfInBounds_toArray, List.set_cons_zero, List.set_cons_succ]
      refine lintz_leaf ?_
      have HWF : poWf [.val (.agg (arrOf 16 (feF (mulP (mulP Z T) (subP p25 (mulP (mulP Z T) (mulP Z T)) (mulP D (mulP (mulP X V) (mulP Y Q)))))))), .val (.agg (arrOf 16 (feF (mulP (mulP (mulP Z T) (subP p25 (mulP (mulP Z T) (mulP Z T)) (mulP D (mulP (mulP X V) (mulP Y Q))))) (addP (mulP X Q) (mulP V Y)))))), .val (.agg (arrOf 16 (feF (mulP (mulP Z T) (addP (mulP (mulP Z T) (mulP Z T)) (mulP D (mulP (mulP X V) (mulP Y Q)))))))), .val (.agg (arrOf 16 (feF (addP (mulP Y Q) (mulP X V))))), .val (.agg (arrOf 16 (feF (mulP (mulP (mulP Z T) (addP (mulP (mulP Z T) (mulP Z T)) (mulP D (mulP (mulP X V) (mulP Y Q))))) (addP (mulP Y Q) (mulP X V)))))), .val (.agg (arrOf 16 (feF (mulP (subP p25 (mulP (mulP Z T) (mulP Z T)) (mulP D (mulP (mulP X V) (mulP Y Q)))) (addP (mulP (mulP Z T) (mulP Z T)) (mulP D (mulP (mulP X V) (mulP Y Q)))))))), .val (.agg (arrOf 48 (ptF (mulP (mulP (mulP Z T) (subP p25 (mulP (mulP Z T) (mulP Z T)) (mulP D (mulP (mulP X V) (mulP Y Q))))) (addP (mulP X Q) (mulP V Y))) (mulP (mulP (mulP Z T) (addP (mulP (mulP Z T) (mulP Z T)) (mulP D (mulP (mulP X V) (mulP Y Q))))) (addP (mulP Y Q) (mulP X V))) (mulP (subP p25 (mulP (mulP Z T) (mulP Z T)) (mulP D (mulP (mulP X V) (mulP Y Q)))) (addP (mulP (mulP Z T) (mulP Z T)) (mulP D (mulP (mulP X V) (mulP Y Q)))))))), .nil] [⟨b_t6, 36, 48, (u64f fun _ => 0), 7, (ptF (mulP (mulP (mulP Z T) (subP p25 (mulP (mulP Z T) (mulP Z T)) (mulP D (mulP (mulP X V) (mulP Y Q))))) (addP (mulP X Q) (mulP V Y))) (mulP (mulP (mulP Z T) (addP (mulP (mulP Z T) (mulP Z T)) (mulP D (mulP (mulP X V) (mulP Y Q))))) (addP (mulP Y Q) (mulP X V))) (mulP (subP p25 (mulP (mulP Z T) (mulP Z T)) (mulP D (mulP (mulP X V) (mulP Y Q)))) (addP (mulP (mulP Z T) (mulP Z T)) (mulP D (mulP (mulP X V) (mulP Y Q))))))⟩] = true := by kernel_rfl
      refine ⟨JG [.val (.agg (arrOf 16 (feF (mulP (mulP Z T) (subP p25 (mulP (mulP Z T) (mulP Z T)) (mulP D (mulP (mulP X V) (mulP Y Q)))))))), .val (.agg (arrOf 16 (feF (mulP (mulP (mulP Z T) (subP p25 (mulP (mulP Z T) (mulP Z T)) (mulP D (mulP (mulP X V) (mulP Y Q))))) (addP (mulP X Q) (mulP V Y)))))), .val (.agg (arrOf 16 (feF (mulP (mulP Z T) (addP (mulP (mulP Z T) (mulP Z T)) (mulP D (mulP (mulP X V) (mulP Y Q)))))))), .val (.agg (arrOf 16 (feF (addP (mulP Y Q) (mulP X V))))), .val (.agg (arrOf 16 (feF (mulP (mulP (mulP Z T) (addP (mulP (mulP Z T) (mulP Z T)) (mulP D (mulP (mulP X V) (mulP Y Q))))) (addP (mulP Y Q) (mulP X V)))))), .val (.agg (arrOf 16 (feF (mulP (subP p25 (mulP (mulP Z T) (mulP Z T)) (mulP D (mulP (mulP X V) (mulP Y Q)))) (addP (mulP (mulP Z T) (mulP Z T)) (mulP D (mulP (mulP X V) (mulP Y Q)))))))), .val (.agg (arrOf 48 (ptF (mulP (mulP (mulP Z T) (subP p25 (mulP (mulP Z T) (mulP Z T)) (mulP D (mulP (mulP X V) (mulP Y Q))))) (addP (mulP X Q) (mulP V Y))) (mulP (mulP (mulP Z T) (addP (mulP (mulP Z T) (mulP Z T)) (mulP D (mulP (mulP X V) (mulP Y Q))))) (addP (mulP Y Q) (mulP X V))) (mulP (subP p25 (mulP (mulP Z T) (mulP Z T)) (mulP D (mulP (mulP X V) (mulP Y Q)))) (addP (mulP (mulP Z T) (mulP Z T)) (mulP D (mulP (mulP X V) (mulP Y Q)))))))), .nil] [⟨b_t6, 36, 48, (u64f fun _ => 0), 7, (ptF (mulP (mulP (mulP Z T) (subP p25 (mulP (mulP Z T) (mulP Z T)) (mulP D (mulP (mulP X V) (mulP Y Q))))) (addP (mulP X Q) (mulP V Y))) (mulP (mulP (mulP Z T) (addP (mulP (mulP Z T) (mulP Z T)) (mulP D (mulP (mulP X V) (mulP Y Q))))) (addP (mulP Y Q) (mulP X V))) (mulP (subP p25 (mulP (mulP Z T) (mulP Z T)) (mulP D (mulP (mulP X V) (mulP Y Q)))) (addP (mulP (mulP Z T) (mulP Z T)) (mulP D (mulP (mulP X V) (mulP Y Q))))))⟩] _, JG.start (Nat.le_refl _) (fun i hi => by obtain rfl : i = 0 := by { have h9 : i < 1 := hi; omega }; exact r_t6), fun m gz wa p az hp hm hmp hcl hdn hE hJ hS hO => ?_, fun gz wa hE hJ => ?_⟩
      · rcases (show p = 0 ∨ p = 1 ∨ p = 2 ∨ p = 3 ∨ p = 4 ∨ p = 5 ∨ p = 6 ∨ p = 7 by have h9 : p < 8 := hp; omega) with rfl | rfl | rfl | rfl | rfl | rfl | rfl | rfl
        · have e55 : az.eval (.tmp 55) = .agg (arrOf 16 (feF (mulP Z T))) := hO 55 rfl
          have e56 : az.eval (.tmp 56) = .agg (arrOf 16 (feF (subP p25 (mulP (mulP Z T) (mulP Z T)) (mulP D (mulP (mulP X V) (mulP Y Q)))))) := hO 56 rfl
          exact po_call 57 44 #[Operand.tmp 55, Operand.tmp 56] #[34, 34] _ HWF hJ rfl hE (refMul5_any (mulP Z T) (subP p25 (mulP (mulP Z T) (mulP Z T)) (mulP D (mulP (mulP X V) (mulP Y Q)))) _ (mulP_lt _ _) (subP_lt _ _)) rfl rfl rfl rfl rfl Try.func44 (by kernel_rfl) (by kernel_rfl) (by simp only [List.map_toArray, List.map_cons, List.map_nil, eval_const, eval_func, e55, e56] <;> rfl)
        · have e57 := (hS 0 57 rfl (hdn 0 (by decide)) (Nat.le_of_ble_eq_true rfl)).trans (hJ.says (hdn 0 (by decide)) rfl)
          have e58 : az.eval (.tmp 58) = .agg (arrOf 16 (feF (addP (mulP X Q) (mulP V Y)))) := hO 58 rfl
          exact po_call 59 44 #[Operand.tmp 57, Operand.tmp 58] #[34, 34] _ HWF hJ rfl hE (refMul5_any (mulP (mulP Z T) (subP p25 (mulP (mulP Z T) (mulP Z T)) (mulP D (mulP (mulP X V) (mulP Y Q))))) (addP (mulP X Q) (mulP V Y)) _ (mulP_lt _ _) (addP_lt _ _)) rfl rfl rfl rfl rfl Try.func44 (by kernel_rfl) (by kernel_rfl) (by simp only [List.map_toArray, List.map_cons, List.map_nil, eval_const, eval_func, e57, e58] <;> rfl)
        · have e60 : az.eval (.tmp 60) = .agg (arrOf 16 (feF (mulP Z T))) := hO 60 rfl
          have e61 : az.eval (.tmp 61) = .agg (arrOf 16 (feF (addP (mulP (mulP Z T) (mulP Z T)) (mulP D (mulP (mulP X V) (mulP Y Q)))))) := hO 61 rfl
          exact po_call 62 44 #[Operand.tmp 60, Operand.tmp 61] #[34, 34] _ HWF hJ rfl hE (refMul5_any (mulP Z T) (addP (mulP (mulP Z T) (mulP Z T)) (mulP D (mulP (mulP X V) (mulP Y Q)))) _ (mulP_lt _ _) (addP_lt _ _)) rfl rfl rfl rfl rfl Try.func44 (by kernel_rfl) (by kernel_rfl) (by simp only [List.map_toArray, List.map_cons, List.map_nil, eval_const, eval_func, e60, e61] <;> rfl)
        · have e63 : az.eval (.tmp 63) = .agg (arrOf 16 (feF (mulP Y Q))) := hO 63 rfl
          have e64 : az.eval (.tmp 64) = .agg (arrOf 16 (feF (mulP X V))) := hO 64 rfl
          exact po_call 65 48 #[Operand.tmp 63, Operand.tmp 64] #[34, 34] _ HWF hJ rfl hE (refAdd5_any (mulP Y Q) (mulP X V) _ (mulP_lt _ _) (mulP_lt _ _)) rfl rfl rfl rfl rfl Try.func48 (by kernel_rfl) (by kernel_rfl) (by simp only [List.map_toArray, List.map_cons, List.map_nil, eval_const, eval_func, e63, e64] <;> rfl)
        · have e62 := (hS 2 62 rfl (hdn 2 (by decide)) (Nat.le_of_ble_eq_true rfl)).trans (hJ.says (hdn 2 (by decide)) rfl)
          have e65 := (hS 3 65 rfl (hdn 3 (by decide)) (Nat.le_of_ble_eq_true rfl)).trans (hJ.says (hdn 3 (by decide)) rfl)
          exact po_call 66 44 #[Operand.tmp 62, Operand.tmp 65] #[34, 34] _ HWF hJ rfl hE (refMul5_any (mulP (mulP Z T) (addP (mulP (mulP Z T) (mulP Z T)) (mulP D (mulP (mulP X V) (mulP Y Q))))) (addP (mulP Y Q) (mulP X V)) _ (mulP_lt _ _) (addP_lt _ _)) rfl rfl rfl rfl rfl Try.func44 (by kernel_rfl) (by kernel_rfl) (by simp only [List.map_toArray, List.map_cons, List.map_nil, eval_const, eval_func, e62, e65] <;> rfl)
        · have e67 : az.eval (.tmp 67) = .agg (arrOf 16 (feF (subP p25 (mulP (mulP Z T) (mulP Z T)) (mulP D (mulP (mulP X V) (mulP Y Q)))))) := hO 67 rfl
          have e68 : az.eval (.tmp 68) = .agg (arrOf 16 (feF (addP (mulP (mulP Z T) (mulP Z T)) (mulP D (mulP (mulP X V) (mulP Y Q)))))) := hO 68 rfl
          exact po_call 69 44 #[Operand.tmp 67, Operand.tmp 68] #[34, 34] _ HWF hJ rfl hE (refMul5_any (subP p25 (mulP (mulP Z T) (mulP Z T)) (mulP D (mulP (mulP X V) (mulP Y Q)))) (addP (mulP (mulP Z T) (mulP Z T)) (mulP D (mulP (mulP X V) (mulP Y Q)))) _ (subP_lt _ _) (addP_lt _ _)) rfl rfl rfl rfl rfl Try.func44 (by kernel_rfl) (by kernel_rfl) (by simp only [List.map_toArray, List.map_cons, List.map_nil, eval_const, eval_func, e67, e68] <;> rfl)
        · have e59 := (hS 1 59 rfl (hdn 1 (by decide)) (Nat.le_of_ble_eq_true rfl)).trans (hJ.says (hdn 1 (by decide)) rfl)
          have e66 := (hS 4 66 rfl (hdn 4 (by decide)) (Nat.le_of_ble_eq_true rfl)).trans (hJ.says (hdn 4 (by decide)) rfl)
          have e69 := (hS 5 69 rfl (hdn 5 (by decide)) (Nat.le_of_ble_eq_true rfl)).trans (hJ.says (hdn 5 (by decide)) rfl)
          exact po_run 70 (Op.build 36 #[(0, Operand.tmp 59), (1, Operand.tmp 66), (2, Operand.tmp 69)]) _ HWF hJ rfl hE rfl rfl rfl rfl rfl rfl (exec_build_as _ _ _ (by simp only [List.map_toArray, List.map_cons, List.map_nil, e59, e66, e69]; exact builtP (mulP (mulP (mulP Z T) (subP p25 (mulP (mulP Z T) (mulP Z T)) (mulP D (mulP (mulP X V) (mulP Y Q))))) (addP (mulP X Q) (mulP V Y))) (mulP (mulP (mulP Z T) (addP (mulP (mulP Z T) (mulP Z T)) (mulP D (mulP (mulP X V) (mulP Y Q))))) (addP (mulP Y Q) (mulP X V))) (mulP (subP p25 (mulP (mulP Z T) (mulP Z T)) (mulP D (mulP (mulP X V) (mulP Y Q)))) (addP (mulP (mulP Z T) (mulP Z T)) (mulP D (mulP (mulP X V) (mulP Y Q)))))))
        · have e70 := (hS 6 70 rfl (hdn 6 (by decide)) (Nat.le_of_ble_eq_true rfl)).trans (hJ.says (hdn 6 (by decide)) rfl)
          exact po_storeOld 0 (.tmp 6) (.tmp 70) 36 b_t6 48 _ (by rw [hm]; exact hp) hmp hJ rfl (show 0 < 1 by decide) rfl rfl rfl rfl rfl (World.rowIs.lt r_t6) (by simp) (by kernel_rfl) po_ne1 hE rfl rfl rfl rfl rfl (hO 6 rfl) e70 arrP (fun j _ => ptF_one _ _ _ j)
      · have q0 := hJ.told 0 (by decide) rfl
        have q1 := hJ.told 1 (by decide) rfl
        have q2 := hJ.told 2 (by decide) rfl
        have q3 := hJ.told 3 (by decide) rfl
        have q4 := hJ.told 4 (by decide) rfl
        have q5 := hJ.told 5 (by decide) rfl
        have q6 := hJ.told 6 (by decide) rfl
        show PoEnd _ (Act.put (Act.put (Act.put (Act.put (Act.put (Act.put (Act.put (Act.put _ (some 57) (gz 0)) (some 59) (gz 1)) (some 62) (gz 2)) (some 65) (gz 3)) (some 66) (gz 4)) (some 69) (gz 5)) (some 70) (gz 6)) none (gz 7)) wa
        rw [q0, q1, q2, q3, q4, q5, q6]
        simp only [Act.put, List.setIfInBounds_toArray, List.set_cons_zero, List.set_cons_succ]
        refine po_end ?_
        replace r_t3 := Keep.row hE r_t3 (cont1 n_t3_t6)
        replace r_t4 := Keep.row hE r_t4 (cont1 n_t4_t6)
        replace r_t5 := Keep.row hE r_t5 (cont1 n_t5_t6)
        replace r_t6 : wa.rowIs b_t6 36 48 (ptF (mulP (mulP (mulP Z T) (subP p25 (mulP (mulP Z T) (mulP Z T)) (mulP D (mulP (mulP X V) (mulP Y Q))))) (addP (mulP X Q) (mulP V Y))) (mulP (mulP (mulP Z T) (addP (mulP (mulP Z T) (mulP Z T)) (mulP D (mulP (mulP X V) (mulP Y Q))))) (addP (mulP Y Q) (mulP X V))) (mulP (subP p25 (mulP (mulP Z T) (mulP Z T)) (mulP D (mulP (mulP X V) (mulP Y Q)))) (addP (mulP (mulP Z T) (mulP Z T)) (mulP D (mulP (mulP X V) (mulP Y Q)))))) := hJ.old 0 (show 0 < 1 by decide) (show 7 < 8 by decide)
        replace r_t7 := Keep.row hE r_t7 (cont1 (Ne.symm n_t6_t7))
        replace r_t8 := Keep.row hE r_t8 (cont1 (Ne.symm n_t6_t8))
        replace r_t9 := Keep.row hE r_t9 (cont1 (Ne.symm n_t6_t9))
        replace r_t10 := Keep.row hE r_t10 (cont1 (Ne.symm n_t6_t10))
        replace r_t11 := Keep.row hE r_t11 (cont1 (Ne.symm n_t6_t11))
        replace r_t12 := Keep.row hE r_t12 (cont1 (Ne.symm n_t6_t12))
        replace r_t13 := Keep.row hE r_t13 (cont1 (Ne.symm n_t6_t13))
        replace r_t14 := Keep.row hE r_t14 (cont1 (Ne.symm n_t6_t14))
        have Bw40 := hE.below Bw39 (HGS.out _ Bw39) (keep_all1 l_t6)
        clear Bw39 hE hJ HWF q0 q1 q2 q3 q4 q5 q6
        go_wp2
        exact ret_cell_as _ rfl arrP r_t6 rfl (by omega) (fun _ _ => rfl) rfl ⟨rfl, Bw40⟩
theorem refPadd_v (D X Y Z V Q T : Nat) (w : World) {x y z : Nat} (h : padd D (X, Y, Z) (V, Q, T) = (x, y, z)) (HD : D < p25) (HX : X < p25) (HY : Y < p25) (HZ : Z < p25) (HV : V < p25) (HQ : Q < p25) (HT : T < p25) :
    Calls Try.prog 58 #[.agg (arrOf 48 (ptF X Y Z)), .agg (arrOf 48 (ptF V Q T)), .agg (arrOf 16 (feF D))] w fun e w' => e = .returned (.agg (arrOf 48 (ptF x y z))) ∧ Below w.heap.size w w' := by
  have g := refPadd_any X Y Z V Q T D w HX HY HZ HV HQ HT HD
  rw [h] at g
  exact g
theorem padd_vlt {D : Nat} {a b : Nat × Nat × Nat} {x y z : Nat} (h : padd D a b = (x, y, z)) : x < p25 ∧ y < p25 ∧ z < p25 := by
  have g := padd_lt D a b
  rw [h] at g
  exact g
set_option maxHeartbeats 4000000 in
set_option maxRecDepth 10000 in
theorem refSame_any (X Y Z V Q T : Nat) (w : World) (HX : X < p25) (HY : Y < p25) (HZ : Z < p25) (HV : V < p25) (HQ : Q < p25) (HT : T < p25) : Calls Try.prog 27 #[.agg (arrOf 48 (ptF X Y Z)), .agg (arrOf 48 (ptF V Q T))] w fun e w' => e = .returned (.bool (pSame (X, Y, Z) (V, Q, T))) ∧ Below w.heap.size w w' := by
  have Bw0 := Below.refl w.heap.size w
  have HGS : Hid (∀ wq : World, Below w.heap.size w wq → w.heap.size ≤ wq.heap.size) := Lib.hid fun wq h => h.size
  replace HX := Lib.hid HX
  replace HY := Lib.hid HY
  replace HZ := Lib.hid HZ
  replace HV := Lib.hid HV
  replace HQ := Lib.hid HQ
  replace HT := Lib.hid HT
  unfold pSame
  dsimp only
  by_cases h1 : mulP X T = mulP V Z
  · have H1 := Lib.hid h1
    by_cases h2 : mulP Y T = mulP Q Z
    · have H2 := Lib.hid h2
      rw [decide_eq_true h1, decide_eq_true h2]
      clear h1 h2
      go_enter Try.func27, Try.ntmps27
      go_wp2_with (first
        | (have hgo := Bw0; clear hgo
           refine wpList_box_row rfl 36 (.tmp 0) rfl 48 (ptF X Y Z) rfl ?_
           intro b_t2 w1 lk r_t2 kk
           have l_t2 := Nat.le_trans (HGS.out _ Bw0) lk
           have Bw1 := Bw0.trans (kk.mono (HGS.out _ Bw0))
           clear Bw0 kk lk)
        | (have hgo := Bw1; clear hgo
           refine wpList_box_row rfl 36 (.tmp 1) rfl 48 (ptF V Q T) rfl ?_
           intro b_t3 w2 lk r_t3 kk
           have n_t2_t3 : b_t2 ≠ b_t3 := Nat.ne_of_lt (Nat.lt_of_lt_of_le (World.rowIs.lt r_t2) lk)
           have l_t3 := Nat.le_trans (HGS.out _ Bw1) lk
           replace r_t2 := World.rowIs.of_block r_t2 (kk.block _ (World.rowIs.lt r_t2))
           have Bw2 := Bw1.trans (kk.mono (HGS.out _ Bw1))
           clear Bw1 kk lk))
      have Bw3 := Bw2.drew
      replace r_t2 := World.rowIs.drew r_t2
      replace r_t3 := World.rowIs.drew r_t3
      clear Bw2
      refine wp_region_po (Keep []) (Keep.refl _) (fun _ _ _ h1 h2 => h1.trans h2) (.rd 0 (.rd 1 (.rd 2 (.rd 3 (.rd 5 (.rd 6 (.rd 7 (.rd 8 .done)))))))) #[true, true, true, true, false, true, true, true, true, false, false, false, false, false, false, false, false, false, false, false, false, false, false, false, false] [4, 9, 10, 11, 12, 13, 14, 15, 16, 17, 18, 19, 20, 21, 22, 23, 24] [some 9, some 14, some 15, some 16, some 17, some 18, some 19, some 20, some 21, some 22, some 23, some 24, some 25, some 26, some 27, some 28, some 4] [[], [0], [0, 1], [1, 2], [3], [3, 4], [3], [3, 6], [3, 5, 7], [3], [3, 9], [3], [3, 11], [3, 8, 10, 12], [3, 8, 13], [3, 14], [0, 1, 2, 3, 4, 5, 6, 7, 8, 9, 10, 11, 12, 13, 14, 15]] [(0, []), (1, [0]), (2, []), (3, [2]), (4, [1, 3]), (5, []), (6, [5]), (7, []), (8, [7]), (9, [6, 8, 4]), (10, [4, 9]), (11, [10, 9]), (12, [11]), (13, [12, 11]), (14, [11]), (15, [14, 11]), (16, [13, 15, 11, 11]), (17, [11]), (18, [17, 11]), (19, [11]), (20, [19, 11]), (21, [18, 20, 16, 11]), (22, [16, 21, 11]), (23, [11, 22]), (24, [23, 21, 0, 1, 2, 3, 4, 5, 6, 7, 8, 9, 10, 11, 12, 13, 14, 15, 16, 17, 18, 19, 20, 21, 22, 23])] 495 (by kernel_rfl) (by kernel_rfl) (by decide) (by kernel_rfl) (by kernel_rfl) (by kernel_rfl) rfl (fun d _ _ _ _ h => by cases d <;> exact h) ?_
      refine lintz_pure 5 (Op.fieldAddr 36 (Operand.tmp 2) 0) 0 (.pointer (some ⟨b_t2, 0, none⟩)) rfl rfl rfl rfl rfl (fun w0 hb => by unfold mkOp; go_simp; all_goals (with_reducible rfl)) ?_
      simp only [Act.put, List.setIfInBounds_toArray, List.set_cons_zero, List.set_cons_succ]
      refine lintz_pure 6 (Op.load 34 (Operand.tmp 5)) 34 (.agg (arrOf 16 (feF X))) rfl rfl rfl rfl rfl (fun w0 hb => by exact exec_load_as _ _ _ _ (feF X) rfl arrFe (Keep.row hb r_t2 rfl) (by omega) (fun i hi => ptF_x _ _ _ i hi)) ?_
      simp only [Act.put, List.setIfInBounds_toArray, List.set_cons_zero, List.set_cons_succ]
      refine lintz_pure 7 (Op.fieldAddr 36 (Operand.tmp 3) 2) 0 (.pointer (some ⟨b_t3, 32, none⟩)) rfl rfl rfl rfl rfl (fun w0 hb => by unfold mkOp; go_simp; all_goals (with_reducible rfl)) ?_
      simp only [Act.put, List.setIfInBounds_toArray, List.set_cons_zero, List.set_cons_succ]
      refine lintz_pure 8 (Op.load 34 (Operand.tmp 7)) 34 (.agg (arrOf 16 (feF T))) rfl rfl rfl rfl rfl (fun w0 hb => by exact exec_load_as _ _ _ _ (feF T) rfl arrFe (Keep.row hb r_t3 rfl) (by omega) (fun i hi => ptF_z _ _ _ i hi)) ?_
      simp only [Act.put, List.setIfInBounds_toArray, List.set_cons_zero, List.set_cons_succ]
      refine lintz_pure 10 (Op.fieldAddr 36 (Operand.tmp 3) 0) 0 (.pointer (some ⟨b_t3, 0, none⟩)) rfl rfl rfl rfl rfl (fun w0 hb => by unfold mkOp; go_simp; all_goals (with_reducible rfl)) ?_
      simp only [Act.put, List.setIfInBounds_toArray, List.set_cons_zero, List.set_cons_succ]
      refine lintz_pure 11 (Op.load 34 (Operand.tmp 10)) 34 (.agg (arrOf 16 (feF V))) rfl rfl rfl rfl rfl (fun w0 hb => by exact exec_load_as _ _ _ _ (feF V) rfl arrFe (Keep.row hb r_t3 rfl) (by omega) (fun i hi => ptF_x _ _ _ i hi)) ?_
      simp only [Act.put, List.setIfInBounds_toArray, List.set_cons_zero, List.set_cons_succ]
      refine lintz_pure 12 (Op.fieldAddr 36 (Operand.tmp 2) 2) 0 (.pointer (some ⟨b_t2, 32, none⟩)) rfl rfl rfl rfl rfl (fun w0 hb => by unfold mkOp; go_simp; all_goals (with_reducible rfl)) ?_
      simp only [Act.put, List.setIfInBounds_toArray, List.set_cons_zero, List.set_cons_succ]
      refine lintz_pure 13 (Op.load 34 (Operand.tmp 12)) 34 (.agg (arrOf 16 (feF Z))) rfl rfl rfl rfl rfl (fun w0 hb => by exact exec_load_as _ _ _ _ (feF Z) rfl arrFe (Keep.row hb r_t2 rfl) (by omega) (fun i hi => ptF_z _ _ _ i hi)) ?_
      simp only [Act.put, List.setIfInBounds_toArray, List.set_cons_zero, List.set_cons_succ]
      refine lintz_leaf ?_
      have HWF : poWf [.val (.agg (arrOf 16 (feF (mulP X T)))), .val (.agg (arrOf 16 (feF (mulP V Z)))), .val (.bool true), .val (.bool true), .val (.pointer (some ⟨b_t2, 16, none⟩)), .val (.agg (arrOf 16 (feF Y))), .val (.pointer (some ⟨b_t3, 32, none⟩)), .val (.agg (arrOf 16 (feF T))), .val (.agg (arrOf 16 (feF (mulP Y T)))), .val (.pointer (some ⟨b_t3, 16, none⟩)), .val (.agg (arrOf 16 (feF Q))), .val (.pointer (some ⟨b_t2, 32, none⟩)), .val (.agg (arrOf 16 (feF Z))), .val (.agg (arrOf 16 (feF (mulP Q Z)))), .val (.bool true), .val (.bool true), .val (.bool true)] [] = true := by kernel_rfl
      refine ⟨JG [.val (.agg (arrOf 16 (feF (mulP X T)))), .val (.agg (arrOf 16 (feF (mulP V Z)))), .val (.bool true), .val (.bool true), .val (.pointer (some ⟨b_t2, 16, none⟩)), .val (.agg (arrOf 16 (feF Y))), .val (.pointer (some ⟨b_t3, 32, none⟩)), .val (.agg (arrOf 16 (feF T))), .val (.agg (arrOf 16 (feF (mulP Y T)))), .val (.pointer (some ⟨b_t3, 16, none⟩)), .val (.agg (arrOf 16 (feF Q))), .val (.pointer (some ⟨b_t2, 32, none⟩)), .val (.agg (arrOf 16 (feF Z))), .val (.agg (arrOf 16 (feF (mulP Q Z)))), .val (.bool true), .val (.bool true), .val (.bool true)] [] _, JG.start (Nat.le_refl _) (fun i hi => absurd hi (Nat.not_lt_zero _)), fun m gz wa p az hp hm hmp hcl hdn hE hJ hS hO => ?_, fun gz wa hE hJ => ?_⟩
      · rcases (show p = 0 ∨ p = 1 ∨ p = 2 ∨ p = 3 ∨ p = 4 ∨ p = 5 ∨ p = 6 ∨ p = 7 ∨ p = 8 ∨ p = 9 ∨ p = 10 ∨ p = 11 ∨ p = 12 ∨ p = 13 ∨ p = 14 ∨ p = 15 ∨ p = 16 by have h9 : p < 17 := hp; omega) with rfl | rfl | rfl | rfl | rfl | rfl | rfl | rfl | rfl | rfl | rfl | rfl | rfl | rfl | rfl | rfl | rfl
        · have e6 : az.eval (.tmp 6) = .agg (arrOf 16 (feF X)) := hO 6 rfl
          have e8 : az.eval (.tmp 8) = .agg (arrOf 16 (feF T)) := hO 8 rfl
          exact po_call 9 44 #[Operand.tmp 6, Operand.tmp 8] #[34, 34] _ HWF hJ rfl hE (refMul5_any X T _ HX.out HT.out) rfl rfl rfl rfl rfl Try.func44 (by kernel_rfl) (by kernel_rfl) (by simp only [List.map_toArray, List.map_cons, List.map_nil, eval_const, eval_func, e6, e8] <;> rfl)
        · have e11 : az.eval (.tmp 11) = .agg (arrOf 16 (feF V)) := hO 11 rfl
          have e13 : az.eval (.tmp 13) = .agg (arrOf 16 (feF Z)) := hO 13 rfl
          exact po_call 14 44 #[Operand.tmp 11, Operand.tmp 13] #[34, 34] _ HWF hJ rfl hE (refMul5_any V Z _ HV.out HZ.out) rfl rfl rfl rfl rfl Try.func44 (by kernel_rfl) (by kernel_rfl) (by simp only [List.map_toArray, List.map_cons, List.map_nil, eval_const, eval_func, e11, e13] <;> rfl)
        · have e9 := (hS 0 9 rfl (hdn 0 (by decide)) (Nat.le_of_ble_eq_true rfl)).trans (hJ.says (hdn 0 (by decide)) rfl)
          have e14 := (hS 1 14 rfl (hdn 1 (by decide)) (Nat.le_of_ble_eq_true rfl)).trans (hJ.says (hdn 1 (by decide)) rfl)
          exact po_run 15 (Op.binOp BinOp.eql 34 (Operand.tmp 9) (Operand.tmp 14) 34) _ HWF hJ rfl hE rfl rfl rfl rfl rfl rfl (exec_Fe_eq2 _ _ _ _ (mulP_lt _ _) (mulP_lt _ _) (decide_eq_true H1.out) e9 e14)
        · have e15 := (hS 2 15 rfl (hdn 2 (by decide)) (Nat.le_of_ble_eq_true rfl)).trans (hJ.says (hdn 2 (by decide)) rfl)
          exact po_run 16 (Op.move (Operand.tmp 15)) _ HWF hJ rfl hE rfl rfl rfl rfl rfl rfl (by first | (simp only [execOp, mkOp, eval_const, e15]; done) | (simp only [execOp, mkOp, eval_const, e15]; go_simp))
        · have e16 := (hS 3 16 rfl (hdn 3 (by decide)) (Nat.le_of_ble_eq_true rfl)).trans (hJ.says (hdn 3 (by decide)) rfl)
          have e2 : az.eval (.tmp 2) = .pointer (some ⟨b_t2, 0, none⟩) := hO 2 rfl
          exact po_run 17 (Op.fieldAddr 36 (Operand.tmp 2) 1) _ HWF hJ rfl hE rfl rfl rfl rfl rfl (wanted_of rfl rfl e16) (by first | (simp only [execOp, mkOp, eval_const, e2]; done) | (simp only [execOp, mkOp, eval_const, e2]; go_simp))
        · have e16 := (hS 3 16 rfl (hdn 3 (by decide)) (Nat.le_of_ble_eq_true rfl)).trans (hJ.says (hdn 3 (by decide)) rfl)
          have e17 := (hS 4 17 rfl (hdn 4 (by decide)) (Nat.le_of_ble_eq_true rfl)).trans (hJ.says (hdn 4 (by decide)) rfl)
          exact po_run 18 (Op.load 34 (Operand.tmp 17)) _ HWF hJ rfl hE rfl rfl rfl rfl rfl (wanted_of rfl rfl e16) (exec_load_as _ _ _ _ (feF Y) e17 arrFe (Keep.row hE r_t2 rfl) (by omega) (fun i hi => ptF_y _ _ _ i hi))
        · have e16 := (hS 3 16 rfl (hdn 3 (by decide)) (Nat.le_of_ble_eq_true rfl)).trans (hJ.says (hdn 3 (by decide)) rfl)
          have e3 : az.eval (.tmp 3) = .pointer (some ⟨b_t3, 0, none⟩) := hO 3 rfl
          exact po_run 19 (Op.fieldAddr 36 (Operand.tmp 3) 2) _ HWF hJ rfl hE rfl rfl rfl rfl rfl (wanted_of rfl rfl e16) (by first | (simp only [execOp, mkOp, eval_const, e3]; done) | (simp only [execOp, mkOp, eval_const, e3]; go_simp))
        · have e16 := (hS 3 16 rfl (hdn 3 (by decide)) (Nat.le_of_ble_eq_true rfl)).trans (hJ.says (hdn 3 (by decide)) rfl)
          have e19 := (hS 6 19 rfl (hdn 6 (by decide)) (Nat.le_of_ble_eq_true rfl)).trans (hJ.says (hdn 6 (by decide)) rfl)
          exact po_run 20 (Op.load 34 (Operand.tmp 19)) _ HWF hJ rfl hE rfl rfl rfl rfl rfl (wanted_of rfl rfl e16) (exec_load_as _ _ _ _ (feF T) e19 arrFe (Keep.row hE r_t3 rfl) (by omega) (fun i hi => ptF_z _ _ _ i hi))
        · have e16 := (hS 3 16 rfl (hdn 3 (by decide)) (Nat.le_of_ble_eq_true rfl)).trans (hJ.says (hdn 3 (by decide)) rfl)
          have e18 := (hS 5 18 rfl (hdn 5 (by decide)) (Nat.le_of_ble_eq_true rfl)).trans (hJ.says (hdn 5 (by decide)) rfl)
          have e20 := (hS 7 20 rfl (hdn 7 (by decide)) (Nat.le_of_ble_eq_true rfl)).trans (hJ.says (hdn 7 (by decide)) rfl)
          exact po_call 21 44 #[Operand.tmp 18, Operand.tmp 20] #[34, 34] _ HWF hJ rfl hE (refMul5_any Y T _ HY.out HT.out) rfl rfl rfl rfl (wanted_of rfl rfl e16) Try.func44 (by kernel_rfl) (by kernel_rfl) (by simp only [List.map_toArray, List.map_cons, List.map_nil, eval_const, eval_func, e18, e20] <;> rfl)
        · have e16 := (hS 3 16 rfl (hdn 3 (by decide)) (Nat.le_of_ble_eq_true rfl)).trans (hJ.says (hdn 3 (by decide)) rfl)
          have e3 : az.eval (.tmp 3) = .pointer (some ⟨b_t3, 0, none⟩) := hO 3 rfl
          exact po_run 22 (Op.fieldAddr 36 (Operand.tmp 3) 1) _ HWF hJ rfl hE rfl rfl rfl rfl rfl (wanted_of rfl rfl e16) (by first | (simp only [execOp, mkOp, eval_const, e3]; done) | (simp only [execOp, mkOp, eval_const, e3]; go_simp))
        · have e16 := (hS 3 16 rfl (hdn 3 (by decide)) (Nat.le_of_ble_eq_true rfl)).trans (hJ.says (hdn 3 (by decide)) rfl)
          have e22 := (hS 9 22 rfl (hdn 9 (by decide)) (Nat.le_of_ble_eq_true rfl)).trans (hJ.says (hdn 9 (by decide)) rfl)
          exact po_run 23 (Op.load 34 (Operand.tmp 22)) _ HWF hJ rfl hE rfl rfl rfl rfl rfl (wanted_of rfl rfl e16) (exec_load_as _ _ _ _ (feF Q) e22 arrFe (Keep.row hE r_t3 rfl) (by omega) (fun i hi => ptF_y _ _ _ i hi))
        · have e16 := (hS 3 16 rfl (hdn 3 (by decide)) (Nat.le_of_ble_eq_true rfl)).trans (hJ.says (hdn 3 (by decide)) rfl)
          have e2 : az.eval (.tmp 2) = .pointer (some ⟨b_t2, 0, none⟩) := hO 2 rfl
          exact po_run 24 (Op.fieldAddr 36 (Operand.tmp 2) 2) _ HWF hJ rfl hE rfl rfl rfl rfl rfl (wanted_of rfl rfl e16) (by first | (simp only [execOp, mkOp, eval_const, e2]; done) | (simp only [execOp, mkOp, eval_const, e2]; go_simp))
        · have e16 := (hS 3 16 rfl (hdn 3 (by decide)) (Nat.le_of_ble_eq_true rfl)).trans (hJ.says (hdn 3 (by decide)) rfl)
          have e24 := (hS 11 24 rfl (hdn 11 (by decide)) (Nat.le_of_ble_eq_true rfl)).trans (hJ.says (hdn 11 (by decide)) rfl)
          exact po_run 25 (Op.load 34 (Operand.tmp 24)) _ HWF hJ rfl hE rfl rfl rfl rfl rfl (wanted_of rfl rfl e16) (exec_load_as _ _ _ _ (feF Z) e24 arrFe (Keep.row hE r_t2 rfl) (by omega) (fun i hi => ptF_z _ _ _ i hi))
        · have e16 := (hS 3 16 rfl (hdn 3 (by decide)) (Nat.le_of_ble_eq_true rfl)).trans (hJ.says (hdn 3 (by decide)) rfl)
          have e23 := (hS 10 23 rfl (hdn 10 (by decide)) (Nat.le_of_ble_eq_true rfl)).trans (hJ.says (hdn 10 (by decide)) rfl)
          have e25 := (hS 12 25 rfl (hdn 12 (by decide)) (Nat.le_of_ble_eq_true rfl)).trans (hJ.says (hdn 12 (by decide)) rfl)
          exact po_call 26 44 #[Operand.tmp 23, Operand.tmp 25] #[34, 34] _ HWF hJ rfl hE (refMul5_any Q Z _ HQ.out HZ.out) rfl rfl rfl rfl (wanted_of rfl rfl e16) Try.func44 (by kernel_rfl) (by kernel_rfl) (by simp only [List.map_toArray, List.map_cons, List.map_nil, eval_const, eval_func, e23, e25] <;> rfl)
        · have e16 := (hS 3 16 rfl (hdn 3 (by decide)) (Nat.le_of_ble_eq_true rfl)).trans (hJ.says (hdn 3 (by decide)) rfl)
          have e21 := (hS 8 21 rfl (hdn 8 (by decide)) (Nat.le_of_ble_eq_true rfl)).trans (hJ.says (hdn 8 (by decide)) rfl)
          have e26 := (hS 13 26 rfl (hdn 13 (by decide)) (Nat.le_of_ble_eq_true rfl)).trans (hJ.says (hdn 13 (by decide)) rfl)
          exact po_run 27 (Op.binOp BinOp.eql 34 (Operand.tmp 21) (Operand.tmp 26) 34) _ HWF hJ rfl hE rfl rfl rfl rfl rfl (wanted_of rfl rfl e16) (exec_Fe_eq2 _ _ _ _ (mulP_lt _ _) (mulP_lt _ _) (decide_eq_true H2.out) e21 e26)
        · have e16 := (hS 3 16 rfl (hdn 3 (by decide)) (Nat.le_of_ble_eq_true rfl)).trans (hJ.says (hdn 3 (by decide)) rfl)
          have e27 := (hS 14 27 rfl (hdn 14 (by decide)) (Nat.le_of_ble_eq_true rfl)).trans (hJ.says (hdn 14 (by decide)) rfl)
          exact po_run 28 (Op.pick (Operand.tmp 16) (Operand.tmp 27) (Operand.const (Value.bool false))) _ HWF hJ rfl hE rfl rfl rfl rfl rfl rfl (by first | (simp only [execOp, mkOp, eval_const, e16, e27]; done) | (simp only [execOp, mkOp, eval_const, e16, e27]; go_simp))
        · have e28 := (hS 15 28 rfl (hdn 15 (by decide)) (Nat.le_of_ble_eq_true rfl)).trans (hJ.says (hdn 15 (by decide)) rfl)
          exact po_run 4 (Op.assign (Operand.tmp 28)) _ HWF hJ rfl hE rfl rfl rfl rfl rfl rfl (by first | (simp only [execOp, mkOp, eval_const, e28]; done) | (simp only [execOp, mkOp, eval_const, e28]; go_simp))
      · have q0 := hJ.told 0 (by decide) rfl
        have q1 := hJ.told 1 (by decide) rfl
        have q2 := hJ.told 2 (by decide) rfl
        have q3 := hJ.told 3 (by decide) rfl
        have q4 := hJ.told 4 (by decide) rfl
        have q5 := hJ.told 5 (by decide) rfl
        have q6 := hJ.told 6 (by decide) rfl
        have q7 := hJ.told 7 (by decide) rfl
        have q8 := hJ.told 8 (by decide) rfl
        have q9 := hJ.told 9 (by decide) rfl
        have q10 := hJ.told 10 (by decide) rfl
        have q11 := hJ.told 11 (by decide) rfl
        have q12 := hJ.told 12 (by decide) rfl
        have q13 := hJ.told 13 (by decide) rfl
        have q14 := hJ.told 14 (by decide) rfl
        have q15 := hJ.told 15 (by decide) rfl
        have q16 := hJ.told 16 (by decide) rfl
        show PoEnd _ (Act.put (Act.put (Act.put (Act.put (Act.put (Act.put (Act.put (Act.put (Act.put (Act.put (Act.put (Act.put (Act.put (Act.put (Act.put (Act.put (Act.put _ (some 9) (gz 0)) (some 14) (gz 1)) (some 15) (gz 2)) (some 16) (gz 3)) (some 17) (gz 4)) (some 18) (gz 5)) (some 19) (gz 6)) (some 20) (gz 7)) (some 21) (gz 8)) (some 22) (gz 9)) (some 23) (gz 10)) (some 24) (gz 11)) (some 25) (gz 12)) (some 26) (gz 13)) (some 27) (gz 14)) (some 28) (gz 15)) (some 4) (gz 16)) wa
        rw [q0, q1, q2, q3, q4, q5, q6, q7, q8, q9, q10, q11, q12, q13, q14, q15, q16]
        simp only [Act.put, List.setIfInBounds_toArray, List.set_cons_zero, List.set_cons_succ]
        refine po_end ?_
        replace r_t2 := Keep.row hE r_t2 rfl
        replace r_t3 := Keep.row hE r_t3 rfl
        have Bw4 := hE.below Bw3 (HGS.out _ Bw3) rfl
        clear Bw3 hE hJ HWF q0 q1 q2 q3 q4 q5 q6 q7 q8 q9 q10 q11 q12 q13 q14 q15 q16
        go_wp2
        go_ret
        exact ⟨rfl, Bw4⟩
    · have H2 := Lib.hid h2
      rw [decide_eq_true h1, decide_eq_false h2]
      clear h1 h2
      go_enter Try.func27, Try.ntmps27
      go_wp2_with (first
        | (have hgo := Bw0; clear hgo
           refine wpList_box_row rfl 36 (.tmp 0) rfl 48 (ptF X Y Z) rfl ?_
           intro b_t2 w1 lk r_t2 kk
           have l_t2 := Nat.le_trans (HGS.out _ Bw0) lk
           have Bw1 := Bw0.trans (kk.mono (HGS.out _ Bw0))
           clear Bw0 kk lk)
        | (have hgo := Bw1; clear hgo
           refine wpList_box_row rfl 36 (.tmp 1) rfl 48 (ptF V Q T) rfl ?_
           intro b_t3 w2 lk r_t3 kk
           have n_t2_t3 : b_t2 ≠ b_t3 := Nat.ne_of_lt (Nat.lt_of_lt_of_le (World.rowIs.lt r_t2) lk)
           have l_t3 := Nat.le_trans (HGS.out _ Bw1) lk
           replace r_t2 := World.rowIs.of_block r_t2 (kk.block _ (World.rowIs.lt r_t2))
           have Bw2 := Bw1.trans (kk.mono (HGS.out _ Bw1))
           clear Bw1 kk lk))
      have Bw3 := Bw2.drew
      replace r_t2 := World.rowIs.drew r_t2
      replace r_t3 := World.rowIs.drew r_t3
      clear Bw2
      refine wp_region_po (Keep []) (Keep.refl _) (fun _ _ _ h1 h2 => h1.trans h2) (.rd 0 (.rd 1 (.rd 2 (.rd 3 (.rd 5 (.rd 6 (.rd 7 (.rd 8 .done)))))))) #[true, true, true, true, false, true, true, true, true, false, false, false, false, false, false, false, false, false, false, false, false, false, false, false, false] [4, 9, 10, 11, 12, 13, 14, 15, 16, 17, 18, 19, 20, 21, 22, 23, 24] [some 9, some 14, some 15, some 16, some 17, some 18, some 19, some 20, some 21, some 22, some 23, some 24, some 25, some 26, some 27, some 28, some 4] [[], [0], [0, 1], [1, 2], [3], [3, 4], [3], [3, 6], [3, 5, 7], [3], [3, 9], [3], [3, 11], [3, 8, 10, 12], [3, 8, 13], [3, 14], [0, 1, 2, 3, 4, 5, 6, 7, 8, 9, 10, 11, 12, 13, 14, 15]] [(0, []), (1, [0]), (2, []), (3, [2]), (4, [1, 3]), (5, []), (6, [5]), (7, []), (8, [7]), (9, [6, 8, 4]), (10, [4, 9]), (11, [10, 9]), (12, [11]), (13, [12, 11]), (14, [11]), (15, [14, 11]), (16, [13, 15, 11, 11]), (17, [11]), (18, [17, 11]), (19, [11]), (20, [19, 11]), (21, [18, 20, 16, 11]), (22, [16, 21, 11]), (23, [11, 22]), (24, [23, 21, 0, 1, 2, 3, 4, 5, 6, 7, 8, 9, 10, 11, 12, 13, 14, 15, 16, 17, 18, 19, 20, 21, 22, 23])] 495 (by kernel_rfl) (by kernel_rfl) (by decide) (by kernel_rfl) (by kernel_rfl) (by kernel_rfl) rfl (fun d _ _ _ _ h => by cases d <;> exact h) ?_
      refine lintz_pure 5 (Op.fieldAddr 36 (Operand.tmp 2) 0) 0 (.pointer (some ⟨b_t2, 0, none⟩)) rfl rfl rfl rfl rfl (fun w0 hb => by unfold mkOp; go_simp; all_goals (with_reducible rfl)) ?_
      simp only [Act.put, List.setIfInBounds_toArray, List.set_cons_zero, List.set_cons_succ]
      refine lintz_pure 6 (Op.load 34 (Operand.tmp 5)) 34 (.agg (arrOf 16 (feF X))) rfl rfl rfl rfl rfl (fun w0 hb => by exact exec_load_as _ _ _ _ (feF X) rfl arrFe (Keep.row hb r_t2 rfl) (by omega) (fun i hi => ptF_x _ _ _ i hi)) ?_
      simp only [Act.put, List.setIfInBounds_toArray, List.set_cons_zero, List.set_cons_succ]
      refine lintz_pure 7 (Op.fieldAddr 36 (Operand.tmp 3) 2) 0 (.pointer (some ⟨b_t3, 32, none⟩)) rfl rfl rfl rfl rfl (fun w0 hb => by unfold mkOp; go_simp; all_goals (with_reducible rfl)) ?_
      simp only [Act.put, List.setIfInBounds_toArray, List.set_cons_zero, List.set_cons_succ]
      refine lintz_pure 8 (Op.load 34 (Operand.tmp 7)) 34 (.agg (arrOf 16 (feF T))) rfl rfl rfl rfl rfl (fun w0 hb => by exact exec_load_as _ _ _ _ (feF T) rfl arrFe (Keep.row hb r_t3 rfl) (by omega) (fun i hi => ptF_z _ _ _ i hi)) ?_
      simp only [Act.put, List.setIfInBounds_toArray, List.set_cons_zero, List.set_cons_succ]
      refine lintz_pure 10 (Op.fieldAddr 36 (Operand.tmp 3) 0) 0 (.pointer (some ⟨b_t3, 0, none⟩)) rfl rfl rfl rfl rfl (fun w0 hb => by unfold mkOp; go_simp; all_goals (with_reducible rfl)) ?_
      simp only [Act.put, List.setIfInBounds_toArray, List.set_cons_zero, List.set_cons_succ]
      refine lintz_pure 11 (Op.load 34 (Operand.tmp 10)) 34 (.agg (arrOf 16 (feF V))) rfl rfl rfl rfl rfl (fun w0 hb => by exact exec_load_as _ _ _ _ (feF V) rfl arrFe (Keep.row hb r_t3 rfl) (by omega) (fun i hi => ptF_x _ _ _ i hi)) ?_
      simp only [Act.put, List.setIfInBounds_toArray, List.set_cons_zero, List.set_cons_succ]
      refine lintz_pure 12 (Op.fieldAddr 36 (Operand.tmp 2) 2) 0 (.pointer (some ⟨b_t2, 32, none⟩)) rfl rfl rfl rfl rfl (fun w0 hb => by unfold mkOp; go_simp; all_goals (with_reducible rfl)) ?_
      simp only [Act.put, List.setIfInBounds_toArray, List.set_cons_zero, List.set_cons_succ]
      refine lintz_pure 13 (Op.load 34 (Operand.tmp 12)) 34 (.agg (arrOf 16 (feF Z))) rfl rfl rfl rfl rfl (fun w0 hb => by exact exec_load_as _ _ _ _ (feF Z) rfl arrFe (Keep.row hb r_t2 rfl) (by omega) (fun i hi => ptF_z _ _ _ i hi)) ?_
      simp only [Act.put, List.setIfInBounds_toArray, List.set_cons_zero, List.set_cons_succ]
      refine lintz_leaf ?_
      have HWF : poWf [.val (.agg (arrOf 16 (feF (mulP X T)))), .val (.agg (arrOf 16 (feF (mulP V Z)))), .val (.bool true), .val (.bool true), .val (.pointer (some ⟨b_t2, 16, none⟩)), .val (.agg (arrOf 16 (feF Y))), .val (.pointer (some ⟨b_t3, 32, none⟩)), .val (.agg (arrOf 16 (feF T))), .val (.agg (arrOf 16 (feF (mulP Y T)))), .val (.pointer (some ⟨b_t3, 16, none⟩)), .val (.agg (arrOf 16 (feF Q))), .val (.pointer (some ⟨b_t2, 32, none⟩)), .val (.agg (arrOf 16 (feF Z))), .val (.agg (arrOf 16 (feF (mulP Q Z)))), .val (.bool false), .val (.bool false), .val (.bool false)] [] = true := by kernel_rfl
      refine ⟨JG [.val (.agg (arrOf 16 (feF (mulP X T)))), .val (.agg (arrOf 16 (feF (mulP V Z)))), .val (.bool true), .val (.bool true), .val (.pointer (some ⟨b_t2, 16, none⟩)), .val (.agg (arrOf 16 (feF Y))), .val (.pointer (some ⟨b_t3, 32, none⟩)), .val (.agg (arrOf 16 (feF T))), .val (.agg (arrOf 16 (feF (mulP Y T)))), .val (.pointer (some ⟨b_t3, 16, none⟩)), .val (.agg (arrOf 16 (feF Q))), .val (.pointer (some ⟨b_t2, 32, none⟩)), .val (.agg (arrOf 16 (feF Z))), .val (.agg (arrOf 16 (feF (mulP Q Z)))), .val (.bool false), .val (.bool false), .val (.bool false)] [] _, JG.start (Nat.le_refl _) (fun i hi => absurd hi (Nat.not_lt_zero _)), fun m gz wa p az hp hm hmp hcl hdn hE hJ hS hO => ?_, fun gz wa hE hJ => ?_⟩
      · rcases (show p = 0 ∨ p = 1 ∨ p = 2 ∨ p = 3 ∨ p = 4 ∨ p = 5 ∨ p = 6 ∨ p = 7 ∨ p = 8 ∨ p = 9 ∨ p = 10 ∨ p = 11 ∨ p = 12 ∨ p = 13 ∨ p = 14 ∨ p = 15 ∨ p = 16 by have h9 : p < 17 := hp; omega) with rfl | rfl | rfl | rfl | rfl | rfl | rfl | rfl | rfl | rfl | rfl | rfl | rfl | rfl | rfl | rfl | rfl
        · have e6 : az.eval (.tmp 6) = .agg (arrOf 16 (feF X)) := hO 6 rfl
          have e8 : az.eval (.tmp 8) = .agg (arrOf 16 (feF T)) := hO 8 rfl
          exact po_call 9 44 #[Operand.tmp 6, Operand.tmp 8] #[34, 34] _ HWF hJ rfl hE (refMul5_any X T _ HX.out HT.out) rfl rfl rfl rfl rfl Try.func44 (by kernel_rfl) (by kernel_rfl) (by simp only [List.map_toArray, List.map_cons, List.map_nil, eval_const, eval_func, e6, e8] <;> rfl)
        · have e11 : az.eval (.tmp 11) = .agg (arrOf 16 (feF V)) := hO 11 rfl
          have e13 : az.eval (.tmp 13) = .agg (arrOf 16 (feF Z)) := hO 13 rfl
          exact po_call 14 44 #[Operand.tmp 11, Operand.tmp 13] #[34, 34] _ HWF hJ rfl hE (refMul5_any V Z _ HV.out HZ.out) rfl rfl rfl rfl rfl Try.func44 (by kernel_rfl) (by kernel_rfl) (by simp only [List.map_toArray, List.map_cons, List.map_nil, eval_const, eval_func, e11, e13] <;> rfl)
        · have e9 := (hS 0 9 rfl (hdn 0 (by decide)) (Nat.le_of_ble_eq_true rfl)).trans (hJ.says (hdn 0 (by decide)) rfl)
          have e14 := (hS 1 14 rfl (hdn 1 (by decide)) (Nat.le_of_ble_eq_true rfl)).trans (hJ.says (hdn 1 (by decide)) rfl)
          exact po_run 15 (Op.binOp BinOp.eql 34 (Operand.tmp 9) (Operand.tmp 14) 34) _ HWF hJ rfl hE rfl rfl rfl rfl rfl rfl (exec_Fe_eq2 _ _ _ _ (mulP_lt _ _) (mulP_lt _ _) (decide_eq_true H1.out) e9 e14)
        · have e15 := (hS 2 15 rfl (hdn 2 (by decide)) (Nat.le_of_ble_eq_true rfl)).trans (hJ.says (hdn 2 (by decide)) rfl)
          exact po_run 16 (Op.move (Operand.tmp 15)) _ HWF hJ rfl hE rfl rfl rfl rfl rfl rfl (by first | (simp only [execOp, mkOp, eval_const, e15]; done) | (simp only [execOp, mkOp, eval_const, e15]; go_simp))
        · have e16 := (hS 3 16 rfl (hdn 3 (by decide)) (Nat.le_of_ble_eq_true rfl)).trans (hJ.says (hdn 3 (by decide)) rfl)
          have e2 : az.eval (.tmp 2) = .pointer (some ⟨b_t2, 0, none⟩) := hO 2 rfl
          exact po_run 17 (Op.fieldAddr 36 (Operand.tmp 2) 1) _ HWF hJ rfl hE rfl rfl rfl rfl rfl (wanted_of rfl rfl e16) (by first | (simp only [execOp, mkOp, eval_const, e2]; done) | (simp only [execOp, mkOp, eval_const, e2]; go_simp))
        · have e16 := (hS 3 16 rfl (hdn 3 (by decide)) (Nat.le_of_ble_eq_true rfl)).trans (hJ.says (hdn 3 (by decide)) rfl)
          have e17 := (hS 4 17 rfl (hdn 4 (by decide)) (Nat.le_of_ble_eq_true rfl)).trans (hJ.says (hdn 4 (by decide)) rfl)
          exact po_run 18 (Op.load 34 (Operand.tmp 17)) _ HWF hJ rfl hE rfl rfl rfl rfl rfl (wanted_of rfl rfl e16) (exec_load_as _ _ _ _ (feF Y) e17 arrFe (Keep.row hE r_t2 rfl) (by omega) (fun i hi => ptF_y _ _ _ i hi))
        · have e16 := (hS 3 16 rfl (hdn 3 (by decide)) (Nat.le_of_ble_eq_true rfl)).trans (hJ.says (hdn 3 (by decide)) rfl)
          have e3 : az.eval (.tmp 3) = .pointer (some ⟨b_t3, 0, none⟩) := hO 3 rfl
          exact po_run 19 (Op.fieldAddr 36 (Operand.tmp 3) 2) _ HWF hJ rfl hE rfl rfl rfl rfl rfl (wanted_of rfl rfl e16) (by first | (simp only [execOp, mkOp, eval_const, e3]; done) | (simp only [execOp, mkOp, eval_const, e3]; go_simp))
        · have e16 := (hS 3 16 rfl (hdn 3 (by decide)) (Nat.le_of_ble_eq_true rfl)).trans (hJ.says (hdn 3 (by decide)) rfl)
          have e19 := (hS 6 19 rfl (hdn 6 (by decide)) (Nat.le_of_ble_eq_true rfl)).trans (hJ.says (hdn 6 (by decide)) rfl)
          exact po_run 20 (Op.load 34 (Operand.tmp 19)) _ HWF hJ rfl hE rfl rfl rfl rfl rfl (wanted_of rfl rfl e16) (exec_load_as _ _ _ _ (feF T) e19 arrFe (Keep.row hE r_t3 rfl) (by omega) (fun i hi => ptF_z _ _ _ i hi))
        · have e16 := (hS 3 16 rfl (hdn 3 (by decide)) (Nat.le_of_ble_eq_true rfl)).trans (hJ.says (hdn 3 (by decide)) rfl)
          have e18 := (hS 5 18 rfl (hdn 5 (by decide)) (Nat.le_of_ble_eq_true rfl)).trans (hJ.says (hdn 5 (by decide)) rfl)
          have e20 := (hS 7 20 rfl (hdn 7 (by decide)) (Nat.le_of_ble_eq_true rfl)).trans (hJ.says (hdn 7 (by decide)) rfl)
          exact po_call 21 44 #[Operand.tmp 18, Operand.tmp 20] #[34, 34] _ HWF hJ rfl hE (refMul5_any Y T _ HY.out HT.out) rfl rfl rfl rfl (wanted_of rfl rfl e16) Try.func44 (by kernel_rfl) (by kernel_rfl) (by simp only [List.map_toArray, List.map_cons, List.map_nil, eval_const, eval_func, e18, e20] <;> rfl)
        · have e16 := (hS 3 16 rfl (hdn 3 (by decide)) (Nat.le_of_ble_eq_true rfl)).trans (hJ.says (hdn 3 (by decide)) rfl)
          have e3 : az.eval (.tmp 3) = .pointer (some ⟨b_t3, 0, none⟩) := hO 3 rfl
          exact po_run 22 (Op.fieldAddr 36 (Operand.tmp 3) 1) _ HWF hJ rfl hE rfl rfl rfl rfl rfl (wanted_of rfl rfl e16) (by first | (simp only [execOp, mkOp, eval_const, e3]; done) | (simp only [execOp, mkOp, eval_const, e3]; go_simp))
        · have e16 := (hS 3 16 rfl (hdn 3 (by decide)) (Nat.le_of_ble_eq_true rfl)).trans (hJ.says (hdn 3 (by decide)) rfl)
          have e22 := (hS 9 22 rfl (hdn 9 (by decide)) (Nat.le_of_ble_eq_true rfl)).trans (hJ.says (hdn 9 (by decide)) rfl)
          exact po_run 23 (Op.load 34 (Operand.tmp 22)) _ HWF hJ rfl hE rfl rfl rfl rfl rfl (wanted_of rfl rfl e16) (exec_load_as _ _ _ _ (feF Q) e22 arrFe (Keep.row hE r_t3 rfl) (by omega) (fun i hi => ptF_y _ _ _ i hi))
        · have e16 := (hS 3 16 rfl (hdn 3 (by decide)) (Nat.le_of_ble_eq_true rfl)).trans (hJ.says (hdn 3 (by decide)) rfl)
          have e2 : az.eval (.tmp 2) = .pointer (some ⟨b_t2, 0, none⟩) := hO 2 rfl
          exact po_run 24 (Op.fieldAddr 36 (Operand.tmp 2) 2) _ HWF hJ rfl hE rfl rfl rfl rfl rfl (wanted_of rfl rfl e16) (by first | (simp only [execOp, mkOp, eval_const, e2]; done) | (simp only [execOp, mkOp, eval_const, e2]; go_simp))
        · have e16 := (hS 3 16 rfl (hdn 3 (by decide)) (Nat.le_of_ble_eq_true rfl)).trans (hJ.says (hdn 3 (by decide)) rfl)
          have e24 := (hS 11 24 rfl (hdn 11 (by decide)) (Nat.le_of_ble_eq_true rfl)).trans (hJ.says (hdn 11 (by decide)) rfl)
          exact po_run 25 (Op.load 34 (Operand.tmp 24)) _ HWF hJ rfl hE rfl rfl rfl rfl rfl (wanted_of rfl rfl e16) (exec_load_as _ _ _ _ (feF Z) e24 arrFe (Keep.row hE r_t2 rfl) (by omega) (fun i hi => ptF_z _ _ _ i hi))
        · have e16 := (hS 3 16 rfl (hdn 3 (by decide)) (Nat.le_of_ble_eq_true rfl)).trans (hJ.says (hdn 3 (by decide)) rfl)
          have e23 := (hS 10 23 rfl (hdn 10 (by decide)) (Nat.le_of_ble_eq_true rfl)).trans (hJ.says (hdn 10 (by decide)) rfl)
          have e25 := (hS 12 25 rfl (hdn 12 (by decide)) (Nat.le_of_ble_eq_true rfl)).trans (hJ.says (hdn 12 (by decide)) rfl)
          exact po_call 26 44 #[Operand.tmp 23, Operand.tmp 25] #[34, 34] _ HWF hJ rfl hE (refMul5_any Q Z _ HQ.out HZ.out) rfl rfl rfl rfl (wanted_of rfl rfl e16) Try.func44 (by kernel_rfl) (by kernel_rfl) (by simp only [List.map_toArray, List.map_cons, List.map_nil, eval_const, eval_func, e23, e25] <;> rfl)
        · have e16 := (hS 3 16 rfl (hdn 3 (by decide)) (Nat.le_of_ble_eq_true rfl)).trans (hJ.says (hdn 3 (by decide)) rfl)
          have e21 := (hS 8 21 rfl (hdn 8 (by decide)) (Nat.le_of_ble_eq_true rfl)).trans (hJ.says (hdn 8 (by decide)) rfl)
          have e26 := (hS 13 26 rfl (hdn 13 (by decide)) (Nat.le_of_ble_eq_true rfl)).trans (hJ.says (hdn 13 (by decide)) rfl)
          exact po_run 27 (Op.binOp BinOp.eql 34 (Operand.tmp 21) (Operand.tmp 26) 34) _ HWF hJ rfl hE rfl rfl rfl rfl rfl (wanted_of rfl rfl e16) (exec_Fe_eq2 _ _ _ _ (mulP_lt _ _) (mulP_lt _ _) (decide_eq_false H2.out) e21 e26)
        · have e16 := (hS 3 16 rfl (hdn 3 (by decide)) (Nat.le_of_ble_eq_true rfl)).trans (hJ.says (hdn 3 (by decide)) rfl)
          have e27 := (hS 14 27 rfl (hdn 14 (by decide)) (Nat.le_of_ble_eq_true rfl)).trans (hJ.says (hdn 14 (by decide)) rfl)
          exact po_run 28 (Op.pick (Operand.tmp 16) (Operand.tmp 27) (Operand.const (Value.bool false))) _ HWF hJ rfl hE rfl rfl rfl rfl rfl rfl (by first | (simp only [execOp, mkOp, eval_const, e16, e27]; done) | (simp only [execOp, mkOp, eval_const, e16, e27]; go_simp))
        · have e28 := (hS 15 28 rfl (hdn 15 (by decide)) (Nat.le_of_ble_eq_true rfl)).trans (hJ.says (hdn 15 (by decide)) rfl)
          exact po_run 4 (Op.assign (Operand.tmp 28)) _ HWF hJ rfl hE rfl rfl rfl rfl rfl rfl (by first | (simp only [execOp, mkOp, eval_const, e28]; done) | (simp only [execOp, mkOp, eval_const, e28]; go_simp))
      · have q0 := hJ.told 0 (by decide) rfl
        have q1 := hJ.told 1 (by decide) rfl
        have q2 := hJ.told 2 (by decide) rfl
        have q3 := hJ.told 3 (by decide) rfl
        have q4 := hJ.told 4 (by decide) rfl
        have q5 := hJ.told 5 (by decide) rfl
        have q6 := hJ.told 6 (by decide) rfl
        have q7 := hJ.told 7 (by decide) rfl
        have q8 := hJ.told 8 (by decide) rfl
        have q9 := hJ.told 9 (by decide) rfl
        have q10 := hJ.told 10 (by decide) rfl
        have q11 := hJ.told 11 (by decide) rfl
        have q12 := hJ.told 12 (by decide) rfl
        have q13 := hJ.told 13 (by decide) rfl
        have q14 := hJ.told 14 (by decide) rfl
        have q15 := hJ.told 15 (by decide) rfl
        have q16 := hJ.told 16 (by decide) rfl
        show PoEnd _ (Act.put (Act.put (Act.put (Act.put (Act.put (Act.put (Act.put (Act.put (Act.put (Act.put (Act.put (Act.put (Act.put (Act.put (Act.put (Act.put (Act.put _ (some 9) (gz 0)) (some 14) (gz 1)) (some 15) (gz 2)) (some 16) (gz 3)) (some 17) (gz 4)) (some 18) (gz 5)) (some 19) (gz 6)) (some 20) (gz 7)) (some 21) (gz 8)) (some 22) (gz 9)) (some 23) (gz 10)) (some 24) (gz 11)) (some 25) (gz 12)) (some 26) (gz 13)) (some 27) (gz 14)) (some 28) (gz 15)) (some 4) (gz 16)) wa
        rw [q0, q1, q2, q3, q4, q5, q6, q7, q8, q9, q10, q11, q12, q13, q14, q15, q16]
        simp only [Act.put, List.setIfInBounds_toArray, List.set_cons_zero, List.set_cons_succ]
        refine po_end ?_
        replace r_t2 := Keep.row hE r_t2 rfl
        replace r_t3 := Keep.row hE r_t3 rfl
        have Bw4 := hE.below Bw3 (HGS.out _ Bw3) rfl
        clear Bw3 hE hJ HWF q0 q1 q2 q3 q4 q5 q6 q7 q8 q9 q10 q11 q12 q13 q14 q15 q16
        go_wp2
        go_ret
        exact ⟨rfl, Bw4⟩
  · have H1 := Lib.hid h1
    rw [decide_eq_false h1]
    clear h1
    go_enter Try.func27, Try.ntmps27
    go_wp2_with (first
      | (have hgo := Bw0; clear hgo
         refine wpList_box_row rfl 36 (.tmp 0) rfl 48 (ptF X Y Z) rfl ?_
         intro b_t2 w1 lk r_t2 kk
         have l_t2 := Nat.le_trans (HGS.out _ Bw0) lk
         have Bw1 := Bw0.trans (kk.mono (HGS.out _ Bw0))
         clear Bw0 kk lk)
      | (have hgo := Bw1; clear hgo
         refine wpList_box_row rfl 36 (.tmp 1) rfl 48 (ptF V Q T) rfl ?_
         intro b_t3 w2 lk r_t3 kk
         have n_t2_t3 : b_t2 ≠ b_t3 := Nat.ne_of_lt (Nat.lt_of_lt_of_le (World.rowIs.lt r_t2) lk)
         have l_t3 := Nat.le_trans (HGS.out _ Bw1) lk
         replace r_t2 := World.rowIs.of_block r_t2 (kk.block _ (World.rowIs.lt r_t2))
         have Bw2 := Bw1.trans (kk.mono (HGS.out _ Bw1))
         clear Bw1 kk lk))
    have Bw3 := Bw2.drew
    replace r_t2 := World.rowIs.drew r_t2
    replace r_t3 := World.rowIs.drew r_t3
    clear Bw2
    refine wp_region_po (Keep []) (Keep.refl _) (fun _ _ _ h1 h2 => h1.trans h2) (.rd 0 (.rd 1 (.rd 2 (.rd 3 (.rd 5 (.rd 6 (.rd 7 (.rd 8 .done)))))))) #[true, true, true, true, false, true, true, true, true, false, false, false, false, false, false, false, false, false, false, false, false, false, false, false, false] [4, 9, 10, 11, 12, 13, 14, 15, 16, 17, 18, 19, 20, 21, 22, 23, 24] [some 9, some 14, some 15, some 16, some 17, some 18, some 19, some 20, some 21, some 22, some 23, some 24, some 25, some 26, some 27, some 28, some 4] [[], [0], [0, 1], [1, 2], [3], [3, 4], [3], [3, 6], [3, 5, 7], [3], [3, 9], [3], [3, 11], [3, 8, 10, 12], [3, 8, 13], [3, 14], [0, 1, 2, 3, 4, 5, 6, 7, 8, 9, 10, 11, 12, 13, 14, 15]] [(0, []), (1, [0]), (2, []), (3, [2]), (4, [1, 3]), (5, []), (6, [5]), (7, []), (8, [7]), (9, [6, 8, 4]), (10, [4, 9]), (11, [10, 9]), (12, [11]), (13, [12, 11]), (14, [11]), (15, [14, 11]), (16, [13, 15, 11, 11]), (17, [11]), (18, [17, 11]), (19, [11]), (20, [19, 11]), (21, [18, 20, 16, 11]), (22, [16, 21, 11]), (23, [11, 22]), (24, [23, 21, 0, 1, 2, 3, 4, 5, 6, 7, 8, 9, 10, 11, 12, 13, 14, 15, 16, 17, 18, 19, 20, 21, 22, 23])] 495 (by kernel_rfl) (by kernel_rfl) (by decide) (by kernel_rfl) (by kernel_rfl) (by kernel_rfl) rfl (fun d _ _ _ _ h => by cases d <;> exact h) ?_
    refine lintz_pure 5 (Op.fieldAddr 36 (Operand.tmp 2) 0) 0 (.pointer (some ⟨b_t2, 0, none⟩)) rfl rfl rfl rfl rfl (fun w0 hb => by unfold mkOp; go_simp; all_goals (with_reducible rfl)) ?_
    simp only [Act.put, List.setIfInBounds_toArray, List.set_cons_zero, List.set_cons_succ]
    refine lintz_pure 6 (Op.load 34 (Operand.tmp 5)) 34 (.agg (arrOf 16 (feF X))) rfl rfl rfl rfl rfl (fun w0 hb => by exact exec_load_as _ _ _ _ (feF X) rfl arrFe (Keep.row hb r_t2 rfl) (by omega) (fun i hi => ptF_x _ _ _ i hi)) ?_
    simp only [Act.put, List.setIfInBounds_toArray, List.set_cons_zero, List.set_cons_succ]
    refine lintz_pure 7 (Op.fieldAddr 36 (Operand.tmp 3) 2) 0 (.pointer (some ⟨b_t3, 32, none⟩)) rfl rfl rfl rfl rfl (fun w0 hb => by unfold mkOp; go_simp; all_goals (with_reducible rfl)) ?_
    simp only [Act.put, List.setIfInBounds_toArray, List.set_cons_zero, List.set_cons_succ]
    refine lintz_pure 8 (Op.load 34 (Operand.tmp 7)) 34 (.agg (arrOf 16 (feF T))) rfl rfl rfl rfl rfl (fun w0 hb => by exact exec_load_as _ _ _ _ (feF T) rfl arrFe (Keep.row hb r_t3 rfl) (by omega) (fun i hi => ptF_z _ _ _ i hi)) ?_
    simp only [Act.put, List.setIfInBounds_toArray, List.set_cons_zero, List.set_cons_succ]
    refine lintz_pure 10 (Op.fieldAddr 36 (Operand.tmp 3) 0) 0 (.pointer (some ⟨b_t3, 0, none⟩)) rfl rfl rfl rfl rfl (fun w0 hb => by unfold mkOp; go_simp; all_goals (with_reducible rfl)) ?_
    simp only [Act.put, List.setIfInBounds_toArray, List.set_cons_zero, List.set_cons_succ]
    refine lintz_pure 11 (Op.load 34 (Operand.tmp 10)) 34 (.agg (arrOf 16 (feF V))) rfl rfl rfl rfl rfl (fun w0 hb => by exact exec_load_as _ _ _ _ (feF V) rfl arrFe (Keep.row hb r_t3 rfl) (by omega) (fun i hi => ptF_x _ _ _ i hi)) ?_
    simp only [Act.put, List.setIfInBounds_toArray, List.set_cons_zero, List.set_cons_succ]
    refine lintz_pure 12 (Op.fieldAddr 36 (Operand.tmp 2) 2) 0 (.pointer (some ⟨b_t2, 32, none⟩)) rfl rfl rfl rfl rfl (fun w0 hb => by unfold mkOp; go_simp; all_goals (with_reducible rfl)) ?_
    simp only [Act.put, List.setIfInBounds_toArray, List.set_cons_zero, List.set_cons_succ]
    refine lintz_pure 13 (Op.load 34 (Operand.tmp 12)) 34 (.agg (arrOf 16 (feF Z))) rfl rfl rfl rfl rfl (fun w0 hb => by exact exec_load_as _ _ _ _ (feF Z) rfl arrFe (Keep.row hb r_t2 rfl) (by omega) (fun i hi => ptF_z _ _ _ i hi)) ?_
    simp only [Act.put, List.setIfInBounds_toArray, List.set_cons_zero, List.set_cons_succ]
    refine lintz_leaf ?_
    have HWF : poWf [.val (.agg (arrOf 16 (feF (mulP X T)))), .val (.agg (arrOf 16 (feF (mulP V Z)))), .val (.bool false), .val (.bool false), .val (undef), .val (undef), .val (undef), .val (undef), .val (undef), .val (undef), .val (undef), .val (undef), .val (undef), .val (undef), .val (undef), .val (.bool false), .val (.bool false)] [] = true := by kernel_rfl
    refine ⟨JG [.val (.agg (arrOf 16 (feF (mulP X T)))), .val (.agg (arrOf 16 (feF (mulP V Z)))), .val (.bool false), .val (.bool false), .val (undef), .val (undef), .val (undef), .val (undef), .val (undef), .val (undef), .val (undef), .val (undef), .val (undef), .val (undef), .val (undef), .val (.bool false), .val (.bool false)] [] _, JG.start (Nat.le_refl _) (fun i hi => absurd hi (Nat.not_lt_zero _)), fun m gz wa p az hp hm hmp hcl hdn hE hJ hS hO => ?_, fun gz wa hE hJ => ?_⟩
    · rcases (show p = 0 ∨ p = 1 ∨ p = 2 ∨ p = 3 ∨ p = 4 ∨ p = 5 ∨ p = 6 ∨ p = 7 ∨ p = 8 ∨ p = 9 ∨ p = 10 ∨ p = 11 ∨ p = 12 ∨ p = 13 ∨ p = 14 ∨ p = 15 ∨ p = 16 by have h9 : p < 17 := hp; omega) with rfl | rfl | rfl | rfl | rfl | rfl | rfl | rfl | rfl | rfl | rfl | rfl | rfl | rfl | rfl | rfl | rfl
      · have e6 : az.eval (.tmp 6) = .agg (arrOf 16 (feF X)) := hO 6 rfl
        have e8 : az.eval (.tmp 8) = .agg (arrOf 16 (feF T)) := hO 8 rfl
        exact po_call 9 44 #[Operand.tmp 6, Operand.tmp 8] #[34, 34] _ HWF hJ rfl hE (refMul5_any X T _ HX.out HT.out) rfl rfl rfl rfl rfl Try.func44 (by kernel_rfl) (by kernel_rfl) (by simp only [List.map_toArray, List.map_cons, List.map_nil, eval_const, eval_func, e6, e8] <;> rfl)
      · have e11 : az.eval (.tmp 11) = .agg (arrOf 16 (feF V)) := hO 11 rfl
        have e13 : az.eval (.tmp 13) = .agg (arrOf 16 (feF Z)) := hO 13 rfl
        exact po_call 14 44 #[Operand.tmp 11, Operand.tmp 13] #[34, 34] _ HWF hJ rfl hE (refMul5_any V Z _ HV.out HZ.out) rfl rfl rfl rfl rfl Try.func44 (by kernel_rfl) (by kernel_rfl) (by simp only [List.map_toArray, List.map_cons, List.map_nil, eval_const, eval_func, e11, e13] <;> rfl)
      · have e9 := (hS 0 9 rfl (hdn 0 (by decide)) (Nat.le_of_ble_eq_true rfl)).trans (hJ.says (hdn 0 (by decide)) rfl)
        have e14 := (hS 1 14 rfl (hdn 1 (by decide)) (Nat.le_of_ble_eq_true rfl)).trans (hJ.says (hdn 1 (by decide)) rfl)
        exact po_run 15 (Op.binOp BinOp.eql 34 (Operand.tmp 9) (Operand.tmp 14) 34) _ HWF hJ rfl hE rfl rfl rfl rfl rfl rfl (exec_Fe_eq2 _ _ _ _ (mulP_lt _ _) (mulP_lt _ _) (decide_eq_false H1.out) e9 e14)
      · have e15 := (hS 2 15 rfl (hdn 2 (by decide)) (Nat.le_of_ble_eq_true rfl)).trans (hJ.says (hdn 2 (by decide)) rfl)
        exact po_run 16 (Op.move (Operand.tmp 15)) _ HWF hJ rfl hE rfl rfl rfl rfl rfl rfl (by first | (simp only [execOp, mkOp, eval_const, e15]; done) | (simp only [execOp, mkOp, eval_const, e15]; go_simp))
      · have e16 := (hS 3 16 rfl (hdn 3 (by decide)) (Nat.le_of_ble_eq_true rfl)).trans (hJ.says (hdn 3 (by decide)) rfl)
        exact po_skip 17 HWF hJ rfl hE rfl rfl rfl (wanted_not rfl rfl e16)
      · have e16 := (hS 3 16 rfl (hdn 3 (by decide)) (Nat.le_of_ble_eq_true rfl)).trans (hJ.says (hdn 3 (by decide)) rfl)
        exact po_skip 18 HWF hJ rfl hE rfl rfl rfl (wanted_not rfl rfl e16)
      · have e16 := (hS 3 16 rfl (hdn 3 (by decide)) (Nat.le_of_ble_eq_true rfl)).trans (hJ.says (hdn 3 (by decide)) rfl)
        exact po_skip 19 HWF hJ rfl hE rfl rfl rfl (wanted_not rfl rfl e16)
      · have e16 := (hS 3 16 rfl (hdn 3 (by decide)) (Nat.le_of_ble_eq_true rfl)).trans (hJ.says (hdn 3 (by decide)) rfl)
        exact po_skip 20 HWF hJ rfl hE rfl rfl rfl (wanted_not rfl rfl e16)
      · have e16 := (hS 3 16 rfl (hdn 3 (by decide)) (Nat.le_of_ble_eq_true rfl)).trans (hJ.says (hdn 3 (by decide)) rfl)
        exact po_skip 21 HWF hJ rfl hE rfl rfl rfl (wanted_not rfl rfl e16)
      · have e16 := (hS 3 16 rfl (hdn 3 (by decide)) (Nat.le_of_ble_eq_true rfl)).trans (hJ.says (hdn 3 (by decide)) rfl)
        exact po_skip 22 HWF hJ rfl hE rfl rfl rfl (wanted_not rfl rfl e16)
      · have e16 := (hS 3 16 rfl (hdn 3 (by decide)) (Nat.le_of_ble_eq_true rfl)).trans (hJ.says (hdn 3 (by decide)) rfl)
        exact po_skip 23 HWF hJ rfl hE rfl rfl rfl (wanted_not rfl rfl e16)
      · have e16 := (hS 3 16 rfl (hdn 3 (by decide)) (Nat.le_of_ble_eq_true rfl)).trans (hJ.says (hdn 3 (by decide)) rfl)
        exact po_skip 24 HWF hJ rfl hE rfl rfl rfl (wanted_not rfl rfl e16)
      · have e16 := (hS 3 16 rfl (hdn 3 (by decide)) (Nat.le_of_ble_eq_true rfl)).trans (hJ.says (hdn 3 (by decide)) rfl)
        exact po_skip 25 HWF hJ rfl hE rfl rfl rfl (wanted_not rfl rfl e16)
      · have e16 := (hS 3 16 rfl (hdn 3 (by decide)) (Nat.le_of_ble_eq_true rfl)).trans (hJ.says (hdn 3 (by decide)) rfl)
        exact po_skip 26 HWF hJ rfl hE rfl rfl rfl (wanted_not rfl rfl e16)
      · have e16 := (hS 3 16 rfl (hdn 3 (by decide)) (Nat.le_of_ble_eq_true rfl)).trans (hJ.says (hdn 3 (by decide)) rfl)
        exact po_skip 27 HWF hJ rfl hE rfl rfl rfl (wanted_not rfl rfl e16)
      · have e16 := (hS 3 16 rfl (hdn 3 (by decide)) (Nat.le_of_ble_eq_true rfl)).trans (hJ.says (hdn 3 (by decide)) rfl)
        have e27 := (hS 14 27 rfl (hdn 14 (by decide)) (Nat.le_of_ble_eq_true rfl)).trans (hJ.says (hdn 14 (by decide)) rfl)
        exact po_run 28 (Op.pick (Operand.tmp 16) (Operand.tmp 27) (Operand.const (Value.bool false))) _ HWF hJ rfl hE rfl rfl rfl rfl rfl rfl (by first | (simp only [execOp, mkOp, eval_const, e16, e27]; done) | (simp only [execOp, mkOp, eval_const, e16, e27]; go_simp))
      · have e28 := (hS 15 28 rfl (hdn 15 (by decide)) (Nat.le_of_ble_eq_true rfl)).trans (hJ.says (hdn 15 (by decide)) rfl)
        exact po_run 4 (Op.assign (Operand.tmp 28)) _ HWF hJ rfl hE rfl rfl rfl rfl rfl rfl (by first | (simp only [execOp, mkOp, eval_const, e28]; done) | (simp only [execOp, mkOp, eval_const, e28]; go_simp))
    · have q0 := hJ.told 0 (by decide) rfl
      have q1 := hJ.told 1 (by decide) rfl
      have q2 := hJ.told 2 (by decide) rfl
      have q3 := hJ.told 3 (by decide) rfl
      have q4 := hJ.told 4 (by decide) rfl
      have q5 := hJ.told 5 (by decide) rfl
      have q6 := hJ.told 6 (by decide) rfl
      have q7 := hJ.told 7 (by decide) rfl
      have q8 := hJ.told 8 (by decide) rfl
      have q9 := hJ.told 9 (by decide) rfl
      have q10 := hJ.told 10 (by decide) rfl
      have q11 := hJ.told 11 (by decide) rfl
      have q12 := hJ.told 12 (by decide) rfl
      have q13 := hJ.told 13 (by decide) rfl
      have q14 := hJ.told 14 (by decide) rfl
      have q15 := hJ.told 15 (by decide) rfl
      have q16 := hJ.told 16 (by decide) rfl
      show PoEnd _ (Act.put (Act.put (Act.put (Act.put (Act.put (Act.put (Act.put (Act.put (Act.put (Act.put (Act.put (Act.put (Act.put (Act.put (Act.put (Act.put (Act.put _ (some 9) (gz 0)) (some 14) (gz 1)) (some 15) (gz 2)) (some 16) (gz 3)) (some 17) (gz 4)) (some 18) (gz 5)) (some 19) (gz 6)) (some 20) (gz 7)) (some 21) (gz 8)) (some 22) (gz 9)) (some 23) (gz 10)) (some 24) (gz 11)) (some 25) (gz 12)) (some 26) (gz 13)) (some 27) (gz 14)) (some 28) (gz 15)) (some 4) (gz 16)) wa
      rw [q0, q1, q2, q3, q4, q5, q6, q7, q8, q9, q10, q11, q12, q13, q14, q15, q16]
      simp only [Act.put, List.setIfInBounds_toArray, List.set_cons_zero, List.set_cons_succ]
      refine po_end ?_
      replace r_t2 := Keep.row hE r_t2 rfl
      replace r_t3 := Keep.row hE r_t3 rfl
      have Bw4 := hE.below Bw3 (HGS.out _ Bw3) rfl
      clear Bw3 hE hJ HWF q0 q1 q2 q3 q4 q5 q6 q7 q8 q9 q10 q11 q12 q13 q14 q15 q16
      go_wp2
      go_ret
      exact ⟨rfl, Bw4⟩
set_option maxHeartbeats 4000000 in
set_option maxRecDepth 10000 in
theorem refSmall8_any (X Y Z : Nat) (w : World) (HX : X < p25) (HY : Y < p25) (HZ : Z < p25) : Calls Try.prog 15 #[.agg (arrOf 48 (ptF X Y Z))] w fun e w' => e = .returned (.bool (pSmall (X, Y, Z))) ∧ Below w.heap.size w w' := by
  have Bw0 := Below.refl w.heap.size w
  have HGS : Hid (∀ wq : World, Below w.heap.size w wq → w.heap.size ≤ wq.heap.size) := Lib.hid fun wq h => h.size
  replace HX := Lib.hid HX
  replace HY := Lib.hid HY
  replace HZ := Lib.hid HZ
  unfold pSmall pEight
  dsimp only
  rcases hA1 : padd dP (X, Y, Z) (X, Y, Z) with ⟨x1, y1, z1⟩
  obtain ⟨hx1, hy1, hz1⟩ := padd_vlt hA1
  have Hx1 := Lib.hid hx1
  have Hy1 := Lib.hid hy1
  have Hz1 := Lib.hid hz1
  clear hx1 hy1 hz1
  rcases hA2 : padd dP (x1, y1, z1) (x1, y1, z1) with ⟨x2, y2, z2⟩
  obtain ⟨hx2, hy2, hz2⟩ := padd_vlt hA2
  have Hx2 := Lib.hid hx2
  have Hy2 := Lib.hid hy2
  have Hz2 := Lib.hid hz2
  clear hx2 hy2 hz2
  rcases hA3 : padd dP (x2, y2, z2) (x2, y2, z2) with ⟨x3, y3, z3⟩
  obtain ⟨hx3, hy3, hz3⟩ := padd_vlt hA3
  have Hx3 := Lib.hid hx3
  have Hy3 := Lib.hid hy3
  have Hz3 := Lib.hid hz3
  clear hx3 hy3 hz3
  replace hA1 := Lib.hid hA1
  replace hA2 := Lib.hid hA2
  replace hA3 := Lib.hid hA3
  go_enter Try.func15, Try.ntmps15
  go_wp2_with (first
    | (have hgo := Bw0; clear hgo
       refine wpList_box_row rfl 36 (.tmp 0) rfl 48 (ptF X Y Z) rfl ?_
       intro b_t1 w1 lk r_t1 kk
       have l_t1 := Nat.le_trans (HGS.out _ Bw0) lk
       have Bw1 := Bw0.trans (kk.mono (HGS.out _ Bw0))
       clear Bw0 kk lk)
    | (have hgo := Bw1; clear hgo
       go_at_call 47
       refine (curve_any _).mono ?_
       rintro e w3 ⟨rfl, kk⟩
       replace r_t1 := World.rowIs.of_block r_t1 (kk.block _ (World.rowIs.lt r_t1))
       have Bw2 := Bw1.trans (kk.mono (HGS.out _ Bw1))
       clear Bw1 kk)
    | (have hgo := Bw2; clear hgo
       refine wpList_alloc_row rfl 34 rfl 16 (u64f fun _ => 0) zeroFe ?_
       intro b_t3 w4 lk r_t3 kk
       have n_t1_t3 : b_t1 ≠ b_t3 := Nat.ne_of_lt (Nat.lt_of_lt_of_le (World.rowIs.lt r_t1) lk)
       have l_t3 := Nat.le_trans (HGS.out _ Bw2) lk
       replace r_t1 := World.rowIs.of_block r_t1 (kk.block _ (World.rowIs.lt r_t1))
       have Bw3 := Bw2.trans (kk.mono (HGS.out _ Bw2))
       clear Bw2 kk lk)
    | (have hgo := Bw3; clear hgo
       refine wpList_store_as rfl 34 (.tmp 3) (.tmp 5) rfl 16 (feF dP) arrFe r_t3 rfl rfl (by omega) (fun _ _ => rfl) (fun i hi => putN_whole hi) ?_
       intro w5 q gk
       replace r_t1 := gb_rowIs r_t1 gk n_t1_t3
       replace r_t3 := q
       have Bw4 := Bw3.grown gk (HGS.out _ Bw3) (by intro k hk; cases hk; exact l_t3)
       clear Bw3 gk q)
    | (have hgo := Bw4; clear hgo
       refine wpList_load_as rfl 36 (.tmp 1) rfl 48 (ptF X Y Z) arrP r_t1 rfl (by omega) (fun i hi => by rw [Nat.zero_add]) ?_
       have Bw5 := Bw4
       clear Bw4)
    | (have hgo := Bw5; clear hgo
       refine wpList_load_as rfl 36 (.tmp 1) rfl 48 (ptF X Y Z) arrP r_t1 rfl (by omega) (fun i hi => by rw [Nat.zero_add]) ?_
       have Bw6 := Bw5
       clear Bw5)
    | (have hgo := Bw6; clear hgo
       refine wpList_load_as rfl 34 (.tmp 3) rfl 16 (feF dP) arrFe r_t3 rfl (by omega) (fun i hi => by rw [Nat.zero_add]) ?_
       have Bw7 := Bw6
       clear Bw6)
    | (have hgo := Bw7; clear hgo
       go_at_call 58
       refine (refPadd_v dP X Y Z X Y Z _ hA1.out dP_lt HX.out HY.out HZ.out HX.out HY.out HZ.out).mono ?_
       rintro e w9 ⟨rfl, kk⟩
       replace r_t1 := World.rowIs.of_block r_t1 (kk.block _ (World.rowIs.lt r_t1))
       replace r_t3 := World.rowIs.of_block r_t3 (kk.block _ (World.rowIs.lt r_t3))
       have Bw8 := Bw7.trans (kk.mono (HGS.out _ Bw7))
       clear Bw7 kk)
    | (have hgo := Bw8; clear hgo
       refine wpList_alloc_row rfl 36 rfl 48 (u64f fun _ => 0) zeroPt ?_
       intro b_t4 w10 lk r_t4 kk
       have n_t1_t4 : b_t1 ≠ b_t4 := Nat.ne_of_lt (Nat.lt_of_lt_of_le (World.rowIs.lt r_t1) lk)
       have n_t3_t4 : b_t3 ≠ b_t4 := Nat.ne_of_lt (Nat.lt_of_lt_of_le (World.rowIs.lt r_t3) lk)
       have l_t4 := Nat.le_trans (HGS.out _ Bw8) lk
       replace r_t1 := World.rowIs.of_block r_t1 (kk.block _ (World.rowIs.lt r_t1))
       replace r_t3 := World.rowIs.of_block r_t3 (kk.block _ (World.rowIs.lt r_t3))
       have Bw9 := Bw8.trans (kk.mono (HGS.out _ Bw8))
       clear Bw8 kk lk)
    | (have hgo := Bw9; clear hgo
       refine wpList_store_as rfl 36 (.tmp 4) (.tmp 9) rfl 48 (ptF x1 y1 z1) arrP r_t4 rfl rfl (by omega) (fun j _ => ptF_one _ _ _ j) (fun i hi => putN_whole hi) ?_
       intro w11 q gk
       replace r_t1 := gb_rowIs r_t1 gk n_t1_t4
       replace r_t3 := gb_rowIs r_t3 gk n_t3_t4
       replace r_t4 := q
       have Bw10 := Bw9.grown gk (HGS.out _ Bw9) (by intro k hk; cases hk; exact l_t4)
       clear Bw9 gk q)
    | (have hgo := Bw10; clear hgo
       refine wpList_load_as rfl 36 (.tmp 4) rfl 48 (ptF x1 y1 z1) arrP r_t4 rfl (by omega) (fun i hi => by rw [Nat.zero_add]) ?_
       have Bw11 := Bw10
       clear Bw10)
    | (have hgo := Bw11; clear hgo
       refine wpList_load_as rfl 36 (.tmp 4) rfl 48 (ptF x1 y1 z1) arrP r_t4 rfl (by omega) (fun i hi => by rw [Nat.zero_add]) ?_
       have Bw12 := Bw11
       clear Bw11)
    | (have hgo := Bw12; clear hgo
       refine wpList_load_as rfl 34 (.tmp 3) rfl 16 (feF dP) arrFe r_t3 rfl (by omega) (fun i hi => by rw [Nat.zero_add]) ?_
       have Bw13 := Bw12
       clear Bw12)
    | (have hgo := Bw13; clear hgo
       go_at_call 58
       refine (refPadd_v dP x1 y1 z1 x1 y1 z1 _ hA2.out dP_lt Hx1.out Hy1.out Hz1.out Hx1.out Hy1.out Hz1.out).mono ?_
       rintro e w15 ⟨rfl, kk⟩
       replace r_t1 := World.rowIs.of_block r_t1 (kk.block _ (World.rowIs.lt r_t1))
       replace r_t3 := World.rowIs.of_block r_t3 (kk.block _ (World.rowIs.lt r_t3))
       replace r_t4 := World.rowIs.of_block r_t4 (kk.block _ (World.rowIs.lt r_t4))
       have Bw14 := Bw13.trans (kk.mono (HGS.out _ Bw13))
       clear Bw13 kk)
    | (have hgo := Bw14; clear hgo
       refine wpList_store_as rfl 36 (.tmp 4) (.tmp 13) rfl 48 (ptF x2 y2 z2) arrP r_t4 rfl rfl (by omega) (fun j _ => ptF_one _ _ _ j) (fun i hi => putN_whole hi) ?_
       intro w16 q gk
       replace r_t1 := gb_rowIs r_t1 gk n_t1_t4
       replace r_t3 := gb_rowIs r_t3 gk n_t3_t4
       replace r_t4 := q
       have Bw15 := Bw14.grown gk (HGS.out _ Bw14) (by intro k hk; cases hk; exact l_t4)
       clear Bw14 gk q)
    | (have hgo := Bw15; clear hgo
       refine wpList_load_as rfl 36 (.tmp 4) rfl 48 (ptF x2 y2 z2) arrP r_t4 rfl (by omega) (fun i hi => by rw [Nat.zero_add]) ?_
       have Bw16 := Bw15
       clear Bw15)
    | (have hgo := Bw16; clear hgo
       refine wpList_load_as rfl 36 (.tmp 4) rfl 48 (ptF x2 y2 z2) arrP r_t4 rfl (by omega) (fun i hi => by rw [Nat.zero_add]) ?_
       have Bw17 := Bw16
       clear Bw16)
    | (have hgo := Bw17; clear hgo
       refine wpList_load_as rfl 34 (.tmp 3) rfl 16 (feF dP) arrFe r_t3 rfl (by omega) (fun i hi => by rw [Nat.zero_add]) ?_
       have Bw18 := Bw17
       clear Bw17)
    | (have hgo := Bw18; clear hgo
       go_at_call 58
       refine (refPadd_v dP x2 y2 z2 x2 y2 z2 _ hA3.out dP_lt Hx2.out Hy2.out Hz2.out Hx2.out Hy2.out Hz2.out).mono ?_
       rintro e w20 ⟨rfl, kk⟩
       replace r_t1 := World.rowIs.of_block r_t1 (kk.block _ (World.rowIs.lt r_t1))
       replace r_t3 := World.rowIs.of_block r_t3 (kk.block _ (World.rowIs.lt r_t3))
       replace r_t4 := World.rowIs.of_block r_t4 (kk.block _ (World.rowIs.lt r_t4))
       have Bw19 := Bw18.trans (kk.mono (HGS.out _ Bw18))
       clear Bw18 kk)
    | (have hgo := Bw19; clear hgo
       refine wpList_store_as rfl 36 (.tmp 4) (.tmp 17) rfl 48 (ptF x3 y3 z3) arrP r_t4 rfl rfl (by omega) (fun j _ => ptF_one _ _ _ j) (fun i hi => putN_whole hi) ?_
       intro w21 q gk
       replace r_t1 := gb_rowIs r_t1 gk n_t1_t4
       replace r_t3 := gb_rowIs r_t3 gk n_t3_t4
       replace r_t4 := q
       have Bw20 := Bw19.grown gk (HGS.out _ Bw19) (by intro k hk; cases hk; exact l_t4)
       clear Bw19 gk q))
  have Bw21 := Bw20.drew
  replace r_t1 := World.rowIs.drew r_t1
  replace r_t3 := World.rowIs.drew r_t3
  replace r_t4 := World.rowIs.drew r_t4
  clear Bw20
  refine wp_region_po (Keep []) (Keep.refl _) (fun _ _ _ h1 h2 => h1.trans h2) (.rd 0 .done) #[true, false, false, false] [1, 2, 3] [some 19, some 20, some 2] [[], [0], [0, 1]] [(0, []), (1, []), (2, [0, 1, 1]), (3, [2, 2, 0, 1, 2])] 1 (by kernel_rfl) (by kernel_rfl) (by decide) (by kernel_rfl) (by kernel_rfl) (by kernel_rfl) rfl (fun d _ _ _ _ h => by cases d <;> exact h) ?_
  refine lintz_pure 18 (Op.load 36 (Operand.tmp 4)) 36 (.agg (arrOf 48 (ptF x3 y3 z3))) rfl rfl rfl rfl rfl (fun w0 hb => by exact exec_load_as _ _ _ _ (ptF x3 y3 z3) rfl arrP (Keep.row hb r_t4 rfl) (by omega) (fun i hi => by rw [Nat.zero_add])) ?_
  simp only [Act.put, List.setIfInBounds_toArray, List.set_cons_zero, List.set_cons_succ]
  refine lintz_leaf ?_
  have HWF : poWf [.val (.agg (arrOf 48 (ptF 0 1 1))), .val (.bool (pSame (x3, y3, z3) (0, 1, 1))), .val (.bool (pSame (x3, y3, z3) (0, 1, 1)))] [] = true := by kernel_rfl
  refine ⟨JG [.val (.agg (arrOf 48 (ptF 0 1 1))), .val (.bool (pSame (x3, y3, z3) (0, 1, 1))), .val (.bool (pSame (x3, y3, z3) (0, 1, 1)))] [] _, JG.start (Nat.le_refl _) (fun i hi => absurd hi (Nat.not_lt_zero _)), fun m gz wa p az hp hm hmp hcl hdn hE hJ hS hO => ?_, fun gz wa hE hJ => ?_⟩
  · rcases (show p = 0 ∨ p = 1 ∨ p = 2 by have h9 : p < 3 := hp; omega) with rfl | rfl | rfl
    · exact po_call 19 42 #[] #[] _ HWF hJ rfl hE (refZero_any _) rfl rfl rfl rfl rfl Try.func42 (by kernel_rfl) (by kernel_rfl) (by simp only [List.map_toArray, List.map_cons, List.map_nil, eval_const, eval_func] <;> rfl)
    · have e18 : az.eval (.tmp 18) = .agg (arrOf 48 (ptF x3 y3 z3)) := hO 18 rfl
      have e19 := (hS 0 19 rfl (hdn 0 (by decide)) (Nat.le_of_ble_eq_true rfl)).trans (hJ.says (hdn 0 (by decide)) rfl)
      exact po_call 20 27 #[Operand.tmp 18, Operand.tmp 19] #[36, 36] _ HWF hJ rfl hE (refSame_any x3 y3 z3 0 1 1 _ Hx3.out Hy3.out Hz3.out (by decide +kernel) (by decide +kernel) (by decide +kernel)) rfl rfl rfl rfl rfl Try.func27 (by kernel_rfl) (by kernel_rfl) (by simp only [List.map_toArray, List.map_cons, List.map_nil, eval_const, eval_func, e18, e19] <;> rfl)
    · have e20 := (hS 1 20 rfl (hdn 1 (by decide)) (Nat.le_of_ble_eq_true rfl)).trans (hJ.says (hdn 1 (by decide)) rfl)
      exact po_run 2 (Op.assign (Operand.tmp 20)) _ HWF hJ rfl hE rfl rfl rfl rfl rfl rfl (by first | (simp only [execOp, mkOp, eval_const, e20]; done) | (simp only [execOp, mkOp, eval_const, e20]; go_simp))
  · have q0 := hJ.told 0 (by decide) rfl
    have q1 := hJ.told 1 (by decide) rfl
    have q2 := hJ.told 2 (by decide) rfl
    show PoEnd _ (Act.put (Act.put (Act.put _ (some 19) (gz 0)) (some 20) (gz 1)) (some 2) (gz 2)) wa
    rw [q0, q1, q2]
    simp only [Act.put, List.setIfInBounds_toArray, List.set_cons_zero, List.set_cons_succ]
    refine po_end ?_
    replace r_t1 := Keep.row hE r_t1 rfl
    replace r_t3 := Keep.row hE r_t3 rfl
    replace r_t4 := Keep.row hE r_t4 rfl
    have Bw22 := hE.below Bw21 (HGS.out _ Bw21) rfl
    clear Bw21 hE hJ HWF q0 q1 q2
    go_wp2
    go_ret
    exact ⟨rfl, Bw22⟩
end Go.Proofs.Ytphkmaihnbhgoaa

/- Pieces of bytes, rows of bytes in open worlds: one operation at a time. -/
namespace Go.Proofs.Ytphkmaihnbhgoaa
open Go.RowKit Go.Deep
set_option linter.unusedSimpArgs false
set_option linter.unusedVariables false

theorem exec_one (ρ : Operand → Value) (x : Operand) (t : TypeId) (w : World) (b : UInt8) (hx : ρ x = .int .u8 (b.toNat : Int)) :
    (execOp ρ (mkOp (.buildSlice 22 1 #[(0, x)]) t)).run Try.prog w = .ok (.value (.slice (some ⟨w.heap.size, 0, none⟩) 1 1)) (w.alloc (.cells #[.int .u8 (b.toNat : Int)] 5)) := by
  simp only [execOp, mkOp, List.map_toArray, List.map_cons, List.map_nil, hx]
  go_simp
theorem wpList_one {ops : Array Oper} {rest : List Oper} {o : Oper} {a : Act} {w : World} {Q : Exit → Act → World → Prop} (hgd : o.guard = none) (x : Operand) (ho : o.op = .buildSlice 22 1 #[(0, x)]) (b : UInt8) (hx : a.eval x = .int .u8 (b.toNat : Int))
    (h : ∀ v w', Bs w' v [b] → Below w.heap.size w w' → wpList Try.prog ops Q rest (a.put o.dst v) w') : wpList Try.prog ops Q (o :: rest) a w := by
  have hr := exec_one a.eval x o.type w b hx
  exact wpList_plain hgd fun _ hK => by
    unfold Oper.wp
    rw [exec_mkOp, ho, hr]
    exact hK _ _ (h _ _ (Bs.one w b) ((Below.refl _ _).alloc (Nat.le_refl _) _))
theorem wpList_load_asg {P : Program} {ops : Array Oper} {rest : List Oper} {o : Oper} {a : Act} {w : World} {Q : Exit → Act → World → Prop} (hw : Region.wanted o (yielded ops a.tmps) = true) (ty : TypeId) (x : Operand) (ho : o.op = .load ty x) (k : Nat) (F : Nat → Value) (ht : IsArr P ty k) {b m off : Nat} {t : TypeId} {f : Nat → Value}
    (hr : w.rowIs b t m f) (hx : a.eval x = .pointer (some ⟨b, off, none⟩)) (hk : off + k ≤ m) (hF : ∀ i, i < k → f (off + i) = F i) (h : wpList P ops Q rest (a.put o.dst (.agg (arrOf k F))) w) : wpList P ops Q (o :: rest) a w :=
  wpList_value_given hw (.agg (arrOf k F)) (by rw [exec_mkOp, ho]; exact exec_load_as a.eval ty x o.type F hx ht hr hk hF) h
theorem Owns.one (w : World) (b : UInt8) : Owns (w.alloc (.cells #[.int .u8 (b.toNat : Int)] 5)) w.heap.size (.slice (some ⟨w.heap.size, 0, none⟩) 1 1) [b] :=
  Owns.of_row (f := fun _ => .int .u8 (b.toNat : Int)) (rowIs_arr w 1 (fun _ => .int .u8 (b.toNat : Int)) 5) (Nat.le_refl _) (by decide) rfl (fun i hi => by
    have h : i = 0 := by simp at hi; omega
    subst h
    rfl)
theorem Owns.belowJ {w w' : World} {base : Nat} {v : Value} {l : List UInt8} (h : Owns w base v l) (hb : Below w.heap.size w w') : Owns w' base v l := by
  obtain ⟨h1, h2⟩ := h
  refine ⟨h1, ?_⟩
  rcases h2 with h2 | ⟨g, cap, cur, rfl, hbg, hg, h3⟩
  · exact .inl h2
  · exact .inr ⟨g, cap, cur, rfl, hbg, (hb.block g (Array.getElem?_eq_some_iff.1 hg).1).trans hg, h3⟩
/-- Bytes of one's own, made anew. -/
theorem wpList_make32 {ops : Array Oper} {rest : List Oper} {o : Oper} {a : Act} {w : World} {Q : Exit → Act → World → Prop} (hgd : o.guard = none) (ho : o.op = .makeSlice 22 (.const (.int .i64 32)) (.const (.int .i64 32)))
    (h : ∀ b w', w.heap.size ≤ b → Owns w' b (.slice (some ⟨b, 0, none⟩) 32 32) (List.replicate 32 0) → Below w.heap.size w w' → wpList Try.prog ops Q rest (a.put o.dst (.slice (some ⟨b, 0, none⟩) 32 32)) w') : wpList Try.prog ops Q (o :: rest) a w := by
  have hr := exec_make32 a o.type w
  exact wpList_plain hgd fun _ hK => by
    unfold Oper.wp
    rw [exec_mkOp, ho, hr]
    exact hK _ _ (h _ _ (Nat.le_refl _) (made_own w 32 (by unfold maxLen; omega)) ((Below.refl _ _).alloc (Nat.le_refl _) _))
theorem ret_cell_as_tmp {P : Program} {a : Act} {w : World} {fn : Func} {R : Ending → World → Prop} {p q : Tmp} {ty : TypeId} {k b m : Nat} {t : TypeId} {f : Nat → Value} {v : Value} (Fv : Nat → Value) (h : fn.results = #[.cell p ty, .tmp q]) (ht : IsArr P ty k)
    (hr : w.rowIs b t m f) (hp : a.tmps.getD p undef = .pointer (some ⟨b, 0, none⟩)) (hq : a.tmps.getD q undef = v) (hk : k ≤ m) (hF : ∀ i, i < k → f i = Fv i) (hd : a.defers = []) (hR : R (.returned (.tuple #[.agg (arrOf k Fv), v])) w) : bodyPost P fn R .ret a w :=
  ret_cell_arr_tmp h ht hr hp hq (by omega) hd (by rw [arrOf_congr (g := Fv) fun i hi => by rw [Nat.zero_add]; exact hF i hi]; exact hR)
theorem bs_cell {W : World} {gb off n c : Nat} {l : List UInt8} (h : Bs W (.slice (some ⟨gb, off, none⟩) n c) l) (i : Nat) (hi : i < l.length) : W.cell? ⟨gb, off + i, none⟩ = some (.int .u8 ((l[i].toNat : Nat) : Int)) := by
  obtain ⟨_, _, he, _, _, _, hc9⟩ := h
  injection he with he1 he2 he3
  have h10 := (hc9 _ he1.symm i hi).2
  rwa [add_eq] at h10
end Go.Proofs.Ytphkmaihnbhgoaa

/- The forms of a number: its bytes with the highest bit set, the bytes of p and a small number; what Strict and Of read of them. -/
set_option linter.unusedSimpArgs false
set_option linter.unusedVariables false
namespace Go.Proofs.Ytphkmaihnbhgoaa
open Go.RowKit Go.Deep

theorem litB_at (V n i : Nat) (h : i < (litB V n).length) : (litB V n)[i] = UInt8.ofNat (V / 256 ^ i) := by
  rw [← getD_at _ i h]
  exact litB_getD V n i (by rwa [litB_length] at h)
theorem litB_set (V U i : Nat) (hsame : ∀ j, j < 32 → j ≠ i → V / 256 ^ j % 256 = U / 256 ^ j % 256) : (litB V 32).set i (UInt8.ofNat (U / 256 ^ i)) = litB U 32 := by
  refine List.ext_getElem (by simp [litB_length]) fun j h1 h2 => ?_
  rw [List.getElem_set]
  rw [litB_at U 32 j h2]
  split
  · subst j; rfl
  · rw [litB_at]
    apply UInt8.toNat_inj.1
    simp only [UInt8.toNat_ofNat']
    rw [litB_length] at h2
    exact hsame j h2 (by omega)
theorem high_same (A j : Nat) (hj : j < 31) : A / 256 ^ j % 256 = (A + top) / 256 ^ j % 256 := by
  have h1 : (256 : Nat) ^ j * 256 * 256 ^ (30 - j) = 256 ^ 31 := by
    rw [← Nat.pow_succ, ← Nat.pow_add]
    congr 1
    omega
  have h2 : top = 256 ^ j * (256 * (256 ^ (30 - j) * 128)) := by
    have h3 : top = 256 ^ 31 * 128 := by decide +kernel
    rw [h3, ← h1]
    simp only [Nat.mul_assoc]
  rw [h2, Nat.add_mul_div_left _ _ (pow256_pos j), Nat.add_mul_mod_self_left]
/-- The highest bit set. -/
theorem high_set (A : Nat) : (litB A 32).set 31 (UInt8.ofNat ((A + top) / 256 ^ 31)) = litB (A + top) 32 :=
  litB_set A (A + top) 31 fun j h1 h2 => high_same A j (by omega)
theorem high_lt (A : Nat) (h : A < p25) : A / 256 ^ 31 < 128 := by
  rw [Nat.div_lt_iff_lt_mul (pow256_pos 31)]
  exact Nat.lt_of_lt_of_le h (by decide +kernel)
theorem high_byte (A : Nat) : (A + top) / 256 ^ 31 = A / 256 ^ 31 + 128 := by
  have h3 : top = 256 ^ 31 * 128 := by decide +kernel
  rw [h3, Nat.add_mul_div_left _ _ (pow256_pos 31)]
theorem high_old (A : Nat) (h : A < p25) : (UInt8.ofNat (A / 256 ^ 31)).toNat = A / 256 ^ 31 := UInt8.toNat_ofNat_of_lt' (Nat.lt_trans (high_lt A h) (by decide))
theorem high_new (A : Nat) (h : A < p25) : (UInt8.ofNat ((A + top) / 256 ^ 31)).toNat = A / 256 ^ 31 + 128 := by
  rw [high_byte]
  have := high_lt A h
  exact UInt8.toNat_ofNat_of_lt' (Nat.lt_of_lt_of_le (Nat.add_lt_add_right this 128) (by decide))
theorem or_128 (q : Nat) (h : q < 128) : bits .or .u8 (q : Int) 128 = ((q + 128 : Nat) : Int) := by
  have g : ∀ q : Fin 128, bits .or .u8 ((q.val : Nat) : Int) 128 = ((q.val + 128 : Nat) : Int) := by decide +kernel
  exact g ⟨q, h⟩
theorem top_two : 256 ^ 32 = 2 * top := by decide +kernel
theorem numL_lit (V : Nat) (h : V < 2 * top) : numL (litB V 32) 32 = V := by
  rw [numL_litB V 32 32 (Nat.le_refl _), Nat.mod_eq_of_lt (by rw [top_two]; exact h)]
end Go.Proofs.Ytphkmaihnbhgoaa

/- Points and their forms, in numbers: what 32 bytes stand for, and back. -/
set_option linter.unusedSimpArgs false
set_option linter.unusedVariables false
namespace Go.Proofs.Ytphkmaihnbhgoaa

def decS (Y : Nat) : Nat := mulP (subP p25 (mulP Y Y) 1) (invP (addP (mulP dP (mulP Y Y)) 1))
/-- The even x of y, if there is one. -/
def decX (Y : Nat) : Option Nat := rootL p25 t25 (decS Y)
/-- The point that the bytes stand for. -/
def decN (l : List UInt8) : Option (Nat × Nat) :=
  if l.length = 32 ∧ numL l 32 % top < p25 then
    (decX (numL l 32 % top)).bind fun x => if numL l 32 / top = 1 ∧ x = 0 then none else some (if numL l 32 / top = 1 then oppP x else x, numL l 32 % top)
  else none
/-- A point's form. -/
def encN (P : Nat × Nat) : Nat := P.2 + P.1 % 2 * top

theorem decS_lt (Y : Nat) : decS Y < p25 := mulP_lt _ _
theorem one_ltp : 1 < p25 := by decide +kernel
theorem v_ne (Y : Nat) : ¬ Z ((addP (mulP dP (mulP Y Y)) 1 : Nat) : Int) := fun h => by
  have h1 := Z_addP (mulP dP (mulP Y Y)) 1
  have h2 := Z_mulP dP (mulP Y Y)
  have h3 := Z_mulP Y Y
  have hd := d_c
  refine c_sqn (Y : Int) ?_
  generalize ((addP (mulP dP (mulP Y Y)) 1 : Nat) : Int) = v at *
  generalize ((mulP dP (mulP Y Y) : Nat) : Int) = m at *
  generalize ((mulP Y Y : Nat) : Int) = s at *
  generalize ((dP : Nat) : Int) = d at *
  generalize (Y : Int) = y at *
  generalize cE = c at *
  have k : Z (c + y * y - (c * v - y * y * (c * d - 1))) := by
    have e1 : Z (v - (d * s + 1)) := Z.lin2 1 1 h1 h2 (by grind)
    exact Z.lin2 (-c) (-(c * d)) e1 h3 (by grind)
  exact Z.lin3 1 c (-(y * y)) k h hd (by grind)
/-- What decX takes the root of, told without a quotient. -/
theorem decS_Z (Y : Nat) : Z ((decS Y : Int) * ((dP : Int) * ((Y : Int) * Y) + 1) - ((Y : Int) * Y - 1)) := by
  have hv := v_ne Y
  have h1 := Z_addP (mulP dP (mulP Y Y)) 1
  have h2 := Z_mulP dP (mulP Y Y)
  have h3 := Z_mulP Y Y
  have h4 := Z_subP (mulP Y Y) 1
  have h5 := Z_invP (addP_lt (mulP dP (mulP Y Y)) 1) hv
  have h6 := Z_mulP (subP p25 (mulP Y Y) 1) (invP (addP (mulP dP (mulP Y Y)) 1))
  have e : (mulP (subP p25 (mulP Y Y) 1) (invP (addP (mulP dP (mulP Y Y)) 1)) : Nat) = decS Y := rfl
  rw [e] at h6
  generalize ((decS Y : Nat) : Int) = q at *
  generalize ((invP (addP (mulP dP (mulP Y Y)) 1) : Nat) : Int) = i at *
  generalize ((addP (mulP dP (mulP Y Y)) 1 : Nat) : Int) = v at *
  generalize ((subP p25 (mulP Y Y) 1 : Nat) : Int) = u at *
  generalize ((mulP dP (mulP Y Y) : Nat) : Int) = m at *
  generalize ((mulP Y Y : Nat) : Int) = s at *
  generalize ((dP : Nat) : Int) = d at *
  generalize (Y : Int) = y at *
  have e1 : Z (v - (d * (y * y) + 1)) := Z.lin3 1 1 d h1 h2 h3 (by grind)
  have e2 : Z (u - (y * y - 1)) := Z.lin2 1 1 h4 h3 (by grind)
  have e3 : Z (q * v - u) := Z.lin2 v u h6 h5 (by grind)
  exact Z.lin3 1 1 (-q) e3 e2 e1 (by grind)
/-- On the curve just if x squared is it. -/
theorem onE_decS {x Y : Nat} (hx : x < p25) (hY : Y < p25) : onE (x, Y) ↔ mulP x x = decS Y := by
  have h1 := decS_Z Y
  have h2 := Z_mulP x x
  have hd := d_c
  have hc := c_ne
  have hn := v_ne Y
  have ha := Z_addP (mulP dP (mulP Y Y)) 1
  have hm := Z_mulP dP (mulP Y Y)
  have hs := Z_mulP Y Y
  constructor
  · rintro ⟨_, _, h⟩
    unfold EC at h
    refine Z.eq (mulP_lt _ _) (decS_lt _) ?_
    dsimp only at h
    generalize ((addP (mulP dP (mulP Y Y)) 1 : Nat) : Int) = v at *
    generalize ((mulP dP (mulP Y Y) : Nat) : Int) = m at *
    generalize ((mulP Y Y : Nat) : Int) = s at *
    generalize ((decS Y : Nat) : Int) = q at *
    generalize ((mulP x x : Nat) : Int) = z at *
    generalize ((dP : Nat) : Int) = d at *
    generalize (x : Int) = X at *
    generalize (Y : Int) = y at *
    generalize cE = c at *
    have ev : Z (v - (d * (y * y) + 1)) := Z.lin3 1 1 d ha hm hs (by grind)
    -- c v (x x - q) = 0
    have k1 : Z (c * ((X * X) * (d * (y * y) + 1) - (y * y - 1))) := Z.lin2 1 (X * X * (y * y)) h hd (by grind)
    have k2 : Z ((X * X) * (d * (y * y) + 1) - (y * y - 1)) := Z.cancel k1 hc
    have k3 : Z (v * (z - q)) := by
      have k4 : Z (z * (d * (y * y) + 1) - (y * y - 1)) := Z.lin2 1 (d * (y * y) + 1) k2 h2 (by grind)
      have k5 : Z ((d * (y * y) + 1) * (z - q)) := Z.lin2 1 (-1) k4 h1 (by grind)
      exact Z.lin2 1 (z - q) k5 ev (by grind)
    exact Z.cancel k3 hn
  · intro h
    refine ⟨hx, hY, ?_⟩
    unfold EC
    dsimp only
    rw [h] at h2
    generalize ((decS Y : Nat) : Int) = q at *
    generalize ((dP : Nat) : Int) = d at *
    generalize (x : Int) = X at *
    generalize (Y : Int) = y at *
    generalize cE = c at *
    have k2 : Z ((X * X) * (d * (y * y) + 1) - (y * y - 1)) := Z.lin2 1 (-(d * (y * y) + 1)) h1 h2 (by grind)
    exact Z.lin2 c (-(X * X * (y * y))) k2 hd (by grind)
theorem decX_some {Y x : Nat} (hY : Y < p25) (h : decX Y = some x) : onE (x, Y) ∧ x % 2 = 0 := by
  obtain ⟨h1, h2, h3⟩ := rootL_some prime_p25 t25_eq (decS_lt Y) h
  exact ⟨(onE_decS h3 hY).2 h1, h2⟩
theorem decX_of {x Y : Nat} (h : onE (x, Y)) : ∃ r, decX Y = some r ∧ (r = x ∨ r = oppP x) ∧ r % 2 = 0 ∧ r < p25 := by
  have h1 := (onE_decS h.1 h.2.1).1 h
  obtain ⟨r, hr, _, h3, h4, h5⟩ := root_square x h.1
  rw [h1] at hr
  exact ⟨r, hr, h5, h3, h4⟩
theorem oppP_odd {x : Nat} (hx : x < p25) (h0 : x ≠ 0) : oppP x % 2 = 1 - x % 2 := by
  have e : oppP x = p25 - x := by
    unfold oppP subP negP
    rw [Nat.zero_add, Nat.mod_mod, Nat.mod_eq_of_lt hx, Nat.mod_eq_of_lt (by omega)]
  have hp : p25 % 2 = 1 := by decide +kernel
  rw [e]
  omega
theorem top_pos' : 0 < top := by decide +kernel
theorem p25_ltop : p25 < top := by decide +kernel
theorem decN_some {l : List UInt8} {P : Nat × Nat} (h : decN l = some P) : l.length = 32 ∧ onE P ∧ encN P = numL l 32 := by
  unfold decN at h
  split at h
  · rename_i hc
    obtain ⟨hl, hY⟩ := hc
    refine ⟨hl, ?_⟩
    cases hx : decX (numL l 32 % top) with
    | none => rw [hx] at h; cases h
    | some x =>
      rw [hx, Option.bind_some] at h
      obtain ⟨hE, he⟩ := decX_some hY hx
      have hn : numL l 32 < 256 ^ 32 := numL_lt l 32
      rw [top_two] at hn
      have hdm := Nat.div_add_mod (numL l 32) top
      have hq : numL l 32 / top < 2 := by rw [Nat.div_lt_iff_lt_mul top_pos']; exact hn
      split at h
      · cases h
      · rename_i hz
        have e := Option.some.inj h
        by_cases h1 : numL l 32 / top = 1
        · rw [if_pos h1] at e
          have hx0 : x ≠ 0 := fun hx0 => hz ⟨h1, hx0⟩
          have ho := oppP_odd hE.1 hx0
          subst e
          refine ⟨negE_on hE, ?_⟩
          unfold encN
          dsimp only
          rw [ho, he, show 1 - 0 = 1 from rfl, Nat.one_mul]
          rw [h1] at hdm
          omega
        · rw [if_neg h1] at e
          have h0 : numL l 32 / top = 0 := by
            clear hdm
            generalize numL l 32 / top = q at *
            omega
          subst e
          refine ⟨hE, ?_⟩
          unfold encN
          dsimp only
          rw [he, Nat.zero_mul]
          rw [h0] at hdm
          omega
  · cases h
theorem encN_lt {P : Nat × Nat} (hP : onE P) : encN P < 2 * top := by
  have h1 := hP.2.1
  have h2 := p25_ltop
  have h3 : P.1 % 2 < 2 := Nat.mod_lt _ (by decide)
  unfold encN
  generalize P.1 % 2 = b at *
  generalize top = t at *
  rcases (show b = 0 ∨ b = 1 by omega) with rfl | rfl <;> omega
theorem encN_mod {P : Nat × Nat} (hP : onE P) : encN P % top = P.2 ∧ encN P / top = P.1 % 2 := by
  have h1 := Nat.lt_trans hP.2.1 p25_ltop
  unfold encN
  rw [Nat.add_mul_mod_self_right, Nat.mod_eq_of_lt h1, Nat.add_mul_div_right _ _ top_pos', Nat.div_eq_of_lt h1, Nat.zero_add]
  exact ⟨rfl, rfl⟩
theorem decN_enc {P : Nat × Nat} (hP : onE P) : decN (litB (encN P) 32) = some P := by
  have hn := numL_lit (encN P) (encN_lt hP)
  obtain ⟨h1, h2⟩ := encN_mod hP
  unfold decN
  rw [hn, h1, h2, if_pos ⟨litB_length _ _, hP.2.1⟩]
  obtain ⟨r, hr, hrx, hre, hrl⟩ := decX_of (x := P.1) (Y := P.2) hP
  rw [hr, Option.bind_some]
  by_cases hb : P.1 % 2 = 1
  · have h0 : P.1 ≠ 0 := fun h => by rw [h] at hb; cases hb
    have hro : r = oppP P.1 := by
      rcases hrx with e | e
      · rw [e] at hre; omega
      · exact e
    have hr0 : r ≠ 0 := fun h => oppP_ne hP.1 h0 (by rw [← hro, h])
    rw [if_neg (fun h => hr0 h.2), if_pos hb, hro, oppP_oppP _ hP.1]
  · have hrp : r = P.1 := by
      rcases hrx with e | e
      · exact e
      · by_cases h0 : P.1 = 0
        · rw [e, h0, oppP_zero]
        · have := oppP_odd hP.1 h0
          rw [← e] at this
          omega
    rw [if_neg (fun h => hb h.1), if_neg hb, hrp]
end Go.Proofs.Ytphkmaihnbhgoaa

/- A scalar's number as clamping makes it; the document's Clamp. -/
set_option linter.unusedSimpArgs false
set_option linter.unusedVariables false
namespace Go.Proofs.Ytphkmaihnbhgoaa
open Go.RowKit Go.Deep

theorem and127N (x : Nat) (h : x < 256) : bits .and .u8 (x : Int) 127 = ((x % 128 : Nat) : Int) := by
  have g : ∀ q : Fin 256, bits .and .u8 ((q.val : Nat) : Int) 127 = ((q.val % 128 : Nat) : Int) := by decide +kernel
  exact g ⟨x, h⟩
end Go.Proofs.Ytphkmaihnbhgoaa

/- Operations on bytes, one at a time: quotients and remainders by 8, shifts, masks. -/
namespace Go.Proofs.Ytphkmaihnbhgoaa
open Go.RowKit Go.Deep
set_option linter.unusedSimpArgs false
set_option linter.unusedVariables false

theorem wpList_shr7 {ops : Array Oper} {Q : Exit → Act → World → Prop} {a : Act} {w : World} {rest : List Oper} {o : Oper} {ty : TypeId} (hgd : o.guard = none) (x y : Operand) (ho : o.op = .binOp .shr 5 x y ty) {t q : Nat}
    (hx : a.eval x = .int .u8 (t : Int)) (hy : a.eval y = .int .u64 7) (hq : q = t / 128) (ht : t < 256) (h : wpList Try.prog ops Q rest (a.put o.dst (.int .u8 (q : Int))) w) : wpList Try.prog ops Q (o :: rest) a w := by
  refine wpList_value hgd (.int .u8 (q : Int)) ?_ h
  have h1 : (t : Int) / 2 ^ 7 = (q : Int) := by omega
  have h2 : (t : Int) / 128 = (q : Int) := by omega
  have h3 : IntKind.u8.wrap (q : Int) = (q : Int) := IntWalk.u8_in _ ⟨by omega, by omega⟩
  clear hq h
  rw [exec_mkOp, ho]
  simp only [execOp, mkOp, hx, hy]
  go_simp
end Go.Proofs.Ytphkmaihnbhgoaa

/- The document's points: the point that bytes stand for. -/
set_option linter.unusedSimpArgs false
set_option linter.unusedVariables false
namespace Go.Proofs.Ytphkmaihnbhgoaa
open Go.RowKit Go.Deep

/-- What Decode strikes off. -/
def cutB (l : List UInt8) : List UInt8 := l.set 31 (UInt8.ofNat ((l.getD 31 0).toNat % 128))
theorem owns_cap {W : World} {base g n c : Nat} {l : List UInt8} (h : Owns W base (.slice (some ⟨g, 0, none⟩) n c) l) : n ≤ c := by
  obtain ⟨_, _, he, hc, _⟩ := h.bs
  injection he with he1 he2 he3
  subst he3
  subst he2
  exact hc
theorem builtFe0 : Try.prog.built 34 [] = some (arrOf 16 (feF 0)) := by kernel_rfl
theorem exec_zeroFe {w : World} (ρ : Operand → Value) (t : TypeId) : (execOp ρ (mkOp (.build 34 #[]) t)).run Try.prog w = .ok (.value (.agg (arrOf 16 (feF 0)))) w := by
  have hr := run_build w 34 #[] (arrOf 16 (feF 0)) builtFe0
  simp [execOp, mkOp, hr, Result.andThen]
theorem wpList_load_cat {ops : Array Oper} {rest : List Oper} {o : Oper} {a : Act} {w : World} {Q : Exit → Act → World → Prop} (hgd : o.guard = none) (x : Operand) (ho : o.op = .load 5 x) {ad : Addr} {q : Nat} (hc : w.cell? ad = some (.int .u8 (q : Int)))
    (hx : a.eval x = .pointer (some ad)) (h : wpList Try.prog ops Q rest (a.put o.dst (.int .u8 (q : Int))) w) : wpList Try.prog ops Q (o :: rest) a w := by
  refine wpList_value hgd _ ?_ h
  rw [exec_mkOp, ho]
  exact exec_load_cell a.eval 5 x o.type hx (by kernel_rfl) hc
theorem numL_cut (l : List UInt8) (h : l.length = 32) : numL (cutB l) 32 = numL l 32 % top ∧ numL l 32 / top = (l.getD 31 0).toNat / 128 := by
  have e1 : ∀ k, k ≤ 31 → numL (cutB l) k = numL l k := by
    intro k
    induction k with
    | zero => intro _; rfl
    | succ k ih =>
      intro hk
      rw [numL, numL, ih (by omega)]
      congr 2
      unfold cutB
      rw [List.getD_eq_getElem?_getD, List.getElem?_set_ne (by omega), List.getD_eq_getElem?_getD]
  have hq : (l.getD 31 0).toNat < 256 := UInt8.toNat_lt _
  have e2 : ((cutB l).getD 31 0).toNat = (l.getD 31 0).toNat % 128 := by
    unfold cutB
    rw [List.getD_eq_getElem?_getD, List.getElem?_set_self (by omega)]
    exact UInt8.toNat_ofNat_of_lt' (show _ % 128 < 256 by omega)
  have ht : top = 256 ^ 31 * 128 := by decide +kernel
  have hn := numL_lt l 31
  rw [show numL (cutB l) 32 = numL (cutB l) 31 + ((cutB l).getD 31 0).toNat * 256 ^ 31 from rfl, show numL l 32 = numL l 31 + (l.getD 31 0).toNat * 256 ^ 31 from rfl, e1 31 (Nat.le_refl _), e2, ht]
  generalize (l.getD 31 0).toNat = q at *
  generalize numL l 31 = n at *
  have hp : 0 < 256 ^ 31 := Nat.pow_pos (by decide)
  generalize 256 ^ 31 = t at *
  have hdm := Nat.div_add_mod q 128
  have hr : q % 128 < 128 := Nat.mod_lt _ (by decide)
  have hq2 : q / 128 < 2 := by omega
  generalize q / 128 = a at *
  generalize q % 128 = r at *
  have e3 : n + q * t = n + r * t + t * 128 * a := by
    rw [← hdm, Nat.add_mul]
    rw [Nat.mul_right_comm, Nat.mul_comm 128 t]
    omega
  have e4 : n + r * t < t * 128 := by
    have h5 : (r + 1) * t ≤ 128 * t := Nat.mul_le_mul_right t (by omega)
    rw [Nat.add_mul, Nat.one_mul] at h5
    rw [Nat.mul_comm t 128]
    omega
  constructor
  · rw [e3, Nat.add_mul_mod_self_left, Nat.mod_eq_of_lt e4]
  · rw [e3, Nat.add_mul_div_left _ _ (by omega), Nat.div_eq_of_lt e4, Nat.zero_add]
theorem strict_cut (l : List UInt8) (h : l.length = 32) : strictL (cutB l) = if numL l 32 % top < p25 then some (numL l 32 % top) else none := by
  rw [strictL_eq, (numL_cut l h).1]
  have hl : (cutB l).length = 32 := by unfold cutB; rw [List.length_set, h]
  by_cases hp : numL l 32 % top < p25
  · rw [if_pos ⟨hl, hp⟩, if_pos hp]
  · rw [if_neg (fun k => hp k.2), if_neg hp]
theorem refStrict_cut (v : Value) (l C : List UInt8) (Y : Nat) (w : World) (h : Bs w v C) (hC : C = cutB l) (hl : l.length = 32) (hY : numL l 32 % top = Y) (hYl : Y < p25) :
    Calls Try.prog 43 #[v] w fun e w' => e = .returned (.tuple #[.agg (arrOf 16 (feF Y)), .int .i64 0]) ∧ Below w.heap.size w w' := by
  have g := refStrict_any v C w h
  have e : strictL C = some Y := by rw [hC, strict_cut l hl, hY, if_pos hYl]
  rw [e] at g
  exact g
theorem refRoot_some (A x : Nat) (w : World) (hA : A < p25) (hx : rootL p25 t25 A = some x) : Calls Try.prog 50 #[.agg (arrOf 16 (feF A))] w fun e w' => e = .returned (.tuple #[.agg (arrOf 16 (feF x)), .int .i64 0]) ∧ Below w.heap.size w w' := by
  have g := refRoot_any A w hA
  rw [hx] at g
  exact g
theorem refRoot_none (A : Nat) (w : World) (hA : A < p25) (hx : rootL p25 t25 A = none) : Calls Try.prog 50 #[.agg (arrOf 16 (feF A))] w fun e w' => e = .returned (.tuple #[.agg (arrOf 16 (feF 0)), .int .i64 7]) ∧ Below w.heap.size w w' := by
  have g := refRoot_any A w hA
  rw [hx] at g
  exact g
set_option maxHeartbeats 4000000 in
set_option maxRecDepth 10000 in
theorem refDecode_1 (v0 : Value) (l0 : List UInt8) (w : World) (h0 : Bs w v0 l0) (hl : ¬ l0.length = 32) : Calls Try.prog 11 #[v0] w fun e w' => e = .returned (.tuple #[.agg (arrOf 48 (ptF 0 1 1)), .int .i64 12]) ∧ Below w.heap.size w w' := by
  have B00 := Below.refl w.heap.size w
  obtain ⟨ad0, n0, c0, rfl, e0, y0, z0, hB0⟩ := h0.shape
  have q0 : ¬ (n0 : Int) = 32 := by omega
  clear h0 hB0 B00
  have Bw0 := Below.refl w.heap.size w
  have HGS : Hid (∀ wq : World, Below w.heap.size w wq → w.heap.size ≤ wq.heap.size) := Lib.hid fun wq h => h.size
  go_enter Try.func11, Try.ntmps11
  go_wp2_with (first
    | (have hgo := Bw0; clear hgo
       refine wpList_alloc_row rfl 36 rfl 48 (u64f fun _ => 0) zeroPt ?_
       intro b_t2 w1 lk r_t2 kk
       have l_t2 := Nat.le_trans (HGS.out _ Bw0) lk
       have Bw1 := Bw0.trans (kk.mono (HGS.out _ Bw0))
       clear Bw0 kk lk)
    | (have hgo := Bw1; clear hgo
       go_at_call 42
       refine (refZero_any _).mono ?_
       rintro e w3 ⟨rfl, kk⟩
       replace r_t2 := World.rowIs.of_block r_t2 (kk.block _ (World.rowIs.lt r_t2))
       have Bw2 := Bw1.trans (kk.mono (HGS.out _ Bw1))
       clear Bw1 kk)
    | (have hgo := Bw2; clear hgo
       refine wpList_store_as rfl 36 (.tmp 2) (.tmp 16) rfl 48 (ptF 0 1 1) arrP r_t2 rfl rfl (by omega) (fun j _ => ptF_one _ _ _ j) (fun i hi => putN_whole hi) ?_
       intro w4 q gk
       replace r_t2 := q
       have Bw3 := Bw2.grown gk (HGS.out _ Bw2) (by intro k hk; cases hk; exact l_t2)
       clear Bw2 gk q))
  exact ret_cell_as_tmp _ rfl arrP r_t2 rfl rfl (by omega) (fun _ _ => rfl) rfl ⟨rfl, Bw3⟩
set_option maxHeartbeats 4000000 in
set_option maxRecDepth 10000 in
theorem refDecode_2 (v0 : Value) (l0 : List UInt8) (w : World) (h0 : Bs w v0 l0) (hl : l0.length = 32) (hY : ¬ numL l0 32 % top < p25) : Calls Try.prog 11 #[v0] w fun e w' => e = .returned (.tuple #[.agg (arrOf 48 (ptF 0 1 1)), .int .i64 12]) ∧ Below w.heap.size w w' := by
  have HY_ := Lib.hid hY
  clear hY
  obtain ⟨gb, off, c0, rfl, y0, z0, hgb, hcells⟩ := h0.open_n hl (by decide)
  have HL := Lib.hid hl
  have HF0 := Lib.hid h0
  obtain ⟨q, hq⟩ := nat_var ((l0.getD 31 0).toNat)
  have hql : q < 256 := by rw [hq]; exact UInt8.toNat_lt _
  have a1 := and127N q hql
  obtain ⟨u, hu⟩ := nat_var (q % 128)
  rw [← hu] at a1
  have a2 : (q : Int) % 128 = (u : Int) := by omega
  have HUL : Hid (u < 256) := Lib.hid (by omega)
  have HQL := Lib.hid hql
  have HSG : Hid (numL l0 32 / top = q / 128) := Lib.hid (by rw [(numL_cut l0 hl).2, ← hq])
  have HCB : Hid (cutB l0 = l0.set 31 (UInt8.ofNat u)) := Lib.hid (by rw [hu, hq]; rfl)
  obtain ⟨CL, hCL⟩ : ∃ C, C = cutB l0 := ⟨_, rfl⟩
  have HCL := Lib.hid hCL
  have HST := Lib.hid fun v w h => refStrict_any v (cutB l0) w h
  rw [strict_cut l0 hl] at HST
  rw [if_neg HY_.out] at HST
  simp only [Option.getD_none, strictE, Option.isSome_none, eq_self, if_true, Bool.false_eq_true, if_false] at HST
  rw [← hCL] at HST
  rw [← hCL] at HCB
  have HQ : Hid (∀ h : 31 < l0.length, (l0[31]'h).toNat = q) := Lib.hid fun h => by rw [hq, List.getD_eq_getElem?_getD, List.getElem?_eq_getElem h]; rfl
  have HC31 : Hid (∀ W, Below w.heap.size w W → W.cell? ⟨gb, off + 31, none⟩ = some (.int .u8 (q : Int))) := Lib.hid fun W hW => (bs_cell (h0.below hW (Nat.le_refl _)) 31 (by rw [hl]; decide)).trans (by rw [HQ.out])
  clear hCL hq hql hu hcells h0 hl
  clear HY_
  have Bw0 := Below.refl w.heap.size w
  have HGS : Hid (∀ wq : World, Below w.heap.size w wq → w.heap.size ≤ wq.heap.size) := Lib.hid fun wq h => h.size
  go_enter Try.func11, Try.ntmps11
  go_wp2_with (first
    | (have hgo := Bw0; clear hgo
       refine wpList_alloc_row rfl 36 rfl 48 (u64f fun _ => 0) zeroPt ?_
       intro b_t2 w1 lk r_t2 kk
       have l_t2 := Nat.le_trans (HGS.out _ Bw0) lk
       have Bw1 := Bw0.trans (kk.mono (HGS.out _ Bw0))
       clear Bw0 kk lk
       have O1 := Owns.empty w1
       have k1 := (Below.refl w1.heap.size w1).alloc (Nat.le_refl _) (.cells #[] 5)
       have F1 := (HF0.out.below Bw1 (Nat.le_refl _)).below k1 (Nat.le_refl _))
    | (have hgo := Bw1; clear hgo
       refine wpList_app rfl (.tmp 17) (.tmp 18) rfl w1.heap.size _ _ [] l0 O1 F1 rfl rfl (by simp [HL.out]) (by simp) ?_
       intro v2 w2 ho hgr
       obtain ⟨g, cap, hv, hg, hgs, _, _⟩ := (show Owns w2 w1.heap.size v2 l0 from ho).open_cons (by rw [HL.out]; decide)
       rw [HL.out] at hv
       subst hv
       have o2 : Owns w2 w1.heap.size (.slice (some ⟨g, 0, none⟩) 32 cap) l0 := ho
       have hcap := owns_cap o2
       have C2 := k1.grown hgr (by simp) (fun k hk => by simp [Value.ownBlock] at hk; omega)
       clear O1 F1 k1 ho hgr)
    | (refine wpList_load_byte rfl (.tmp 22) rfl 31 q o2 HL.out.symm (by rw [HL.out]; decide) rfl (HQ.out _) ?_)
    | (refine wpList_store_byte rfl (.tmp 25) (.tmp 24) rfl 31 u o2 HL.out.symm hcap (by rw [HL.out]; decide) rfl rfl HUL.out ?_
       intro w3 o3 g3
       have C3 := C2.grown g3 C2.size (by intro k hk; cases hk; exact hg)
       have Bw2 := Bw1.trans (C3.mono (HGS.out _ Bw1))
       replace r_t2 := World.rowIs.of_block r_t2 (C3.block _ (World.rowIs.lt r_t2))
       rw [← HCB.out] at o3
       have f_c := o3.bs
       clear o2 C2 C3 Bw1 g3 o3)
    | (have hgo := Bw2; clear hgo
       go_at_call 43
       refine (HST.out _ _ f_c).mono ?_
       rintro e w12 ⟨rfl, kk⟩
       replace r_t2 := World.rowIs.of_block r_t2 (kk.block _ (World.rowIs.lt r_t2))
       have Bw3 := Bw2.trans (kk.mono (HGS.out _ Bw2))
       clear Bw2 kk)
    | (have hgo := Bw3; clear hgo
       refine wpList_alloc_row rfl 34 rfl 16 (u64f fun _ => 0) zeroFe ?_
       intro b_t5 w16 lk r_t5 kk
       have n_t2_t5 : b_t2 ≠ b_t5 := Nat.ne_of_lt (Nat.lt_of_lt_of_le (World.rowIs.lt r_t2) lk)
       have l_t5 := Nat.le_trans (HGS.out _ Bw3) lk
       replace r_t2 := World.rowIs.of_block r_t2 (kk.block _ (World.rowIs.lt r_t2))
       have Bw4 := Bw3.trans (kk.mono (HGS.out _ Bw3))
       clear Bw3 kk lk)
    | (have hgo := Bw4; clear hgo
       refine wpList_store_as rfl 34 (.tmp 5) (.tmp 29) rfl 16 (feF 0) arrFe r_t5 rfl rfl (by omega) (fun _ _ => rfl) (fun i hi => putN_whole hi) ?_
       intro w17 q gk
       replace r_t2 := gb_rowIs r_t2 gk n_t2_t5
       replace r_t5 := q
       have Bw5 := Bw4.grown gk (HGS.out _ Bw4) (by intro k hk; cases hk; exact l_t5)
       clear Bw4 gk q)
    | (have hgo := Bw5; clear hgo
       go_at_call 42
       refine (refZero_any _).mono ?_
       rintro e w19 ⟨rfl, kk⟩
       replace r_t2 := World.rowIs.of_block r_t2 (kk.block _ (World.rowIs.lt r_t2))
       replace r_t5 := World.rowIs.of_block r_t5 (kk.block _ (World.rowIs.lt r_t5))
       have Bw6 := Bw5.trans (kk.mono (HGS.out _ Bw5))
       clear Bw5 kk)
    | (have hgo := Bw6; clear hgo
       refine wpList_store_as rfl 36 (.tmp 2) (.tmp 33) rfl 48 (ptF 0 1 1) arrP r_t2 rfl rfl (by omega) (fun j _ => ptF_one _ _ _ j) (fun i hi => putN_whole hi) ?_
       intro w20 q gk
       replace r_t5 := gb_rowIs r_t5 gk (Ne.symm n_t2_t5)
       replace r_t2 := q
       have Bw7 := Bw6.grown gk (HGS.out _ Bw6) (by intro k hk; cases hk; exact l_t2)
       clear Bw6 gk q))
  exact ret_cell_as_tmp _ rfl arrP r_t2 rfl rfl (by omega) (fun _ _ => rfl) rfl ⟨rfl, Bw7⟩
end Go.Proofs.Ytphkmaihnbhgoaa
