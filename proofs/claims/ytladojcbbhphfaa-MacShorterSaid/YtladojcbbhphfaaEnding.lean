/- What makes whole blocks: sha2's ending. -/
import Derived.Test.YtladojcbbhphfaaPress
import Derived.Test.YtladojcbbhphfaaCopy
namespace Go.Proofs.Ytladojcbbhphfaa
open Go.RowKit Go.Deep

theorem endRoom_ge (n B : Nat) (hB : 64 ≤ B) : 9 ≤ endRoom n B ∧ endRoom n B ≤ 2 * B := by
  have h1 : n % B < B := Nat.mod_lt _ (by omega)
  unfold endRoom; split <;> omega
theorem getD_of_lt (l : List UInt8) (i : Nat) (h : i < l.length) : l.getD i 0 = l[i] := by
  rw [List.getD_eq_getElem?_getD, List.getElem?_eq_getElem h]; rfl
theorem endOf_get (n B i : Nat) (hB : 64 ≤ B) (h : i < endRoom n B) : (endOf n B).getD i 0 = if i = 0 then 128 else if i < endRoom n B - 8 then 0 else (bigB (8 * n) 8).getD (i - (endRoom n B - 8)) 0 := by
  have h9 := endRoom_ge n B hB
  unfold endOf
  generalize endRoom n B = r at *
  have hl : ([128] ++ List.replicate (r - 9) (0 : UInt8)).length = r - 8 := by simp; omega
  rw [List.getD_eq_getElem?_getD, List.getElem?_append, hl]
  by_cases e1 : i = 0
  · subst e1; rw [if_pos (by omega)]; rfl
  · rw [if_neg e1]
    by_cases e2 : i < r - 8
    · rw [if_pos e2, if_pos e2]
      obtain ⟨j, rfl⟩ : ∃ j, i = j + 1 := ⟨i - 1, by omega⟩
      simp [show j < r - 9 by omega]
    · rw [if_neg e2, if_neg e2, List.getD_eq_getElem?_getD]

set_option maxHeartbeats 4000000 in
theorem ending64_any (n : Nat) (w : World) (hn : n < 2 ^ 60) :
    Calls Try.prog 37 #[.int .u64 n, .int .i64 64] w fun e w' => ∃ v, e = .returned v ∧ Bs w' v (endOf n 64) ∧ Below w.heap.size w w' ∧ ∃ c, v = .slice (some ⟨w.heap.size, 0, none⟩) (endOf n 64).length c := by
  obtain ⟨r, hr⟩ : ∃ r, r = endRoom n 64 := ⟨_, rfl⟩
  have hr9 : 9 ≤ r ∧ r ≤ 256 := by rw [hr]; have := endRoom_ge n 64 (by omega); omega
  have hmk : ∀ w : World, (Instr.makeSlice 22 (.int .i64 r) (.int .i64 r)).run Try.prog w = .ok (.slice (some ⟨w.heap.size, 0, none⟩) r r) (w.alloc (.cells (madeCells #[.int .u8 0] r) 5)) :=
    fun w => run_make_row' (P := Try.prog) 22 5 (.int .u8 0) 1 Try.underlying22 Try.info5 rfl .i64 .i64 r (by omega) (by omega) w
  have hmade := World.rowIs_made w (.int .u8 0) r 5
  have hc0 := hmade.cell (i := 0) (by omega)
  have hf0 := hmade.frozen 0
  have hr0 : (0 : Int) < (r : Int) := by omega
  go_enter Try.func37, Try.ntmps37
  by_cases hc : 64 - n % 64 < 1 + 64 / 8
  focus
    have hrI : (64 : Int) - (n : Int) % 64 + 64 = (r : Int) := by rw [hr]; unfold endRoom; rw [if_pos hc]; omega
    have hcI : (64 : Int) - (n : Int) % 64 < 9 := by omega
    have HR := Lib.hid hr
    clear hr hc
    go_wp2
  rotate_left
  focus
    have hrI : (64 : Int) - (n : Int) % 64 = (r : Int) := by rw [hr]; unfold endRoom; rw [if_neg hc]; omega
    have hcI : (9 : Int) ≤ (r : Int) := by rw [hr]; unfold endRoom; rw [if_neg hc]; omega
    have HR := Lib.hid hr
    clear hr hc
    go_wp2
  rotate_left
  all_goals
    have hrow := hmade.set 0 (.int .u8 128)
    have hb : Below w.heap.size w ((w.alloc (.cells (madeCells #[.int .u8 0] r) 5)).setCell ⟨w.heap.size, 0, none⟩ (.int .u8 128)) := ((Below.refl _ _).alloc (Nat.le_refl _) _).setCell (Nat.le_refl _) _
    rw [World.setCell_alloc_at _ _ _ _ _ rfl] at hrow hb
    generalize (w.alloc (.cells ((madeCells #[.int .u8 0] r).setIfInBounds 0 (.int .u8 128)) 5)) = w0 at *
    clear hmade hmk hc0 hf0 hr0 hcI hrI
    have hw8 : IntKind.i64.wrap ((r : Int) - 8) = ((r - 8 : Nat) : Int) := by rw [IntWalk.i64_in _ (by omega)]; omega
    have hm8 : IntKind.u64.wrap (8 * (n : Int)) = ((8 * n : Nat) : Int) := by rw [IntWalk.u64_in _ (by omega)]; omega
    replace hrow := hrow.drew
    replace hb := hb.drew
    refine wp_region_lins [(0, some []), (1, some []), (2, some []), (3, some [7]), (4, some []), (5, some [6]), (6, none), (7, none)] (fun _ _ => True) (by kernel_rfl) (by kernel_rfl) (by decide) (by kernel_rfl) (fun d _ _ _ _ h => by cases d <;> exact h) (fun _ _ => trivial) ?_
    refine lins_read 26 (Op.move (Operand.tmp 6)) 22 _ rfl rfl rfl rfl rfl (fun w0 hw0 => by unfold mkOp; go_simp; all_goals (with_reducible rfl)) ?_
    simp only [Act.put, List.setIfInBounds_toArray, List.set_cons_zero, List.set_cons_succ]
    refine lins_read 27 (Op.move (Operand.tmp 5)) 3 _ rfl rfl rfl rfl rfl (fun w0 hw0 => by unfold mkOp; go_simp; all_goals (with_reducible rfl)) ?_
    simp only [Act.put, List.setIfInBounds_toArray, List.set_cons_zero, List.set_cons_succ]
    refine lins_read 28 (Op.binOp BinOp.sub 3 (Operand.tmp 27) (Operand.const (Value.int IntKind.i64 8)) 3) 3 _ rfl rfl rfl rfl rfl (fun w0 hw0 => by unfold mkOp; go_simp; all_goals (with_reducible rfl)) ?_
    simp only [Act.put, List.setIfInBounds_toArray, List.set_cons_zero, List.set_cons_succ]
    refine lins_read 29 (Op.slice 22 (Operand.tmp 26) (some (Operand.tmp 28)) none none) 22 (.slice (some ⟨w.heap.size, r - 8, none⟩) 8 8) rfl rfl rfl rfl rfl (fun w0 hw0 => by exact exec_sliceAt _ _ _ _ _ _ (r - 8) Try.underlying22 (by kernel_rfl) rfl rfl (by omega) (by omega) (by omega) (by omega) (by omega) (by omega)) ?_
    simp only [Act.put, List.setIfInBounds_toArray, List.set_cons_zero, List.set_cons_succ]
    refine lins_read 30 (Op.move (Operand.tmp 0)) 48 _ rfl rfl rfl rfl rfl (fun w0 hw0 => by unfold mkOp; go_simp; all_goals (with_reducible rfl)) ?_
    simp only [Act.put, List.setIfInBounds_toArray, List.set_cons_zero, List.set_cons_succ]
    refine lins_read 31 (Op.binOp BinOp.mul 48 (Operand.const (Value.int IntKind.u64 8)) (Operand.tmp 30) 48) 48 _ rfl rfl rfl rfl rfl (fun w0 hw0 => by unfold mkOp; go_simp; all_goals (with_reducible rfl)) ?_
    simp only [Act.put, List.setIfInBounds_toArray, List.set_cons_zero, List.set_cons_succ]
    refine lins_fn (some 32) 47 #[Operand.tmp 31] #[48] _ (put64_any (8 * n) _ (by omega)) rfl rfl rfl rfl Try.func47 (by kernel_rfl) (by kernel_rfl) (by go_simp) ?_
    rintro e w1 ⟨v1, rfl, hB1, hb1⟩
    replace hrow := World.rowIs.of_block hrow (hb1.block _ hrow.lt)
    replace hb := hb.trans (hb1.mono hb.size)
    refine ⟨_, rfl, fun _ _ => True, fun _ _ => ⟨trivial, fun _ _ => trivial⟩, ?_⟩
    simp only [Act.put, List.setIfInBounds_toArray, List.set_cons_zero, List.set_cons_succ]
    refine lins_copy (some 33) (.tmp 29) (.tmp 32) 3 rfl rfl rfl rfl rfl hrow hB1 rfl rfl (by omega) 8 (by rw [bigB_length]; rfl) ?_
    intro w2 hr2 hg2 hs2
    refine ⟨fun _ _ => True, fun _ _ => ⟨trivial, fun _ _ => trivial⟩, ?_⟩
    try simp only [Act.put, List.setIfInBounds_toArray, List.set_cons_zero, List.set_cons_succ]
    refine lins_end ?_
    go_wp2
    go_ret
    refine ⟨_, rfl, Bs.of_part hr2 (endOf n 64) ?_ (by omega) (Nat.le_refl _) (by unfold maxLen; omega) ?_, hb.grown hg2 hb.size (by intro k hk; cases hk; omega), r, by rw [endOf_length _ _ (by omega), ← HR.out]; rfl⟩
    · rw [endOf_length _ _ (by omega), HR.out]
    · intro i hi
      rw [endOf_length _ _ (by omega)] at hi
      rw [← getD_of_lt _ i (by rw [endOf_length _ _ (by omega)]; exact hi), endOf_get n 64 i (by omega) hi, ← HR.out]
      rw [← HR.out] at hi
      rw [Nat.zero_add]
      unfold putN bytesAt
      by_cases e1 : i = 0
      · subst e1
        rw [if_neg (by omega), if_pos rfl]
        rfl
      · rw [if_neg e1]
        by_cases e2 : i < r - 8
        · rw [if_neg (by omega), if_pos e2]
          show (if i = 0 then _ else _) = _
          rw [if_neg e1]
          rfl
        · rw [if_pos (by omega), if_neg e2]

set_option maxHeartbeats 4000000 in
theorem ending128_any (n : Nat) (w : World) (hn : n < 2 ^ 60) :
    Calls Try.prog 37 #[.int .u64 n, .int .i64 128] w fun e w' => ∃ v, e = .returned v ∧ Bs w' v (endOf n 128) ∧ Below w.heap.size w w' ∧ ∃ c, v = .slice (some ⟨w.heap.size, 0, none⟩) (endOf n 128).length c := by
  obtain ⟨r, hr⟩ : ∃ r, r = endRoom n 128 := ⟨_, rfl⟩
  have hr9 : 9 ≤ r ∧ r ≤ 256 := by rw [hr]; have := endRoom_ge n 128 (by omega); omega
  have hmk : ∀ w : World, (Instr.makeSlice 22 (.int .i64 r) (.int .i64 r)).run Try.prog w = .ok (.slice (some ⟨w.heap.size, 0, none⟩) r r) (w.alloc (.cells (madeCells #[.int .u8 0] r) 5)) :=
    fun w => run_make_row' (P := Try.prog) 22 5 (.int .u8 0) 1 Try.underlying22 Try.info5 rfl .i64 .i64 r (by omega) (by omega) w
  have hmade := World.rowIs_made w (.int .u8 0) r 5
  have hc0 := hmade.cell (i := 0) (by omega)
  have hf0 := hmade.frozen 0
  have hr0 : (0 : Int) < (r : Int) := by omega
  go_enter Try.func37, Try.ntmps37
  by_cases hc : 128 - n % 128 < 1 + 128 / 8
  focus
    have hrI : (128 : Int) - (n : Int) % 128 + 128 = (r : Int) := by rw [hr]; unfold endRoom; rw [if_pos hc]; omega
    have hcI : (128 : Int) - (n : Int) % 128 < 17 := by omega
    have HR := Lib.hid hr
    clear hr hc
    go_wp2
  rotate_left
  focus
    have hrI : (128 : Int) - (n : Int) % 128 = (r : Int) := by rw [hr]; unfold endRoom; rw [if_neg hc]; omega
    have hcI : (17 : Int) ≤ (r : Int) := by rw [hr]; unfold endRoom; rw [if_neg hc]; omega
    have HR := Lib.hid hr
    clear hr hc
    go_wp2
  rotate_left
  all_goals
    have hrow := hmade.set 0 (.int .u8 128)
    have hb : Below w.heap.size w ((w.alloc (.cells (madeCells #[.int .u8 0] r) 5)).setCell ⟨w.heap.size, 0, none⟩ (.int .u8 128)) := ((Below.refl _ _).alloc (Nat.le_refl _) _).setCell (Nat.le_refl _) _
    rw [World.setCell_alloc_at _ _ _ _ _ rfl] at hrow hb
    generalize (w.alloc (.cells ((madeCells #[.int .u8 0] r).setIfInBounds 0 (.int .u8 128)) 5)) = w0 at *
    clear hmade hmk hc0 hf0 hr0 hcI hrI
    have hw8 : IntKind.i64.wrap ((r : Int) - 8) = ((r - 8 : Nat) : Int) := by rw [IntWalk.i64_in _ (by omega)]; omega
    have hm8 : IntKind.u64.wrap (8 * (n : Int)) = ((8 * n : Nat) : Int) := by rw [IntWalk.u64_in _ (by omega)]; omega
    replace hrow := hrow.drew
    replace hb := hb.drew
    refine wp_region_lins [(0, some []), (1, some []), (2, some []), (3, some [7]), (4, some []), (5, some [6]), (6, none), (7, none)] (fun _ _ => True) (by kernel_rfl) (by kernel_rfl) (by decide) (by kernel_rfl) (fun d _ _ _ _ h => by cases d <;> exact h) (fun _ _ => trivial) ?_
    refine lins_read 26 (Op.move (Operand.tmp 6)) 22 _ rfl rfl rfl rfl rfl (fun w0 hw0 => by unfold mkOp; go_simp; all_goals (with_reducible rfl)) ?_
    simp only [Act.put, List.setIfInBounds_toArray, List.set_cons_zero, List.set_cons_succ]
    refine lins_read 27 (Op.move (Operand.tmp 5)) 3 _ rfl rfl rfl rfl rfl (fun w0 hw0 => by unfold mkOp; go_simp; all_goals (with_reducible rfl)) ?_
    simp only [Act.put, List.setIfInBounds_toArray, List.set_cons_zero, List.set_cons_succ]
    refine lins_read 28 (Op.binOp BinOp.sub 3 (Operand.tmp 27) (Operand.const (Value.int IntKind.i64 8)) 3) 3 _ rfl rfl rfl rfl rfl (fun w0 hw0 => by unfold mkOp; go_simp; all_goals (with_reducible rfl)) ?_
    simp only [Act.put, List.setIfInBounds_toArray, List.set_cons_zero, List.set_cons_succ]
    refine lins_read 29 (Op.slice 22 (Operand.tmp 26) (some (Operand.tmp 28)) none none) 22 (.slice (some ⟨w.heap.size, r - 8, none⟩) 8 8) rfl rfl rfl rfl rfl (fun w0 hw0 => by exact exec_sliceAt _ _ _ _ _ _ (r - 8) Try.underlying22 (by kernel_rfl) rfl rfl (by omega) (by omega) (by omega) (by omega) (by omega) (by omega)) ?_
    simp only [Act.put, List.setIfInBounds_toArray, List.set_cons_zero, List.set_cons_succ]
    refine lins_read 30 (Op.move (Operand.tmp 0)) 48 _ rfl rfl rfl rfl rfl (fun w0 hw0 => by unfold mkOp; go_simp; all_goals (with_reducible rfl)) ?_
    simp only [Act.put, List.setIfInBounds_toArray, List.set_cons_zero, List.set_cons_succ]
    refine lins_read 31 (Op.binOp BinOp.mul 48 (Operand.const (Value.int IntKind.u64 8)) (Operand.tmp 30) 48) 48 _ rfl rfl rfl rfl rfl (fun w0 hw0 => by unfold mkOp; go_simp; all_goals (with_reducible rfl)) ?_
    simp only [Act.put, List.setIfInBounds_toArray, List.set_cons_zero, List.set_cons_succ]
    refine lins_fn (some 32) 47 #[Operand.tmp 31] #[48] _ (put64_any (8 * n) _ (by omega)) rfl rfl rfl rfl Try.func47 (by kernel_rfl) (by kernel_rfl) (by go_simp) ?_
    rintro e w1 ⟨v1, rfl, hB1, hb1⟩
    replace hrow := World.rowIs.of_block hrow (hb1.block _ hrow.lt)
    replace hb := hb.trans (hb1.mono hb.size)
    refine ⟨_, rfl, fun _ _ => True, fun _ _ => ⟨trivial, fun _ _ => trivial⟩, ?_⟩
    simp only [Act.put, List.setIfInBounds_toArray, List.set_cons_zero, List.set_cons_succ]
    refine lins_copy (some 33) (.tmp 29) (.tmp 32) 3 rfl rfl rfl rfl rfl hrow hB1 rfl rfl (by omega) 8 (by rw [bigB_length]; rfl) ?_
    intro w2 hr2 hg2 hs2
    refine ⟨fun _ _ => True, fun _ _ => ⟨trivial, fun _ _ => trivial⟩, ?_⟩
    try simp only [Act.put, List.setIfInBounds_toArray, List.set_cons_zero, List.set_cons_succ]
    refine lins_end ?_
    go_wp2
    go_ret
    refine ⟨_, rfl, Bs.of_part hr2 (endOf n 128) ?_ (by omega) (Nat.le_refl _) (by unfold maxLen; omega) ?_, hb.grown hg2 hb.size (by intro k hk; cases hk; omega), r, by rw [endOf_length _ _ (by omega), ← HR.out]; rfl⟩
    · rw [endOf_length _ _ (by omega), HR.out]
    · intro i hi
      rw [endOf_length _ _ (by omega)] at hi
      rw [← getD_of_lt _ i (by rw [endOf_length _ _ (by omega)]; exact hi), endOf_get n 128 i (by omega) hi, ← HR.out]
      rw [← HR.out] at hi
      rw [Nat.zero_add]
      unfold putN bytesAt
      by_cases e1 : i = 0
      · subst e1
        rw [if_neg (by omega), if_pos rfl]
        rfl
      · rw [if_neg e1]
        by_cases e2 : i < r - 8
        · rw [if_neg (by omega), if_pos e2]
          show (if i = 0 then _ else _) = _
          rw [if_neg e1]
          rfl
        · rw [if_pos (by omega), if_neg e2]
end Go.Proofs.Ytladojcbbhphfaa
