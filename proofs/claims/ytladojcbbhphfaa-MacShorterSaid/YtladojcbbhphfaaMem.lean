/- Where a sum that is under way lies in memory; the closures that press its block. -/
import Derived.Test.YtladojcbbhphfaaDigest
namespace Go.Proofs.Ytladojcbbhphfaa
open Go.RowKit Go.Deep

def hashF (s : S8 32) (blk : Nat → UInt8) (z : Nat) : Nat → Value := fun i => if i < 8 then .int .u32 ((s.at i).toNat : Int) else if i < 72 then .int .u8 ((blk (i - 8)).toNat : Int) else .int .u64 (z : Int)
theorem hash_state (s : S8 32) (blk : Nat → UInt8) (z : Nat) : arrOf 8 (fun i => hashF s blk z (0 + i)) = arrOf 8 (w32 s.at) := arrOf_congr fun i hi => by
  unfold hashF; rw [Nat.zero_add, if_pos hi]; rfl
theorem hash_block (s : S8 32) (blk : Nat → UInt8) (z : Nat) : arrOf 64 (fun i => hashF s blk z (8 + i)) = arrOf 64 (u8f (lst 64 blk)) := arrOf_congr fun i hi => by
  unfold hashF u8f; rw [if_neg (by omega), if_pos (by omega), lst_getD _ _ _ hi, Nat.add_sub_cancel_left]

/-- A Hash256 at block y; block x is the variable that holds its address. -/
structure M256 (w : World) (x y : Nat) (s : S8 32) (blk : Nat → UInt8) (z : Nat) : Prop where
  box : w.cell? ⟨x, 0, none⟩ = some (.pointer (some ⟨y, 0, none⟩))
  lt : x < w.heap.size
  ne : x ≠ y
  row : w.rowIs y 62 73 (hashF s blk z)
theorem putN_state (s s' : S8 32) (blk : Nat → UInt8) (z : Nat) (i : Nat) (_hi : i < 73) : putN (hashF s blk z) 0 8 (w32 s'.at) i = hashF s' blk z i := by
  unfold putN hashF
  by_cases e : i < 8
  · rw [if_pos ⟨by omega, by omega⟩, if_pos e]; rfl
  · rw [if_neg (by omega), if_neg e, if_neg e]

set_option maxHeartbeats 1600000 in
/-- Hash256's press. -/
theorem press256_closure (x y : Nat) (s : S8 32) (blk : Nat → UInt8) (z : Nat) (w : World) (hM : M256 w x y s blk z) :
    Calls Try.prog 34 #[.pointer (some ⟨x, 0, none⟩)] w fun e w' => e = .returned (.tuple #[]) ∧ M256 w' x y (k256.press s (lst 64 blk)) blk z ∧ Tch x y w w' := by
  go_enter Try.func34, Try.ntmps34
  go_wp2
  refine wp_region_lins [(0, some [12]), (1, some [12]), (2, some [12]), (3, some [12]), (4, some [9, 12]), (5, some [12]), (6, some [12]), (7, some [12]), (8, some [9, 12]), (9, none), (10, some []), (11, some [12]), (12, none)] (fun c w' => (c = 9 → w' = w.drew) ∧ (c = 12 → w'.cell? ⟨x, 0, none⟩ = some (.pointer (some ⟨y, 0, none⟩)))) (by kernel_rfl) (by kernel_rfl) (by decide) (by kernel_rfl) (fun d _ _ _ _ h => by cases d <;> exact h) (fun c hc => ⟨fun _ => rfl, fun _ => hM.box⟩) ?_
  refine lins_read 1 (Op.load 43 (Operand.tmp 0)) 43 (.pointer (some ⟨y, 0, none⟩)) rfl rfl rfl rfl rfl (fun w0 hw0 => by exact exec_load_cell _ _ _ _ rfl (by kernel_rfl) ((hw0 12 (by simp)).2 rfl)) ?_
  simp only [Act.put, List.setIfInBounds_toArray, List.set_cons_zero, List.set_cons_succ]
  refine lins_read 2 (Op.load 43 (Operand.tmp 0)) 43 (.pointer (some ⟨y, 0, none⟩)) rfl rfl rfl rfl rfl (fun w0 hw0 => by exact exec_load_cell _ _ _ _ rfl (by kernel_rfl) ((hw0 12 (by simp)).2 rfl)) ?_
  simp only [Act.put, List.setIfInBounds_toArray, List.set_cons_zero, List.set_cons_succ]
  refine lins_read 3 (Op.nilCheck (Operand.tmp 2)) 0 _ rfl rfl rfl rfl rfl (fun w0 hw0 => by unfold mkOp; go_simp; all_goals (with_reducible rfl)) ?_
  simp only [Act.put, List.setIfInBounds_toArray, List.set_cons_zero, List.set_cons_succ]
  refine lins_read 4 (Op.fieldAddr 62 (Operand.tmp 3) 0) 0 _ rfl rfl rfl rfl rfl (fun w0 hw0 => by unfold mkOp; go_simp; all_goals (with_reducible rfl)) ?_
  simp only [Act.put, List.setIfInBounds_toArray, List.set_cons_zero, List.set_cons_succ]
  refine lins_read 5 (Op.load 54 (Operand.tmp 4)) 54 (.agg (arrOf 8 (w32 s.at))) rfl rfl rfl rfl rfl (fun w0 hw0 => by obtain rfl := (hw0 9 (by simp)).1 rfl; refine (exec_load_arr _ _ _ _ rfl arr8_32 hM.row.drew (by omega)).trans ?_; rw [hash_state]) ?_
  simp only [Act.put, List.setIfInBounds_toArray, List.set_cons_zero, List.set_cons_succ]
  refine lins_read 6 (Op.load 43 (Operand.tmp 0)) 43 (.pointer (some ⟨y, 0, none⟩)) rfl rfl rfl rfl rfl (fun w0 hw0 => by exact exec_load_cell _ _ _ _ rfl (by kernel_rfl) ((hw0 12 (by simp)).2 rfl)) ?_
  simp only [Act.put, List.setIfInBounds_toArray, List.set_cons_zero, List.set_cons_succ]
  refine lins_read 7 (Op.nilCheck (Operand.tmp 6)) 0 _ rfl rfl rfl rfl rfl (fun w0 hw0 => by unfold mkOp; go_simp; all_goals (with_reducible rfl)) ?_
  simp only [Act.put, List.setIfInBounds_toArray, List.set_cons_zero, List.set_cons_succ]
  refine lins_read 8 (Op.fieldAddr 62 (Operand.tmp 7) 1) 0 _ rfl rfl rfl rfl rfl (fun w0 hw0 => by unfold mkOp; go_simp; all_goals (with_reducible rfl)) ?_
  simp only [Act.put, List.setIfInBounds_toArray, List.set_cons_zero, List.set_cons_succ]
  refine lins_read 9 (Op.load 40 (Operand.tmp 8)) 40 (.agg (arrOf 64 (u8f (lst 64 blk)))) rfl rfl rfl rfl rfl (fun w0 hw0 => by obtain rfl := (hw0 9 (by simp)).1 rfl; refine (exec_load_arr _ _ _ _ rfl arrB_32 hM.row.drew (by omega)).trans ?_; rw [hash_block]) ?_
  simp only [Act.put, List.setIfInBounds_toArray, List.set_cons_zero, List.set_cons_succ]
  refine lins_fn (some 10) 35 #[Operand.tmp 5, Operand.tmp 9] #[54, 40] _ (press256_any s (lst 64 blk) _ (lst_length _ _)) rfl rfl rfl rfl Try.func35 (by kernel_rfl) (by kernel_rfl) (by go_simp) ?_
  rintro e w2 ⟨rfl, hb2⟩
  have hrow2 := hM.row.drew.of_block (hb2.block _ hM.row.lt)
  have hbox2 := (hb2.cell (p := ⟨x, 0, none⟩) hM.lt).trans hM.box
  refine ⟨_, rfl, fun c w' => c = 12 → w'.cell? ⟨x, 0, none⟩ = some (.pointer (some ⟨y, 0, none⟩)), fun c hc => ⟨fun _ => hbox2, fun w3 h3 => ⟨fun h9 => by subst h9; cases hc <;> contradiction, h3⟩⟩, ?_⟩
  simp only [Act.put, List.setIfInBounds_toArray, List.set_cons_zero, List.set_cons_succ]
  refine lins_read 11 (Op.nilCheck (Operand.tmp 1)) 0 _ rfl rfl rfl rfl rfl (fun w0 hw0 => by unfold mkOp; go_simp; all_goals (with_reducible rfl)) ?_
  simp only [Act.put, List.setIfInBounds_toArray, List.set_cons_zero, List.set_cons_succ]
  refine lins_read 12 (Op.fieldAddr 62 (Operand.tmp 11) 0) 0 _ rfl rfl rfl rfl rfl (fun w0 hw0 => by unfold mkOp; go_simp; all_goals (with_reducible rfl)) ?_
  simp only [Act.put, List.setIfInBounds_toArray, List.set_cons_zero, List.set_cons_succ]
  refine lins_store_arr 54 (.tmp 12) (.tmp 10) rfl rfl rfl rfl hrow2 rfl rfl arr8_32 (by omega) (fun _ _ => rfl) ?_
  intro w3 hr3 hg3 hs3
  refine ⟨fun _ _ => True, fun c hc => (by cases hc), ?_⟩
  try simp only [Act.put, List.setIfInBounds_toArray, List.set_cons_zero, List.set_cons_succ]
  refine lins_end ?_
  go_wp2
  go_end0
  refine ⟨rfl, ⟨?_, Nat.lt_of_lt_of_le hM.lt (Nat.le_trans hb2.size hg3.size), hM.ne, hr3.congr fun i hi => putN_state s _ blk z i hi⟩, ((Tch.refl x y w).drew.trans (Tch.of_below hb2)).trans (Tch.right hg3)⟩
  exact (World.cell?_of_block (w := w2) (hg3.block _ (Nat.lt_of_lt_of_le hM.lt hb2.size) (fun e => hM.ne (Option.some.inj e)))).trans hbox2

end Go.Proofs.Ytladojcbbhphfaa
