/- The document's numbers below p: StrictFe. -/
import Derived.Test.YthapdohblphlgaaFeI
import Derived.Test.YthapdohblphlgaaLint
namespace Go.Proofs.Ythapdohblphlgaa
open Go.RowKit Go.Deep

section
variable {P : Program} {ops : Array Oper} {Q : Exit → Act → World → Prop}
theorem stp_none {i : Nat} {r : Stp} {a : Act} {w : World} {o : Oper} (d : Nat) (ho : ops[i]? = some o) (hd : o.dst = some d)
    (hw : Region.wanted o (yielded ops a.tmps) = false) (h : LinT P ops Q r (a.put (some d) undef) w) : wpOp P ops Q i (fun a' w' => Below w.heap.size w w' ∧ LinT P ops Q r a' w') a w := by
  refine wpOp_step ho fun K' hK => ?_
  rw [if_neg (by rw [hw]; simp)]
  exact hK _ _ ⟨Below.refl _ _, by rw [hd]; exact h⟩
end
theorem exec_str_neq {w : World} (ρ : Operand → Value) (x y : Operand) (t : TypeId) {l m : List UInt8} (hx : ρ x = .string ⟨l.toArray⟩) (hy : ρ y = .string ⟨m.toArray⟩) :
    (execOp ρ (mkOp (.binOp .neq 9 x y 9) t)).run Try.prog w = .ok (.value (.bool (!decide (l = m)))) w := by
  simp only [execOp, mkOp, hx, hy]
  go_simp
  by_cases h : l = m
  · subst h; simp
  · simp [h]
/-- What StrictFe reads. -/
def strictL (l : List UInt8) : Option Nat := if l.length = 32 ∧ (l.getD 31 0).toNat ≤ 127 ∧ litB (ofL l) 32 = l then some (ofL l) else none
def strictE (o : Option Nat) : Int := if o.isSome then 0 else 2

set_option maxHeartbeats 4000000 in
theorem refStrict_any (v : Value) (l : List UInt8) (w : World) (hv : Bs w v l) : Calls Try.prog 16 #[v] w fun e w' =>
    e = .returned (.tuple #[.agg (arrOf 16 (feF ((strictL l).getD 0))), .int .i64 (strictE (strictL l))]) ∧ Below w.heap.size w w' := by
  obtain ⟨a, n, cap, rfl, hn, hc1, hc2, hB0⟩ := hv.shape
  have hRr := rowIs_arr w 16 (u64f fun _ => 0) 31
  have hBel : Below w.heap.size w (w.alloc (.cells (arrOf 16 (u64f fun _ => 0)) 31)) := (Below.refl _ _).alloc (Nat.le_refl _) _
  have HV := hB0.below hBel (Nat.le_refl _)
  have HN := Lib.hid hn
  clear hv hB0 hn
  go_enter Try.func16, Try.ntmps16
  go_wp2_with (refine wpList_alloc_arr rfl 31 rfl (arrOf 16 (u64f fun _ => 0)) zeroFe ?_)
  generalize w.alloc (.cells (arrOf 16 (u64f fun _ => 0)) 31) = w1 at *
  replace hRr := World.rowIs.drew hRr
  replace hBel := Below.drew hBel
  replace HV : Bs w1.drew (.slice a n cap) l := HV
  by_cases h32 : (n : Int) = 32
  rotate_left
  focus
    have hL : strictL l = none := by
      unfold strictL
      rw [if_neg (fun h => h32 (by have := HN.out; omega))]
    have HL := Lib.hid hL
    clear hL HV
    refine wp_region_lint (.rd 0 (.rd 1 (.rd 2 (.rd 3 (.rd 4 (.rd 5 (.rd 6 (.rd 7 (.rd 8 (.rd 9 (.rd 10 (.rd 14 (.rd 15 (.wr 11 (.wr 12 (.rd 13 (.rd 16 (.rd 17 .done)))))))))))))))))) (by kernel_rfl) (by kernel_rfl) (by decide) (by kernel_rfl) (fun d _ _ _ _ h => by cases d <;> exact h) ?_
    refine lint_pure 4 (Op.move (Operand.tmp 0)) 22 _ rfl rfl rfl rfl rfl (fun w0 hb0 => by unfold mkOp; go_simp; all_goals (with_reducible rfl)) ?_
    simp only [Act.put, List.setIfInBounds_toArray, List.set_cons_zero, List.set_cons_succ]
    refine lint_pure 5 (Op.call { callee := Callee.builtin Builtin.len, args := #[Operand.tmp 4], argTypes := #[22] }) 3 _ rfl rfl rfl rfl rfl (fun w0 hb0 => by unfold mkOp; go_simp; all_goals (with_reducible rfl)) ?_
    simp only [Act.put, List.setIfInBounds_toArray, List.set_cons_zero, List.set_cons_succ]
    refine lint_pure 6 (Op.binOp BinOp.neq 3 (Operand.tmp 5) (Operand.const (Value.int IntKind.i64 32)) 3) 4 (.bool true) rfl rfl rfl rfl rfl (fun w0 hb0 => by unfold mkOp; go_simp; all_goals (first | (with_reducible rfl) | simp [h32])) ?_
    simp only [Act.put, List.setIfInBounds_toArray, List.set_cons_zero, List.set_cons_succ]
    refine lint_pure 7 (Op.move (Operand.tmp 6)) 4 _ rfl rfl rfl rfl rfl (fun w0 hb0 => by unfold mkOp; go_simp; all_goals (with_reducible rfl)) ?_
    simp only [Act.put, List.setIfInBounds_toArray, List.set_cons_zero, List.set_cons_succ]
    refine lint_none 8 rfl rfl rfl ?_
    simp only [Act.put, List.setIfInBounds_toArray, List.set_cons_zero, List.set_cons_succ]
    refine lint_none 9 rfl rfl rfl ?_
    simp only [Act.put, List.setIfInBounds_toArray, List.set_cons_zero, List.set_cons_succ]
    refine lint_none 10 rfl rfl rfl ?_
    simp only [Act.put, List.setIfInBounds_toArray, List.set_cons_zero, List.set_cons_succ]
    refine lint_none 11 rfl rfl rfl ?_
    simp only [Act.put, List.setIfInBounds_toArray, List.set_cons_zero, List.set_cons_succ]
    refine lint_pure 12 (Op.pick (Operand.tmp 7) (Operand.const (Value.bool true)) (Operand.tmp 11)) 4 _ rfl rfl rfl rfl rfl (fun w0 hb0 => by unfold mkOp; go_simp; all_goals (with_reducible rfl)) ?_
    simp only [Act.put, List.setIfInBounds_toArray, List.set_cons_zero, List.set_cons_succ]
    refine lint_pure 13 (Op.move (Operand.tmp 12)) 4 _ rfl rfl rfl rfl rfl (fun w0 hb0 => by unfold mkOp; go_simp; all_goals (with_reducible rfl)) ?_
    simp only [Act.put, List.setIfInBounds_toArray, List.set_cons_zero, List.set_cons_succ]
    refine lint_none 14 rfl rfl rfl ?_
    simp only [Act.put, List.setIfInBounds_toArray, List.set_cons_zero, List.set_cons_succ]
    refine lint_none 18 rfl rfl rfl ?_
    simp only [Act.put, List.setIfInBounds_toArray, List.set_cons_zero, List.set_cons_succ]
    refine lint_none 19 rfl rfl rfl ?_
    simp only [Act.put, List.setIfInBounds_toArray, List.set_cons_zero, List.set_cons_succ]
    refine stp_none 15 rfl rfl rfl ?_
    simp only [Act.put, List.setIfInBounds_toArray, List.set_cons_zero, List.set_cons_succ]
    refine stp_none 16 rfl rfl rfl ?_
    simp only [Act.put, List.setIfInBounds_toArray, List.set_cons_zero, List.set_cons_succ]
    refine lint_none 17 rfl rfl rfl ?_
    simp only [Act.put, List.setIfInBounds_toArray, List.set_cons_zero, List.set_cons_succ]
    refine lint_none 20 rfl rfl rfl ?_
    simp only [Act.put, List.setIfInBounds_toArray, List.set_cons_zero, List.set_cons_succ]
    refine lint_pure 21 (Op.pick (Operand.tmp 13) (Operand.const (Value.bool true)) (Operand.tmp 20)) 4 _ rfl rfl rfl rfl rfl (fun w0 hb0 => by unfold mkOp; go_simp; all_goals (with_reducible rfl)) ?_
    simp only [Act.put, List.setIfInBounds_toArray, List.set_cons_zero, List.set_cons_succ]
    refine lint_end ?_
    go_wp2_with (first
      | (refine wpList_build_arr rfl 31 _ rfl (arrOf 16 (feF 0)) (by kernel_rfl) ?_)
      | (refine wpList_store_arr rfl 31 (.tmp 2) (.tmp 22) rfl 16 arrFe hRr rfl rfl (by omega) (fun _ _ => rfl) ?_; intro wz hrz hgz hsz))
    refine ret_cell_arr_tmp rfl arrFe hrz rfl rfl (by omega) rfl ⟨?_, hBel.grown hgz hBel.size (by intro k hk; cases hk; exact Nat.le_refl _)⟩
    rw [agg_put, HL.out]
    show Ending.returned (.tuple #[.agg (arrOf 16 (feF 0)), .int .i64 2]) = Ending.returned (.tuple #[.agg (arrOf 16 (feF 0)), .int .i64 2])
    rfl
  obtain rfl : n = 32 := by omega
  clear h32
  obtain ⟨b, off, cap', he, _, _, hbl, hc⟩ := HV.open_n HN.out (by omega)
  cases he
  have hc31 := hc 31 (by rw [HN.out]; omega)
  rw [← getD_at l 31 (by rw [HN.out]; omega)] at hc31
  obtain ⟨x, hx⟩ : ∃ x, x = l.getD 31 0 := ⟨_, rfl⟩
  rw [← hx] at hc31
  have HX := Lib.hid hx
  clear hc hx
  by_cases hx127 : (127 : Int) < (x.toNat : Int)
  focus
    have hL : strictL l = none := by
      unfold strictL
      rw [if_neg (fun h => by have := h.2.1; rw [← HX.out] at this; omega)]
    have HL := Lib.hid hL
    clear hL
    refine wp_region_lint (.rd 0 (.rd 1 (.rd 2 (.rd 3 (.rd 4 (.rd 5 (.rd 6 (.rd 7 (.rd 8 (.rd 9 (.rd 10 (.rd 14 (.rd 15 (.wr 11 (.wr 12 (.rd 13 (.rd 16 (.rd 17 .done)))))))))))))))))) (by kernel_rfl) (by kernel_rfl) (by decide) (by kernel_rfl) (fun d _ _ _ _ h => by cases d <;> exact h) ?_
    refine lint_pure 4 (Op.move (Operand.tmp 0)) 22 _ rfl rfl rfl rfl rfl (fun w0 hb0 => by unfold mkOp; go_simp; all_goals (with_reducible rfl)) ?_
    simp only [Act.put, List.setIfInBounds_toArray, List.set_cons_zero, List.set_cons_succ]
    refine lint_pure 5 (Op.call { callee := Callee.builtin Builtin.len, args := #[Operand.tmp 4], argTypes := #[22] }) 3 _ rfl rfl rfl rfl rfl (fun w0 hb0 => by unfold mkOp; go_simp; all_goals (with_reducible rfl)) ?_
    simp only [Act.put, List.setIfInBounds_toArray, List.set_cons_zero, List.set_cons_succ]
    refine lint_pure 6 (Op.binOp BinOp.neq 3 (Operand.tmp 5) (Operand.const (Value.int IntKind.i64 32)) 3) 4 (.bool false) rfl rfl rfl rfl rfl (fun w0 hb0 => by unfold mkOp; go_simp; all_goals (first | (with_reducible rfl) | simp [])) ?_
    simp only [Act.put, List.setIfInBounds_toArray, List.set_cons_zero, List.set_cons_succ]
    refine lint_pure 7 (Op.move (Operand.tmp 6)) 4 _ rfl rfl rfl rfl rfl (fun w0 hb0 => by unfold mkOp; go_simp; all_goals (with_reducible rfl)) ?_
    simp only [Act.put, List.setIfInBounds_toArray, List.set_cons_zero, List.set_cons_succ]
    refine lint_pure 8 (Op.move (Operand.tmp 0)) 22 _ rfl rfl rfl rfl rfl (fun w0 hb0 => by unfold mkOp; go_simp; all_goals (with_reducible rfl)) ?_
    simp only [Act.put, List.setIfInBounds_toArray, List.set_cons_zero, List.set_cons_succ]
    refine lint_pure 9 (Op.indexAddr 22 (Operand.tmp 8) (Operand.const (Value.int IntKind.i64 31))) 0 (.pointer (some ⟨b, off + 31, none⟩)) rfl rfl rfl rfl rfl (fun w0 hb0 => by unfold mkOp; go_simp; all_goals (with_reducible rfl)) ?_
    simp only [Act.put, List.setIfInBounds_toArray, List.set_cons_zero, List.set_cons_succ]
    refine lint_pure 10 (Op.load 5 (Operand.tmp 9)) 5 (.int .u8 (x.toNat : Int)) rfl rfl rfl rfl rfl (fun w0 hb0 => by exact exec_load_cell _ _ _ _ rfl (by kernel_rfl) ((hb0.cell (p := ⟨b, off + 31, none⟩) hbl).trans hc31)) ?_
    simp only [Act.put, List.setIfInBounds_toArray, List.set_cons_zero, List.set_cons_succ]
    refine lint_pure 11 (Op.binOp BinOp.gtr 5 (Operand.tmp 10) (Operand.const (Value.int IntKind.u8 127)) 5) 4 (.bool true) rfl rfl rfl rfl rfl (fun w0 hb0 => by unfold mkOp; go_simp; all_goals (first | (with_reducible rfl) | simp [hx127])) ?_
    simp only [Act.put, List.setIfInBounds_toArray, List.set_cons_zero, List.set_cons_succ]
    refine lint_pure 12 (Op.pick (Operand.tmp 7) (Operand.const (Value.bool true)) (Operand.tmp 11)) 4 _ rfl rfl rfl rfl rfl (fun w0 hb0 => by unfold mkOp; go_simp; all_goals (with_reducible rfl)) ?_
    simp only [Act.put, List.setIfInBounds_toArray, List.set_cons_zero, List.set_cons_succ]
    refine lint_pure 13 (Op.move (Operand.tmp 12)) 4 _ rfl rfl rfl rfl rfl (fun w0 hb0 => by unfold mkOp; go_simp; all_goals (with_reducible rfl)) ?_
    simp only [Act.put, List.setIfInBounds_toArray, List.set_cons_zero, List.set_cons_succ]
    refine lint_none 14 rfl rfl rfl ?_
    simp only [Act.put, List.setIfInBounds_toArray, List.set_cons_zero, List.set_cons_succ]
    refine lint_none 18 rfl rfl rfl ?_
    simp only [Act.put, List.setIfInBounds_toArray, List.set_cons_zero, List.set_cons_succ]
    refine lint_none 19 rfl rfl rfl ?_
    simp only [Act.put, List.setIfInBounds_toArray, List.set_cons_zero, List.set_cons_succ]
    refine stp_none 15 rfl rfl rfl ?_
    simp only [Act.put, List.setIfInBounds_toArray, List.set_cons_zero, List.set_cons_succ]
    refine stp_none 16 rfl rfl rfl ?_
    simp only [Act.put, List.setIfInBounds_toArray, List.set_cons_zero, List.set_cons_succ]
    refine lint_none 17 rfl rfl rfl ?_
    simp only [Act.put, List.setIfInBounds_toArray, List.set_cons_zero, List.set_cons_succ]
    refine lint_none 20 rfl rfl rfl ?_
    simp only [Act.put, List.setIfInBounds_toArray, List.set_cons_zero, List.set_cons_succ]
    refine lint_pure 21 (Op.pick (Operand.tmp 13) (Operand.const (Value.bool true)) (Operand.tmp 20)) 4 _ rfl rfl rfl rfl rfl (fun w0 hb0 => by unfold mkOp; go_simp; all_goals (with_reducible rfl)) ?_
    simp only [Act.put, List.setIfInBounds_toArray, List.set_cons_zero, List.set_cons_succ]
    refine lint_end ?_
    go_wp2_with (first
      | (refine wpList_build_arr rfl 31 _ rfl (arrOf 16 (feF 0)) (by kernel_rfl) ?_)
      | (refine wpList_store_arr rfl 31 (.tmp 2) (.tmp 22) rfl 16 arrFe hRr rfl rfl (by omega) (fun _ _ => rfl) ?_; intro wz hrz hgz hsz))
    refine ret_cell_arr_tmp rfl arrFe hrz rfl rfl (by omega) rfl ⟨?_, hBel.grown hgz hBel.size (by intro k hk; cases hk; exact Nat.le_refl _)⟩
    rw [agg_put, HL.out]
    show Ending.returned (.tuple #[.agg (arrOf 16 (feF 0)), .int .i64 2]) = Ending.returned (.tuple #[.agg (arrOf 16 (feF 0)), .int .i64 2])
    rfl
  have hx127' : x.toNat ≤ 127 := by omega
  obtain ⟨o, ho⟩ : ∃ o, o = ofL l := ⟨_, rfl⟩
  obtain ⟨m, hm⟩ : ∃ m, m = litB o 32 := ⟨_, rfl⟩
  have hOf := fun v (W : World) hW => refOf_any v l W hW
  rw [← ho] at hOf
  have hsm : m = l → strictL l = some o := fun h => by
    unfold strictL
    rw [if_pos ⟨HN.out, by rw [← HX.out]; exact hx127', by rw [← ho, ← hm]; exact h⟩, ho]
  have hsn : ¬ m = l → strictL l = none := fun h => by
    unfold strictL
    rw [if_neg (fun h2 => h (by rw [hm, ho]; exact h2.2.2))]
  have HSM := Lib.hid hsm
  have HSN := Lib.hid hsn
  have HM := Lib.hid hm
  clear ho hsm hsn hm
  refine wp_region_lint (.rd 0 (.rd 1 (.rd 2 (.rd 3 (.rd 4 (.rd 5 (.rd 6 (.rd 7 (.rd 8 (.rd 9 (.rd 10 (.rd 14 (.rd 15 (.wr 11 (.wr 12 (.rd 13 (.rd 16 (.rd 17 .done)))))))))))))))))) (by kernel_rfl) (by kernel_rfl) (by decide) (by kernel_rfl) (fun d _ _ _ _ h => by cases d <;> exact h) ?_
  refine lint_pure 4 (Op.move (Operand.tmp 0)) 22 _ rfl rfl rfl rfl rfl (fun w0 hb0 => by unfold mkOp; go_simp; all_goals (with_reducible rfl)) ?_
  simp only [Act.put, List.setIfInBounds_toArray, List.set_cons_zero, List.set_cons_succ]
  refine lint_pure 5 (Op.call { callee := Callee.builtin Builtin.len, args := #[Operand.tmp 4], argTypes := #[22] }) 3 _ rfl rfl rfl rfl rfl (fun w0 hb0 => by unfold mkOp; go_simp; all_goals (with_reducible rfl)) ?_
  simp only [Act.put, List.setIfInBounds_toArray, List.set_cons_zero, List.set_cons_succ]
  refine lint_pure 6 (Op.binOp BinOp.neq 3 (Operand.tmp 5) (Operand.const (Value.int IntKind.i64 32)) 3) 4 (.bool false) rfl rfl rfl rfl rfl (fun w0 hb0 => by unfold mkOp; go_simp; all_goals (first | (with_reducible rfl) | simp [])) ?_
  simp only [Act.put, List.setIfInBounds_toArray, List.set_cons_zero, List.set_cons_succ]
  refine lint_pure 7 (Op.move (Operand.tmp 6)) 4 _ rfl rfl rfl rfl rfl (fun w0 hb0 => by unfold mkOp; go_simp; all_goals (with_reducible rfl)) ?_
  simp only [Act.put, List.setIfInBounds_toArray, List.set_cons_zero, List.set_cons_succ]
  refine lint_pure 8 (Op.move (Operand.tmp 0)) 22 _ rfl rfl rfl rfl rfl (fun w0 hb0 => by unfold mkOp; go_simp; all_goals (with_reducible rfl)) ?_
  simp only [Act.put, List.setIfInBounds_toArray, List.set_cons_zero, List.set_cons_succ]
  refine lint_pure 9 (Op.indexAddr 22 (Operand.tmp 8) (Operand.const (Value.int IntKind.i64 31))) 0 (.pointer (some ⟨b, off + 31, none⟩)) rfl rfl rfl rfl rfl (fun w0 hb0 => by unfold mkOp; go_simp; all_goals (with_reducible rfl)) ?_
  simp only [Act.put, List.setIfInBounds_toArray, List.set_cons_zero, List.set_cons_succ]
  refine lint_pure 10 (Op.load 5 (Operand.tmp 9)) 5 (.int .u8 (x.toNat : Int)) rfl rfl rfl rfl rfl (fun w0 hb0 => by exact exec_load_cell _ _ _ _ rfl (by kernel_rfl) ((hb0.cell (p := ⟨b, off + 31, none⟩) hbl).trans hc31)) ?_
  simp only [Act.put, List.setIfInBounds_toArray, List.set_cons_zero, List.set_cons_succ]
  refine lint_pure 11 (Op.binOp BinOp.gtr 5 (Operand.tmp 10) (Operand.const (Value.int IntKind.u8 127)) 5) 4 (.bool false) rfl rfl rfl rfl rfl (fun w0 hb0 => by unfold mkOp; go_simp; all_goals (first | (with_reducible rfl) | simp [hx127])) ?_
  simp only [Act.put, List.setIfInBounds_toArray, List.set_cons_zero, List.set_cons_succ]
  refine lint_pure 12 (Op.pick (Operand.tmp 7) (Operand.const (Value.bool true)) (Operand.tmp 11)) 4 _ rfl rfl rfl rfl rfl (fun w0 hb0 => by unfold mkOp; go_simp; all_goals (with_reducible rfl)) ?_
  simp only [Act.put, List.setIfInBounds_toArray, List.set_cons_zero, List.set_cons_succ]
  refine lint_pure 13 (Op.move (Operand.tmp 12)) 4 _ rfl rfl rfl rfl rfl (fun w0 hb0 => by unfold mkOp; go_simp; all_goals (with_reducible rfl)) ?_
  simp only [Act.put, List.setIfInBounds_toArray, List.set_cons_zero, List.set_cons_succ]
  refine lint_pure 14 (Op.move (Operand.tmp 0)) 22 _ rfl rfl rfl rfl rfl (fun w0 hb0 => by unfold mkOp; go_simp; all_goals (with_reducible rfl)) ?_
  simp only [Act.put, List.setIfInBounds_toArray, List.set_cons_zero, List.set_cons_succ]
  refine lint_pure 18 (Op.move (Operand.tmp 0)) 22 _ rfl rfl rfl rfl rfl (fun w0 hb0 => by unfold mkOp; go_simp; all_goals (with_reducible rfl)) ?_
  simp only [Act.put, List.setIfInBounds_toArray, List.set_cons_zero, List.set_cons_succ]
  refine lint_conv 19 (Operand.tmp 18) _ _ rfl rfl rfl rfl rfl HV ?_
  simp only [Act.put, List.setIfInBounds_toArray, List.set_cons_zero, List.set_cons_succ]
  refine stp_fn 15 14 #[Operand.tmp 14] #[22] _ (hOf _ _ HV) rfl rfl rfl rfl Try.func14 (by kernel_rfl) (by kernel_rfl) (by go_simp) ?_
  rintro e w5 ⟨rfl, hb5⟩
  replace HV := HV.below hb5 (Nat.le_refl _)
  replace hRr := World.rowIs.of_block hRr (hb5.block _ (World.rowIs.lt hRr))
  replace hBel := Below.trans hBel (hb5.mono hBel.size)
  refine ⟨_, rfl, hb5, ?_⟩
  simp only [Act.put, List.setIfInBounds_toArray, List.set_cons_zero, List.set_cons_succ]
  refine stp_fn 16 41 #[Operand.tmp 15] #[31] _ (refBytes_any o _) rfl rfl rfl rfl Try.func41 (by kernel_rfl) (by kernel_rfl) (by go_simp) ?_
  rintro e w6 ⟨v6, rfl, hO6, hb6⟩
  have HS := hO6.bs
  rw [← HM.out] at HS
  replace HV := HV.below hb6 (Nat.le_refl _)
  replace hRr := World.rowIs.of_block hRr (hb6.block _ (World.rowIs.lt hRr))
  replace hBel := Below.trans hBel (hb6.mono hBel.size)
  refine ⟨_, rfl, hb6, ?_⟩
  simp only [Act.put, List.setIfInBounds_toArray, List.set_cons_zero, List.set_cons_succ]
  refine lint_conv 17 (Operand.tmp 16) _ _ rfl rfl rfl rfl rfl HS ?_
  simp only [Act.put, List.setIfInBounds_toArray, List.set_cons_zero, List.set_cons_succ]
  refine lint_pure 20 (Op.binOp BinOp.neq 9 (Operand.tmp 17) (Operand.tmp 19) 9) 4 (.bool (!decide (m = l))) rfl rfl rfl rfl rfl (fun w0 hb0 => by exact exec_str_neq _ _ _ _ rfl rfl) ?_
  simp only [Act.put, List.setIfInBounds_toArray, List.set_cons_zero, List.set_cons_succ]
  refine lint_pure 21 (Op.pick (Operand.tmp 13) (Operand.const (Value.bool true)) (Operand.tmp 20)) 4 _ rfl rfl rfl rfl rfl (fun w0 hb0 => by unfold mkOp; go_simp; all_goals (with_reducible rfl)) ?_
  simp only [Act.put, List.setIfInBounds_toArray, List.set_cons_zero, List.set_cons_succ]
  refine lint_end ?_
  by_cases hcan : m = l
  focus
    rw [decide_eq_true hcan]
    have HL := Lib.hid (HSM.out hcan)
    clear hcan hc31
    go_wp2_with (first
      | (go_at_call 14; refine (hOf _ _ HV).mono ?_; rintro e w8 ⟨rfl, hb8⟩
         have hR8 := hRr.of_block (hb8.block _ hRr.lt)
         have hB8 := hBel.trans (hb8.mono hBel.size)
         clear hRr hBel hb8)
      | (refine wpList_store_arr rfl 31 (.tmp 2) (.tmp 24) rfl 16 arrFe hR8 rfl rfl (by omega) (fun _ _ => rfl) ?_; intro wz hrz hgz hsz))
    refine ret_cell_arr_tmp rfl arrFe hrz rfl rfl (by omega) rfl ⟨?_, hB8.grown hgz hB8.size (by intro k hk; cases hk; exact Nat.le_refl _)⟩
    rw [agg_put, HL.out]
    show Ending.returned (.tuple #[.agg (arrOf 16 (feF o)), .int .i64 0]) = Ending.returned (.tuple #[.agg (arrOf 16 (feF o)), .int .i64 0])
    rfl
  focus
    rw [decide_eq_false hcan]
    have HL := Lib.hid (HSN.out hcan)
    clear hcan hc31
    go_wp2_with (first
      | (refine wpList_build_arr rfl 31 _ rfl (arrOf 16 (feF 0)) (by kernel_rfl) ?_)
      | (refine wpList_store_arr rfl 31 (.tmp 2) (.tmp 22) rfl 16 arrFe hRr rfl rfl (by omega) (fun _ _ => rfl) ?_; intro wz hrz hgz hsz))
    refine ret_cell_arr_tmp rfl arrFe hrz rfl rfl (by omega) rfl ⟨?_, hBel.grown hgz hBel.size (by intro k hk; cases hk; exact Nat.le_refl _)⟩
    rw [agg_put, HL.out]
    show Ending.returned (.tuple #[.agg (arrOf 16 (feF 0)), .int .i64 2]) = Ending.returned (.tuple #[.agg (arrOf 16 (feF 0)), .int .i64 2])
    rfl
end Go.Proofs.Ythapdohblphlgaa
