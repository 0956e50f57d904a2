/- The program's numbers below p: sum, reduced. -/
import Derived.Test.YtnoppemclfnlcaaEwA
import Derived.Test.YtnoppemclfnlcaaMM1
set_option linter.unusedSimpArgs false
set_option linter.unusedVariables false
namespace Go.Proofs.Ytnoppemclfnlcaa
open Go.RowKit Go.Deep

set_option maxHeartbeats 2000000 in
theorem wsum_any (A C : Nat) (w : World) (hA : A < B4) (hC : C < B4) : Calls Try.prog 48 #[.agg (arrOf 4 (ewF A)), .agg (arrOf 4 (ewF C))] w fun e w' => e = .returned (.tuple #[.agg (arrOf 4 (ewF (A + C))), .int .u64 (((A + C) / B4 : Nat) : Int)]) ∧ Below w.heap.size w w' := by
  obtain ⟨w3, hw3, hrA, hrC, hrR, hbel, hsz⟩ := rowsW3 w (ewF A) (ewF C) 40
  have HEND := Lib.hid (addW_end A C hA hC)
  clear hA hC
  go_enter Try.func48, Try.ntmps48
  go_wp2_with (refine wpList_alloc_arr rfl 40 rfl (arrOf 4 (u64f fun _ => 0)) zeroW ?_)
  rw [← hw3]
  clear hw3
  generalize hg0 : w.heap.size = g0 at *
  generalize hg2 : g0 + 1 + 1 = g2 at *
  generalize hg1 : g0 + 1 = g1 at *
  have n02 : g0 ≠ g2 := by omega
  have n12 : g1 ≠ g2 := by omega
  have l2 : g0 ≤ g2 := by omega
  have HG := Lib.hid hg0
  clear hg1 hg2 hg0 hsz
  go_loopw [5, 7] (fun cv i wr => ∃ j : Nat, j ≤ 4 ∧ i = .int .i64 j ∧ cv = .int .u64 ((addW A C j : Nat) : Int) ∧ wr.rowIs g0 40 4 (ewF A) ∧ wr.rowIs g1 40 4 (ewF C) ∧ wr.rowIs g2 40 4 (u64f fun i => if i < j then wd (A + C) i else 0) ∧ Below g0 w wr) (fun _ i _ => 4 - (intOf i).toNat)
  case atStart => exact ⟨0, Nat.zero_le _, rfl, by rw [addW_zero]; rfl, hrA, hrC, hrR.congr fun i _ => rfl, hbel⟩
  case round =>
    clear hrA hrC hrR hbel
    obtain ⟨j, hj, rfl, rfl, hA, hC, hR, hbel⟩ := hrel
    by_cases hlt : j < 4
    · have HXA : Hid (∀ w' : World, w'.rowIs g0 40 4 (ewF A) → w'.cell? ⟨g0, j, none⟩ = some (.int .u64 ((wd A j : Nat) : Int))) := Lib.hid fun w' h => h.cell hlt
      have HYC : Hid (∀ w' : World, w'.rowIs g1 40 4 (ewF C) → w'.cell? ⟨g1, j, none⟩ = some (.int .u64 ((wd C j : Nat) : Int))) := Lib.hid fun w' h => h.cell hlt
      have hstep := wd_sum A C j
      have hfr := hR.drew.frozen j
      have hcR := hR.drew.cell (i := j) hlt
      have hjI : 0 ≤ (j : Int) ∧ (j : Int) < 4 := by omega
      have hset : (wr.drew.setCell ⟨g2, j, none⟩ (.int .u64 ((wd (A + C) j : Nat) : Int))).rowIs g2 40 4 (u64f fun i => if i < j + 1 then wd (A + C) i else 0) := row_set_drew hR _ _ _ (fun i hi => by
        by_cases e : i = j
        · subst e; rw [if_pos (Nat.lt_succ_self i), if_pos rfl]
        · rw [if_neg e]
          by_cases h2 : i < j
          · rw [if_pos h2, if_pos (by omega)]
          · rw [if_neg h2, if_neg (by omega)])
      have HSET := Lib.hid hset
      have hrun := add64_run (wd A j) (wd C j) (addW A C j) (addW_le A C j)
      rw [hstep.1, hstep.2] at hrun
      have HRUN := Lib.hid hrun
      generalize wd (A + C) j = s at *
      generalize hc2 : addW A C (j + 1) = c2 at *
      have HC2 := Lib.hid hc2
      generalize addW A C j = c at *
      generalize wd A j = x at *
      generalize wd C j = y at *
      clear hset hstep hrun hlt hc2
      replace hA := hA.drew
      replace hC := hC.drew
      go_wp2
      refine wp_region_lins [(0, some [13]), (1, some [13]), (2, some [13]), (3, some [8, 13]), (4, some [13]), (5, some [13]), (6, some [8, 13]), (7, some [8, 13]), (8, none), (9, some [13]), (10, some [13]), (11, some []), (12, some [13]), (13, none), (14, some [])] (fun c w' => c = 8 → w'.rowIs g0 40 4 (ewF A) ∧ w'.rowIs g1 40 4 (ewF C)) (by kernel_rfl) (by kernel_rfl) (by decide) (by kernel_rfl) (fun d _ _ _ _ h => by cases d <;> exact h) (fun c hc _ => ⟨hA, hC⟩) ?_
      refine lins_read 11 (Op.move (Operand.tmp 6)) 3 _ rfl rfl rfl rfl rfl (fun w0 hw0 => by unfold mkOp; go_simp; all_goals (with_reducible rfl)) ?_
      simp only [Act.put, List.setIfInBounds_toArray, List.set_cons_zero, List.set_cons_succ]
      refine lins_read 12 (Op.move (Operand.tmp 6)) 3 _ rfl rfl rfl rfl rfl (fun w0 hw0 => by unfold mkOp; go_simp; all_goals (with_reducible rfl)) ?_
      simp only [Act.put, List.setIfInBounds_toArray, List.set_cons_zero, List.set_cons_succ]
      refine lins_read 13 (Op.indexAddr 40 (Operand.tmp 2) (Operand.tmp 12)) 0 _ rfl rfl rfl rfl rfl (fun w0 hw0 => by unfold mkOp; go_simp; all_goals (with_reducible rfl)) ?_
      simp only [Act.put, List.setIfInBounds_toArray, List.set_cons_zero, List.set_cons_succ]
      refine lins_read 14 (Op.load 39 (Operand.tmp 13)) 39 (.int .u64 (x : Int)) rfl rfl rfl rfl rfl (fun w0 hw0 => by have hc0 := HXA.out w0 (hw0 8 (by simp) rfl).1; unfold mkOp; go_simp; all_goals (with_reducible rfl)) ?_
      simp only [Act.put, List.setIfInBounds_toArray, List.set_cons_zero, List.set_cons_succ]
      refine lins_read 15 (Op.move (Operand.tmp 6)) 3 _ rfl rfl rfl rfl rfl (fun w0 hw0 => by unfold mkOp; go_simp; all_goals (with_reducible rfl)) ?_
      simp only [Act.put, List.setIfInBounds_toArray, List.set_cons_zero, List.set_cons_succ]
      refine lins_read 16 (Op.indexAddr 40 (Operand.tmp 3) (Operand.tmp 15)) 0 _ rfl rfl rfl rfl rfl (fun w0 hw0 => by unfold mkOp; go_simp; all_goals (with_reducible rfl)) ?_
      simp only [Act.put, List.setIfInBounds_toArray, List.set_cons_zero, List.set_cons_succ]
      refine lins_read 17 (Op.load 39 (Operand.tmp 16)) 39 (.int .u64 (y : Int)) rfl rfl rfl rfl rfl (fun w0 hw0 => by have hc0 := HYC.out w0 (hw0 8 (by simp) rfl).2; unfold mkOp; go_simp; all_goals (with_reducible rfl)) ?_
      simp only [Act.put, List.setIfInBounds_toArray, List.set_cons_zero, List.set_cons_succ]
      refine lins_read 18 (Op.move (Operand.tmp 5)) 39 _ rfl rfl rfl rfl rfl (fun w0 hw0 => by unfold mkOp; go_simp; all_goals (with_reducible rfl)) ?_
      simp only [Act.put, List.setIfInBounds_toArray, List.set_cons_zero, List.set_cons_succ]
      refine lins_made (some 19) (Op.call { callee := Callee.value (Operand.func 53), args := #[Operand.tmp 14, Operand.tmp 17, Operand.tmp 18], argTypes := #[39, 39, 39] }) 68 (.tuple #[.int .u64 (s : Int), .int .u64 (c2 : Int)]) (_) rfl rfl rfl rfl rfl (by exact exec_entry _ _ _ _ _ _ _ _ rfl (by go_simp) (HRUN.out _)) (fun _ _ => True) (fun c hc => ⟨trivial, fun w7 _ h => by subst h; simp [writers] at hc⟩) ?_
      simp only [Act.put, List.setIfInBounds_toArray, List.set_cons_zero, List.set_cons_succ]
      refine lins_read 10 (Op.move (Operand.tmp 19)) 68 _ rfl rfl rfl rfl rfl (fun w0 hw0 => by unfold mkOp; go_simp; all_goals (with_reducible rfl)) ?_
      simp only [Act.put, List.setIfInBounds_toArray, List.set_cons_zero, List.set_cons_succ]
      refine lins_read 20 (Op.extract (Operand.tmp 10) 0) 39 _ rfl rfl rfl rfl rfl (fun w0 hw0 => by unfold mkOp; go_simp; all_goals (with_reducible rfl)) ?_
      simp only [Act.put, List.setIfInBounds_toArray, List.set_cons_zero, List.set_cons_succ]
      refine lins_read 21 (Op.extract (Operand.tmp 10) 1) 39 _ rfl rfl rfl rfl rfl (fun w0 hw0 => by unfold mkOp; go_simp; all_goals (with_reducible rfl)) ?_
      simp only [Act.put, List.setIfInBounds_toArray, List.set_cons_zero, List.set_cons_succ]
      refine lins_read 22 (Op.indexAddr 40 (Operand.tmp 4) (Operand.tmp 11)) 0 _ rfl rfl rfl rfl rfl (fun w0 hw0 => by unfold mkOp; go_simp; all_goals (with_reducible rfl)) ?_
      simp only [Act.put, List.setIfInBounds_toArray, List.set_cons_zero, List.set_cons_succ]
      refine lins_store (Op.store 39 (Operand.tmp 22) (Operand.tmp 20)) 0 (_) rfl rfl rfl rfl rfl (by unfold mkOp; go_simp; all_goals (with_reducible rfl)) (fun _ _ => True) (fun c hc => by cases hc) ?_
      try simp only [Act.put, List.setIfInBounds_toArray, List.set_cons_zero, List.set_cons_succ]
      refine lins_read 5 (Op.assign (Operand.tmp 21)) 39 _ rfl rfl rfl rfl rfl (fun w0 hw0 => by unfold mkOp; go_simp; all_goals (with_reducible rfl)) ?_
      simp only [Act.put, List.setIfInBounds_toArray, List.set_cons_zero, List.set_cons_succ]
      refine lins_end ?_
      go_wp2
      go_roundw
      case rel => exact ⟨j + 1, by omega, by go_num, by rw [HC2.out], hA.setOther n02 _, hC.setOther n12 _, HSET.out, hbel.drew.setCell (show g0 ≤ (⟨g2, j, none⟩ : Addr).block from l2) _⟩
      case measure => simp [intOf]; omega
    · obtain rfl : j = 4 := by omega
      rw [HEND.out]
      have hR' : wr.rowIs g2 40 4 (ewF (A + C)) := hR.congr fun i hi => by dsimp only [ewF, u64f]; rw [if_pos hi]
      have hgs : g0 ≤ wr.heap.size := by rw [← HG.out]; exact hbel.size
      clear hR
      go_wp2_with (first
        | (refine wpList_load_arr rfl 40 (.tmp 4) rfl 4 arrW hR' rfl (by omega) ?_; simp only [Nat.zero_add])
        | (refine wpList_store_arr rfl 40 (.tmp 4) (.tmp 24) rfl 4 arrW hR' rfl rfl (by omega) (fun _ _ => rfl) ?_; intro w6 hr6 hg6 hs6))
      refine ret_cell_arr_tmp rfl arrW hr6 rfl rfl (by omega) rfl ⟨?_, by rw [HG.out]; exact hbel.grown hg6 hgs (by intro k hk; cases hk; exact l2)⟩
      rw [agg_putW]
      rfl
theorem andnot_top (x : Nat) (hx : x < 18446744073709551616) : bits .andNot .u64 (x : Int) 9223372036854775808 = ((x % 9223372036854775808 : Nat) : Int) := by
  have h := bits_go64 .andNot (fun a b => a &&& ~~~b) (BitVec.ofNat 64 x) (BitVec.ofNat 64 9223372036854775808) rfl
  rw [ofNat64 x hx, ofNat64 _ (by decide)] at h
  refine h.trans ?_
  rw [BitVec.toNat_and, BitVec.toNat_ofNat, Nat.mod_eq_of_lt (show x < 2 ^ 64 by omega), show (~~~(BitVec.ofNat 64 9223372036854775808)).toNat = 2 ^ 63 - 1 by decide, Nat.and_two_pow_sub_one_eq_mod]
theorem and_top (x : Nat) (hx : x < 18446744073709551616) : bits .and .u64 (x : Int) 9223372036854775808 = ((x / 9223372036854775808 * 9223372036854775808 : Nat) : Int) := by
  have h := and64 (BitVec.ofNat 64 x) (BitVec.ofNat 64 9223372036854775808)
  rw [ofNat64 x hx, ofNat64 _ (by decide)] at h
  refine h.trans ?_
  rw [BitVec.toNat_and, BitVec.toNat_ofNat, BitVec.toNat_ofNat, Nat.mod_eq_of_lt (show x < 2 ^ 64 by omega), show 9223372036854775808 % 2 ^ 64 = 2 ^ 63 by decide]
  refine congrArg Int.ofNat (Nat.eq_of_testBit_eq fun i => ?_)
  rw [Nat.testBit_and, Nat.testBit_two_pow]
  by_cases e : x < 9223372036854775808
  · rw [Nat.div_eq_of_lt e, Nat.zero_mul, Nat.zero_testBit]
    by_cases h63 : 63 = i
    · subst h63
      rw [Nat.testBit_lt_two_pow (show x < 2 ^ 63 by omega)]
      rfl
    · rw [decide_eq_false h63, Bool.and_false]
  · rw [show x / 9223372036854775808 = 1 by omega, show 1 * 9223372036854775808 = 2 ^ 63 by decide, Nat.testBit_two_pow]
    by_cases h63 : 63 = i
    · subst h63
      rw [Nat.testBit_eq_decide_div_mod_eq, show (2 : Nat) ^ 63 = 9223372036854775808 by decide, show x / 9223372036854775808 = 1 by omega]
      rfl
    · rw [decide_eq_false h63, Bool.and_false]
theorem or_add64 (k a b : Nat) (hb : b < 2 ^ k) (h : 2 ^ k * a + b < 18446744073709551616) : bits .or .u64 ((2 ^ k * a : Nat) : Int) (b : Int) = ((2 ^ k * a + b : Nat) : Int) := by
  have g := or64 (BitVec.ofNat 64 (2 ^ k * a)) (BitVec.ofNat 64 b)
  rw [ofNat64 _ (by omega), ofNat64 b (by omega)] at g
  refine g.trans ?_
  rw [BitVec.toNat_or, BitVec.toNat_ofNat, BitVec.toNat_ofNat, Nat.mod_eq_of_lt (show 2 ^ k * a < 2 ^ 64 by omega), Nat.mod_eq_of_lt (show b < 2 ^ 64 by omega), ← Nat.two_pow_add_eq_or_of_lt hb]
theorem or_add64' (k a b : Nat) (hb : b < 2 ^ k) (h : 2 ^ k * a + b < 18446744073709551616) : bits .or .u64 (b : Int) ((2 ^ k * a : Nat) : Int) = ((2 ^ k * a + b : Nat) : Int) := by
  have g := or64 (BitVec.ofNat 64 b) (BitVec.ofNat 64 (2 ^ k * a))
  rw [ofNat64 _ (by omega), ofNat64 (2 ^ k * a) (by omega)] at g
  refine g.trans ?_
  rw [BitVec.toNat_or, BitVec.toNat_ofNat, BitVec.toNat_ofNat, Nat.mod_eq_of_lt (show 2 ^ k * a < 2 ^ 64 by omega), Nat.mod_eq_of_lt (show b < 2 ^ 64 by omega), Nat.or_comm, ← Nat.two_pow_add_eq_or_of_lt hb]
theorem cells4_small (x : Nat) (h : x < 18446744073709551616) : (#[.int .u64 (x : Int), .int .u64 0, .int .u64 0, .int .u64 0] : Array Value) = arrOf 4 (ewF x) := by
  have e : arrOf 4 (ewF x) = arrOf 4 (fun i => .int .u64 ((if i = 0 then x else 0 : Nat) : Int)) := arrOf_congr fun i _ => by
    unfold ewF u64f
    rw [wd_small x i h]
  rw [e]
  rfl
theorem builtE (F : Nat → Value) : Try.prog.built 42 [(0, .agg (arrOf 4 F))] = some (arrOf 4 F) := by kernel_rfl
theorem wpList_buildE {ops : Array Oper} {rest : List Oper} {o : Oper} {a : Act} {w : World} {Q : Exit → Act → World → Prop} {F : Nat → Value} (hgd : o.guard = none) (x : Operand) (ho : o.op = .build 42 #[(0, x)]) (hx : a.eval x = .agg (arrOf 4 F))
    (h : wpList Try.prog ops Q rest (a.put o.dst (.agg (arrOf 4 F))) w) : wpList Try.prog ops Q (o :: rest) a w :=
  wpList_build_arr hgd 42 #[(0, x)] ho (arrOf 4 F) (by simp only [List.map_toArray, List.map_cons, List.map_nil, hx]; exact builtE F) h
theorem row_top {w : World} {b : Nat} {t : TypeId} {W : Nat} (h : w.rowIs b t 4 (ewF W)) : (w.setCell ⟨b, 3, none⟩ (.int .u64 ((wd W 3 % 9223372036854775808 : Nat) : Int))).rowIs b t 4 (ewF (W % top)) := row_set h 3 _ _ (fun i hi => wd_mod_top W i hi)

set_option maxHeartbeats 2000000 in
theorem reduced_any (W t : Nat) (w : World) (hW : W < B4) (ht : t < 2 ^ 58) : Calls Try.prog 36 #[.agg (arrOf 4 (ewF W)), .int .u64 (t : Int)] w fun e w' => e = .returned (.agg (arrOf 4 (ewF ((W + t * B4) % p25)))) ∧ Below w.heap.size w w' := by
  obtain ⟨w3, hw3, hrW, hrR, hbel, hsz⟩ := rowsW2 w (ewF W) 40 42
  obtain ⟨hS, hX⟩ := reduced_lt W t hW ht
  have hmod := reduced_mod W t
  have hcut := cut_p _ hS
  rw [hmod] at hcut
  have HCUT := Lib.hid hcut
  have ho := over_lt W hW
  have hhigh := wd_high W hW
  have hWt : W % top < B4 := Nat.lt_trans (Nat.mod_lt _ top_pos) top_B4
  have hXB : (2 * t + W / top) * 19 < B4 := Nat.lt_trans hX (by decide +kernel)
  have hSB : W % top + (2 * t + W / top) * 19 < B4 := by
    have h2 : top + p25 < B4 := by decide +kernel
    exact Nat.lt_trans (Nat.lt_of_le_of_lt (Nat.le_add_right _ 19) hS) h2
  have hLB : W % top + (2 * t + W / top) * 19 + 19 < B4 := by
    have h2 : top + p25 < B4 := by decide +kernel
    exact Nat.lt_trans hS h2
  have hb1 := cells4_small _ hX
  have hb2 := cells4_small 19 (by decide)
  have hs1 := wsum_any (W % top) ((2 * t + W / top) * 19)
  have hs2 := wsum_any (W % top + (2 * t + W / top) * 19) 19
  rw [Nat.div_eq_of_lt hSB] at hs1
  rw [Nat.div_eq_of_lt hLB] at hs2
  have HS1 := Lib.hid fun w => hs1 w hWt hXB
  have HS2 := Lib.hid fun w => hs2 w hSB (by decide +kernel)
  have hx3 := wd_lt W 3
  have hor := or_add64 1 t (W / top) (by omega) (by omega)
  have hwr1 : IntKind.u64.wrap ((t : Int) * 2) = ((2 ^ 1 * t : Nat) : Int) := by rw [IntWalk.u64_in _ ⟨by omega, by omega⟩]; omega
  have hwr1' : IntKind.u64.wrap ((t : Int) * 2 ^ 1) = ((2 ^ 1 * t : Nat) : Int) := by rw [IntWalk.u64_in _ ⟨by omega, by omega⟩]; omega
  rw [show (2 : Nat) ^ 1 * t + W / top = 2 * t + W / top from rfl] at hor
  have hdv : ((wd W 3 : Nat) : Int) / 9223372036854775808 = ((W / top : Nat) : Int) := by rw [← hhigh]; omega
  have hmul : IntKind.u64.wrap (((2 * t + W / top : Nat) : Int) * 19) = (((2 * t + W / top) * 19 : Nat) : Int) := by rw [IntWalk.u64_in _ ⟨by omega, by omega⟩]; omega
  have hand := andnot_top (wd W 3) hx3
  have hc3 : w3.cell? ⟨w.heap.size, 3, none⟩ = some (.int .u64 ((wd W 3 : Nat) : Int)) := hrW.cell (i := 3) (by omega)
  have hf3 := hrW.frozen 3
  have hrT := row_top hrW
  have hbT := hbel.setCell (p := ⟨w.heap.size, 3, none⟩) (Nat.le_refl _) (.int .u64 ((wd W 3 % 9223372036854775808 : Nat) : Int))
  have hrRT := hrR.setOther (show w.heap.size + 1 ≠ (⟨w.heap.size, 3, none⟩ : Addr).block by show w.heap.size + 1 ≠ w.heap.size; omega) (.int .u64 ((wd W 3 % 9223372036854775808 : Nat) : Int))
  generalize W % top + (2 * t + W / top) * 19 = S at *
  generalize (2 * t + W / top) * 19 = X at *
  generalize 2 * t + W / top = ov at *
  generalize W / top = o at *
  generalize 2 ^ 1 * t = t2 at *
  generalize hlow : wd W 3 % 9223372036854775808 = low at *
  clear hS hX hmod hcut ho hhigh hWt hXB hs1 hs2 hlow ht hW hrW hrR hx3
  have hl3 := wd_lt (S + 19) 3
  have hand2 := and_top (wd (S + 19) 3) hl3
  rw [wd_high _ hLB] at hand2
  have hand3 := andnot_top (wd (S + 19) 3) hl3
  have hL2 : (S + 19) / top < 2 := over_lt _ hLB
  have hq0 : (S + 19) / top = 0 ↔ S + 19 < top := by
    constructor
    · intro h
      apply Classical.byContradiction
      intro hn
      have h3 : 0 < (S + 19) / top := Nat.div_pos (Nat.le_of_not_lt hn) top_pos
      rw [h] at h3
      exact Nat.lt_irrefl 0 h3
    · exact Nat.div_eq_of_lt
  have HY : Hid (∀ (w' : World) b t, w'.rowIs b t 4 (ewF (S + 19)) → w'.cell? ⟨b, 3, none⟩ = some (.int .u64 ((wd (S + 19) 3 : Nat) : Int))) := Lib.hid fun w' b t h => h.cell (i := 3) (by omega)
  have HT : Hid (∀ (w' : World) b t, w'.rowIs b t 4 (ewF (S + 19)) → (w'.setCell ⟨b, 3, none⟩ (.int .u64 ((wd (S + 19) 3 % 9223372036854775808 : Nat) : Int))).rowIs b t 4 (ewF ((S + 19) % top))) := Lib.hid fun w' b t h => row_top h
  obtain ⟨q, hq⟩ := nat_var ((S + 19) / top)
  rw [← hq] at hand2 hL2 hq0
  have HQ0 := Lib.hid hq0
  rw [show ((19 : Nat) : Int) = 19 from rfl] at hb2
  generalize wd (S + 19) 3 % 9223372036854775808 = z3 at *
  generalize wd (S + 19) 3 = y3 at *
  generalize wd W 3 = x3 at *
  have HB1 := Lib.hid hb1
  have HB2 := Lib.hid hb2
  clear hLB hSB hq hq0 hl3 hb1 hb2
  generalize hg0 : w.heap.size = g0 at *
  generalize hg1 : g0 + 1 = g1 at *
  have n10 : g1 ≠ g0 := by omega
  have l1 : g0 ≤ g1 := by omega
  have HG := Lib.hid hg0
  have HG1 := Lib.hid hg1
  have HGS : Hid (∀ wq : World, Below g0 w wq → g0 ≤ wq.heap.size) := Lib.hid fun wq h => by rw [← HG.out]; exact h.size
  have hlt0 := hrT.lt
  have hlt1 := hrRT.lt
  clear hg0 hg1 hsz
  by_cases hq1 : q = 0
  · have hS19 := HQ0.out.1 hq1
    have hres := HCUT.out
    rw [if_pos hS19] at hres
    have HRES := Lib.hid hres
    subst hq1
    rw [show ((0 * 9223372036854775808 : Nat) : Int) = 0 from rfl] at hand2
    clear hS19 hres HCUT HQ0 HT
    go_enter Try.func36, Try.ntmps36
    go_wp2_with (first
      | (refine wpList_alloc_arr rfl 42 rfl (arrOf 4 (u64f fun _ => 0)) zeroE ?_; simp only [World.size_alloc, HG.out, HG1.out]; rw [← hw3]; clear hw3)
      | (refine wpList_load_arr rfl 40 (.tmp 2) rfl 4 arrW hrT rfl (by omega) ?_; simp only [Nat.zero_add])
      | (go_at_call 48; rw [HB1.out]; refine (HS1.out _).mono ?_; rintro e w5 ⟨rfl, hb5⟩
         have hr5 := hrT.of_block (hb5.block _ hlt0)
         have hR5 := hrRT.of_block (hb5.block _ hlt1)
         have hB5 := hbT.trans (hb5.mono (HGS.out _ hbT))
         have hlt5 := hr5.lt
         have hlt15 := hR5.lt
         clear hrT hrRT hbT hb5 HS1 HB1)
      | (refine wpList_store_arr rfl 40 (.tmp 2) (.tmp 24) rfl 4 arrW hr5 rfl rfl (by omega) (fun _ _ => rfl) ?_; intro w6 hr6 hg6 hs6
         have hr7 : w6.rowIs g0 40 4 (ewF S) := hr6.congr fun i hi => by unfold putN; rw [if_pos (by omega), Nat.sub_zero]
         have hR7 := gb_rowIs hR5 hg6 n10
         have hB7 := hB5.grown hg6 (HGS.out _ hB5) (by intro k hk; cases hk; exact Nat.le_refl _)
         rw [← hs6] at hlt5 hlt15
         clear hr5 hR5 hB5 hr6 hg6 hs6)
      | (refine wpList_load_arr rfl 40 (.tmp 2) rfl 4 arrW hr7 rfl (by omega) ?_; simp only [Nat.zero_add])
      | (go_at_call 48; rw [HB2.out]; refine (HS2.out _).mono ?_; rintro e w8 ⟨rfl, hb8⟩
         have hr8 := (hr7.of_block (hb8.block _ hlt5)).alloc (.cells (arrOf 4 (u64f fun _ => 0)) 40)
         have hR8 := (hR7.of_block (hb8.block _ hlt15)).alloc (.cells (arrOf 4 (u64f fun _ => 0)) 40)
         have hB8' := hB7.trans (hb8.mono (HGS.out _ hB7))
         have hB8 := hB8'.alloc (HGS.out _ hB8') (.cells (arrOf 4 (u64f fun _ => 0)) 40)
         have hl8 := Nat.lt_of_lt_of_le hlt5 hb8.size
         have hl18 := Nat.lt_of_lt_of_le hlt15 hb8.size
         have hL8 := rowIs_arr w8 4 (u64f fun _ => 0) 40
         clear hr7 hR7 hB7 hb8 HS2 hB8' hlt5 hlt15)
      | refine wpList_alloc_arr rfl 40 rfl (arrOf 4 (u64f fun _ => 0)) zeroW ?_
      | (refine wpList_store_arr rfl 40 (.tmp 6) (.tmp 30) rfl 4 arrW hL8 rfl rfl (by omega) (fun _ _ => rfl) ?_; intro w9 hr9 hg9 hs9
         have hL9 : w9.rowIs w8.heap.size 40 4 (ewF (S + 19)) := hr9.congr fun i hi => by unfold putN; rw [if_pos (by omega), Nat.sub_zero]
         have hR9 := gb_rowIs hR8 hg9 (Nat.ne_of_lt hl18)
         have hr99 := gb_rowIs hr8 hg9 (Nat.ne_of_lt hl8)
         have hB9 := hB8.grown hg9 (HGS.out _ hB8) (by intro k hk; cases hk; omega)
         have hcy := HY.out _ _ _ hL9
         have hfy := hL9.frozen 3
         clear hr8 hR8 hB8 hr9 hg9 hs9 hL8)
      | (refine wpList_load_arr rfl 40 (.tmp 2) rfl 4 arrW hr99 rfl (by omega) ?_; simp only [Nat.zero_add])
      | refine wpList_buildE (F := ewF S) rfl (.tmp 36) rfl rfl ?_
      | (refine wpList_store_arr rfl 42 (.tmp 4) (.tmp 37) rfl 4 arrE hR9 rfl rfl (by omega) (fun _ _ => rfl) ?_; intro wa hra hga hsa)
      | fail)
    refine ret_cell_arr rfl arrE hra rfl (by omega) rfl ⟨?_, by exact hB9.grown hga (HGS.out _ hB9) (by intro k hk; cases hk; exact l1)⟩
    rw [agg_putW, ← HRES.out]
  · have hS19 : ¬ S + 19 < top := fun h => hq1 (HQ0.out.2 h)
    have hres := HCUT.out
    rw [if_neg hS19] at hres
    have HRES := Lib.hid hres
    have hq2 : q = 1 := by omega
    subst hq2
    rw [show ((1 * 9223372036854775808 : Nat) : Int) = 9223372036854775808 from rfl] at hand2
    clear hS19 hres HCUT HQ0 hq1
    go_enter Try.func36, Try.ntmps36
    go_wp2_with (first
      | (refine wpList_alloc_arr rfl 42 rfl (arrOf 4 (u64f fun _ => 0)) zeroE ?_; simp only [World.size_alloc, HG.out, HG1.out]; rw [← hw3]; clear hw3)
      | (refine wpList_load_arr rfl 40 (.tmp 2) rfl 4 arrW hrT rfl (by omega) ?_; simp only [Nat.zero_add])
      | (go_at_call 48; rw [HB1.out]; refine (HS1.out _).mono ?_; rintro e w5 ⟨rfl, hb5⟩
         have hr5 := hrT.of_block (hb5.block _ hlt0)
         have hR5 := hrRT.of_block (hb5.block _ hlt1)
         have hB5 := hbT.trans (hb5.mono (HGS.out _ hbT))
         have hlt5 := hr5.lt
         have hlt15 := hR5.lt
         clear hrT hrRT hbT hb5 HS1 HB1)
      | (refine wpList_store_arr rfl 40 (.tmp 2) (.tmp 24) rfl 4 arrW hr5 rfl rfl (by omega) (fun _ _ => rfl) ?_; intro w6 hr6 hg6 hs6
         have hr7 : w6.rowIs g0 40 4 (ewF S) := hr6.congr fun i hi => by unfold putN; rw [if_pos (by omega), Nat.sub_zero]
         have hR7 := gb_rowIs hR5 hg6 n10
         have hB7 := hB5.grown hg6 (HGS.out _ hB5) (by intro k hk; cases hk; exact Nat.le_refl _)
         rw [← hs6] at hlt5 hlt15
         clear hr5 hR5 hB5 hr6 hg6 hs6)
      | (refine wpList_load_arr rfl 40 (.tmp 2) rfl 4 arrW hr7 rfl (by omega) ?_; simp only [Nat.zero_add])
      | (go_at_call 48; rw [HB2.out]; refine (HS2.out _).mono ?_; rintro e w8 ⟨rfl, hb8⟩
         have hr8 := (hr7.of_block (hb8.block _ hlt5)).alloc (.cells (arrOf 4 (u64f fun _ => 0)) 40)
         have hR8 := (hR7.of_block (hb8.block _ hlt15)).alloc (.cells (arrOf 4 (u64f fun _ => 0)) 40)
         have hB8' := hB7.trans (hb8.mono (HGS.out _ hB7))
         have hB8 := hB8'.alloc (HGS.out _ hB8') (.cells (arrOf 4 (u64f fun _ => 0)) 40)
         have hl8 := Nat.lt_of_lt_of_le hlt5 hb8.size
         have hl18 := Nat.lt_of_lt_of_le hlt15 hb8.size
         have hL8 := rowIs_arr w8 4 (u64f fun _ => 0) 40
         clear hr7 hR7 hB7 hb8 HS2 hB8' hlt5 hlt15)
      | refine wpList_alloc_arr rfl 40 rfl (arrOf 4 (u64f fun _ => 0)) zeroW ?_
      | (refine wpList_store_arr rfl 40 (.tmp 6) (.tmp 30) rfl 4 arrW hL8 rfl rfl (by omega) (fun _ _ => rfl) ?_; intro w9 hr9 hg9 hs9
         have hL9 : w9.rowIs w8.heap.size 40 4 (ewF (S + 19)) := hr9.congr fun i hi => by unfold putN; rw [if_pos (by omega), Nat.sub_zero]
         have hR9 := gb_rowIs hR8 hg9 (Nat.ne_of_lt hl18)
         have hr99 := gb_rowIs hr8 hg9 (Nat.ne_of_lt hl8)
         have hB9 := hB8.grown hg9 (HGS.out _ hB8) (by intro k hk; cases hk; omega)
         have hcy := HY.out _ _ _ hL9
         have hfy := hL9.frozen 3
         have hLt := HT.out _ _ _ hL9
         have hRt := hR9.setOther (show g1 ≠ (⟨w8.heap.size, 3, none⟩ : Addr).block from Nat.ne_of_lt hl18) (.int .u64 (z3 : Int))
         have hBt := hB9.setCell (show g0 ≤ (⟨w8.heap.size, 3, none⟩ : Addr).block from Nat.le_of_lt hl8) (.int .u64 (z3 : Int))
         clear hr8 hR8 hB8 hr9 hg9 hs9 hL8)
      | (refine wpList_load_arr rfl 40 (.tmp 6) rfl 4 arrW hLt rfl (by omega) ?_; simp only [Nat.zero_add])
      | refine wpList_buildE (F := ewF ((S + 19) % top)) rfl (.tmp 42) rfl rfl ?_
      | (refine wpList_store_arr rfl 42 (.tmp 4) (.tmp 43) rfl 4 arrE hRt rfl rfl (by omega) (fun _ _ => rfl) ?_; intro wa hra hga hsa)
      | fail)
    refine ret_cell_arr rfl arrE hra rfl (by omega) rfl ⟨?_, by exact hBt.grown hga (HGS.out _ hBt) (by intro k hk; cases hk; exact l1)⟩
    rw [agg_putW, ← HRES.out]
end Go.Proofs.Ytnoppemclfnlcaa
