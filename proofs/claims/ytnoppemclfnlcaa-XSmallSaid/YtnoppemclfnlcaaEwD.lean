/- The program's numbers below p: Mul. -/
import Derived.Test.YtnoppemclfnlcaaEwB
set_option linter.unusedSimpArgs false
set_option linter.unusedVariables false
namespace Go.Proofs.Ytnoppemclfnlcaa
open Go.RowKit Go.Deep

theorem wpList_indexW {ops : Array Oper} {rest : List Oper} {o : Oper} {a : Act} {w : World} {Q : Exit → Act → World → Prop} (hgd : o.guard = none) (x y : Operand) (ho : o.op = .index 40 x y) (F : Nat → Nat) {j : Nat} (v : Nat) (hv : F j = v)
    (hx : a.eval x = .agg (arrOf 4 (u64f F))) (hy : a.eval y = .int .i64 (j : Int)) (hj : j < 4) (h : wpList Try.prog ops Q rest (a.put o.dst (.int .u64 (v : Int))) w) : wpList Try.prog ops Q (o :: rest) a w := by
  subst hv
  exact wpList_index_arr hgd 40 39 x y ho 4 Try.underlying40 _ Try.underlying39 rfl (by kernel_rfl) hx hy hj h
theorem valW_put (g : Nat → Nat) (j x : Nat) : valW (setAt g j x) (j + 1) = valW g j + x * 18446744073709551616 ^ j := by
  rw [valW]
  have : valW (setAt g j x) j = valW g j := valW_congr j fun i hi => by unfold setAt; rw [if_neg (by omega)]
  rw [this]
  unfold setAt
  rw [if_pos rfl]
theorem valW_lt (g : Nat → Nat) (hg : ∀ j, g j < 18446744073709551616) : ∀ n, valW g n < 18446744073709551616 ^ n
  | 0 => by simp [valW]
  | n + 1 => by
    rw [valW, Nat.pow_succ]
    have h1 := valW_lt g hg n
    have h2 : g n * 18446744073709551616 ^ n ≤ 18446744073709551615 * 18446744073709551616 ^ n := Nat.mul_le_mul_right _ (by have := hg n; omega)
    omega
theorem valW_more (g : Nat → Nat) (i : Nat) : ∀ d, ∃ r, valW g (i + d) = valW g i + 18446744073709551616 ^ i * r
  | 0 => ⟨0, by simp⟩
  | d + 1 => by
    obtain ⟨r, hr⟩ := valW_more g i d
    refine ⟨r + g (i + d) * 18446744073709551616 ^ d, ?_⟩
    show valW g (i + d) + g (i + d) * 18446744073709551616 ^ (i + d) = _
    rw [hr, Nat.mul_add, Nat.pow_add]
    have : g (i + d) * (18446744073709551616 ^ i * 18446744073709551616 ^ d) = 18446744073709551616 ^ i * (g (i + d) * 18446744073709551616 ^ d) := by ac_rfl
    omega
/-- The words of a row of words. -/
theorem wd_valW (g : Nat → Nat) (hg : ∀ j, g j < 18446744073709551616) (i n : Nat) (h : i < n) : wd (valW g n) i = g i := by
  obtain ⟨r, hr⟩ := valW_more g (i + 1) (n - (i + 1))
  rw [show i + 1 + (n - (i + 1)) = n by omega] at hr
  have h1 := valW_lt g hg i
  have h2 := hg i
  unfold wd
  rw [hr, valW, Nat.pow_succ]
  have e : valW g i + g i * 18446744073709551616 ^ i + 18446744073709551616 ^ i * 18446744073709551616 * r = valW g i + 18446744073709551616 ^ i * (g i + 18446744073709551616 * r) := by
    rw [Nat.mul_add, Nat.mul_assoc, Nat.mul_comm (g i)]; omega
  rw [e, Nat.add_mul_div_left _ _ (powW_pos i), Nat.div_eq_of_lt h1]
  omega
theorem setAt_lt (f : Nat → Nat) (i x : Nat) (hf : ∀ j, f j < 18446744073709551616) (hx : x < 18446744073709551616) (j : Nat) : setAt f i x j < 18446744073709551616 := by
  unfold setAt
  split
  · exact hx
  · exact hf j
theorem setAt_zero (f : Nat → Nat) (i x n m : Nat) (hf : ∀ j, n ≤ j → f j = 0) (h : n ≤ m) (hi : i < m) (j : Nat) (hj : m ≤ j) : setAt f i x j = 0 := by
  unfold setAt
  rw [if_neg (by omega)]
  exact hf j (by omega)

set_option maxHeartbeats 4000000 in
theorem mul_any (A C : Nat) (w : World) (hA : A < p25) (hC : C < p25) : Calls Try.prog 44 #[.agg (arrOf 4 (ewF A)), .agg (arrOf 4 (ewF C))] w fun e w' => e = .returned (.agg (arrOf 4 (ewF (mulP A C)))) ∧ Below w.heap.size w w' := by
  obtain ⟨w3, hw3, hrA0, hrC0, hrR0, hbel0, hsz⟩ := rowsW3 w (ewF A) (ewF C) 42
  have hrA := hrA0.alloc (.cells (arrOf 8 (u64f fun _ => 0)) 67)
  have hrC := hrC0.alloc (.cells (arrOf 8 (u64f fun _ => 0)) 67)
  have hrR := hrR0.alloc (.cells (arrOf 8 (u64f fun _ => 0)) 67)
  have hrW := rowIs_arr w3 8 (u64f fun _ => 0) 67
  have hbel := hbel0.alloc hbel0.size (.cells (arrOf 8 (u64f fun _ => 0)) 67)
  rw [hsz] at hrW
  have HCB := Lib.hid (Nat.lt_trans hC p25_B4)
  have HALL := Lib.hid (mulW_all A C (Nat.lt_trans hA p25_B4))
  clear hrA0 hrC0 hrR0 hbel0 hA hC
  subst hw3
  go_enter Try.func44, Try.ntmps44
  go_wp2_with (first
    | refine wpList_alloc_arr rfl 42 rfl (arrOf 4 (u64f fun _ => 0)) zeroE ?_
    | (refine wpList_alloc_arr rfl 67 rfl (arrOf 8 (u64f fun _ => 0)) zeroW8 ?_)
    | (refine wpList_load_arr rfl 40 (.tmp 14) rfl 4 arrW hrA rfl (by omega) ?_; simp only [Nat.zero_add]))
  generalize (((w.alloc (.cells (arrOf 4 (ewF A)) 42)).alloc (.cells (arrOf 4 (ewF C)) 42)).alloc (.cells (arrOf 4 (u64f fun _ => 0)) 42)).alloc (.cells (arrOf 8 (u64f fun _ => 0)) 67) = w4 at *
  generalize hg0 : w.heap.size = g0 at *
  generalize hg3 : g0 + 1 + 1 + 1 = g3 at *
  generalize hg2 : g0 + 1 + 1 = g2 at *
  generalize hg1 : g0 + 1 = g1 at *
  have n03 : g0 ≠ g3 := by omega
  have n13 : g1 ≠ g3 := by omega
  have n23 : g2 ≠ g3 := by omega
  have l2 : g0 ≤ g2 := by omega
  have l3 : g0 ≤ g3 := by omega
  have HG := Lib.hid hg0
  have HGS : Hid (∀ wq : World, Below g0 w wq → g0 ≤ wq.heap.size) := Lib.hid fun wq h => by rw [← HG.out]; exact h.size
  clear hg1 hg2 hg0 hg3 hsz
  go_loopw [16] (fun ii wr => ∃ (i : Nat) (f : Nat → Nat), i ≤ 4 ∧ ii = .int .i64 i ∧ wr.rowIs g3 67 8 (u64f f) ∧ Hid (valW f 8 = mulW A C i 0) ∧ Hid (∀ j, f j < 18446744073709551616) ∧ Hid (∀ j, i + 4 ≤ j → f j = 0) ∧ wr.rowIs g1 42 4 (ewF C) ∧ wr.rowIs g2 42 4 (u64f fun _ => 0) ∧ Below g0 w wr) (fun ii _ => 4 - (intOf ii).toNat)
  case atStart => exact ⟨0, fun _ => 0, Nat.zero_le _, rfl, hrW, Lib.hid (by rw [mulW_zero]; decide), Lib.hid (fun _ => (by decide : (0 : Nat) < 18446744073709551616)), Lib.hid (fun j _ => rfl), hrC, hrR, hbel⟩
  case round =>
    clear hrA hrC hrR hrW hbel
    obtain ⟨i, f, hi, rfl, hW, HV, HBD, HZ, hC, hR, hbel⟩ := hrel
    by_cases hlt : i < 4
    · have hiI : 0 ≤ (i : Int) ∧ (i : Int) < 4 := by omega
      obtain ⟨x, hx⟩ := nat_var (wd A i)
      have hxl := wd_lt A i
      rw [← hx] at hxl
      have HX := Lib.hid hx.symm
      have HXL := Lib.hid hxl
      clear hx hxl
      go_wp2_with (first
        | refine wpList_indexW rfl (.tmp 15) (.tmp 16) rfl (wd A) x HX.out rfl rfl hlt ?_
        | (refine wpList_load_arr rfl 40 (.tmp 20) rfl 4 arrW hC rfl (by omega) ?_; simp only [Nat.zero_add]))
      go_loopw [8, 22] (fun cv kk wq => ∃ (k c : Nat) (f : Nat → Nat), k ≤ 4 ∧ kk = .int .i64 k ∧ cv = .int .u64 c ∧ Hid (c < 18446744073709551616) ∧ wq.rowIs g3 67 8 (u64f f) ∧ Hid (valW f 8 + c * 18446744073709551616 ^ (i + k) = mulW A C i k) ∧ Hid (∀ j, f j < 18446744073709551616) ∧ Hid (∀ j, i + 4 ≤ j → f j = 0) ∧ wq.rowIs g1 42 4 (ewF C) ∧ wq.rowIs g2 42 4 (u64f fun _ => 0) ∧ Below g0 w wq) (fun _ kk _ => 4 - (intOf kk).toNat)
      case atStart => exact ⟨0, 0, f, Nat.zero_le _, rfl, rfl, Lib.hid (by decide), hW, Lib.hid (by rw [Nat.zero_mul, Nat.add_zero]; exact HV.out), HBD, HZ, hC, hR, hbel⟩
      case round =>
        clear hW HV HBD HZ hC hR hbel
        obtain ⟨k, c, f, hk, rfl, rfl, HCL, hW, HV, HBD, HZ, hC, hR, hbel⟩ := hrel
        by_cases hlk : k < 4
        · have hkI : 0 ≤ (k : Int) ∧ (k : Int) < 4 := by omega
          have hik : i + k < 8 := by omega
          obtain ⟨y, hy⟩ := nat_var (wd C k)
          have hyl := wd_lt C k
          rw [← hy] at hyl
          have HY := Lib.hid hy.symm
          have hcW : wr.cell? ⟨g3, i + k, none⟩ = some (.int .u64 ((f (i + k) : Nat) : Int)) := hW.cell hik
          have hfr := hW.frozen (i + k)
          have hm := product_any x y (f (i + k)) c HXL.out hyl (HBD.out _) HCL.out
          have hall := product_le x y (f (i + k)) c HXL.out hyl (HBD.out _) HCL.out
          have hset := fun lo : Nat => row_set hW (i + k) lo (setAt f (i + k) lo) (fun _ _ => rfl)
          have hin := fun lo hi => mulW_in A C f i k c lo hi hik HV.out
          rw [HX.out, HY.out] at hin
          have hw1 : IntKind.i64.wrap ((i : Int) + (k : Int)) = ((i + k : Nat) : Int) := by rw [IntWalk.i64_in _ (by omega)]; omega
          have hikI : 0 ≤ ((i + k : Nat) : Int) ∧ ((i + k : Nat) : Int) < 8 := by omega
          have hbd := fun lo (h : lo < 18446744073709551616) => setAt_lt f (i + k) lo HBD.out h
          have hz := fun lo => setAt_zero f (i + k) lo (i + 4) (i + 4) HZ.out (Nat.le_refl _) (by omega)
          generalize f (i + k) = u at *
          generalize x * y = xy at *
          obtain ⟨lo, hlo⟩ := nat_var ((xy + u + c) % 18446744073709551616)
          obtain ⟨hi, hhi⟩ := nat_var ((xy + u + c) / 18446744073709551616)
          rw [← hlo, ← hhi] at hm
          have hHI : hi < 18446744073709551616 := by omega
          have hLO : lo < 18446744073709551616 := by omega
          have HIN := Lib.hid (hin lo hi (by omega))
          have HSET := Lib.hid (hset lo)
          have HBD2 := Lib.hid (hbd lo hLO)
          have HZ2 := Lib.hid (hz lo)
          have HHI := Lib.hid hHI
          have HM := Lib.hid hm
          generalize setAt f (i + k) lo = fn at *
          generalize hik2 : i + k = ik at *
          have HIK := Lib.hid hik2
          clear hin hset hbd hz hm hlo hhi hHI hLO hall hyl hy hik hik2 HV HBD HZ
          go_wp2_with (first
            | refine wpList_indexW rfl (.tmp 21) (.tmp 22) rfl (wd C) y HY.out rfl rfl hlk ?_
            | (go_at_call 51; refine (HM.out _).mono ?_; rintro e w' ⟨rfl, rfl⟩))
          go_roundw
          case rel => exact ⟨k + 1, hi, fn, by omega, by go_num, rfl, HHI, HSET.out, HIN, HBD2, HZ2, hC.setOther n13 _, hR.setOther n23 _, hbel.setCell (show g0 ≤ (⟨g3, ik, none⟩ : Addr).block from l3) _⟩
          case measure => simp [intOf]; omega
        · obtain rfl : k = 4 := by omega
          have hcW : wr.cell? ⟨g3, i + 4, none⟩ = some (.int .u64 ((f (i + 4) : Nat) : Int)) := hW.cell (by omega)
          have hfr := hW.frozen (i + 4)
          have HSET := Lib.hid (row_set hW (i + 4) c (setAt f (i + 4) c) (fun _ _ => rfl))
          have HOUT := Lib.hid (mulW_out A C f i c hlt HCB.out HV.out (HZ.out _ (Nat.le_refl _)))
          have HBD2 := Lib.hid (setAt_lt f (i + 4) c HBD.out HCL.out)
          have HZ2 := Lib.hid (setAt_zero f (i + 4) c (i + 4) (i + 1 + 4) HZ.out (by omega) (by omega))
          have hw1 : IntKind.i64.wrap ((i : Int) + 4) = ((i + 4 : Nat) : Int) := by rw [IntWalk.i64_in _ (by omega)]; omega
          have hikI : 0 ≤ ((i + 4 : Nat) : Int) ∧ ((i + 4 : Nat) : Int) < 8 := by omega
          generalize setAt f (i + 4) c = fn at *
          generalize f (i + 4) = u at *
          generalize i + 4 = i4 at *
          clear HV HBD HZ
          go_wp2
          go_roundw
          case rel => exact ⟨i + 1, fn, by omega, by go_num, HSET.out, HOUT, HBD2, HZ2, hC.setOther n13 _, hR.setOther n23 _, hbel.setCell (show g0 ≤ (⟨g3, i4, none⟩ : Addr).block from l3) _⟩
          case measure => simp [intOf]; omega
    · obtain rfl : i = 4 := by omega
      have hgs := HGS.out _ hbel
      have hW1 := hW.alloc (.cells (arrOf 4 (u64f fun _ => 0)) 40)
      have hR1 := hR.alloc (.cells (arrOf 4 (u64f fun _ => 0)) 40)
      have hF1 := rowIs_arr wr 4 (u64f fun _ => 0) 40
      have hb1 := hbel.alloc hgs (.cells (arrOf 4 (u64f fun _ => 0)) 40)
      have hlW := hW.lt
      have hlR := hR.lt
      have hval : valW f 8 = A * C := HV.out.trans HALL.out
      have HVAL := Lib.hid hval
      clear hW hR hbel hC hval HV HZ
      go_wp2_with (refine wpList_alloc_arr rfl 40 rfl (arrOf 4 (u64f fun _ => 0)) zeroW ?_)
      generalize hwf : wr.alloc (.cells (arrOf 4 (u64f fun _ => 0)) 40) = wf at *
      generalize hg5 : wr.heap.size = g5 at *
      have n53 : g3 ≠ g5 := by omega
      have n52 : g2 ≠ g5 := by omega
      have l5 : g0 ≤ g5 := by omega
      clear hwf hg5 hlW hlR hgs
      go_loopw [12, 48] (fun cv ii wq => ∃ (j c : Nat) (g : Nat → Nat), j ≤ 4 ∧ ii = .int .i64 j ∧ cv = .int .u64 c ∧ Hid (c ≤ 39) ∧ wq.rowIs g5 40 4 (u64f g) ∧ Hid (valW g j + c * 18446744073709551616 ^ j = foldW f j) ∧ Hid (∀ j, g j < 18446744073709551616) ∧ wq.rowIs g3 67 8 (u64f f) ∧ wq.rowIs g2 42 4 (u64f fun _ => 0) ∧ Below g0 w wq) (fun _ ii _ => 4 - (intOf ii).toNat)
      case atStart => exact ⟨0, 0, fun _ => 0, Nat.zero_le _, rfl, rfl, Lib.hid (by decide), hF1, Lib.hid (by simp [valW, foldW]), Lib.hid (fun _ => (by decide : (0 : Nat) < 18446744073709551616)), hW1, hR1, hb1⟩
      case round =>
        clear hF1 hW1 hR1 hb1
        obtain ⟨j, c, g, hj, rfl, rfl, HCL, hF, HV, HBG, hW, hR, hbel⟩ := hrel
        by_cases hlj : j < 4
        · have hjI : 0 ≤ (j : Int) ∧ (j : Int) < 4 := by omega
          have HXA : Hid (∀ w' : World, w'.rowIs g3 67 8 (u64f f) → w'.cell? ⟨g3, j + 4, none⟩ = some (.int .u64 ((f (j + 4) : Nat) : Int))) := Lib.hid fun w' h => h.cell (by omega)
          have HYC : Hid (∀ w' : World, w'.rowIs g3 67 8 (u64f f) → w'.cell? ⟨g3, j, none⟩ = some (.int .u64 ((f j : Nat) : Int))) := Lib.hid fun w' h => h.cell (by omega)
          have hcF := hF.drew.cell (i := j) hlj
          have hfr := hF.drew.frozen j
          have hcl := HCL.out
          have hm := product_any (f (j + 4)) 38 (f j) c (HBD.out _) (by decide) (HBD.out _) (by omega)
          have hx1 := HBD.out (j + 4)
          have hy1 := HBD.out j
          have hset := fun lo : Nat => row_set_drew hF j lo (setAt g j lo) (fun _ _ => rfl)
          have hstep := fun lo hi => foldW_step f (valW g j) c lo hi j HV.out
          have hbd := fun lo (h : lo < 18446744073709551616) => setAt_lt g j lo HBG.out h
          have hput := fun lo => valW_put g j lo
          have hw1 : IntKind.i64.wrap ((j : Int) + 4) = ((j + 4 : Nat) : Int) := by rw [IntWalk.i64_in _ (by omega)]; omega
          have hj3I : (j : Int) < 8 := by omega
          have hj2I : 0 ≤ ((j + 4 : Nat) : Int) ∧ ((j + 4 : Nat) : Int) < 8 := by omega
          generalize f (j + 4) = x at *
          generalize f j = y at *
          obtain ⟨lo, hlo⟩ := nat_var ((x * 38 + y + c) % 18446744073709551616)
          obtain ⟨hi, hhi⟩ := nat_var ((x * 38 + y + c) / 18446744073709551616)
          rw [← hlo, ← hhi, show ((38 : Nat) : Int) = 38 from rfl] at hm
          have hHI : hi ≤ 39 := by omega
          have hLO : lo < 18446744073709551616 := by omega
          have hst2 := hstep lo hi (by omega)
          rw [← hput lo] at hst2
          have HST := Lib.hid hst2
          have HSET := Lib.hid (hset lo)
          have HBG2 := Lib.hid (hbd lo hLO)
          have HHI := Lib.hid hHI
          have HM := Lib.hid hm
          generalize setAt g j lo = gn at *
          generalize j + 4 = j4 at *
          clear hstep hput hset hbd hm hlo hhi hHI hLO hst2 hx1 hy1 hcl HCL HV HBG
          replace hW := hW.drew
          go_wp2
          refine wp_region_lins [(0, some [14]), (1, some [14]), (2, some [14]), (3, some [14]), (4, some [9, 14]), (5, some [14]), (6, some [14]), (7, some [9, 14]), (8, some [9, 14]), (9, none), (10, some [14]), (11, some [14]), (12, some []), (13, some [14]), (14, none), (15, some [])] (fun c w' => c = 9 → w'.rowIs g3 67 8 (u64f f)) (by kernel_rfl) (by kernel_rfl) (by decide) (by kernel_rfl) (fun d _ _ _ _ h => by cases d <;> exact h) (fun c hc _ => hW) ?_
          refine lins_read 52 (Op.move (Operand.tmp 13)) 3 _ rfl rfl rfl rfl rfl (fun w0 hw0 => by unfold mkOp; go_simp; all_goals (with_reducible rfl)) ?_
          simp only [Act.put, List.setIfInBounds_toArray, List.set_cons_zero, List.set_cons_succ]
          refine lins_read 53 (Op.move (Operand.tmp 13)) 3 _ rfl rfl rfl rfl rfl (fun w0 hw0 => by unfold mkOp; go_simp; all_goals (with_reducible rfl)) ?_
          simp only [Act.put, List.setIfInBounds_toArray, List.set_cons_zero, List.set_cons_succ]
          refine lins_read 54 (Op.binOp BinOp.add 3 (Operand.tmp 53) (Operand.const (Value.int IntKind.i64 4)) 3) 3 (.int .i64 (j4 : Int)) rfl rfl rfl rfl rfl (fun w0 hw0 => by unfold mkOp; go_simp; all_goals (with_reducible rfl)) ?_
          simp only [Act.put, List.setIfInBounds_toArray, List.set_cons_zero, List.set_cons_succ]
          refine lins_read 55 (Op.indexAddr 67 (Operand.tmp 5) (Operand.tmp 54)) 0 _ rfl rfl rfl rfl rfl (fun w0 hw0 => by unfold mkOp; go_simp; all_goals (with_reducible rfl)) ?_
          simp only [Act.put, List.setIfInBounds_toArray, List.set_cons_zero, List.set_cons_succ]
          refine lins_read 56 (Op.load 39 (Operand.tmp 55)) 39 (.int .u64 (x : Int)) rfl rfl rfl rfl rfl (fun w0 hw0 => by have hc0 := HXA.out w0 (hw0 9 (by simp) rfl); unfold mkOp; go_simp; all_goals (with_reducible rfl)) ?_
          simp only [Act.put, List.setIfInBounds_toArray, List.set_cons_zero, List.set_cons_succ]
          refine lins_read 57 (Op.move (Operand.tmp 13)) 3 _ rfl rfl rfl rfl rfl (fun w0 hw0 => by unfold mkOp; go_simp; all_goals (with_reducible rfl)) ?_
          simp only [Act.put, List.setIfInBounds_toArray, List.set_cons_zero, List.set_cons_succ]
          refine lins_read 58 (Op.indexAddr 67 (Operand.tmp 5) (Operand.tmp 57)) 0 _ rfl rfl rfl rfl rfl (fun w0 hw0 => by unfold mkOp; go_simp; all_goals (with_reducible rfl)) ?_
          simp only [Act.put, List.setIfInBounds_toArray, List.set_cons_zero, List.set_cons_succ]
          refine lins_read 59 (Op.load 39 (Operand.tmp 58)) 39 (.int .u64 (y : Int)) rfl rfl rfl rfl rfl (fun w0 hw0 => by have hc0 := HYC.out w0 (hw0 9 (by simp) rfl); unfold mkOp; go_simp; all_goals (with_reducible rfl)) ?_
          simp only [Act.put, List.setIfInBounds_toArray, List.set_cons_zero, List.set_cons_succ]
          refine lins_read 60 (Op.move (Operand.tmp 12)) 39 _ rfl rfl rfl rfl rfl (fun w0 hw0 => by unfold mkOp; go_simp; all_goals (with_reducible rfl)) ?_
          simp only [Act.put, List.setIfInBounds_toArray, List.set_cons_zero, List.set_cons_succ]
          refine lins_fn (some 61) 51 #[Operand.tmp 56, Operand.const (Value.int IntKind.u64 38), Operand.tmp 59, Operand.tmp 60] #[39, 39, 39, 39] _ (HM.out _) rfl rfl rfl rfl Try.func51 (by kernel_rfl) (by kernel_rfl) (by go_simp) ?_
          rintro e wm ⟨rfl, rfl⟩
          refine ⟨_, rfl, fun _ _ => True, fun c hc => ⟨trivial, fun w7 _ h => by subst h; simp [writers] at hc⟩, ?_⟩
          simp only [Act.put, List.setIfInBounds_toArray, List.set_cons_zero, List.set_cons_succ]
          refine lins_read 51 (Op.move (Operand.tmp 61)) 68 _ rfl rfl rfl rfl rfl (fun w0 hw0 => by unfold mkOp; go_simp; all_goals (with_reducible rfl)) ?_
          simp only [Act.put, List.setIfInBounds_toArray, List.set_cons_zero, List.set_cons_succ]
          refine lins_read 62 (Op.extract (Operand.tmp 51) 0) 39 _ rfl rfl rfl rfl rfl (fun w0 hw0 => by unfold mkOp; go_simp; all_goals (with_reducible rfl)) ?_
          simp only [Act.put, List.setIfInBounds_toArray, List.set_cons_zero, List.set_cons_succ]
          refine lins_read 63 (Op.extract (Operand.tmp 51) 1) 39 _ rfl rfl rfl rfl rfl (fun w0 hw0 => by unfold mkOp; go_simp; all_goals (with_reducible rfl)) ?_
          simp only [Act.put, List.setIfInBounds_toArray, List.set_cons_zero, List.set_cons_succ]
          refine lins_read 64 (Op.indexAddr 40 (Operand.tmp 11) (Operand.tmp 52)) 0 _ rfl rfl rfl rfl rfl (fun w0 hw0 => by unfold mkOp; go_simp; all_goals (with_reducible rfl)) ?_
          simp only [Act.put, List.setIfInBounds_toArray, List.set_cons_zero, List.set_cons_succ]
          refine lins_store (Op.store 39 (Operand.tmp 64) (Operand.tmp 62)) 0 (_) rfl rfl rfl rfl rfl (by unfold mkOp; go_simp; all_goals (with_reducible rfl)) (fun _ _ => True) (fun c hc => by cases hc) ?_
          try simp only [Act.put, List.setIfInBounds_toArray, List.set_cons_zero, List.set_cons_succ]
          refine lins_read 12 (Op.assign (Operand.tmp 63)) 39 _ rfl rfl rfl rfl rfl (fun w0 hw0 => by unfold mkOp; go_simp; all_goals (with_reducible rfl)) ?_
          simp only [Act.put, List.setIfInBounds_toArray, List.set_cons_zero, List.set_cons_succ]
          refine lins_end ?_
          go_wp2
          go_roundw
          case rel => exact ⟨j + 1, hi, gn, by omega, by go_num, rfl, HHI, HSET.out, HST, HBG2, hW.setOther n53 _, hR.drew.setOther n52 _, hbel.drew.setCell (show g0 ≤ (⟨g5, j, none⟩ : Addr).block from l5) _⟩
          case measure => simp [intOf]; omega
        · obtain rfl : j = 4 := by omega
          have hF' : wr.rowIs g5 40 4 (ewF (valW g 4)) := hF.congr fun i hi => by unfold ewF u64f; rw [wd_valW g HBG.out i 4 hi]
          have hres : (valW g 4 + c * B4) % p25 = mulP A C := by
            rw [B4_eq, HV.out, foldW_mod, HVAL.out]
            rfl
          have HRES := Lib.hid hres
          have hcl := HCL.out
          have HRED := Lib.hid (fun w => reduced_any (valW g 4) c w (by rw [B4_eq]; exact valW_lt g HBG.out 4) (by omega))
          have hgs2 := HGS.out _ hbel
          clear hF hres hcl hW
          go_wp2_with (first
            | (refine wpList_load_arr rfl 40 (.tmp 11) rfl 4 arrW hF' rfl (by omega) ?_; simp only [Nat.zero_add])
            | (go_at_call 36; refine (HRED.out _).mono ?_; rintro e w5 ⟨rfl, hb5⟩
               have hR5 := hR.of_block (hb5.block _ hR.lt)
               have hB5 := hbel.trans (hb5.mono hgs2)
               have hgs5 := Nat.le_trans hgs2 hb5.size
               clear hF' hR hb5)
            | (refine wpList_store_arr rfl 42 (.tmp 4) (.tmp 68) rfl 4 arrE hR5 rfl rfl (by omega) (fun _ _ => rfl) ?_; intro w6 hr6 hg6 hs6))
          refine ret_cell_arr rfl arrE hr6 rfl (by omega) rfl ⟨?_, by rw [HG.out]; exact hB5.grown hg6 hgs5 (by intro k hk; cases hk; exact l2)⟩
          rw [agg_putW, HRES.out]
end Go.Proofs.Ytnoppemclfnlcaa
