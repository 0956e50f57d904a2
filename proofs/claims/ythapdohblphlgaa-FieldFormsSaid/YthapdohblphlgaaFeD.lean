/- The document's numbers below p: Mul. -/
import Derived.Test.YthapdohblphlgaaFeC
namespace Go.Proofs.Ythapdohblphlgaa
open Go.RowKit Go.Deep

theorem zero32u : (Try.prog.info? 66).map (fun i => i.zero) = some (some (.agg (arrOf 32 (u64f fun _ => 0)))) := by kernel_rfl
theorem row_set_drew {w : World} {b n : Nat} {t : TypeId} {f : Nat → Nat} (h : w.rowIs b t n (u64f f)) (j v : Nat) (g : Nat → Nat) (hg : ∀ i, i < n → g i = if i = j then v else f i) : (w.drew.setCell ⟨b, j, none⟩ (.int .u64 (v : Int))).rowIs b t n (u64f g) := row_set h.drew j v g hg

set_option maxHeartbeats 4000000 in
theorem refMul_any (A B : Nat) (w : World) (hA : A < p25) (hB : B < p25) : Calls Try.prog 25 #[.agg (arrOf 16 (feF A)), .agg (arrOf 16 (feF B))] w fun e w' => e = .returned (.agg (arrOf 16 (feF (A * B % p25)))) ∧ Below w.heap.size w w' := by
  obtain ⟨w3, hw3, hrA0, hrB0, hrR0, hbel0, hsz⟩ := three_rows w (feF A) (feF B) 31
  have hrA := hrA0.alloc (.cells (arrOf 32 (u64f fun _ => 0)) 66)
  have hrB := hrB0.alloc (.cells (arrOf 32 (u64f fun _ => 0)) 66)
  have hrR := hrR0.alloc (.cells (arrOf 32 (u64f fun _ => 0)) 66)
  have hrC := rowIs_arr w3 32 (u64f fun _ => 0) 66
  have hbel := hbel0.alloc hbel0.size (.cells (arrOf 32 (u64f fun _ => 0)) 66)
  rw [hsz] at hrC
  have HROW := Lib.hid (fun i => mulTo_row A B i hB)
  have HALL := Lib.hid (mulTo_all A B hA)
  clear hrA0 hrB0 hrR0 hbel0 hA hB
  go_enter Try.func25, Try.ntmps25
  go_wp2_with (first
    | refine wpList_alloc_arr rfl 31 rfl (arrOf 16 (u64f fun _ => 0)) zeroFe ?_
    | refine wpList_alloc_arr rfl 66 rfl (arrOf 32 (u64f fun _ => 0)) zero32u ?_)
  rw [← hw3]
  clear hw3
  generalize w3.alloc (.cells (arrOf 32 (u64f fun _ => 0)) 66) = w4 at *
  generalize hg0 : w.heap.size = g0 at *
  generalize hg3 : g0 + 1 + 1 + 1 = g3 at *
  generalize hg2 : g0 + 1 + 1 = g2 at *
  generalize hg1 : g0 + 1 = g1 at *
  have n30 : g0 ≠ g3 := by omega
  have n31 : g1 ≠ g3 := by omega
  have n32 : g2 ≠ g3 := by omega
  have l2 : g0 ≤ g2 := by omega
  have l3 : g0 ≤ g3 := by omega
  have m30 : g3 ≠ g0 := by omega
  have m31 : g3 ≠ g1 := by omega
  have HG := Lib.hid hg0
  clear hg1 hg2 hg0 hg3 hsz
  go_loopw [6, 7] (fun ii _ wr => ∃ (i : Nat) (f : Nat → Nat), i ≤ 16 ∧ ii = .int .i64 i ∧ wr.rowIs g3 66 32 (u64f f) ∧ Hid (valL f 32 = mulTo A B i 0) ∧ Hid (∀ j, f j ≤ i * 4294836225) ∧ wr.rowIs g0 31 16 (feF A) ∧ wr.rowIs g1 31 16 (feF B) ∧ wr.rowIs g2 31 16 (u64f fun _ => 0) ∧ Below g0 w wr) (fun ii _ _ => 16 - (intOf ii).toNat)
  case atStart => exact ⟨0, fun _ => 0, Nat.zero_le _, rfl, hrC, Lib.hid (by rw [mulTo_zero]; decide), Lib.hid (fun j => Nat.zero_le _), hrA, hrB, hrR, hbel⟩
  case round =>
    clear hrC hrA hrB hrR hbel
    obtain ⟨i, f, hi, rfl, hC, HV, HBD, hA, hB, hR, hbel⟩ := hrel
    by_cases hlt : i < 16
    · have hiI : 0 ≤ (i : Int) ∧ (i : Int) < 16 := by omega
      go_wp2
      go_loopw [7] (fun kk wq => ∃ (k : Nat) (f : Nat → Nat), k ≤ 16 ∧ kk = .int .i64 k ∧ wq.rowIs g3 66 32 (u64f f) ∧ Hid (valL f 32 = mulTo A B i k) ∧ Hid (∀ j, f j ≤ i * 4294836225 + if j < i + k then 4294836225 else 0) ∧ wq.rowIs g0 31 16 (feF A) ∧ wq.rowIs g1 31 16 (feF B) ∧ wq.rowIs g2 31 16 (u64f fun _ => 0) ∧ Below g0 w wq) (fun kk _ => 16 - (intOf kk).toNat)
      case atStart => exact ⟨0, f, Nat.zero_le _, rfl, hC, HV, Lib.hid (fun j => Nat.le_trans (HBD.out j) (Nat.le_add_right _ _)), hA, hB, hR, hbel⟩
      case round =>
        clear hC HV HBD hA hB hR hbel
        obtain ⟨k, f, hk, rfl, hC, HV, HBD, hA, hB, hR, hbel⟩ := hrel
        by_cases hlk : k < 16
        · have hkI : 0 ≤ (k : Int) ∧ (k : Int) < 16 := by omega
          have hik : i + k < 32 := by omega
          have hcA : wr.cell? ⟨g0, i, none⟩ = some (.int .u64 ((dig A i : Nat) : Int)) := hA.cell hlt
          have hcB : wr.cell? ⟨g1, k, none⟩ = some (.int .u64 ((dig B k : Nat) : Int)) := hB.cell hlk
          have hcC : wr.cell? ⟨g3, i + k, none⟩ = some (.int .u64 ((f (i + k) : Nat) : Int)) := hC.cell hik
          have hfr := hC.frozen (i + k)
          have hb := HBD.out (i + k)
          rw [if_neg (Nat.lt_irrefl _), Nat.add_zero] at hb
          have h1 := dig_lt A i
          have h2 := dig_lt B k
          have hxy : dig A i * dig B k ≤ 4294836225 := Nat.mul_le_mul (show dig A i ≤ 65535 by omega) (show dig B k ≤ 65535 by omega)
          have hi15 : i * 4294836225 ≤ 15 * 4294836225 := Nat.mul_le_mul_right _ (by omega)
          have hval : valL (addAt f (i + k) (dig A i * dig B k)) 32 = mulTo A B i (k + 1) := by
            rw [valL_addAt _ _ _ _ hik, HV.out, mulTo_step]
          have hbd : ∀ j, addAt f (i + k) (dig A i * dig B k) j ≤ i * 4294836225 + if j < i + (k + 1) then 4294836225 else 0 := fun j => by
            have h3 := HBD.out j
            unfold addAt
            by_cases e : j = i + k
            · subst e
              rw [if_pos rfl, if_pos (by omega)]
              omega
            · rw [if_neg e]
              by_cases e2 : j < i + k
              · rw [if_pos e2] at h3
                rw [if_pos (by omega)]
                exact h3
              · rw [if_neg e2] at h3
                rw [if_neg (by omega)]
                exact h3
          have hset : (wr.drew.setCell ⟨g3, i + k, none⟩ (.int .u64 ((f (i + k) + dig A i * dig B k : Nat) : Int))).rowIs g3 66 32 (u64f (addAt f (i + k) (dig A i * dig B k))) := row_set_drew hC _ _ _ (fun j hj => by
            unfold addAt
            by_cases e : j = i + k
            · subst e; simp only [if_pos]
            · rw [if_neg e, if_neg e])
          have HVAL := Lib.hid hval
          have HBD2 := Lib.hid hbd
          have HSET := Lib.hid hset
          have hw1 : IntKind.i64.wrap ((i : Int) + (k : Int)) = ((i + k : Nat) : Int) := by rw [IntWalk.i64_in _ (by omega)]; omega
          have hw2 : IntKind.u64.wrap (((dig A i : Nat) : Int) * ((dig B k : Nat) : Int)) = ((dig A i * dig B k : Nat) : Int) := by
            rw [← Int.natCast_mul, IntWalk.u64_in _ ⟨by omega, by omega⟩]
          have hw3 : IntKind.u64.wrap (((f (i + k) : Nat) : Int) + ((dig A i * dig B k : Nat) : Int)) = ((f (i + k) + dig A i * dig B k : Nat) : Int) := by rw [IntWalk.u64_in _ ⟨by omega, by omega⟩]; omega
          have hikI : 0 ≤ ((i + k : Nat) : Int) ∧ ((i + k : Nat) : Int) < 32 := by omega
          generalize hfn : addAt f (i + k) (dig A i * dig B k) = fn at *
          generalize dig A i = x at *
          generalize dig B k = y at *
          generalize f (i + k) + x * y = v at *
          generalize f (i + k) = u at *
          generalize x * y = xy at *
          generalize i + k = ik at *
          clear hval hbd hset hb h1 h2 hxy hi15 hfn hik HV HBD hC
          go_wp2
          go_region
          go_wp2
          go_roundw
          case rel => exact ⟨k + 1, fn, by omega, by go_num, HSET.out, HVAL, HBD2, hA.drew.setOther n30 _, hB.drew.setOther n31 _, hR.drew.setOther n32 _, hbel.drew.setCell (show g0 ≤ (⟨g3, ik, none⟩ : Addr).block from l3) _⟩
          case measure => simp [intOf]; omega
        · obtain rfl : k = 16 := by omega
          go_wp2
          go_roundw
          case rel => exact ⟨i + 1, f, by omega, by go_num, hC, Lib.hid (by rw [HV.out, HROW.out]), Lib.hid (fun j => by
              have h := HBD.out j
              rw [Nat.add_mul, Nat.one_mul]
              refine Nat.le_trans h (Nat.add_le_add_left ?_ _)
              split <;> omega), hA, hB, hR, hbel⟩
          case measure => simp [intOf]; omega
    · obtain rfl : i = 16 := by omega
      have hgs : g0 ≤ wr.heap.size := by rw [← HG.out]; exact hbel.size
      have hC1 := hC.alloc (.cells (arrOf 16 (u64f fun _ => 0)) 31)
      have hR1 := hR.alloc (.cells (arrOf 16 (u64f fun _ => 0)) 31)
      have hF1 := rowIs_arr wr 16 (u64f fun _ => 0) 31
      have hb1 := hbel.alloc hgs (.cells (arrOf 16 (u64f fun _ => 0)) 31)
      have hlC := hC.lt
      have hlR := hR.lt
      have hval : valL (fun j => f j + 38 * f (16 + j)) 16 % p25 = A * B % p25 := by rw [fold_mod, HV.out, HALL.out]
      have HVAL := Lib.hid hval
      clear hC hR hbel hA hB hval HV
      go_wp2_with (refine wpList_alloc_arr rfl 31 rfl (arrOf 16 (u64f fun _ => 0)) zeroFe ?_)
      generalize hwf : wr.alloc (.cells (arrOf 16 (u64f fun _ => 0)) 31) = wf at *
      generalize hg5 : wr.heap.size = g5 at *
      have n53 : g3 ≠ g5 := by omega
      have n52 : g2 ≠ g5 := by omega
      have l5 : g0 ≤ g5 := by omega
      clear hwf hg5 hlC hlR
      go_loopw [9] (fun ii wq => ∃ j : Nat, j ≤ 16 ∧ ii = .int .i64 j ∧ wq.rowIs g5 31 16 (u64f fun i => if i < j then f i + 38 * f (16 + i) else 0) ∧ wq.rowIs g3 66 32 (u64f f) ∧ wq.rowIs g2 31 16 (u64f fun _ => 0) ∧ Below g0 w wq) (fun ii _ => 16 - (intOf ii).toNat)
      case atStart => exact ⟨0, Nat.zero_le _, rfl, hF1.congr fun i _ => rfl, hC1, hR1, hb1⟩
      case round =>
        clear hF1 hC1 hR1 hb1
        obtain ⟨j, hj, rfl, hF, hC, hR, hbel⟩ := hrel
        by_cases hlj : j < 16
        · have hjI : 0 ≤ (j : Int) ∧ (j : Int) < 16 := by omega
          have hc1 : wr.cell? ⟨g3, j, none⟩ = some (.int .u64 ((f j : Nat) : Int)) := hC.cell (by omega)
          have hc2 : wr.cell? ⟨g3, j + 16, none⟩ = some (.int .u64 ((f (j + 16) : Nat) : Int)) := hC.cell (by omega)
          have hcF := hF.cell (i := j) (by omega)
          have hfr := hF.frozen j
          have hb1 := HBD.out j
          have hb2 := HBD.out (j + 16)
          have hset : (wr.drew.setCell ⟨g5, j, none⟩ (.int .u64 ((f j + 38 * f (j + 16) : Nat) : Int))).rowIs g5 31 16 (u64f fun i => if i < j + 1 then f i + 38 * f (16 + i) else 0) := row_set_drew hF _ _ _ (fun i hi => by
            by_cases e : i = j
            · subst e; rw [if_pos (Nat.lt_succ_self i), if_pos rfl, Nat.add_comm 16 i]
            · rw [if_neg e]
              by_cases h2 : i < j
              · rw [if_pos h2, if_pos (by omega)]
              · rw [if_neg h2, if_neg (by omega)])
          have HSET := Lib.hid hset
          have hw1 : IntKind.i64.wrap ((j : Int) + 16) = ((j + 16 : Nat) : Int) := by rw [IntWalk.i64_in _ (by omega)]; omega
          have hj2I : 0 ≤ ((j + 16 : Nat) : Int) ∧ ((j + 16 : Nat) : Int) < 32 := by omega
          generalize f (j + 16) = y at *
          generalize f j = x at *
          have hw2 : IntKind.u64.wrap (38 * (y : Int)) = ((38 * y : Nat) : Int) := by rw [IntWalk.u64_in _ ⟨by omega, by omega⟩]; omega
          have hw3 : IntKind.u64.wrap ((x : Int) + ((38 * y : Nat) : Int)) = ((x + 38 * y : Nat) : Int) := by rw [IntWalk.u64_in _ ⟨by omega, by omega⟩]; omega
          generalize x + 38 * y = v at *
          generalize 38 * y = y38 at *
          generalize j + 16 = j16 at *
          clear hset hb1 hb2 hlj
          go_wp2
          go_region
          go_wp2
          go_roundw
          case rel => exact ⟨j + 1, by omega, by go_num, HSET.out, hC.drew.setOther n53 _, hR.drew.setOther n52 _, hbel.drew.setCell (show g0 ≤ (⟨g5, j, none⟩ : Addr).block from l5) _⟩
          case measure => simp [intOf]; omega
        · obtain rfl : j = 16 := by omega
          have hF' : wr.rowIs g5 31 16 (u64f fun i => f i + 38 * f (16 + i)) := hF.congr fun i hi => by dsimp only [u64f]; rw [if_pos hi]
          have hgs2 : g0 ≤ wr.heap.size := by rw [← HG.out]; exact hbel.size
          clear hF hC
          go_wp2_with (first
            | (refine wpList_load_arr rfl 31 (.tmp 8) rfl 16 arrFe hF' rfl (by omega) ?_; simp only [Nat.zero_add])
            | (go_at_call 39; refine (refCarried_any (fun i => f i + 38 * f (16 + i)) _ (fun i => by have := HBD.out i; have := HBD.out (16 + i); omega)).mono ?_; rintro e w5 ⟨rfl, hb5⟩
               have hR5 := hR.of_block (hb5.block _ hR.lt)
               have hB5 := hbel.trans (hb5.mono hgs2)
               have hgs5 := Nat.le_trans hgs2 hb5.size
               clear hF' hR hb5)
            | (refine wpList_store_arr rfl 31 (.tmp 4) (.tmp 51) rfl 16 arrFe hR5 rfl rfl (by omega) (fun _ _ => rfl) ?_; intro w6 hr6 hg6 hs6))
          refine ret_cell_arr rfl arrFe hr6 rfl (by omega) rfl ⟨?_, by rw [HG.out]; exact hB5.grown hg6 hgs5 (by intro k hk; cases hk; exact l2)⟩
          rw [agg_put, HVAL.out]
end Go.Proofs.Ythapdohblphlgaa
