/- The document's numbers below p: Add, Sub, Neg. -/
import Derived.Test.YthapdohblphlgaaFeB
namespace Go.Proofs.Ythapdohblphlgaa
open Go.RowKit Go.Deep

/-- Three rows on the spot. -/
theorem three_rows (w : World) (F G : Nat → Value) (t : TypeId) : ∃ w3, w3 = ((w.alloc (.cells (arrOf 16 F) t)).alloc (.cells (arrOf 16 G) t)).alloc (.cells (arrOf 16 (u64f fun _ => 0)) t) ∧
    w3.rowIs w.heap.size t 16 F ∧ w3.rowIs (w.heap.size + 1) t 16 G ∧ w3.rowIs (w.heap.size + 1 + 1) t 16 (u64f fun _ => 0) ∧ Below w.heap.size w w3 ∧ w3.heap.size = w.heap.size + 1 + 1 + 1 := by
  refine ⟨_, rfl, ((rowIs_arr w 16 F t).alloc _).alloc _, ?_, ?_, (((Below.refl _ _).alloc (Nat.le_refl _) _).alloc (by simp) _).alloc (by simp; omega) _, by simp only [World.size_alloc]⟩
  · have h := (rowIs_arr (w.alloc (.cells (arrOf 16 F) t)) 16 G t).alloc (.cells (arrOf 16 (u64f fun _ => 0)) t)
    rwa [World.size_alloc] at h
  · have h := rowIs_arr ((w.alloc (.cells (arrOf 16 F) t)).alloc (.cells (arrOf 16 G) t)) 16 (u64f fun _ => 0) t
    rwa [World.size_alloc, World.size_alloc] at h
theorem agg_put (F G : Nat → Value) : arrOf 16 (fun i => putN F 0 16 G (0 + i)) = arrOf 16 G := arrOf_congr fun i hi => by
  unfold putN
  rw [if_pos (by omega)]
  simp only [Nat.zero_add, Nat.sub_zero]

set_option maxHeartbeats 1000000 in
theorem refAdd_any (A B : Nat) (w : World) (hA : A < p25) (hB : B < p25) : Calls Try.prog 21 #[.agg (arrOf 16 (feF A)), .agg (arrOf 16 (feF B))] w fun e w' => e = .returned (.agg (arrOf 16 (feF ((A + B) % p25)))) ∧ Below w.heap.size w w' := by
  obtain ⟨w3, hw3, hrA, hrB, hrR, hbel, hsz⟩ := three_rows w (feF A) (feF B) 31
  have HSUM := Lib.hid (valL_sum hA hB)
  clear hA hB
  go_enter Try.func21, Try.ntmps21
  go_wp2_with (refine wpList_alloc_arr rfl 31 rfl (arrOf 16 (u64f fun _ => 0)) zeroFe ?_)
  rw [← hw3]
  clear hw3
  generalize hg0 : w.heap.size = g0 at *
  generalize hg2 : g0 + 1 + 1 = g2 at *
  generalize hg1 : g0 + 1 = g1 at *
  have n10 : g1 ≠ g0 := by omega
  have n01 : g0 ≠ g1 := by omega
  have n20 : g2 ≠ g0 := by omega
  have l2 : g0 ≤ g2 := by omega
  have HG := Lib.hid hg0
  clear hg1 hg2 hg0 hsz
  go_loopw [5] (fun i wr => ∃ j : Nat, j ≤ 16 ∧ i = .int .i64 j ∧ wr.rowIs g0 31 16 (u64f fun i => if i < j then dig A i + dig B i else dig A i) ∧ wr.rowIs g1 31 16 (feF B) ∧ wr.rowIs g2 31 16 (u64f fun _ => 0) ∧ Below g0 w wr) (fun i _ => 16 - (intOf i).toNat)
  case atStart => exact ⟨0, Nat.zero_le _, rfl, hrA.congr fun i _ => rfl, hrB, hrR, hbel⟩
  case round =>
    clear hrA hrB hrR hbel
    obtain ⟨j, hj, rfl, hA, hB, hR, hbel⟩ := hrel
    by_cases hlt : j < 16
    · have hcA : wr.cell? ⟨g0, j, none⟩ = some (.int .u64 ((dig A j : Nat) : Int)) := by
        have h := hA.cell hlt
        dsimp only [u64f] at h
        rwa [if_neg (Nat.lt_irrefl j)] at h
      have hcB : wr.cell? ⟨g1, j, none⟩ = some (.int .u64 ((dig B j : Nat) : Int)) := hB.cell hlt
      have hfr := hA.frozen j
      have hjI : 0 ≤ (j : Int) ∧ (j : Int) < 16 := by omega
      have h1 := dig_lt A j
      have h2 := dig_lt B j
      have hset : ∀ v, v = dig A j + dig B j → (wr.drew.setCell ⟨g0, j, none⟩ (.int .u64 ((v : Nat) : Int))).rowIs g0 31 16 (u64f fun i => if i < j + 1 then dig A i + dig B i else dig A i) := fun v hv => row_set hA.drew j v _ (fun i hi => by
        by_cases e : i = j
        · subst e; rw [if_pos (Nat.lt_succ_self i), if_pos rfl]; exact hv.symm
        · rw [if_neg e]
          by_cases h2 : i < j
          · rw [if_pos h2, if_pos (by omega)]
          · rw [if_neg h2, if_neg (by omega)])
      have HSET := Lib.hid hset
      generalize dig A j = x at *
      generalize dig B j = y at *
      have hw : IntKind.u64.wrap ((x : Int) + (y : Int)) = ((x + y : Nat) : Int) := by rw [IntWalk.u64_in _ ⟨by omega, by omega⟩]; omega
      generalize hv : x + y = v at *
      clear hset hv h1 h2 hlt
      go_wp2
      go_region
      go_wp2
      go_roundw
      case rel => exact ⟨j + 1, by omega, by go_num, HSET.out v rfl, hB.drew.setOther n10 _, hR.drew.setOther n20 _, hbel.drew.setCell (Nat.le_refl _) _⟩
      case measure => simp [intOf]; omega
    · obtain rfl : j = 16 := by omega
      have hA' : wr.rowIs g0 31 16 (u64f fun i => dig A i + dig B i) := hA.congr fun i hi => by dsimp only [u64f]; rw [if_pos hi]
      have hgs : g0 ≤ wr.heap.size := by rw [← HG.out]; exact hbel.size
      clear hA
      go_wp2_with (first
        | (refine wpList_load_arr rfl 31 (.tmp 2) rfl 16 arrFe hA' rfl (by omega) ?_; simp only [Nat.zero_add])
        | (go_at_call 39; refine (refCarried_any (fun i => dig A i + dig B i) _ (fun i => by have := dig_lt A i; have := dig_lt B i; omega)).mono ?_; rintro e w5 ⟨rfl, hb5⟩
           have hR5 := hR.of_block (hb5.block _ hR.lt)
           have hB5 := hbel.trans (hb5.mono hgs)
           have hgs5 := Nat.le_trans hgs hb5.size
           clear hA' hR hb5)
        | (refine wpList_store_arr rfl 31 (.tmp 4) (.tmp 20) rfl 16 arrFe hR5 rfl rfl (by omega) (fun _ _ => rfl) ?_; intro w6 hr6 hg6 hs6))
      refine ret_cell_arr rfl arrFe hr6 rfl (by omega) rfl ⟨?_, by rw [HG.out]; exact hB5.grown hg6 hgs5 (by intro k hk; cases hk; exact l2)⟩
      rw [agg_put, HSUM.out]

set_option maxHeartbeats 1000000 in
theorem refSub_any (A B : Nat) (w : World) (hA : A < p25) (hB : B < p25) : Calls Try.prog 23 #[.agg (arrOf 16 (feF A)), .agg (arrOf 16 (feF B))] w fun e w' => e = .returned (.agg (arrOf 16 (feF (subP p25 A B)))) ∧ Below w.heap.size w w' := by
  obtain ⟨w3, hw3, hrA, hrB, hrR, hbel, hsz⟩ := three_rows w (feF A) (feF B) 31
  have hdig : ∀ j, j < 16 → dig B j ≤ dig A j + 4 * dig p25 j := fun j hj => by
    have h1 := dig_lt B j
    rw [p25_dig j hj]
    (repeat' split) <;> omega
  have hres : valL (fun j => dig A j + 4 * dig p25 j - dig B j) 16 % p25 = subP p25 A B :=
    diff_mod hB (valL_diff hA hB _ (fun j hj => by have := hdig j hj; omega))
  have HRES := Lib.hid hres
  have HDIG := Lib.hid hdig
  clear hA hB hdig hres
  go_enter Try.func23, Try.ntmps23
  go_wp2_with (first
    | (go_at_call 43
       rw [← hw3]
       refine (refPrime_any _).mono ?_; rintro e w4 ⟨rfl, hb4⟩
       have hrA4 := (hrA.of_block (hb4.block _ hrA.lt)).alloc (.cells (arrOf 16 (u64f fun _ => 0)) 31)
       have hrB4 := (hrB.of_block (hb4.block _ hrB.lt)).alloc (.cells (arrOf 16 (u64f fun _ => 0)) 31)
       have hrR4 := (hrR.of_block (hb4.block _ hrR.lt)).alloc (.cells (arrOf 16 (u64f fun _ => 0)) 31)
       have hs4 := hb4.size
       have hP4 := rowIs_arr w4 16 (u64f fun _ => 0) 31
       have hb04 := hbel.trans (hb4.mono hbel.size)
       have hb04' := hb04.alloc hb04.size (.cells (arrOf 16 (u64f fun _ => 0)) 31)
       clear hrA hrB hrR hb4 hw3)
    | refine wpList_alloc_arr rfl 31 rfl (arrOf 16 (u64f fun _ => 0)) zeroFe ?_
    | (refine wpList_store_arr rfl 31 (.tmp 5) (.tmp 7) rfl 16 arrFe hP4 rfl rfl (by omega) (fun _ _ => rfl) ?_; intro w5 hr5 hg5 hs5))
  rw [hsz] at hs4
  have hP : w5.rowIs w4.heap.size 31 16 (feF p25) := hr5.congr fun i hi => by unfold putN; rw [if_pos (by omega), Nat.sub_zero]
  have hrA5 : w5.rowIs w.heap.size 31 16 (feF A) := hrA4.of_block (hg5.block _ hrA4.lt (fun e => by have := Option.some.inj e; omega))
  have hrB5 : w5.rowIs (w.heap.size + 1) 31 16 (feF B) := hrB4.of_block (hg5.block _ hrB4.lt (fun e => by have := Option.some.inj e; omega))
  have hrR5 : w5.rowIs (w.heap.size + 1 + 1) 31 16 (u64f fun _ => 0) := hrR4.of_block (hg5.block _ hrR4.lt (fun e => by have := Option.some.inj e; omega))
  have hb5 : Below w.heap.size w w5 := hb04'.grown hg5 hb04'.size (by intro k hk; cases hk; omega)
  clear hrA4 hrB4 hrR4 hP4 hr5 hg5 hb04 hb04' hs5 hbel hsz
  generalize hg0 : w.heap.size = g0 at *
  generalize hg2 : g0 + 1 + 1 = g2 at *
  generalize hg1 : g0 + 1 = g1 at *
  generalize w4.heap.size = gp at *
  have n10 : g1 ≠ g0 := by omega
  have n01 : g0 ≠ g1 := by omega
  have n20 : g2 ≠ g0 := by omega
  have np0 : gp ≠ g0 := by omega
  have l2 : g0 ≤ g2 := by omega
  have HG := Lib.hid hg0
  clear hg1 hg2 hg0 hs4
  go_loopw [6] (fun i wr => ∃ j : Nat, j ≤ 16 ∧ i = .int .i64 j ∧ wr.rowIs g0 31 16 (u64f fun i => if i < j then dig A i + 4 * dig p25 i - dig B i else dig A i) ∧ wr.rowIs g1 31 16 (feF B) ∧ wr.rowIs gp 31 16 (feF p25) ∧ wr.rowIs g2 31 16 (u64f fun _ => 0) ∧ Below g0 w wr) (fun i _ => 16 - (intOf i).toNat)
  case atStart => exact ⟨0, Nat.zero_le _, rfl, hrA5.congr fun i _ => rfl, hrB5, hP, hrR5, hb5⟩
  case round =>
    clear hrA5 hrB5 hP hrR5 hb5
    obtain ⟨j, hj, rfl, hA, hB, hP, hR, hbel⟩ := hrel
    by_cases hlt : j < 16
    · have hcA : wr.cell? ⟨g0, j, none⟩ = some (.int .u64 ((dig A j : Nat) : Int)) := by
        have h := hA.cell hlt
        dsimp only [u64f] at h
        rwa [if_neg (Nat.lt_irrefl j)] at h
      have hcB : wr.cell? ⟨g1, j, none⟩ = some (.int .u64 ((dig B j : Nat) : Int)) := hB.cell hlt
      have hcP : wr.cell? ⟨gp, j, none⟩ = some (.int .u64 ((dig p25 j : Nat) : Int)) := hP.cell hlt
      have hfr := hA.frozen j
      have hjI : 0 ≤ (j : Int) ∧ (j : Int) < 16 := by omega
      have h1 := dig_lt A j
      have h2 := dig_lt B j
      have h3 := dig_lt p25 j
      have h4 := HDIG.out j hlt
      have hset : ∀ v, v = dig A j + 4 * dig p25 j - dig B j → (wr.drew.setCell ⟨g0, j, none⟩ (.int .u64 ((v : Nat) : Int))).rowIs g0 31 16 (u64f fun i => if i < j + 1 then dig A i + 4 * dig p25 i - dig B i else dig A i) := fun v hv => row_set hA.drew j v _ (fun i hi => by
        by_cases e : i = j
        · subst e; rw [if_pos (Nat.lt_succ_self i), if_pos rfl]; exact hv.symm
        · rw [if_neg e]
          by_cases h2 : i < j
          · rw [if_pos h2, if_pos (by omega)]
          · rw [if_neg h2, if_neg (by omega)])
      have HSET := Lib.hid hset
      generalize dig A j = x at *
      generalize dig B j = y at *
      generalize dig p25 j = z at *
      have hw0 : IntKind.u64.wrap (4 * (z : Int)) = ((4 * z : Nat) : Int) := by rw [IntWalk.u64_in _ ⟨by omega, by omega⟩]; omega
      have hw : IntKind.u64.wrap ((x : Int) + ((4 * z : Nat) : Int)) = ((x + 4 * z : Nat) : Int) := by rw [IntWalk.u64_in _ ⟨by omega, by omega⟩]; omega
      have hw2 : IntKind.u64.wrap (((x + 4 * z : Nat) : Int) - (y : Int)) = ((x + 4 * z - y : Nat) : Int) := by rw [IntWalk.u64_in _ ⟨by omega, by omega⟩]; omega
      generalize hv : x + 4 * z - y = v at *
      generalize x + 4 * z = s at *
      generalize 4 * z = z4 at *
      have HS2 := Lib.hid (HSET.out v rfl)
      clear hset hv h1 h2 h3 h4 hlt HSET
      go_wp2
      go_region
      go_wp2
      go_roundw
      case rel => exact ⟨j + 1, by omega, by go_num, HS2.out, hB.drew.setOther n10 _, hP.drew.setOther np0 _, hR.drew.setOther n20 _, hbel.drew.setCell (Nat.le_refl _) _⟩
      case measure => simp [intOf]; omega
    · obtain rfl : j = 16 := by omega
      have hA' : wr.rowIs g0 31 16 (u64f fun i => dig A i + 4 * dig p25 i - dig B i) := hA.congr fun i hi => by dsimp only [u64f]; rw [if_pos hi]
      have hgs : g0 ≤ wr.heap.size := by rw [← HG.out]; exact hbel.size
      clear hA
      go_wp2_with (first
        | (refine wpList_load_arr rfl 31 (.tmp 2) rfl 16 arrFe hA' rfl (by omega) ?_; simp only [Nat.zero_add])
        | (go_at_call 39; refine (refCarried_any (fun i => dig A i + 4 * dig p25 i - dig B i) _ (fun i => by have := dig_lt A i; have := dig_lt p25 i; omega)).mono ?_; rintro e w5 ⟨rfl, hb5⟩
           have hR5 := hR.of_block (hb5.block _ hR.lt)
           have hB5 := hbel.trans (hb5.mono hgs)
           have hgs5 := Nat.le_trans hgs hb5.size
           clear hA' hR hb5)
        | (refine wpList_store_arr rfl 31 (.tmp 4) (.tmp 27) rfl 16 arrFe hR5 rfl rfl (by omega) (fun _ _ => rfl) ?_; intro w6 hr6 hg6 hs6))
      refine ret_cell_arr rfl arrFe hr6 rfl (by omega) rfl ⟨?_, by rw [HG.out]; exact hB5.grown hg6 hgs5 (by intro k hk; cases hk; exact l2)⟩
      rw [agg_put, HRES.out]

/-- Two rows on the spot. -/
theorem two_rows (w : World) (F : Nat → Value) (t : TypeId) : ∃ w3, w3 = (w.alloc (.cells (arrOf 16 F) t)).alloc (.cells (arrOf 16 (u64f fun _ => 0)) t) ∧
    w3.rowIs w.heap.size t 16 F ∧ w3.rowIs (w.heap.size + 1) t 16 (u64f fun _ => 0) ∧ Below w.heap.size w w3 ∧ w3.heap.size = w.heap.size + 1 + 1 := by
  refine ⟨_, rfl, (rowIs_arr w 16 F t).alloc _, ?_, ((Below.refl _ _).alloc (Nat.le_refl _) _).alloc (by simp) _, by simp only [World.size_alloc]⟩
  have h := rowIs_arr (w.alloc (.cells (arrOf 16 F) t)) 16 (u64f fun _ => 0) t
  rwa [World.size_alloc] at h

set_option maxHeartbeats 1000000 in
theorem refNeg_any (A : Nat) (w : World) (hA : A < p25) : Calls Try.prog 27 #[.agg (arrOf 16 (feF A))] w fun e w' => e = .returned (.agg (arrOf 16 (feF (subP p25 0 A)))) ∧ Below w.heap.size w w' := by
  obtain ⟨w3, hw3, hrA, hrR, hbel, hsz⟩ := two_rows w (feF A) 31
  subst hw3
  go_enter Try.func27, Try.ntmps27
  go_wp2_with (first
    | refine wpList_alloc_arr rfl 31 rfl (arrOf 16 (u64f fun _ => 0)) zeroFe ?_
    | (refine wpList_build_arr rfl 31 _ rfl (arrOf 16 (feF 0)) (by kernel_rfl) ?_)
    | (refine wpList_load_arr rfl 31 (.tmp 1) rfl 16 arrFe hrA rfl (by omega) ?_; simp only [Nat.zero_add])
    | fail)
  refine (refSub_any 0 A _ p25_pos hA).mono ?_
  rintro e w5 ⟨rfl, hb5⟩
  have hR5 := hrR.of_block (hb5.block _ hrR.lt)
  have hB5 := hbel.trans (hb5.mono hbel.size)
  clear hrA hrR hb5
  go_wp2_with (refine wpList_store_arr rfl 31 (.tmp 2) (.tmp 5) rfl 16 arrFe hR5 rfl rfl (by omega) (fun _ _ => rfl) ?_; intro w6 hr6 hg6 hs6)
  refine ret_cell_arr rfl arrFe hr6 rfl (by omega) rfl ⟨?_, hB5.grown hg6 hB5.size (by intro k hk; cases hk; omega)⟩
  rw [agg_put]

set_option maxHeartbeats 1000000 in
theorem refSmall_any (n : Nat) (w : World) (hn : n < 2 ^ 64) : Calls Try.prog 19 #[.int .u64 (n : Int)] w fun e w' => e = .returned (.agg (arrOf 16 (feF n))) ∧ Below w.heap.size w w' := by
  obtain ⟨w3, hw3, hrA, hrR, hbel, hsz⟩ := two_rows w (u64f fun _ => 0) 31
  have hdig : ∀ i, 4 ≤ i → dig n i = 0 := fun i hi => by
    unfold dig
    rw [Nat.div_eq_of_lt]
    exact Nat.lt_of_lt_of_le hn (by
      have h := Nat.pow_le_pow_right (show 0 < 65536 by decide) hi
      exact Nat.le_trans (by decide) h)
  have HDIG := Lib.hid hdig
  have HN := Lib.hid hn
  clear hdig
  go_enter Try.func19, Try.ntmps19
  go_wp2_with (refine wpList_alloc_arr rfl 31 rfl (arrOf 16 (u64f fun _ => 0)) zeroFe ?_)
  rw [← hw3]
  clear hw3
  generalize hg0 : w.heap.size = g0 at *
  generalize hg1 : g0 + 1 = g1 at *
  have n01 : g0 ≠ g1 := by omega
  have l1 : g0 ≤ g1 := by omega
  have HG := Lib.hid hg0
  clear hg1 hg0 hsz
  go_loopw [4] (fun i wr => ∃ j : Nat, j ≤ 4 ∧ i = .int .i64 j ∧ wr.rowIs g1 31 16 (u64f fun i => if i < j then dig n i else 0) ∧ wr.rowIs g0 31 16 (u64f fun _ => 0) ∧ Below g0 w wr) (fun i _ => 4 - (intOf i).toNat)
  case atStart => exact ⟨0, Nat.zero_le _, rfl, hrR.congr fun i _ => rfl, hrA, hbel⟩
  case round =>
    clear hrA hrR hbel
    obtain ⟨j, hj, rfl, hA, hR, hbel⟩ := hrel
    by_cases hlt : j < 4
    · have hfr := hA.frozen j
      have hcA := hA.cell (i := j) (by omega)
      have hjI : 0 ≤ (j : Int) ∧ (j : Int) < 4 := by omega
      have hset : (wr.setCell ⟨g1, j, none⟩ (.int .u64 ((dig n j : Nat) : Int))).rowIs g1 31 16 (u64f fun i => if i < j + 1 then dig n i else 0) := row_set hA j _ _ (fun i hi => by
        by_cases e : i = j
        · subst e; rw [if_pos (Nat.lt_succ_self i), if_pos rfl]
        · rw [if_neg e]
          by_cases h2 : i < j
          · rw [if_pos h2, if_pos (by omega)]
          · rw [if_neg h2, if_neg (by omega)])
      have HS := Lib.hid hset
      have hw : IntKind.i64.wrap (16 * (j : Int)) = ((16 * j : Nat) : Int) := by rw [IntWalk.i64_in _ (by omega)]; omega
      have hm : bits .and .u64 ((n : Int) / 2 ^ (16 * j)) 65535 = ((dig n j : Nat) : Int) := by
        have e : (n : Int) / 2 ^ (16 * j) = ((n / 2 ^ (16 * j) : Nat) : Int) := by simp
        rw [e, mask64 _ 16 (Nat.lt_of_le_of_lt (Nat.div_le_self _ _) HN.out) (by decide) 65535 rfl]
        unfold dig
        rw [show (65536 : Nat) = 2 ^ 16 from rfl, ← Nat.pow_mul]
      clear hset hlt
      go_wp2
      go_roundw
      case rel => exact ⟨j + 1, by omega, by go_num, HS.out, hR.setOther n01 _, hbel.setCell (show g0 ≤ (⟨g1, j, none⟩ : Addr).block from l1) _⟩
      case measure => simp [intOf]; omega
    · obtain rfl : j = 4 := by omega
      have hA' : wr.rowIs g1 31 16 (feF n) := hA.congr fun i hi => by
        dsimp only [feF, u64f]
        by_cases h4 : i < 4
        · rw [if_pos h4]
        · rw [if_neg h4, HDIG.out i (by omega)]
      have hgs : g0 ≤ wr.heap.size := by rw [← HG.out]; exact hbel.size
      clear hA
      go_wp2_with (first
        | (refine wpList_load_arr rfl 31 (.tmp 3) rfl 16 arrFe hA' rfl (by omega) ?_; simp only [Nat.zero_add])
        | (refine wpList_store_arr rfl 31 (.tmp 2) (.tmp 16) rfl 16 arrFe hR rfl rfl (by omega) (fun _ _ => rfl) ?_; intro w6 hr6 hg6 hs6))
      refine ret_cell_arr rfl arrFe hr6 rfl (by omega) rfl ⟨?_, by rw [HG.out]; exact hbel.grown hg6 hgs (by intro k hk; cases hk; exact Nat.le_refl _)⟩
      rw [agg_put]
end Go.Proofs.Ythapdohblphlgaa
