/- The program's numbers mod L: Mul, Wide, Bytes, Strict, Same, Bit. -/
import Derived.Test.YtncdlaidmiokiaaSwD
namespace Go.Proofs.Ytncdlaidmiokiaa
open Go.RowKit Go.Deep
set_option linter.unusedSimpArgs false
set_option linter.unusedVariables false

theorem numL_min64 (l : List UInt8) : numL l (min l.length 64) = numL l 64 := by
  by_cases h : l.length ≤ 64
  · rw [Nat.min_eq_left h]
    have := numL_wanting l l.length (Nat.le_refl _) (64 - l.length)
    rw [show l.length + (64 - l.length) = 64 by omega] at this
    exact this.symm
  · rw [Nat.min_eq_right (by omega)]
theorem ordL_W4 {A : Nat} (h : A < ordL) : A < 18446744073709551616 ^ 4 := Nat.lt_trans h (by decide +kernel)
theorem ordL_mul {A C : Nat} (hA : A < ordL) (hC : C < ordL) : A * C < 18446744073709551616 ^ 8 := by
  rw [show (8 : Nat) = 4 + 4 from rfl, Nat.pow_add]
  exact Nat.mul_lt_mul_of_lt_of_le (ordL_W4 hA) (Nat.le_of_lt (ordL_W4 hC)) (by decide +kernel)

set_option maxHeartbeats 4000000 in
theorem sMul_any (A C : Nat) (w : World) (hA : A < ordL) (hC : C < ordL) : Calls Try.prog 16 #[.agg (arrOf 4 (ewF A)), .agg (arrOf 4 (ewF C))] w fun e w' => e = .returned (.agg (arrOf 4 (ewF (A * C % ordL)))) ∧ Below w.heap.size w w' := by
  obtain ⟨w3, hw3, hrA0, hrC0, hrR0, hbel0, hsz⟩ := rowsW3 w (ewF A) (ewF C) 27
  have hrA := hrA0.drew
  have hrC := hrC0.drew
  have hrR := hrR0.drew
  have hbel := hbel0.drew
  have HGS : Hid (∀ wq : World, Below w.heap.size w wq → w.heap.size ≤ wq.heap.size) := Lib.hid fun wq h => h.size
  have l2 : w.heap.size ≤ w.heap.size + 1 + 1 := by omega
  have HT := Lib.hid fun (w1 : World) ga gb ta tb (h1 : w1.rowIs ga ta 4 (ewF A)) (h2 : w1.rowIs gb tb 4 (ewF C)) => times_any A C 4 4 ga gb ta tb w1 (by decide) (ordL_W4 hA) (ordL_W4 hC) h1 h2
  have HR := Lib.hid fun w1 => sReduced_any (A * C) w1 (ordL_mul hA hC)
  clear hrA0 hrC0 hrR0 hbel0 hsz hA hC
  subst hw3
  go_enter Try.func16, Try.ntmps16
  go_wp2_with (refine wpList_alloc_arr rfl 27 rfl (arrOf 4 (u64f fun _ => 0)) zeroS ?_)
  refine wp_region_lins [(0, some [6]), (1, some [4, 6]), (2, some [6]), (3, some [4, 6]), (4, none), (5, none), (6, none)] (fun c w' => True) (by kernel_rfl) (by kernel_rfl) (by decide) (by kernel_rfl) (fun d _ _ _ _ h => by cases d <;> exact h) (fun c hc => trivial) ?_
  refine lins_read 5 (Op.fieldAddr 27 (Operand.tmp 2) 0) 0 (.pointer (some ⟨w.heap.size, 0, none⟩)) rfl rfl rfl rfl rfl (fun w0 hw0 => by unfold mkOp; go_simp; all_goals (with_reducible rfl)) ?_
  simp only [Act.put, List.setIfInBounds_toArray, List.set_cons_zero, List.set_cons_succ, Nat.zero_add]
  refine lins_read 6 (Op.slice 25 (Operand.tmp 5) none none none) 63 (.slice (some ⟨w.heap.size, 0, none⟩) 4 4) rfl rfl rfl rfl rfl (fun w0 hw0 => by exact exec_sliceAll _ _ 24 _ _ (by kernel_rfl) (by kernel_rfl) rfl (by omega)) ?_
  simp only [Act.put, List.setIfInBounds_toArray, List.set_cons_zero, List.set_cons_succ, Nat.zero_add]
  refine lins_read 7 (Op.fieldAddr 27 (Operand.tmp 3) 0) 0 (.pointer (some ⟨w.heap.size + 1, 0, none⟩)) rfl rfl rfl rfl rfl (fun w0 hw0 => by unfold mkOp; go_simp; all_goals (with_reducible rfl)) ?_
  simp only [Act.put, List.setIfInBounds_toArray, List.set_cons_zero, List.set_cons_succ, Nat.zero_add]
  refine lins_read 8 (Op.slice 25 (Operand.tmp 7) none none none) 63 (.slice (some ⟨w.heap.size + 1, 0, none⟩) 4 4) rfl rfl rfl rfl rfl (fun w0 hw0 => by exact exec_sliceAll _ _ 24 _ _ (by kernel_rfl) (by kernel_rfl) rfl (by omega)) ?_
  simp only [Act.put, List.setIfInBounds_toArray, List.set_cons_zero, List.set_cons_succ, Nat.zero_add]
  refine lins_fn (some 9) 35 #[Operand.tmp 6, Operand.tmp 8] #[63, 63] _ (HT.out _ _ _ _ _ hrA hrC) rfl rfl rfl rfl Try.func35 (by kernel_rfl) (by kernel_rfl) (by go_simp) ?_
  rintro e w5 ⟨rfl, hb5⟩
  replace hrR := World.rowIs.of_block hrR (hb5.block _ (World.rowIs.lt hrR))
  replace hbel := Below.trans hbel (hb5.mono (HGS.out _ hbel))
  refine ⟨_, rfl, fun _ _ => True, fun c hc => ⟨trivial, fun _ _ => trivial⟩, ?_⟩
  simp only [Act.put, List.setIfInBounds_toArray, List.set_cons_zero, List.set_cons_succ, Nat.zero_add]
  refine lins_fn (some 10) 27 #[Operand.tmp 9] #[55] _ (HR.out _) rfl rfl rfl rfl Try.func27 (by kernel_rfl) (by kernel_rfl) (by go_simp) ?_
  rintro e w6 ⟨rfl, hb6⟩
  replace hrR := World.rowIs.of_block hrR (hb6.block _ (World.rowIs.lt hrR))
  replace hbel := Below.trans hbel (hb6.mono (HGS.out _ hbel))
  refine ⟨_, rfl, fun _ _ => True, fun c hc => ⟨trivial, fun _ _ => trivial⟩, ?_⟩
  simp only [Act.put, List.setIfInBounds_toArray, List.set_cons_zero, List.set_cons_succ, Nat.zero_add]
  refine lins_store_arr (k := 4) (off := 0) 27 (.tmp 4) (.tmp 10) rfl rfl rfl rfl hrR rfl rfl arrS (by omega) (fun _ _ => rfl) ?_
  intro w7 hr7 hg7 hs7
  refine ⟨fun _ _ => True, fun c hc => (by cases hc), ?_⟩
  try simp only [Act.put, List.setIfInBounds_toArray, List.set_cons_zero, List.set_cons_succ, Nat.zero_add]
  refine lins_end ?_
  go_wp2
  refine ret_cell_as _ rfl arrS hr7 rfl (by omega) (fun i hi => putN_whole hi) rfl ⟨rfl, Below.grown hbel hg7 (HGS.out _ hbel) (by intro k hk; cases hk; exact l2)⟩
set_option maxHeartbeats 4000000 in
theorem sWide_any (v : Value) (l : List UInt8) (w : World) (hv : Bs w v l) : Calls Try.prog 9 #[v] w fun e w' => e = .returned (.agg (arrOf 4 (ewF (numL l 64 % ordL)))) ∧ Below w.heap.size w w' := by
  obtain ⟨a, n, cap, rfl, hn, hc1, hc2, hB0⟩ := hv.shape
  have hR := (rowIs_arr w 4 (u64f fun _ => 0) 27).alloc (.cells (arrOf 8 (u64f fun _ => 0)) 55)
  have hL := rowIs_arr (w.alloc (.cells (arrOf 4 (u64f fun _ => 0)) 27)) 8 (u64f fun _ => 0) 55
  have hbel := ((Below.refl w.heap.size w).alloc (Nat.le_refl _) (.cells (arrOf 4 (u64f fun _ => 0)) 27)).alloc (by simp) (.cells (arrOf 8 (u64f fun _ => 0)) 55)
  rw [World.size_alloc] at hL
  have HB := Lib.hid hB0
  have HN := Lib.hid hn
  obtain ⟨k, hk⟩ := nat_var (min n 64)
  have hkn : k ≤ n := by omega
  have hk32 : k ≤ 64 := by omega
  have HK : Hid ((k : Int) = if (64 : Int) < (n : Int) then 64 else (n : Int)) := Lib.hid (by split <;> omega)
  have hkI : (k : Int) ≤ (cap : Int) := by omega
  have HKN : Hid (numL l k = numL l 64) := Lib.hid (by rw [hk, ← hn]; exact numL_min64 l)
  clear hv hB0 hn hk
  go_enter Try.func9, Try.ntmps9
  go_wp2_with (first
    | refine wpList_alloc_arr rfl 27 rfl (arrOf 4 (u64f fun _ => 0)) zeroS ?_
    | (refine wpList_alloc_arr rfl 55 rfl (arrOf 8 (u64f fun _ => 0)) zeroW8 ?_; simp only [World.size_alloc])
    | (refine wpList_lesser rfl (.tmp 8) (.const (.int .i64 64)) rfl (m := (k : Int)) rfl rfl HK.out ?_))
  generalize ((w.alloc (.cells (arrOf 4 (u64f fun _ => 0)) 27)).alloc (.cells (arrOf 8 (u64f fun _ => 0)) 55)) = w2 at *
  generalize hg0 : w.heap.size = g0 at *
  generalize hg1 : g0 + 1 = g1 at *
  have n01 : g0 ≠ g1 := by omega
  have l1 : g0 ≤ g1 := by omega
  have HG := Lib.hid hg0
  have HGS : Hid (∀ wq : World, Below g0 w wq → g0 ≤ wq.heap.size) := Lib.hid fun wq h => by rw [← HG.out]; exact h.size
  clear hg0 hg1
  go_loopw [4, 5, 12] (fun _ _ ii wr => ∃ i : Nat, i ≤ k ∧ ii = .int .i64 i ∧ wr.rowIs g1 55 8 (ewF (numL l i)) ∧ wr.rowIs g0 27 4 (u64f fun _ => 0) ∧ Below g0 w wr) (fun _ _ ii _ => k - (intOf ii).toNat)
  case atStart => exact ⟨0, Nat.zero_le _, rfl, hL.congr fun j _ => by unfold ewF u64f; rw [show numL l 0 = 0 from rfl, wd_small 0 j (by decide)]; split <;> rfl, hR, hbel⟩
  case round =>
    clear hL hR hbel
    obtain ⟨i, hi, rfl, hL, hR, hbel⟩ := hrel
    by_cases hlt : i < k
    · have hiI : 0 ≤ (i : Int) ∧ (i : Int) < (k : Int) := by omega
      obtain ⟨b, off, cap', he, _, _, hbl, hc⟩ := HB.out.open_n HN.out (by omega)
      cases he
      have hil : i < l.length := by rw [HN.out]; omega
      have hci := hc i hil
      rw [← getD_at l i hil] at hci
      have hbw : b < g0 := by rw [← HG.out]; exact hbl
      obtain ⟨x, hx⟩ := nat_var (l.getD i 0).toNat
      have hx1 : x < 256 := by rw [hx]; exact UInt8.toNat_lt _
      rw [← hx] at hci
      have hcx := (hbel.cell (p := ⟨b, off + i, none⟩) hbw).trans hci
      obtain ⟨q, hq⟩ := nat_var (i / 8)
      obtain ⟨s, hs⟩ := nat_var (i % 8)
      obtain ⟨s8, hs8⟩ := nat_var (8 * (i % 8))
      have hV := numL_lt l i
      have hnext : numL l (i + 1) = numL l i + x * 256 ^ i := by rw [hx]; rfl
      have hlow := of_low _ _ hV
      have hstep := fun j => of_step (numL l i) x i j hV hx1
      rw [← hs8, ← hq] at hlow
      have hul := wd_lt (numL l i) q
      have hvl := wd_lt (numL l (i + 1)) q
      have hvq := hstep q
      rw [← hnext, if_pos hq, ← hs8, ← hq] at hvq
      obtain ⟨u, hu⟩ := nat_var (wd (numL l i) q)
      obtain ⟨v, hv⟩ := nat_var (wd (numL l (i + 1)) q)
      have hset : (wr.drew.setCell ⟨g1, q, none⟩ (.int .u64 (v : Int))).rowIs g1 55 8 (ewF (numL l (i + 1))) := row_set_drew hL q v _ (fun j hj => by
        have h := hstep j
        rw [← hnext, ← hs8, ← hq, ← hvq, ← hv] at h
        exact h)
      have hcD : wr.drew.cell? ⟨g1, q, none⟩ = some (.int .u64 (u : Int)) := by
        have h := hL.drew.cell (i := q) (by omega)
        rw [hu]; exact h
      have hfr := hL.drew.frozen q
      rw [← hu, ← hv] at hvq
      rw [← hu] at hlow hul
      rw [← hv] at hvl
      obtain ⟨xs, hxs⟩ := nat_var (2 ^ s8 * x)
      have hor := or_add64' s8 x u hlow (by omega)
      rw [← hvq, ← hxs] at hor
      have hxl : xs < 18446744073709551616 := by omega
      have hshl : IntKind.u64.wrap ((x : Int) * 2 ^ s8) = (xs : Int) := by
        have e : (x : Int) * 2 ^ s8 = (xs : Int) := by rw [hxs, Int.natCast_mul, Int.natCast_pow, Int.mul_comm]; rfl
        rw [e, wrap_nat _ hxl]
      have hquo : IntKind.i64.wrap ((i : Int).tdiv 8) = (q : Int) := by rw [Int.tdiv_eq_ediv_of_nonneg (by omega), IntWalk.i64_in _ (by omega)]; omega
      have hquo2 : IntKind.i64.wrap ((i : Int) / 8) = (q : Int) := by rw [IntWalk.i64_in _ (by omega)]; omega
      have hrem : IntKind.i64.wrap ((i : Int).tmod 8) = (s : Int) := by rw [Int.tmod_eq_emod_of_nonneg (by omega), IntWalk.i64_in _ (by omega)]; omega
      have hrem2 : (i : Int).tmod 8 = (s : Int) := by rw [Int.tmod_eq_emod_of_nonneg (by omega)]; omega
      have hmul : IntKind.i64.wrap (8 * (s : Int)) = (s8 : Int) := by rw [IntWalk.i64_in _ (by omega)]; omega
      have hcv : IntKind.u64.wrap (x : Int) = (x : Int) := wrap_nat _ (by omega)
      have hqI : 0 ≤ (q : Int) ∧ (q : Int) < 8 := by omega
      have hq4 : (q : Int) < 8 := by omega
      have hs8I : 0 ≤ (s8 : Int) := by omega
      have hs8J : (s8 : Int) < 64 := by omega
      have HSET := Lib.hid hset
      clear hset hstep hnext hlow hul hvl hvq hu hv hxs hxl hx hV hci hc hq hs hs8
      go_wp2
      refine wp_region_lins [(0, some [12]), (1, some [12]), (2, some [12]), (3, some [12]), (4, some [12]), (5, some [12]), (6, some [12]), (7, some [12]), (8, some [12]), (9, some [12]), (10, some [12]), (11, some [12]), (12, none)] (fun c w' => w'.cell? ⟨g1, q, none⟩ = some (.int .u64 (u : Int))) (by kernel_rfl) (by kernel_rfl) (by decide) (by kernel_rfl) (fun d _ _ _ _ h => by cases d <;> exact h) (fun c hc => hcD) ?_
      refine lins_read 17 (Op.move (Operand.tmp 4)) 3 _ rfl rfl rfl rfl rfl (fun w0 hw0 => by unfold mkOp; go_simp; all_goals (with_reducible rfl)) ?_
      simp only [Act.put, List.setIfInBounds_toArray, List.set_cons_zero, List.set_cons_succ]
      refine lins_read 18 (Op.binOp BinOp.quo 3 (Operand.tmp 17) (Operand.const (Value.int IntKind.i64 8)) 3) 3 (.int .i64 (q : Int)) rfl rfl rfl rfl rfl (fun w0 hw0 => by unfold mkOp; go_simp; all_goals (with_reducible rfl)) ?_
      simp only [Act.put, List.setIfInBounds_toArray, List.set_cons_zero, List.set_cons_succ]
      refine lins_read 19 (Op.indexAddr 55 (Operand.tmp 3) (Operand.tmp 18)) 0 _ rfl rfl rfl rfl rfl (fun w0 hw0 => by unfold mkOp; go_simp; all_goals (with_reducible rfl)) ?_
      simp only [Act.put, List.setIfInBounds_toArray, List.set_cons_zero, List.set_cons_succ]
      refine lins_read 20 (Op.load 24 (Operand.tmp 19)) 24 (.int .u64 (u : Int)) rfl rfl rfl rfl rfl (fun w0 hw0 => by have hc0 := hw0 12 (by simp); unfold mkOp; go_simp; all_goals (with_reducible rfl)) ?_
      simp only [Act.put, List.setIfInBounds_toArray, List.set_cons_zero, List.set_cons_succ]
      refine lins_read 21 (Op.move (Operand.tmp 5)) 5 _ rfl rfl rfl rfl rfl (fun w0 hw0 => by unfold mkOp; go_simp; all_goals (with_reducible rfl)) ?_
      simp only [Act.put, List.setIfInBounds_toArray, List.set_cons_zero, List.set_cons_succ]
      refine lins_read 22 (Op.convert 5 24 (Operand.tmp 21)) 24 (.int .u64 (x : Int)) rfl rfl rfl rfl rfl (fun w0 hw0 => by unfold mkOp; go_simp; all_goals (with_reducible rfl)) ?_
      simp only [Act.put, List.setIfInBounds_toArray, List.set_cons_zero, List.set_cons_succ]
      refine lins_read 23 (Op.move (Operand.tmp 4)) 3 _ rfl rfl rfl rfl rfl (fun w0 hw0 => by unfold mkOp; go_simp; all_goals (with_reducible rfl)) ?_
      simp only [Act.put, List.setIfInBounds_toArray, List.set_cons_zero, List.set_cons_succ]
      refine lins_read 24 (Op.binOp BinOp.rem 3 (Operand.tmp 23) (Operand.const (Value.int IntKind.i64 8)) 3) 3 (.int .i64 (s : Int)) rfl rfl rfl rfl rfl (fun w0 hw0 => by unfold mkOp; go_simp; all_goals (with_reducible rfl)) ?_
      simp only [Act.put, List.setIfInBounds_toArray, List.set_cons_zero, List.set_cons_succ]
      refine lins_read 25 (Op.binOp BinOp.mul 3 (Operand.const (Value.int IntKind.i64 8)) (Operand.tmp 24) 3) 3 (.int .i64 (s8 : Int)) rfl rfl rfl rfl rfl (fun w0 hw0 => by unfold mkOp; go_simp; all_goals (with_reducible rfl)) ?_
      simp only [Act.put, List.setIfInBounds_toArray, List.set_cons_zero, List.set_cons_succ]
      refine lins_read 26 (Op.binOp BinOp.shl 24 (Operand.tmp 22) (Operand.tmp 25) 3) 24 (.int .u64 (xs : Int)) rfl rfl rfl rfl rfl (fun w0 hw0 => by unfold mkOp; go_simp; all_goals (with_reducible rfl)) ?_
      simp only [Act.put, List.setIfInBounds_toArray, List.set_cons_zero, List.set_cons_succ]
      refine lins_read 27 (Op.binOp BinOp.or 24 (Operand.tmp 20) (Operand.tmp 26) 24) 24 (.int .u64 (v : Int)) rfl rfl rfl rfl rfl (fun w0 hw0 => by unfold mkOp; go_simp; all_goals (with_reducible rfl)) ?_
      simp only [Act.put, List.setIfInBounds_toArray, List.set_cons_zero, List.set_cons_succ]
      refine lins_read 28 (Op.indexAddr 55 (Operand.tmp 3) (Operand.tmp 18)) 0 _ rfl rfl rfl rfl rfl (fun w0 hw0 => by unfold mkOp; go_simp; all_goals (with_reducible rfl)) ?_
      simp only [Act.put, List.setIfInBounds_toArray, List.set_cons_zero, List.set_cons_succ]
      refine lins_store (Op.store 24 (Operand.tmp 28) (Operand.tmp 27)) 0 (_) rfl rfl rfl rfl rfl (by unfold mkOp; go_simp; all_goals (with_reducible rfl)) (fun _ _ => True) (fun c hc => by cases hc) ?_
      try simp only [Act.put, List.setIfInBounds_toArray, List.set_cons_zero, List.set_cons_succ]
      refine lins_end ?_
      go_wp2
      go_roundw
      case rel => exact ⟨i + 1, by omega, by go_num, HSET.out, hR.drew.setOther n01 _, hbel.drew.setCell (show g0 ≤ (⟨g1, q, none⟩ : Addr).block from l1) _⟩
      case measure => simp [intOf]; omega
    · obtain rfl : i = k := by omega
      have hkz := HKN.out
      rw [hkz] at hL
      have HR := Lib.hid fun w => sReduced_any (numL l 64) w (Nat.lt_of_lt_of_le (numL_lt l 64) (by decide +kernel))
      clear hkz HKN
      go_wp2_with (first
        | (refine wpList_load_arr rfl 55 (.tmp 3) rfl 8 arrW8 hL rfl (by omega) ?_; simp only [Nat.zero_add])
        | (go_at_call 27; refine (HR.out _).mono ?_; rintro e wa ⟨rfl, hba⟩
           have hRa := hR.of_block (hba.block _ hR.lt)
           have hBa := hbel.trans (hba.mono (HGS.out _ hbel))
           clear hR hbel hba hL HR)
        | (refine wpList_store_arr rfl 27 (.tmp 2) (.tmp 31) rfl 4 arrS hRa rfl rfl (by omega) (fun _ _ => rfl) ?_; intro wb hrb hgb hsb))
      refine ret_cell_arr rfl arrS hrb rfl (by omega) rfl ⟨?_, by rw [HG.out]; exact hBa.grown hgb (HGS.out _ hBa) (by intro k hk; cases hk; exact Nat.le_refl _)⟩
      rw [agg_putW]
set_option maxHeartbeats 1000000 in
theorem sBytes_any (V : Nat) (w : World) : Calls Try.prog 23 #[.agg (arrOf 4 (ewF V))] w fun e w' => ∃ v, e = .returned v ∧ Owns w' w.heap.size v (litB V 32) ∧ Below w.heap.size w w' := by
  have hrA := (rowIs_arr w 4 (ewF V) 27).alloc (.cells (madeCells #[.int .u8 0] 32) 5)
  have hbel := ((Below.refl w.heap.size w).alloc (Nat.le_refl _) (.cells (arrOf 4 (ewF V)) 27)).alloc (by simp) (.cells (madeCells #[.int .u8 0] 32) 5)
  have hown := Owns.made (w.alloc (.cells (arrOf 4 (ewF V)) 27))
  have hsz : ((w.alloc (.cells (arrOf 4 (ewF V)) 27)).alloc (.cells (madeCells #[.int .u8 0] 32) 5)).heap.size = w.heap.size + 1 + 1 := by simp only [World.size_alloc]
  have hmk := run_make32
  rw [World.size_alloc] at hown
  go_enter Try.func23, Try.ntmps23
  go_wp2_with (refine wpList_load_arr rfl 25 (.tmp 7) rfl 4 arrW hrA rfl (by omega) ?_; simp only [Nat.zero_add])
  generalize ((w.alloc (.cells (arrOf 4 (ewF V)) 27)).alloc (.cells (madeCells #[.int .u8 0] 32) 5)) = w1 at *
  generalize hg0 : w.heap.size = g0 at *
  have HG := Lib.hid hg0
  clear hg0 hrA hmk
  go_loopw [3, 5, 9] (fun out _ ii wr => ∃ j : Nat, j ≤ 4 ∧ ii = .int .i64 j ∧ Owns wr (g0 + 1) out (litB V (8 * j)) ∧ Below g0 w wr ∧ g0 + 1 ≤ wr.heap.size) (fun _ _ ii _ => 4 - (intOf ii).toNat)
  case atStart => exact ⟨0, Nat.zero_le _, rfl, hown, hbel, by omega⟩
  case round =>
    clear hown hbel hsz
    obtain ⟨j, hj, rfl, hown, hbel, hge⟩ := hrel
    by_cases hlt : j < 4
    · have hjI : 0 ≤ (j : Int) ∧ (j : Int) < 4 := by omega
      obtain ⟨x, hx⟩ := nat_var (wd V j)
      have hxl := wd_lt V j
      rw [← hx] at hxl
      have HX := Lib.hid hx.symm
      have HXL := Lib.hid hxl
      have hll : (litB V (8 * j)).length = 8 * j := litB_length _ _
      have HW := Lib.hid (litB_word V j)
      clear hx hxl
      go_wp2_with (first
        | refine wpList_indexW rfl (.tmp 8) (.tmp 9) rfl (wd V) x HX.out rfl rfl hlt ?_
        | (go_at_call 39; refine (little64_any x _ HXL.out).mono ?_; rintro e w5 ⟨vb, rfl, hb5, hbl5⟩
           have hown5 := hown.past hbl5
           have hbel5 := hbel.trans (hbl5.mono (by rw [← HG.out]; exact hbel.size))
           have hge5 := Nat.le_trans hge hbl5.size
           clear hown hbel)
        | (refine wpList_app rfl (.tmp 12) (.tmp 14) rfl (g0 + 1) _ vb (litB V (8 * j)) (litB x 8) hown5 hb5 rfl rfl (by rw [hll, litB_length]; omega) hge5 ?_; intro v6 w6 hown6 hg6))
      have hbel6 : Below g0 w w6 := hbel5.grown hg6 (by rw [← HG.out]; exact hbel5.size) (fun k hk => Nat.le_of_succ_le (Owns.block hown5 k hk))
      have hge6 : g0 + 1 ≤ w6.heap.size := Nat.le_trans hge5 hg6.size
      have hown7 : Owns w6 (g0 + 1) v6 (litB V (8 * (j + 1))) := by rw [HW.out, HX.out]; exact hown6
      clear hown6 hown5 hbel5
      go_roundw
      case rel => exact ⟨j + 1, by omega, by go_num, hown7, hbel6, hge6⟩
      case measure => simp [intOf]; omega
    · obtain rfl : j = 4 := by omega
      go_wp2
      go_ret
      exact ⟨_, rfl, by rw [HG.out]; exact hown.lower (Nat.le_succ _), by rw [HG.out]; exact hbel⟩
def strictNE (o : Option Nat) : Int := if o.isSome then 0 else 2
theorem strictSN_same (l : List UInt8) : strictSN l = if litB (numL l 64 % ordL) 32 = l then some (numL l 64 % ordL) else none := by
  unfold strictSN
  by_cases h : litB (numL l 64 % ordL) 32 = l
  · have h1 : l.length = 32 := by rw [← h, litB_length]
    have h2 := (litB_wide l h1).1 h
    rw [if_pos h, if_pos ⟨h1, h2⟩, wide_32 l h1, Nat.mod_eq_of_lt h2]
  · rw [if_neg h, if_neg]
    rintro ⟨h1, h2⟩
    exact h ((litB_wide l h1).2 h2)

set_option maxHeartbeats 2000000 in
theorem sStrict_any (v : Value) (l : List UInt8) (w : World) (hv : Bs w v l) : Calls Try.prog 11 #[v] w fun e w' =>
    e = .returned (.tuple #[.agg (arrOf 4 (ewF ((strictSN l).getD 0))), .int .i64 (strictNE (strictSN l))]) ∧ Below w.heap.size w w' := by
  have hR0 := rowIs_arr w 4 (u64f fun _ => 0) 27
  have hb0 := (Below.refl w.heap.size w).alloc (Nat.le_refl _) (.cells (arrOf 4 (u64f fun _ => 0)) 27)
  have HV := Lib.hid (hv.below hb0 (Nat.le_refl _))
  have HV0 := Lib.hid hv
  have HGS : Hid (∀ wq : World, Below w.heap.size w wq → w.heap.size ≤ wq.heap.size) := Lib.hid fun wq h => h.size
  have hst := strictSN_same l
  obtain ⟨T, hT⟩ := nat_var (numL l 64 % ordL)
  rw [← hT] at hst
  have HOF := Lib.hid fun w (h : Bs w v l) => sWide_any v l w h
  rw [← hT] at HOF
  obtain ⟨bl, hbl⟩ : ∃ bl, bl = litB T 32 := ⟨_, rfl⟩
  have HBY := Lib.hid fun w => sBytes_any T w
  rw [← hbl] at HBY hst
  have HST := Lib.hid hst
  clear hT hbl hst hv
  by_cases hs : bl = l
  · have hres := HST.out
    rw [if_pos hs] at hres
    have HRES := Lib.hid hres
    have HEQ := Lib.hid fun v1 v2 (w : World) (h1 : Bs w v1 bl) (h2 : Bs w v2 l) => flatSame_any v1 v2 bl l w h1 h2
    rw [decide_eq_true hs] at HEQ
    clear hres hs HST
    go_enter Try.func11, Try.ntmps11
    go_wp2_with (first
      | refine wpList_alloc_arr rfl 27 rfl (arrOf 4 (u64f fun _ => 0)) zeroS ?_
      | (go_at_call 9; refine (HOF.out _ HV.out).mono ?_; rintro e w5 ⟨rfl, hb5⟩
         have hR5 := hR0.of_block (hb5.block _ hR0.lt)
         have hB5 := hb0.trans (hb5.mono (HGS.out _ hb0))
         have hl5 := hR5.lt
         have hR6 := hR5.alloc (.cells (arrOf 4 (u64f fun _ => 0)) 27)
         have hX6 := rowIs_arr w5 4 (u64f fun _ => 0) 27
         have hB6 := hB5.alloc (HGS.out _ hB5) (.cells (arrOf 4 (u64f fun _ => 0)) 27)
         clear hR0 hb0 hb5 hR5 HOF)
      | (refine wpList_store_arr rfl 27 (.tmp 4) (.tmp 6) rfl 4 arrS hX6 rfl rfl (by omega) (fun _ _ => rfl) ?_; intro w7 hr7 hg7 hs7
         have hX7 : w7.rowIs w5.heap.size 27 4 (ewF T) := hr7.congr fun i hi => by unfold putN; rw [if_pos (by omega), Nat.sub_zero]
         have hR7 := gb_rowIs hR6 hg7 (Nat.ne_of_lt hl5)
         have hB7 := hB6.grown hg7 (HGS.out _ hB6) (by intro k hk; cases hk; exact HGS.out _ hB5)
         clear hR6 hX6 hB6 hr7 hg7 hs7 hB5)
      | (refine wpList_load_arr rfl 27 (.tmp 4) rfl 4 arrS hX7 rfl (by omega) ?_; simp only [Nat.zero_add])
      | (go_at_call 23; refine (HBY.out _).mono ?_; rintro e w8 ⟨vb, rfl, hown8, hb8⟩
         have hR8 := hR7.of_block (hb8.block _ hR7.lt)
         have hX8 := hX7.of_block (hb8.block _ hX7.lt)
         have hB8 := hB7.trans (hb8.mono (HGS.out _ hB7))
         have hv8 := HV0.out.below hB8 (Nat.le_refl _)
         have hbs8 := hown8.bs
         clear hR7 hX7 hB7 hb8 hown8 HBY)
      | (go_at_call 31; refine (HEQ.out _ _ _ hbs8 hv8).mono ?_; rintro e w9 ⟨rfl, rfl⟩)
      | (refine wpList_load_arr rfl 27 (.tmp 4) rfl 4 arrS hX8 rfl (by omega) ?_; simp only [Nat.zero_add])
      | (refine wpList_store_arr rfl 27 (.tmp 2) (.tmp 13) rfl 4 arrS hR8 rfl rfl (by omega) (fun _ _ => rfl) ?_; intro wz hrz hgz hsz))
    refine ret_cell_arr_tmp rfl arrS hrz rfl rfl (by omega) rfl ⟨?_, hB8.grown hgz (HGS.out _ hB8) (by intro k hk; cases hk; exact Nat.le_refl _)⟩
    rw [agg_putW, HRES.out]
    rfl
  · have hres := HST.out
    rw [if_neg hs] at hres
    have HRES := Lib.hid hres
    have HEQ := Lib.hid fun v1 v2 (w : World) (h1 : Bs w v1 bl) (h2 : Bs w v2 l) => flatSame_any v1 v2 bl l w h1 h2
    rw [decide_eq_false hs] at HEQ
    clear hres hs HST
    go_enter Try.func11, Try.ntmps11
    go_wp2_with (first
      | refine wpList_alloc_arr rfl 27 rfl (arrOf 4 (u64f fun _ => 0)) zeroS ?_
      | (go_at_call 9; refine (HOF.out _ HV.out).mono ?_; rintro e w5 ⟨rfl, hb5⟩
         have hR5 := hR0.of_block (hb5.block _ hR0.lt)
         have hB5 := hb0.trans (hb5.mono (HGS.out _ hb0))
         have hl5 := hR5.lt
         have hR6 := hR5.alloc (.cells (arrOf 4 (u64f fun _ => 0)) 27)
         have hX6 := rowIs_arr w5 4 (u64f fun _ => 0) 27
         have hB6 := hB5.alloc (HGS.out _ hB5) (.cells (arrOf 4 (u64f fun _ => 0)) 27)
         clear hR0 hb0 hb5 hR5 HOF)
      | (refine wpList_store_arr rfl 27 (.tmp 4) (.tmp 6) rfl 4 arrS hX6 rfl rfl (by omega) (fun _ _ => rfl) ?_; intro w7 hr7 hg7 hs7
         have hX7 : w7.rowIs w5.heap.size 27 4 (ewF T) := hr7.congr fun i hi => by unfold putN; rw [if_pos (by omega), Nat.sub_zero]
         have hR7 := gb_rowIs hR6 hg7 (Nat.ne_of_lt hl5)
         have hB7 := hB6.grown hg7 (HGS.out _ hB6) (by intro k hk; cases hk; exact HGS.out _ hB5)
         clear hR6 hX6 hB6 hr7 hg7 hs7 hB5)
      | (refine wpList_load_arr rfl 27 (.tmp 4) rfl 4 arrS hX7 rfl (by omega) ?_; simp only [Nat.zero_add])
      | (go_at_call 23; refine (HBY.out _).mono ?_; rintro e w8 ⟨vb, rfl, hown8, hb8⟩
         have hR8 := hR7.of_block (hb8.block _ hR7.lt)
         have hB8 := hB7.trans (hb8.mono (HGS.out _ hB7))
         have hv8 := HV0.out.below hB8 (Nat.le_refl _)
         have hbs8 := hown8.bs
         clear hR7 hX7 hB7 hb8 hown8 HBY)
      | (go_at_call 31; refine (HEQ.out _ _ _ hbs8 hv8).mono ?_; rintro e w9 ⟨rfl, rfl⟩)
      | refine wpList_build_arr rfl 27 _ rfl (arrOf 4 (ewF 0)) (by kernel_rfl) ?_
      | (refine wpList_store_arr rfl 27 (.tmp 2) (.tmp 12) rfl 4 arrS hR8 rfl rfl (by omega) (fun _ _ => rfl) ?_; intro wz hrz hgz hsz))
    refine ret_cell_arr_tmp rfl arrS hrz rfl rfl (by omega) rfl ⟨?_, hB8.grown hgz (HGS.out _ hB8) (by intro k hk; cases hk; exact Nat.le_refl _)⟩
    rw [agg_putW, HRES.out]
    rfl
theorem wd_injS {A B : Nat} (hA : A < ordL) (hB : B < ordL) : (∀ j, j < 4 → ((wd A j : Nat) : Int) = ((wd B j : Nat) : Int)) ↔ A = B := by
  constructor
  · intro h
    have h1 := valW_congr 4 (f := wd A) (g := wd B) (fun j hj => by have := h j hj; omega)
    rwa [wd_all _ (Nat.lt_trans hA ordL_B4), wd_all _ (Nat.lt_trans hB ordL_B4)] at h1
  · intro h j _; rw [h]
theorem fieldsS : ∃ f : Field, Try.prog.fieldsOf 27 = #[f] ∧ f.name ≠ "_" ∧ f.type = 25 ∧ f.offset = 0 := ⟨_, rfl, by decide, rfl, rfl⟩
theorem run_eqS (w : World) (A C : Nat) (hA : A < ordL) (hC : C < ordL) : (Op.equalIn 10000 27 (.agg (arrOf 4 (ewF A))) (.agg (arrOf 4 (ewF C)))).run Try.prog w = .ok (decide (A = C)) w := by
  obtain ⟨f, hf, hn, ht, ho⟩ := fieldsS
  rw [run_equalIn_struct (P := Try.prog) w 9999 27 _ _ (by kernel_rfl) (by kernel_rfl), hf]
  have h2 := run_eq_arr2 (P := Try.prog) w 9997 25 24 4 .u64 (fun j => ((wd A j : Nat) : Int)) (fun j => ((wd C j : Nat) : Int)) Try.underlying25 Try.underlying24 (by kernel_rfl)
  have hp1 := run_part_words (ewF A) w
  have hp2 := run_part_words (ewF C) w
  have h3 : (Op.equalIn 9999 25 (.agg (arrOf 4 (ewF A))) (.agg (arrOf 4 (ewF C)))).run Try.prog w = .ok (decide (A = C)) w := by
    refine h2.trans ?_
    by_cases e : A = C
    · rw [decide_eq_true e, decide_eq_true ((wd_injS hA hC).2 e)]
    · rw [decide_eq_false e, decide_eq_false (fun h => e ((wd_injS hA hC).1 h))]
  simp only [Op.eqFields, ht, ho, ne_eq, hn, not_false_eq_true, if_true, Sem.run_bind, hp1, hp2, h3, Result.andThen_ok]
  cases decide (A = C) <;> simp
theorem exec_S_eql {w : World} (ρ : Operand → Value) (x y : Operand) (t : TypeId) {A C : Nat} (hA : A < ordL) (hC : C < ordL) (hx : ρ x = .agg (arrOf 4 (ewF A))) (hy : ρ y = .agg (arrOf 4 (ewF C))) :
    (execOp ρ (mkOp (.binOp .eql 27 x y 27) t)).run Try.prog w = .ok (.value (.bool (decide (A = C)))) w := by
  have hq := run_eqGuard_agg (P := Try.prog) w .eql 27 x y (arrOf 4 (ewF A)) (arrOf 4 (ewF C)) (by kernel_rfl)
  have hr := run_eql_struct (P := Try.prog) w 27 (arrOf 4 (ewF A)) (arrOf 4 (ewF C))
  rw [run_eqS w A C hA hC] at hr
  simp [execOp, mkOp, hx, hy, hq, hr, Result.andThen]
theorem sSame_any (A C : Nat) (w : World) (hA : A < ordL) (hC : C < ordL) : Calls Try.prog 20 #[.agg (arrOf 4 (ewF A)), .agg (arrOf 4 (ewF C))] w fun e w' => e = .returned (.bool (decide (A = C))) ∧ Below w.heap.size w w' := by
  have hrA := (rowIs_arr w 4 (ewF A) 27).alloc (.cells (arrOf 4 (ewF C)) 27)
  have hrC := rowIs_arr (w.alloc (.cells (arrOf 4 (ewF A)) 27)) 4 (ewF C) 27
  have hbel := ((Below.refl w.heap.size w).alloc (Nat.le_refl _) (.cells (arrOf 4 (ewF A)) 27)).alloc (by simp) (.cells (arrOf 4 (ewF C)) 27)
  have HQ := Lib.hid fun w x y => run_eqGuard_agg (P := Try.prog) w .eql 27 x y (arrOf 4 (ewF A)) (arrOf 4 (ewF C)) (by kernel_rfl)
  have HE : Hid (∀ w : World, (binOp .eql 27 (.agg (arrOf 4 (ewF A))) (.agg (arrOf 4 (ewF C)))).run Try.prog w = .ok (.bool (decide (A = C))) w) := Lib.hid fun w => by
    rw [run_eql_struct (P := Try.prog) w 27 (arrOf 4 (ewF A)) (arrOf 4 (ewF C)), run_eqS w A C hA hC]
    rfl
  rw [World.size_alloc] at hrC
  clear hA hC
  go_enter Try.func20, Try.ntmps20
  go_wp2_with (first
    | (refine wpList_load_arr rfl 27 (.tmp 2) rfl 4 arrS hrA rfl (by omega) ?_; simp only [Nat.zero_add])
    | (refine wpList_load_arr rfl 27 (.tmp 3) rfl 4 arrS hrC rfl (by omega) ?_; simp only [Nat.zero_add])
    | refine wpList_bin2 rfl .eql 27 27 (.tmp 5) (.tmp 6) rfl (fun w => HQ.out w _ _) (fun w => HE.out w) rfl rfl ?_)
  go_ret
  exact ⟨rfl, hbel⟩
theorem bit_wd (V n : Nat) : wd V (n / 64) / 2 ^ (n % 64) % 2 = V / 2 ^ n % 2 := by
  unfold wd
  have e : (2 : Nat) ^ n = 18446744073709551616 ^ (n / 64) * 2 ^ (n % 64) := by
    rw [show (18446744073709551616 : Nat) = 2 ^ 64 from rfl, ← Nat.pow_mul, ← Nat.pow_add, Nat.div_add_mod]
  have e2 : (18446744073709551616 : Nat) = 2 ^ (n % 64) * (2 * 2 ^ (63 - n % 64)) := by
    rw [← Nat.pow_succ', ← Nat.pow_add, show n % 64 + (63 - n % 64 + 1) = 64 by omega]
  rw [e, ← Nat.div_div_eq_div_mul]
  generalize V / 18446744073709551616 ^ (n / 64) = U
  rw [e2, Nat.mod_mul_right_div_self, Nat.mod_mul_right_mod]
theorem wpList_shr64 {ops : Array Oper} {Q : Exit → Act → World → Prop} {a : Act} {w : World} {rest : List Oper} {o : Oper} (hgd : o.guard = none) (x y : Operand) (ho : o.op = .binOp .shr 24 x y 3) {t r q : Nat}
    (hx : a.eval x = .int .u64 (t : Int)) (hy : a.eval y = .int .i64 (r : Int)) (hq : q = t / 2 ^ r) (hr : r < 64) (ht : t < 18446744073709551616) (h : wpList Try.prog ops Q rest (a.put o.dst (.int .u64 (q : Int))) w) : wpList Try.prog ops Q (o :: rest) a w := by
  refine wpList_value hgd (.int .u64 (q : Int)) ?_ h
  have h1 : (t : Int) / 2 ^ r = (q : Int) := by
    rw [hq]
    simp
  have h3 : IntKind.u64.wrap (q : Int) = (q : Int) := wrap_nat _ (by have := Nat.div_le_self t (2 ^ r); omega)
  have h4 : ¬ ((r : Int) < 0) := by omega
  clear hq h
  rw [exec_mkOp, ho]
  simp only [execOp, mkOp, hx, hy]
  go_simp
theorem wpList_quo64 {ops : Array Oper} {Q : Exit → Act → World → Prop} {a : Act} {w : World} {rest : List Oper} {o : Oper} (hgd : o.guard = none) (x y : Operand) (ho : o.op = .binOp .quo 3 x y 3) {t q : Nat}
    (hx : a.eval x = .int .i64 (t : Int)) (hy : a.eval y = .int .i64 64) (hq : q = t / 64) (ht : t < 1000) (h : wpList Try.prog ops Q rest (a.put o.dst (.int .i64 (q : Int))) w) : wpList Try.prog ops Q (o :: rest) a w := by
  refine wpList_value hgd (.int .i64 (q : Int)) ?_ h
  have h1 : IntKind.i64.wrap ((t : Int).tdiv 64) = (q : Int) := by rw [Int.tdiv_eq_ediv_of_nonneg (by omega), IntWalk.i64_in _ (by omega)]; omega
  have h2 : IntKind.i64.wrap ((t : Int) / 64) = (q : Int) := by rw [IntWalk.i64_in _ (by omega)]; omega
  clear hq h
  rw [exec_mkOp, ho]
  simp only [execOp, mkOp, hx, hy]
  go_simp
theorem wpList_rem64 {ops : Array Oper} {Q : Exit → Act → World → Prop} {a : Act} {w : World} {rest : List Oper} {o : Oper} (hgd : o.guard = none) (x y : Operand) (ho : o.op = .binOp .rem 3 x y 3) {t q : Nat}
    (hx : a.eval x = .int .i64 (t : Int)) (hy : a.eval y = .int .i64 64) (hq : q = t % 64) (ht : t < 1000) (h : wpList Try.prog ops Q rest (a.put o.dst (.int .i64 (q : Int))) w) : wpList Try.prog ops Q (o :: rest) a w := by
  refine wpList_value hgd (.int .i64 (q : Int)) ?_ h
  have h1 : IntKind.i64.wrap ((t : Int).tmod 64) = (q : Int) := by rw [Int.tmod_eq_emod_of_nonneg (by omega), IntWalk.i64_in _ (by omega)]; omega
  have h2 : (t : Int).tmod 64 = (q : Int) := by rw [Int.tmod_eq_emod_of_nonneg (by omega)]; omega
  clear hq h
  rw [exec_mkOp, ho]
  simp only [execOp, mkOp, hx, hy]
  go_simp
set_option maxHeartbeats 1000000 in
theorem sBit_any (V : Nat) (k : Int) (w : World) (hk0 : -9223372036854775808 ≤ k) (hk1 : k ≤ 9223372036854775807) : Calls Try.prog 21 #[.agg (arrOf 4 (ewF V)), .int .i64 k] w fun e w' => e = .returned (.int .i64 (bitZ V k : Nat)) ∧ Below w.heap.size w w' := by
  have hr := rowIs_arr w 4 (ewF V) 27
  have hb0 := (Below.refl w.heap.size w).alloc (Nat.le_refl _) (.cells (arrOf 4 (ewF V)) 27)
  by_cases h0 : 0 ≤ k
  · by_cases h1 : k ≤ 255
    · obtain ⟨n, rfl⟩ := Int.eq_ofNat_of_zero_le h0
      have hbz : bitZ V (n : Int) = V / 2 ^ n % 2 := by unfold bitZ; rw [if_pos ⟨h0, h1⟩]; rfl
      have hbt := bit_wd V n
      obtain ⟨q, hq⟩ := nat_var (n / 64)
      obtain ⟨r, hr8⟩ := nat_var (n % 64)
      rw [← hq, ← hr8] at hbt
      have hc : (w.alloc (.cells (arrOf 4 (ewF V)) 27)).cell? ⟨w.heap.size, q, none⟩ = some (.int .u64 ((wd V q : Nat) : Int)) := hr.cell (i := q) (by omega)
      obtain ⟨x, hx⟩ := nat_var (wd V q)
      have hxl : x < 18446744073709551616 := by rw [hx]; exact wd_lt V q
      rw [← hx] at hc hbt
      obtain ⟨y, hy⟩ := nat_var (x / 2 ^ r)
      have hyl : y < 18446744073709551616 := by rw [hy]; exact Nat.lt_of_le_of_lt (Nat.div_le_self _ _) hxl
      rw [← hy] at hbt
      have hand := mask64 y 1 hyl (by decide) 1 rfl
      rw [show y % 2 ^ 1 = y % 2 from rfl] at hand
      obtain ⟨b, hb⟩ := nat_var (y % 2)
      rw [← hb] at hbt hand
      have hqI : 0 ≤ (q : Int) ∧ (q : Int) < 4 := by omega
      have hwb : IntKind.i64.wrap (b : Int) = (b : Int) := IntWalk.i64_in _ (by omega)
      have hn0 : ¬ (n : Int) < 0 := by omega
      have hn255 : ¬ (n : Int) ≥ 256 := by omega
      have hn255' : ¬ (256 : Int) ≤ (n : Int) := by omega
      have HQ := Lib.hid hq
      have HR := Lib.hid hr8
      have HNN : Hid (n < 1000) := Lib.hid (by omega)
      have HY := Lib.hid hy
      have HRL : Hid (r < 64) := Lib.hid (by omega)
      have HXL := Lib.hid hxl
      rw [hbz, ← hbt]
      clear hbz hbt hq hr8 hx hxl hy hyl hb h0 h1 hk0 hk1 hr
      go_enter Try.func21, Try.ntmps21
      go_wp2_with (first
        | refine wpList_quo64 rfl (.tmp 11) (.const (.int .i64 64)) rfl rfl rfl HQ.out HNN.out ?_
        | refine wpList_rem64 rfl (.tmp 16) (.const (.int .i64 64)) rfl rfl rfl HR.out HNN.out ?_
        | refine wpList_shr64 rfl (.tmp 15) (.tmp 17) rfl rfl rfl HY.out HRL.out HXL.out ?_)
      go_ret
      exact ⟨rfl, hb0⟩
    · have hbz : bitZ V k = 0 := by unfold bitZ; rw [if_neg (fun h => h1 h.2)]
      rw [hbz]
      have hn0 : ¬ k < 0 := by omega
      have hn255 : k ≥ 256 := by omega
      have hn255' : (256 : Int) ≤ k := by omega
      clear h0 h1 hbz hr
      go_enter Try.func21, Try.ntmps21
      go_wp2
      go_ret
      exact ⟨rfl, hb0⟩
  · have hbz : bitZ V k = 0 := by unfold bitZ; rw [if_neg (fun h => h0 h.1)]
    rw [hbz]
    have hn0 : k < 0 := by omega
    clear h0 hbz hr
    go_enter Try.func21, Try.ntmps21
    go_wp2
    go_ret
    exact ⟨rfl, hb0⟩
end Go.Proofs.Ytncdlaidmiokiaa
