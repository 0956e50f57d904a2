/- The program's numbers below p: Of. -/
import Derived.Test.YtnoppemclfnlcaaEwI
import Derived.Test.YtnoppemclfnlcaaMM1
set_option linter.unusedSimpArgs false
set_option linter.unusedVariables false
namespace Go.Proofs.Ytnoppemclfnlcaa
open Go.RowKit Go.Deep

theorem pow256_W (q : Nat) : (256 : Nat) ^ (8 * q) = 18446744073709551616 ^ q := by rw [Nat.pow_mul]
theorem of_step (V x i j : Nat) (hV : V < 256 ^ i) (hx : x < 256) : wd (V + x * 256 ^ i) j = if j = i / 8 then 2 ^ (8 * (i % 8)) * x + wd V (i / 8) else wd V j := by
  obtain ⟨q, hq⟩ := nat_var (i / 8)
  obtain ⟨s, hs⟩ := nat_var (i % 8)
  have hi : i = 8 * q + s := by omega
  have hs8 : s < 8 := by omega
  rw [← hq, ← hs]
  clear hq hs
  subst hi
  rw [Nat.pow_add, pow256_W] at hV ⊢
  have hsp : (256 : Nat) ^ s * 256 ≤ 18446744073709551616 := by
    have h := Nat.pow_le_pow_right (show 0 < 256 by decide) (show s + 1 ≤ 8 by omega)
    rw [Nat.pow_succ] at h
    exact Nat.le_trans h (by decide)
  have hsh : (2 : Nat) ^ (8 * s) = 256 ^ s := by rw [Nat.pow_mul]
  rw [hsh]
  have hsz : 0 < (256 : Nat) ^ s := Nat.pow_pos (by decide)
  generalize (256 : Nat) ^ s = Z at *
  have hxZ : x * Z ≤ 255 * Z := Nat.mul_le_mul_right _ (by omega)
  unfold wd
  by_cases h1 : j = q
  · subst h1
    rw [if_pos rfl, show x * (18446744073709551616 ^ j * Z) = 18446744073709551616 ^ j * (x * Z) by ac_rfl, Nat.add_mul_div_left _ _ (powW_pos j)]
    have h2 : V / 18446744073709551616 ^ j < Z := Nat.div_lt_of_lt_mul hV
    generalize V / 18446744073709551616 ^ j = y at *
    rw [Nat.mul_comm Z x]
    omega
  · rw [if_neg h1]
    by_cases h2 : j < q
    · obtain ⟨d, rfl⟩ : ∃ d, q = j + 1 + d := ⟨q - (j + 1), by omega⟩
      have e : x * (18446744073709551616 ^ (j + 1 + d) * Z) = 18446744073709551616 ^ j * (18446744073709551616 * (18446744073709551616 ^ d * (x * Z))) := by
        rw [Nat.pow_add, Nat.pow_succ]; ac_rfl
      rw [e, Nat.add_mul_div_left _ _ (powW_pos j), Nat.add_mul_mod_self_left]
    · obtain ⟨d, rfl⟩ : ∃ d, j = q + 1 + d := ⟨j - (q + 1), by omega⟩
      have hup : V + x * (18446744073709551616 ^ q * Z) < 18446744073709551616 ^ (q + 1 + d) := by
        have h3 : x * (18446744073709551616 ^ q * Z) ≤ 255 * (18446744073709551616 ^ q * Z) := Nat.mul_le_mul_right _ (by omega)
        have h4 : 18446744073709551616 ^ q * (Z * 256) ≤ 18446744073709551616 ^ q * 18446744073709551616 := Nat.mul_le_mul_left _ hsp
        rw [← Nat.pow_succ, ← Nat.mul_assoc] at h4
        have h5 : (18446744073709551616 : Nat) ^ (q + 1) ≤ 18446744073709551616 ^ (q + 1 + d) := Nat.pow_le_pow_right (by decide) (by omega)
        omega
      rw [Nat.div_eq_of_lt hup, Nat.div_eq_of_lt (Nat.lt_of_le_of_lt (Nat.le_add_right _ _) hup)]
theorem of_low (V i : Nat) (hV : V < 256 ^ i) : wd V (i / 8) < 2 ^ (8 * (i % 8)) := by
  obtain ⟨q, hq⟩ := nat_var (i / 8)
  obtain ⟨s, hs⟩ := nat_var (i % 8)
  have hi : i = 8 * q + s := by omega
  rw [← hq, ← hs]
  clear hq hs
  subst hi
  rw [Nat.pow_add, pow256_W] at hV
  rw [Nat.pow_mul]
  exact Nat.lt_of_le_of_lt (Nat.mod_le _ _) (Nat.div_lt_of_lt_mul hV)
theorem numL_wanting (l : List UInt8) (k : Nat) (h : l.length ≤ k) : ∀ d, numL l (k + d) = numL l k
  | 0 => rfl
  | d + 1 => by
    show numL l (k + d) + (l.getD (k + d) 0).toNat * 256 ^ (k + d) = _
    rw [numL_wanting l k h d, List.getD_eq_getElem?_getD, List.getElem?_eq_none (by omega)]
    simp
theorem numL_min (l : List UInt8) : numL l (min l.length 32) = numL l 32 := by
  by_cases h : l.length ≤ 32
  · rw [Nat.min_eq_left h]
    have := numL_wanting l l.length (Nat.le_refl _) (32 - l.length)
    rw [show l.length + (32 - l.length) = 32 by omega] at this
    exact this.symm
  · rw [Nat.min_eq_right (by omega)]

set_option maxHeartbeats 4000000 in
theorem of_any (v : Value) (l : List UInt8) (w : World) (hv : Bs w v l) : Calls Try.prog 22 #[v] w fun e w' => e = .returned (.agg (arrOf 4 (ewF (ofL l)))) ∧ Below w.heap.size w w' := by
  obtain ⟨a, n, cap, rfl, hn, hc1, hc2, hB0⟩ := hv.shape
  have hR := (rowIs_arr w 4 (u64f fun _ => 0) 42).alloc (.cells (arrOf 4 (u64f fun _ => 0)) 40)
  have hL := rowIs_arr (w.alloc (.cells (arrOf 4 (u64f fun _ => 0)) 42)) 4 (u64f fun _ => 0) 40
  have hbel := ((Below.refl w.heap.size w).alloc (Nat.le_refl _) (.cells (arrOf 4 (u64f fun _ => 0)) 42)).alloc (by simp) (.cells (arrOf 4 (u64f fun _ => 0)) 40)
  rw [World.size_alloc] at hL
  have HB := Lib.hid hB0
  have HN := Lib.hid hn
  obtain ⟨k, hk⟩ := nat_var (min n 32)
  have hkn : k ≤ n := by omega
  have hk32 : k ≤ 32 := by omega
  have HK : Hid ((k : Int) = if (32 : Int) < (n : Int) then 32 else (n : Int)) := Lib.hid (by split <;> omega)
  have hkI : (k : Int) ≤ (cap : Int) := by omega
  have HKN : Hid (numL l k = numL l 32) := Lib.hid (by rw [hk, ← hn]; exact numL_min l)
  clear hv hB0 hn hk
  go_enter Try.func22, Try.ntmps22
  go_wp2_with (first
    | refine wpList_alloc_arr rfl 42 rfl (arrOf 4 (u64f fun _ => 0)) zeroE ?_
    | (refine wpList_alloc_arr rfl 40 rfl (arrOf 4 (u64f fun _ => 0)) zeroW ?_; simp only [World.size_alloc])
    | (refine wpList_lesser rfl (.tmp 8) (.const (.int .i64 32)) rfl (m := (k : Int)) rfl rfl HK.out ?_))
  generalize ((w.alloc (.cells (arrOf 4 (u64f fun _ => 0)) 42)).alloc (.cells (arrOf 4 (u64f fun _ => 0)) 40)) = w2 at *
  generalize hg0 : w.heap.size = g0 at *
  generalize hg1 : g0 + 1 = g1 at *
  have n01 : g0 ≠ g1 := by omega
  have l1 : g0 ≤ g1 := by omega
  have HG := Lib.hid hg0
  have HGS : Hid (∀ wq : World, Below g0 w wq → g0 ≤ wq.heap.size) := Lib.hid fun wq h => by rw [← HG.out]; exact h.size
  clear hg0 hg1
  go_loopw [4, 5, 12] (fun _ _ ii wr => ∃ i : Nat, i ≤ k ∧ ii = .int .i64 i ∧ wr.rowIs g1 40 4 (ewF (numL l i)) ∧ wr.rowIs g0 42 4 (u64f fun _ => 0) ∧ Below g0 w wr) (fun _ _ ii _ => k - (intOf ii).toNat)
  case atStart => exact ⟨0, Nat.zero_le _, rfl, hL.congr fun j _ => by unfold ewF u64f; rw [show numL l 0 = 0 from rfl, wd_small 0 j (by decide)]; split <;> rfl, hR, hbel⟩
  case round =>
    clear hL hR hbel
    obtain ⟨i, hi, rfl, hL, hR, hbel⟩ := hrel
    by_cases hlt : i < k
    · have hiI : 0 ≤ (i : Int) ∧ (i : Int) < (k : Int) := by omega
      obtain ⟨b, off, cap', he, _, _, hbl, hc⟩ := HB.out.open_n HN.out (by omega)
      cases he
      have hil : i < l.length := by rw [HN.out]; omega
      have hci := hc i hil
      rw [← getD_at l i hil] at hci
      have hbw : b < g0 := by rw [← HG.out]; exact hbl
      obtain ⟨x, hx⟩ := nat_var (l.getD i 0).toNat
      have hx1 : x < 256 := by rw [hx]; exact UInt8.toNat_lt _
      rw [← hx] at hci
      have hcx := (hbel.cell (p := ⟨b, off + i, none⟩) hbw).trans hci
      obtain ⟨q, hq⟩ := nat_var (i / 8)
      obtain ⟨s, hs⟩ := nat_var (i % 8)
      obtain ⟨s8, hs8⟩ := nat_var (8 * (i % 8))
      have hV := numL_lt l i
      have hnext : numL l (i + 1) = numL l i + x * 256 ^ i := by rw [hx]; rfl
      have hlow := of_low _ _ hV
      have hstep := fun j => of_step (numL l i) x i j hV hx1
      rw [← hs8, ← hq] at hlow
      have hul := wd_lt (numL l i) q
      have hvl := wd_lt (numL l (i + 1)) q
      have hvq := hstep q
      rw [← hnext, if_pos hq, ← hs8, ← hq] at hvq
      obtain ⟨u, hu⟩ := nat_var (wd (numL l i) q)
      obtain ⟨v, hv⟩ := nat_var (wd (numL l (i + 1)) q)
      have hset : (wr.drew.setCell ⟨g1, q, none⟩ (.int .u64 (v : Int))).rowIs g1 40 4 (ewF (numL l (i + 1))) := row_set_drew hL q v _ (fun j hj => by
        have h := hstep j
        rw [← hnext, ← hs8, ← hq, ← hvq, ← hv] at h
        exact h)
      have hcD : wr.drew.cell? ⟨g1, q, none⟩ = some (.int .u64 (u : Int)) := by
        have h := hL.drew.cell (i := q) (by omega)
        rw [hu]; exact h
      have hfr := hL.drew.frozen q
      rw [← hu, ← hv] at hvq
      rw [← hu] at hlow hul
      rw [← hv] at hvl
      obtain ⟨xs, hxs⟩ := nat_var (2 ^ s8 * x)
      have hor := or_add64' s8 x u hlow (by omega)
      rw [← hvq, ← hxs] at hor
      have hxl : xs < 18446744073709551616 := by omega
      have hshl : IntKind.u64.wrap ((x : Int) * 2 ^ s8) = (xs : Int) := by
        have e : (x : Int) * 2 ^ s8 = (xs : Int) := by rw [hxs, Int.natCast_mul, Int.natCast_pow, Int.mul_comm]; rfl
        rw [e, wrap_nat _ hxl]
      have hquo : IntKind.i64.wrap ((i : Int).tdiv 8) = (q : Int) := by rw [Int.tdiv_eq_ediv_of_nonneg (by omega), IntWalk.i64_in _ (by omega)]; omega
      have hquo2 : IntKind.i64.wrap ((i : Int) / 8) = (q : Int) := by rw [IntWalk.i64_in _ (by omega)]; omega
      have hrem : IntKind.i64.wrap ((i : Int).tmod 8) = (s : Int) := by rw [Int.tmod_eq_emod_of_nonneg (by omega), IntWalk.i64_in _ (by omega)]; omega
      have hrem2 : (i : Int).tmod 8 = (s : Int) := by rw [Int.tmod_eq_emod_of_nonneg (by omega)]; omega
      have hmul : IntKind.i64.wrap (8 * (s : Int)) = (s8 : Int) := by rw [IntWalk.i64_in _ (by omega)]; omega
      have hcv : IntKind.u64.wrap (x : Int) = (x : Int) := wrap_nat _ (by omega)
      have hqI : 0 ≤ (q : Int) ∧ (q : Int) < 4 := by omega
      have hq4 : (q : Int) < 4 := by omega
      have hs8I : 0 ≤ (s8 : Int) := by omega
      have hs8J : (s8 : Int) < 64 := by omega
      have HSET := Lib.hid hset
      clear hset hstep hnext hlow hul hvl hvq hu hv hxs hxl hx hV hci hc hq hs hs8
      go_wp2
      refine wp_region_lins [(0, some [12]), (1, some [12]), (2, some [12]), (3, some [12]), (4, some [12]), (5, some [12]), (6, some [12]), (7, some [12]), (8, some [12]), (9, some [12]), (10, some [12]), (11, some [12]), (12, none)] (fun c w' => w'.cell? ⟨g1, q, none⟩ = some (.int .u64 (u : Int))) (by kernel_rfl) (by kernel_rfl) (by decide) (by kernel_rfl) (fun d _ _ _ _ h => by cases d <;> exact h) (fun c hc => hcD) ?_
      refine lins_read 17 (Op.move (Operand.tmp 4)) 3 _ rfl rfl rfl rfl rfl (fun w0 hw0 => by unfold mkOp; go_simp; all_goals (with_reducible rfl)) ?_
      simp only [Act.put, List.setIfInBounds_toArray, List.set_cons_zero, List.set_cons_succ]
      refine lins_read 18 (Op.binOp BinOp.quo 3 (Operand.tmp 17) (Operand.const (Value.int IntKind.i64 8)) 3) 3 (.int .i64 (q : Int)) rfl rfl rfl rfl rfl (fun w0 hw0 => by unfold mkOp; go_simp; all_goals (with_reducible rfl)) ?_
      simp only [Act.put, List.setIfInBounds_toArray, List.set_cons_zero, List.set_cons_succ]
      refine lins_read 19 (Op.indexAddr 40 (Operand.tmp 3) (Operand.tmp 18)) 0 _ rfl rfl rfl rfl rfl (fun w0 hw0 => by unfold mkOp; go_simp; all_goals (with_reducible rfl)) ?_
      simp only [Act.put, List.setIfInBounds_toArray, List.set_cons_zero, List.set_cons_succ]
      refine lins_read 20 (Op.load 39 (Operand.tmp 19)) 39 (.int .u64 (u : Int)) rfl rfl rfl rfl rfl (fun w0 hw0 => by have hc0 := hw0 12 (by simp); unfold mkOp; go_simp; all_goals (with_reducible rfl)) ?_
      simp only [Act.put, List.setIfInBounds_toArray, List.set_cons_zero, List.set_cons_succ]
      refine lins_read 21 (Op.move (Operand.tmp 5)) 5 _ rfl rfl rfl rfl rfl (fun w0 hw0 => by unfold mkOp; go_simp; all_goals (with_reducible rfl)) ?_
      simp only [Act.put, List.setIfInBounds_toArray, List.set_cons_zero, List.set_cons_succ]
      refine lins_read 22 (Op.convert 5 39 (Operand.tmp 21)) 39 (.int .u64 (x : Int)) rfl rfl rfl rfl rfl (fun w0 hw0 => by unfold mkOp; go_simp; all_goals (with_reducible rfl)) ?_
      simp only [Act.put, List.setIfInBounds_toArray, List.set_cons_zero, List.set_cons_succ]
      refine lins_read 23 (Op.move (Operand.tmp 4)) 3 _ rfl rfl rfl rfl rfl (fun w0 hw0 => by unfold mkOp; go_simp; all_goals (with_reducible rfl)) ?_
      simp only [Act.put, List.setIfInBounds_toArray, List.set_cons_zero, List.set_cons_succ]
      refine lins_read 24 (Op.binOp BinOp.rem 3 (Operand.tmp 23) (Operand.const (Value.int IntKind.i64 8)) 3) 3 (.int .i64 (s : Int)) rfl rfl rfl rfl rfl (fun w0 hw0 => by unfold mkOp; go_simp; all_goals (with_reducible rfl)) ?_
      simp only [Act.put, List.setIfInBounds_toArray, List.set_cons_zero, List.set_cons_succ]
      refine lins_read 25 (Op.binOp BinOp.mul 3 (Operand.const (Value.int IntKind.i64 8)) (Operand.tmp 24) 3) 3 (.int .i64 (s8 : Int)) rfl rfl rfl rfl rfl (fun w0 hw0 => by unfold mkOp; go_simp; all_goals (with_reducible rfl)) ?_
      simp only [Act.put, List.setIfInBounds_toArray, List.set_cons_zero, List.set_cons_succ]
      refine lins_read 26 (Op.binOp BinOp.shl 39 (Operand.tmp 22) (Operand.tmp 25) 3) 39 (.int .u64 (xs : Int)) rfl rfl rfl rfl rfl (fun w0 hw0 => by unfold mkOp; go_simp; all_goals (with_reducible rfl)) ?_
      simp only [Act.put, List.setIfInBounds_toArray, List.set_cons_zero, List.set_cons_succ]
      refine lins_read 27 (Op.binOp BinOp.or 39 (Operand.tmp 20) (Operand.tmp 26) 39) 39 (.int .u64 (v : Int)) rfl rfl rfl rfl rfl (fun w0 hw0 => by unfold mkOp; go_simp; all_goals (with_reducible rfl)) ?_
      simp only [Act.put, List.setIfInBounds_toArray, List.set_cons_zero, List.set_cons_succ]
      refine lins_read 28 (Op.indexAddr 40 (Operand.tmp 3) (Operand.tmp 18)) 0 _ rfl rfl rfl rfl rfl (fun w0 hw0 => by unfold mkOp; go_simp; all_goals (with_reducible rfl)) ?_
      simp only [Act.put, List.setIfInBounds_toArray, List.set_cons_zero, List.set_cons_succ]
      refine lins_store (Op.store 39 (Operand.tmp 28) (Operand.tmp 27)) 0 (_) rfl rfl rfl rfl rfl (by unfold mkOp; go_simp; all_goals (with_reducible rfl)) (fun _ _ => True) (fun c hc => by cases hc) ?_
      try simp only [Act.put, List.setIfInBounds_toArray, List.set_cons_zero, List.set_cons_succ]
      refine lins_end ?_
      go_wp2
      go_roundw
      case rel => exact ⟨i + 1, by omega, by go_num, HSET.out, hR.drew.setOther n01 _, hbel.drew.setCell (show g0 ≤ (⟨g1, q, none⟩ : Addr).block from l1) _⟩
      case measure => simp [intOf]; omega
    · obtain rfl : i = k := by omega
      obtain ⟨Z, hZ⟩ := nat_var (numL l 32)
      have hV : Z < B4 := by rw [hZ]; have h := numL_lt l 32; exact Nat.lt_of_lt_of_le h (by decide +kernel)
      have hkz := HKN.out
      rw [← hZ] at hkz
      rw [hkz] at hL
      have HRES := Lib.hid (show Z % top % p25 = ofL l by rw [hZ]; rfl)
      clear hZ hkz HKN
      have hc3 : wr.cell? ⟨g1, 3, none⟩ = some (.int .u64 ((wd Z 3 : Nat) : Int)) := hL.cell (i := 3) (by omega)
      have hf3 := hL.frozen 3
      have hand := andnot_top (wd Z 3) (wd_lt _ _)
      have hrT := row_top hL
      have hbT := hbel.setCell (p := ⟨g1, 3, none⟩) l1 (.int .u64 ((wd Z 3 % 9223372036854775808 : Nat) : Int))
      have hRT := hR.setOther (show g0 ≠ (⟨g1, 3, none⟩ : Addr).block from n01) (.int .u64 ((wd Z 3 % 9223372036854775808 : Nat) : Int))
      have HR := Lib.hid fun w => reduced_any (Z % top) 0 w (Nat.lt_trans (Nat.mod_lt _ top_pos) top_B4) (by decide)
      generalize Z % top = T at *
      generalize wd Z 3 % 9223372036854775808 = z at *
      generalize wd Z 3 = y at *
      clear hL hR hbel hV
      go_wp2_with (first
        | (refine wpList_load_arr rfl 40 (.tmp 3) rfl 4 arrW hrT rfl (by omega) ?_; simp only [Nat.zero_add])
        | (go_at_call 36; refine (HR.out _).mono ?_; rintro e wa ⟨rfl, hba⟩
           have hRa := hRT.of_block (hba.block _ hRT.lt)
           have hBa := hbT.trans (hba.mono (HGS.out _ hbT))
           clear hRT hbT hba hrT HR)
        | (refine wpList_store_arr rfl 42 (.tmp 2) (.tmp 35) rfl 4 arrE hRa rfl rfl (by omega) (fun _ _ => rfl) ?_; intro wb hrb hgb hsb))
      refine ret_cell_arr rfl arrE hrb rfl (by omega) rfl ⟨?_, by rw [HG.out]; exact hBa.grown hgb (HGS.out _ hBa) (by intro k hk; cases hk; exact Nat.le_refl _)⟩
      rw [agg_putW, HRES.out]
end Go.Proofs.Ytnoppemclfnlcaa
